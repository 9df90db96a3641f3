/- The program's reader of bytes (package scan): its state, its smallest functions. -/
import Derived.Test.YtdeplgkhmebalaaGreatDoorProg
import Derived.Test.YtdeplgkhmebalaaGreatDoorP02

set_option linter.unusedSimpArgs false
set_option linter.unusedVariables false
set_option maxHeartbeats 400000
namespace Go.Proofs.YtdeplgkhmebalaaGreatDoor
open Go.RowKit

abbrev ptrTo (b:Nat):Value:= .pointer (some ⟨b,0,none⟩)
abbrev rdObj (dv:Value) (i:Int):Obj:= .cells #[dv,.int .i64 i] 218

structure RSt (w:World) (rb:Nat) (dv:Value) (D:List UInt8) (i:Nat):Prop where
 blk:w.heap[rb]? =some (rdObj dv i)
 bytes:BytesAt w dv D
 sep: ∀b,dv.ownBlock=some b→b≠rb
 len:D.length≤2000
 le:i≤D.length

theorem RSt.kp {S:Nat→Prop} {w w':World} {rb:Nat} {dv:Value} {D:List UInt8} {i:Nat} (h:RSt w rb dv D i) (k:Kp S w w') (hr: ¬S rb) (hd: ∀b,dv.ownBlock=some b→b<w.heap.size→ ¬S b):RSt w' rb dv D i:=
 ⟨k.blk h.blk hr,RowAt.kp0 h.bytes k hd,h.sep,h.len,h.le⟩
theorem RSt.step {w w':World} {rb:Nat} {dv:Value} {D:List UInt8} {i j:Nat} (h:RSt w rb dv D i) (k:Kp (one rb) w w') (hb:w'.heap[rb]? =some (rdObj dv j)) (hj:j≤D.length):RSt w' rb dv D j:=
 ⟨hb,h.bytes.kp k (fun b hb e=>h.sep b hb e),h.sep,h.len,hj⟩

def FaultAt (w w':World) (v:Value) (e:Int×Int):Prop:= ∃fb,v=ptrTo fb∧w.heap.size≤fb∧w'.heap[fb]? =some (.cells #[.int .i64 e.1,.int .i64 e.2] 132)

theorem at_any {w:World} {rb:Nat} {dv:Value} {D:List UInt8} {i:Nat} (h:RSt w rb dv D i):
  Calls Tryz.prog 108 #[ptrTo rb] w fun r w'=>r= .returned (.int .i64 i)∧w'=w:=by
 obtain⟨hc,-⟩:=cells_of h.blk
 clear h
 go_enter Tryz.func108,Tryz.ntmps108
 go_wp2
 go_ret
 exact⟨rfl,rfl⟩

theorem left_any {w:World} {rb:Nat} {dv:Value} {D:List UInt8} {i:Nat} (h:RSt w rb dv D i):
  Calls Tryz.prog 110 #[ptrTo rb] w fun r w'=>r= .returned (.int .i64 ((D.length:Int) -i))∧Kp no w w':=by
 obtain⟨hc,-⟩:=cells_of h.blk
 obtain⟨ad,cap,rfl,_⟩:=h.bytes.shape
 have hl:=h.len
 have hi:=h.le
 clear h
 go_enter Tryz.func110,Tryz.ntmps110
 go_wp2
 go_quiet(fail)
 go_wp2
 go_ret
 exact⟨rfl,(Kp.refl no w).drewN _⟩

theorem form_any (w:World) (i:Int):
  Calls Tryz.prog 111 #[.int .i64 i] w fun r w'=>r= .returned (ptrTo w.heap.size)∧w'=w.alloc (.cells #[.int .i64 2,.int .i64 i] 132):=by
 go_enter Tryz.func111,Tryz.ntmps111
 go_wp2
 go_ret
 exact⟨rfl,rfl⟩

def byteM (D:List UInt8) (i:Nat):Except (Int×Int) (UInt8×Nat):=if i<D.length then .ok (D.getD i 0,i+1)else .error (2,i)

def Gives {α:Type} (w w':World) (rb:Nat) (dv:Value) (D:List UInt8) (val:α→Value→Prop) (zero:Value) (m:Except (Int×Int) (α×Nat)) (r:Ending):Prop:=
 match m with
 | .ok (x,j)=> ∃v,r= .returned (.tuple #[v,.pointer none])∧val x v∧RSt w' rb dv D j
 | .error e=> ∃fv j,r= .returned (.tuple #[zero,fv])∧FaultAt w w' fv e∧RSt w' rb dv D j

theorem byte_ok {w:World} {rb:Nat} {dv:Value} {D:List UInt8} {i:Nat} (h:RSt w rb dv D i) (hi:i<D.length):
  Calls Tryz.prog 138 #[ptrTo rb] w fun r w'=>r= .returned (.tuple #[.int .u8 (D.getD i 0).toNat,.pointer none])∧RSt w' rb dv D (i+1)∧Kp (one rb) w w':=by
 obtain⟨hc,hf⟩:=cells_of h.blk
 obtain⟨a,o,cap,rfl,hcap,hdc⟩:=h.bytes.get hi
 have hsep:a≠rb:=h.sep a rfl
 have hl:=h.len
 have H:=hide h
 generalize D.getD i 0=c at *
 have hz:((D.length:Int) -i==0)=false:=by simp;omega
 clear h
 go_enter Tryz.func138,Tryz.ntmps138
 go_wp2_with fail
 refine(left_any H.out).mono ?_
 rintro e w1 ⟨rfl,k1⟩
 have H1:=hide (H.out.kp k1 (fun h=>h) (fun _ _ _ h=>h))
 obtain⟨hc1,hf1⟩:=cells_of H1.out.blk
 have hdc1:=k1.allCells hdc
 clear hc hf hdc
 go_wp2
 go_quiet(fail)
 go_wp2
 go_ret2
 refine⟨rfl,H1.out.step (((Kp.refl (one rb) w1).drewN _).set1 _ _) ?_ (by omega)|>.kp (Kp.refl no _) (fun h=>h) (fun _ _ _ h=>h),(k1.any.drewN _).set1 _ _⟩
 exact heap_setCell H1.out.blk _

theorem byte_end {w:World} {rb:Nat} {dv:Value} {D:List UInt8} {i:Nat} (h:RSt w rb dv D i) (hi: ¬i<D.length):
  Calls Tryz.prog 138 #[ptrTo rb] w fun r w'=>(∃fv,r= .returned (.tuple #[.int .u8 0,fv])∧FaultAt w w' fv (2,i)∧RSt w' rb dv D i)∧Kp (one rb) w w':=by
 have hl:=h.len
 have hle:=h.le
 have H:=hide h
 have hz:((D.length:Int) -i==0)=true:=by simp;omega
 clear h
 go_enter Tryz.func138,Tryz.ntmps138
 go_wp2_with fail
 refine(left_any H.out).mono ?_
 rintro e w1 ⟨rfl,k1⟩
 have H1:=hide (H.out.kp k1 (fun h=>h) (fun _ _ _ h=>h))
 obtain⟨hc1,hf1⟩:=cells_of H1.out.blk
 go_wp2_with fail
 refine(form_any _ _).mono ?_
 rintro e w2 ⟨rfl,rfl⟩
 go_wp2
 go_ret2
 refine⟨⟨ptrTo w1.heap.size,rfl,⟨w1.heap.size,rfl,k1.size,heap_alloc_new _ _⟩,H1.out.kp ((Kp.refl no w1).alloc _) (fun h=>h) (fun _ _ _ h=>h)⟩,k1.any.alloc _⟩

theorem byte_any {w:World} {rb:Nat} {dv:Value} {D:List UInt8} {i:Nat} (h:RSt w rb dv D i):
  Calls Tryz.prog 138 #[ptrTo rb] w fun r w'=>Gives w w' rb dv D (fun c v=>v= .int .u8 (UInt8.toNat c)) (.int .u8 0) (byteM D i) r∧Kp (one rb) w w':=by
 by_cases hi:i<D.length
 ·refine(byte_ok h hi).mono ?_
  rintro r w' ⟨rfl,h',k⟩
  rw[byteM,if_pos hi]
  exact⟨⟨_,rfl,rfl,h'⟩,k⟩
 ·refine(byte_end h hi).mono ?_
  rintro r w' ⟨⟨fv,rfl,hf,h'⟩,k⟩
  rw[byteM,if_neg hi]
  exact⟨⟨fv,i,rfl,hf,h'⟩,k⟩

end Go.Proofs.YtdeplgkhmebalaaGreatDoor

set_option linter.unusedSimpArgs false
set_option linter.unusedVariables false
set_option maxHeartbeats 1000000
set_option maxRecDepth 100000
namespace Go.Proofs.YtdeplgkhmebalaaGreatDoor
open Go.RowKit

def grpGo (D:List UInt8) (start:Int):Nat→Nat→Except (Int×Int) Nat
 |0,_=> .error (2,start)
 |r+1,i=>if i<D.length then (if (D.getD i 0).toNat<128 then .ok (i+1)else grpGo D start r (i+1))else .error (2,i)
def groupsM (D:List UInt8) (most i:Nat):Except (Int×Int) (List UInt8×Nat):=
 match grpGo D i most i with
 | .ok j=> .ok ((D.take j).drop i,j)
 | .error e=> .error e

theorem BytesAt.mid {w:World} {a o len cap:Nat} {l:List UInt8} (h:BytesAt w (.slice (some ⟨a,o,none⟩) len cap) l) (i j:Nat) (hij:i≤j) (hj:j≤l.length):BytesAt w (.slice (some ⟨a,o+i,none⟩) (j -i) (cap -i)) ((l.take j).drop i):=by
 rcases h.cases with⟨hv,-⟩|⟨a',o',cap',hv,hc,hcell⟩
 ·cases hv
 ·cases hv
  have hlen:((l.take j).drop i).length=j -i:=by simp;omega
  have :=BytesAt.mk (w:=w) (a:=a) (o:=o+i) (cap:=cap -i) (l:=(l.take j).drop i) (by omega) (fun k hk=>by
   rw[Nat.add_assoc,hcell (i+k) (by omega)]
   simp only[List.getD,List.getElem?_drop,List.getElem?_take,if_pos (show i+k<j by omega)])
  rwa[hlen]at this

def Sub (v dv:Value):Prop:= ∀b,v.ownBlock=some b→dv.ownBlock=some b

theorem groups_any {w:World} {rb:Nat} {dv:Value} {D:List UInt8} {i:Nat} (h:RSt w rb dv D i) (most:Nat) (hm:most≤10):
  Calls Tryz.prog 141 #[ptrTo rb,.int .i64 most] w fun r w'=>Gives w w' rb dv D (fun l v=>BytesAt w' v l∧Sub v dv) (.slice none 0 0) (groupsM D most i) r∧Kp (one rb) w w':=by
 have hM:groupsM D most i=(match grpGo D i most i with | .ok j=> .ok ((D.take j).drop i,j)| .error e=> .error e):=rfl
 generalize groupsM D most i=R at *
 obtain⟨hc,-⟩:=cells_of h.blk
 have hl:=h.len
 have hle:=h.le
 have H:=hide h
 have HM:=hide hM
 clear h hM
 go_enter Tryz.func141,Tryz.ntmps141
 go_wp2
 go_loopw [14] (fun kv wr=> ∃(k j:Nat),k≤most∧kv= .int .i64 k∧i≤j∧RSt wr rb dv D j∧Kp (one rb) w wr∧grpGo D i (most -k) j=grpGo D i most i) (fun kv _=>most - (intOf kv).toNat)
 case atStart=>exact⟨0,i,by omega,rfl,Nat.le_refl _,H.out,Kp.refl _ _,rfl⟩
 case round=>
  obtain⟨k,j,hk,rfl,hij,hst,hkp,hg⟩:=hrel
  have HS:=hide hst
  have HK:=hide hkp
  have HG:=hide hg
  clear hst hkp hg hc
  by_cases hkm:k<most
  ·have hg:=HG.out
   obtain⟨q,hq⟩: ∃q,most -k=q+1:=⟨most -k -1,by omega⟩
   rw[hq,grpGo]at hg
   have Hq:=hide hq
   clear hq
   by_cases hj:j<D.length
   ·rw[if_pos hj]at hg
    have hbl:=D.getD j 0|>.toNat_lt
    have hb:=byte_ok HS.out hj
    generalize D.getD j 0=c at *
    have Hb:=hide hb
    clear hb
    by_cases hc128:c.toNat<128
    ·rw[if_pos hc128]at hg
     have HG1:=hide hg
     clear hg
     go_wp2_with fail
     refine Hb.out.mono ?_
     rintro e w1 ⟨rfl,h1,k1⟩
     have H1:=hide h1
     obtain⟨hc1,hf1⟩:=cells_of h1.blk
     rcases h1.bytes.cases with⟨-,hnil⟩|⟨a,o,cap,rfl,hcap,-⟩
     ·rw[hnil]at hj;simp at hj
     ·clear h1
      by_cases hcap2:cap=i
      ·omega
      ·have hij1:i≤j+1:=by omega
       go_wp2
       go_quiet(fail)
       go_wp2
       go_ret2
       rw[HM.out,←HG1.out]
       have H2: ∀n,RSt (w1.drewN n) rb (.slice (some ⟨a,o,none⟩) D.length cap) D (j+1):=fun n=>H1.out.kp ((Kp.refl no w1).drewN n) (fun h=>h) (fun _ _ _ h=>h)
       refine⟨⟨.slice (some ⟨a,o+i,none⟩) (j+1 -i) (cap -i),rfl,⟨(H2 _).bytes.mid i (j+1) (by omega) (by omega),fun b hb=>hb⟩,H2 _⟩,(HK.out.trans k1).drewN _⟩
    ·rw[if_neg hc128]at hg
     have HG1:=hide hg
     clear hg
     go_wp2_with fail
     refine Hb.out.mono ?_
     rintro e w1 ⟨rfl,h1,k1⟩
     have H1:=hide h1
     clear h1
     go_wp2
     go_roundw
     case rel=>exact⟨k+1,j+1,by omega,by go_num,by omega,H1.out,HK.out.trans k1,by rw[show most - (k+1)=q by have :=Hq.out;omega];exact HG1.out⟩
     case measure=>simp[intOf];omega
   ·rw[if_neg hj]at hg
    have HG1:=hide hg
    clear hg
    go_wp2_with fail
    refine(byte_end HS.out hj).mono ?_
    rintro e w1 ⟨⟨fv,rfl,hf,h1⟩,k1⟩
    obtain⟨fb,rfl,hfb,hfo⟩:=hf
    have H1:=hide h1
    have HF:=hide hfo
    clear h1 hfo
    go_wp2
    go_ret2
    rw[HM.out,←HG1.out]
    exact⟨⟨ptrTo fb,j,rfl,⟨fb,rfl,by have :=HK.out.size;omega,HF.out⟩,H1.out⟩,HK.out.trans k1⟩
  ·have hg:=HG.out
   rw[show most -k=0 by omega,grpGo]at hg
   have HG1:=hide hg
   clear hg
   go_wp2_with fail
   refine(form_any _ _).mono ?_
   rintro e w1 ⟨rfl,rfl⟩
   go_wp2
   go_ret2
   rw[HM.out,←HG1.out]
   exact⟨⟨ptrTo wr.heap.size,j,rfl,⟨wr.heap.size,rfl,HK.out.size,heap_alloc_new _ _⟩,HS.out.kp ((Kp.refl no wr).alloc _) (fun h=>h) (fun _ _ _ h=>h)⟩,HK.out.alloc _⟩

end Go.Proofs.YtdeplgkhmebalaaGreatDoor

set_option linter.unusedSimpArgs false
set_option linter.unusedVariables false
set_option maxHeartbeats 1000000
set_option maxRecDepth 100000
namespace Go.Proofs.YtdeplgkhmebalaaGreatDoor
open Go.RowKit

def joinTo (l:List UInt8):Nat→Nat
 |0=>0
 |k+1=>joinTo l k|||((l.getD k 0).toNat%128)*2^(7*k)%18446744073709551616

theorem andNot_all: ∀x:Fin 256,Go.bits BinOp.andNot IntKind.u8 (x.val:Int) 128=((x.val%128:Nat):Int):=by decide +kernel
theorem andNot_at (x:UInt8):Go.bits BinOp.andNot IntKind.u8 (x.toNat:Int) 128=((x.toNat%128:Nat):Int):=andNot_all ⟨x.toNat,x.toNat_lt⟩
theorem wrap_nat (a:Nat):IntKind.u64.wrap (a:Int)=((a%18446744073709551616:Nat):Int):=by
 have h:IntKind.u64.wrap (a:Int)=(a:Int)%18446744073709551616:=by simp[IntKind.wrap,IntKind.signed,IntKind.bits]
 rw[h];omega
theorem join_lt (l:List UInt8) (k:Nat):joinTo l k<18446744073709551616:=by
 induction k with
 |zero=>simp[joinTo]
 |succ k ih=>
  rw[joinTo]
  have h:=Nat.or_lt_two_pow (x:=joinTo l k) (y:=((l.getD k 0).toNat%128)*2^(7*k)%18446744073709551616) (n:=64) ih (Nat.mod_lt _ (by decide))
  exact h
theorem join_step (x:UInt8) (n k:Nat) (hn:n<18446744073709551616):Go.bits BinOp.or IntKind.u64 (n:Int) (IntKind.u64.wrap (IntKind.u64.wrap (Go.bits BinOp.andNot IntKind.u8 (x.toNat:Int) 128)*2^(7*k)))=((n|||(x.toNat%128)*2^(7*k)%18446744073709551616:Nat):Int):=by
 rw[andNot_at,wrap_nat,Nat.mod_eq_of_lt (show x.toNat%128<18446744073709551616 by omega)]
 have e:(((x.toNat%128:Nat):Int)*2^(7*k))=(((x.toNat%128)*2^(7*k):Nat):Int):=by simp
 rw[e,wrap_nat,bits_or_u64_nat _ _ hn (Nat.mod_lt _ (by decide))]

theorem join_any {w:World} {v:Value} {l:List UInt8} (h:BytesAt w v l) (hl:l.length≤10):
  Calls Tryz.prog 142 #[v] w fun r w'=>r= .returned (.int .u64 (joinTo l l.length))∧w'=w:=by
 obtain⟨ad,cap,hv,hcap⟩:=h.shape
 have H:=hide h
 subst hv
 clear h
 go_enter Tryz.func142,Tryz.ntmps142
 go_wp2
 go_loop [3,8] (fun n i=> ∃k:Nat,k≤l.length∧i= .int .i64 k∧n= .int .u64 (joinTo l k)) (fun _ i=>l.length - (intOf i).toNat)
 case atStart=>exact⟨0,Nat.zero_le _,rfl,rfl⟩
 case round=>
  obtain⟨k,hk,rfl,rfl⟩:=hrel
  by_cases hlt:k<l.length
  ·obtain⟨a,o,cap',hv,_,hcell⟩:=BytesAt.get H.out hlt
   simp only[Value.slice.injEq]at hv
   obtain⟨rfl,-,rfl⟩:=hv
   generalize hx:l.getD k 0=x at *
   generalize hn:joinTo l k=n at *
   have HX:=hide hx
   have HN:=hide hn
   clear hx hn
   go_wp2
   go_round
   case rel=>exact⟨k+1,by omega,by go_num,by rw[join_step x n k (by rw[←HN.out];exact join_lt l k),joinTo,HN.out,HX.out]⟩
   case measure=>simp[intOf];omega
  ·go_wp2
   go_ret
   obtain rfl :k=l.length:=by omega
   exact⟨rfl,rfl⟩

def paddedM (l:List UInt8):Bool:=decide (1<l.length)&&(l.getD (l.length -1) 0==0)

theorem u8_eq0 (x:UInt8):((x.toNat:Int)==0)=(x==0):=by
 rw[Bool.eq_iff_iff];simp[←UInt8.toNat_inj]

theorem padded_any {w:World} {v:Value} {l:List UInt8} (h:BytesAt w v l) (hl:l.length≤10):
  Calls Tryz.prog 143 #[v] w fun r w'=>r= .returned (.bool (paddedM l))∧w'=w:=by
 obtain⟨ad,cap,hv,hcap⟩:=h.shape
 have H:=hide h
 subst hv
 clear h
 by_cases h1:1<l.length
 ·obtain⟨a,o,cap',hv,_,hcell⟩:=BytesAt.get H.out (show l.length -1<l.length by omega)
  simp only[Value.slice.injEq]at hv
  obtain⟨rfl,-,rfl⟩:=hv
  have hM:paddedM l=(l.getD (l.length -1) 0==0):=by simp[paddedM,h1]
  generalize l.getD (l.length -1) 0=x at *
  have HM:=hide hM
  have hq:=u8_eq0 x
  clear hM
  go_enter Tryz.func143,Tryz.ntmps143
  go_wp2
  go_ret
  exact⟨by rw[HM.out];rfl,rfl⟩
 ·have hM:paddedM l=false:=by simp[paddedM,h1]
  have HM:=hide hM
  clear hM
  go_enter Tryz.func143,Tryz.ntmps143
  go_wp2
  go_ret
  exact⟨by rw[HM.out];rfl,rfl⟩

end Go.Proofs.YtdeplgkhmebalaaGreatDoor

set_option linter.unusedSimpArgs false
set_option linter.unusedVariables false
set_option maxHeartbeats 1000000
set_option maxRecDepth 100000
namespace Go.Proofs.YtdeplgkhmebalaaGreatDoor
open Go.RowKit

theorem grpGo_range {D:List UInt8} {s:Int} (r:Nat): ∀(i j:Nat),grpGo D s r i= .ok j→i<j∧j≤i+r∧j≤D.length:=by
 induction r with
 |zero=>intro i j h;cases h
 |succ r ih=>
  intro i j h
  rw[grpGo]at h
  split at h
  ·split at h
   ·cases h;omega
   ·have :=ih _ _ h;omega
  ·cases h
theorem groups_range {D:List UInt8} {m i:Nat} {g:List UInt8} {j:Nat} (h:groupsM D m i= .ok (g,j)):i<j∧j≤i+m∧j≤D.length∧g.length=j -i:=by
 unfold groupsM at h
 split at h
 ·rename_i j' hj
  cases h
  have :=grpGo_range _ _ _ hj
  refine⟨this.1,this.2.1,this.2.2,by simp;omega⟩
 ·cases h

def UM (D:List UInt8) (i:Nat):Except (Int×Int) (Nat×Nat):=
 match groupsM D 5 i with
 | .error e=> .error e
 | .ok (g,j)=>if 4294967295<joinTo g g.length∨paddedM g=true then .error (2,i)else .ok (joinTo g g.length,j)

theorem U_any {w:World} {rb:Nat} {dv:Value} {D:List UInt8} {i:Nat} (h:RSt w rb dv D i):
  Calls Tryz.prog 109 #[ptrTo rb] w fun r w'=>Gives w w' rb dv D (fun(n:Nat) v=>v= .int .u32 n) (.int .u32 0) (UM D i) r∧Kp (one rb) w w':=by
 have hM:UM D i=(match groupsM D 5 i with | .error e=> .error e| .ok (g,j)=>if 4294967295<joinTo g g.length∨paddedM g=true then .error (2,i)else .ok (joinTo g g.length,j)):=rfl
 generalize UM D i=R at *
 have hg:=groups_any h 5 (by decide)
 have hrg:=fun g j=>groups_range (D:=D) (m:=5) (i:=i) (g:=g) (j:=j)
 obtain⟨hc,-⟩:=cells_of h.blk
 generalize groupsM D 5 i=Q at *
 have Hg:=hide hg
 clear hg h
 match Q,hM,Hg,hrg with
 | .error e,hM,Hg,_=>
  have HM:=hide hM
  clear hM
  go_enter Tryz.func109,Tryz.ntmps109
  go_wp2_with fail
  refine Hg.out.mono ?_
  rintro r w1 ⟨⟨fv,j,rfl,⟨fb,rfl,hfb,hfo⟩,h1⟩,k1⟩
  have H1:=hide h1
  have HF:=hide hfo
  clear h1 hfo
  go_wp2
  go_ret2
  rw[HM.out]
  exact⟨⟨ptrTo fb,j,rfl,⟨fb,rfl,hfb,HF.out⟩,H1.out⟩,k1⟩
 | .ok (g,j),hM,Hg,hrg=>
  have hgl:g.length≤10:=by have :=hrg g j rfl;omega
  have HM:=hide hM
  clear hM hrg
  go_enter Tryz.func109,Tryz.ntmps109
  go_wp2_with fail
  refine Hg.out.mono ?_
  rintro r w1 ⟨⟨v,rfl,⟨hb,hsub⟩,h1⟩,k1⟩
  obtain⟨ad,cap,rfl,_⟩:=hb.shape
  have H1:=hide h1
  have HB:=hide hb
  have HSub:=hide hsub
  clear h1 hb hsub
  go_wp2_with fail
  refine(join_any HB.out hgl).mono ?_
  rintro r w2 ⟨rfl,rfl⟩
  have hjl:=join_lt g g.length
  have hM:=HM.out
  generalize joinTo g g.length=n at *
  by_cases hn:4294967295<n
  ·rw[if_pos (.inl hn)]at hM
   have HM1:=hide hM
   clear hM
   go_wp2_with fail
   refine(form_any _ _).mono ?_
   rintro r w3 ⟨rfl,rfl⟩
   go_wp2
   go_ret2
   rw[HM1.out]
   exact⟨⟨ptrTo w2.heap.size,j,rfl,⟨w2.heap.size,rfl,k1.size,heap_alloc_new _ _⟩,H1.out.kp ((Kp.refl no w2).alloc _) (fun h=>h) (fun _ _ _ h=>h)⟩,k1.alloc _⟩
  ·go_wp2_with fail
   refine(padded_any HB.out hgl).mono ?_
   rintro r w3 ⟨rfl,rfl⟩
   generalize paddedM g=pd at *
   cases pd
   ·rw[if_neg (by simp[hn])]at hM
    have HM1:=hide hM
    clear hM
    go_wp2
    go_ret2
    rw[HM1.out]
    exact⟨⟨_,rfl,rfl,H1.out⟩,k1⟩
   ·rw[if_pos (by simp)]at hM
    have HM1:=hide hM
    clear hM
    go_wp2_with fail
    refine(form_any _ _).mono ?_
    rintro r w4 ⟨rfl,rfl⟩
    go_wp2
    go_ret2
    rw[HM1.out]
    exact⟨⟨ptrTo w3.heap.size,j,rfl,⟨w3.heap.size,rfl,k1.size,heap_alloc_new _ _⟩,H1.out.kp ((Kp.refl no w3).alloc _) (fun h=>h) (fun _ _ _ h=>h)⟩,k1.alloc _⟩

end Go.Proofs.YtdeplgkhmebalaaGreatDoor

set_option linter.unusedSimpArgs false
set_option linter.unusedVariables false
set_option maxHeartbeats 1000000
set_option maxRecDepth 100000
namespace Go.Proofs.YtdeplgkhmebalaaGreatDoor
open Go.RowKit

theorem UM_le {D:List UInt8} {i n j:Nat} (h:UM D i= .ok (n,j)):n≤4294967295∧i<j∧j≤D.length:=by
 unfold UM at h
 split at h
 ·cases h
 ·rename_i g j' hg
  split at h
  ·cases h
  ·rename_i hc
   cases h
   have :=groups_range hg
   omega

def belowM (D:List UInt8) (limit:Int) (i:Nat):Except (Int×Int) (Nat×Nat):=
 match UM D i with
 | .error e=> .error e
 | .ok (n,j)=>if limit≤(n:Int)then .error (2,i)else .ok (n,j)

theorem below_any {w:World} {rb:Nat} {dv:Value} {D:List UInt8} {i:Nat} (h:RSt w rb dv D i) (limit:Int) (_hl0:0≤limit) (_hl:limit≤1000000):
  Calls Tryz.prog 105 #[ptrTo rb,.int .i64 limit] w fun r w'=>Gives w w' rb dv D (fun(n:Nat) v=>v= .int .i64 n) (.int .i64 0) (belowM D limit i) r∧Kp (one rb) w w':=by
 have hM:belowM D limit i=(match UM D i with | .error e=> .error e| .ok (n,j)=>if limit≤(n:Int)then .error (2,i)else .ok (n,j)):=rfl
 generalize belowM D limit i=R at *
 have hg:=U_any h
 have hrg:=fun n j=>UM_le (D:=D) (i:=i) (n:=n) (j:=j)
 obtain⟨hc,-⟩:=cells_of h.blk
 generalize UM D i=Q at *
 have Hg:=hide hg
 clear hg h
 match Q,hM,Hg,hrg with
 | .error e,hM,Hg,_=>
  have HM:=hide hM
  clear hM
  go_enter Tryz.func105,Tryz.ntmps105
  go_wp2_with fail
  refine Hg.out.mono ?_
  rintro r w1 ⟨⟨fv,j,rfl,⟨fb,rfl,hfb,hfo⟩,h1⟩,k1⟩
  have H1:=hide h1
  have HF:=hide hfo
  clear h1 hfo
  go_wp2
  go_ret2
  rw[HM.out]
  exact⟨⟨ptrTo fb,j,rfl,⟨fb,rfl,hfb,HF.out⟩,H1.out⟩,k1⟩
 | .ok (n,j),hM,Hg,hrg=>
  have hn:=(hrg n j rfl).1
  have HM:=hide hM
  clear hM hrg
  by_cases hlim:limit≤(n:Int)
  ·have hM:=HM.out
   simp only[if_pos hlim]at hM
   have HM1:=hide hM
   clear hM
   go_enter Tryz.func105,Tryz.ntmps105
   go_wp2_with fail
   refine Hg.out.mono ?_
   rintro r w1 ⟨⟨v,rfl,rfl,h1⟩,k1⟩
   have H1:=hide h1
   clear h1
   go_wp2_with fail
   refine(form_any _ _).mono ?_
   rintro r w3 ⟨rfl,rfl⟩
   go_wp2
   go_ret2
   rw[HM1.out]
   exact⟨⟨ptrTo w1.heap.size,j,rfl,⟨w1.heap.size,rfl,k1.size,heap_alloc_new _ _⟩,H1.out.kp ((Kp.refl no w1).alloc _) (fun h=>h) (fun _ _ _ h=>h)⟩,k1.alloc _⟩
  ·have hM:=HM.out
   simp only[if_neg hlim]at hM
   have HM1:=hide hM
   clear hM
   go_enter Tryz.func105,Tryz.ntmps105
   go_wp2_with fail
   refine Hg.out.mono ?_
   rintro r w1 ⟨⟨v,rfl,rfl,h1⟩,k1⟩
   have H1:=hide h1
   clear h1
   go_wp2
   go_ret2
   rw[HM1.out]
   exact⟨⟨_,rfl,rfl,H1.out⟩,k1⟩

theorem new_any {w:World} {dv:Value} {D:List UInt8} (h:BytesAt w dv D) (hl:D.length≤2000) (hold: ∀b,dv.ownBlock=some b→b<w.heap.size):
  Calls Tryz.prog 74 #[dv] w fun r w'=>r= .returned (ptrTo w.heap.size)∧RSt w' w.heap.size dv D 0∧Kp no w w':=by
 obtain⟨ad,cap,rfl,_⟩:=h.shape
 have H:=hide h
 have HO:=hide hold
 clear h hold
 go_enter Tryz.func74,Tryz.ntmps74
 go_wp2
 go_ret
 have k:Kp no w (w.alloc (rdObj (.slice ad D.length cap) 0)):=(Kp.refl no w).alloc _
 exact⟨rfl,⟨heap_alloc_new _ _,H.out.kp k (fun _ _ h=>h),fun b hb=>by have :=HO.out b hb;omega,hl,Nat.zero_le _⟩,k⟩

end Go.Proofs.YtdeplgkhmebalaaGreatDoor

set_option linter.unusedSimpArgs false
set_option linter.unusedVariables false
set_option maxHeartbeats 1000000
set_option maxRecDepth 100000
namespace Go.Proofs.YtdeplgkhmebalaaGreatDoor
open Go.RowKit

def aboveOf (n:Nat):Nat:=64 -7*n
def signedM (g:List UInt8):Int:=wrap64 ((joinTo g g.length*2^aboveOf g.length%18446744073709551616:Nat):Int)/2^aboveOf g.length

theorem signed_any {w:World} {v:Value} {l:List UInt8} (h:BytesAt w v l) (hl:l.length≤10):
  Calls Tryz.prog 207 #[v] w fun r w'=>r= .returned (.int .i64 (signedM l))∧Kp no w w':=by
 obtain⟨ad,cap,hv,hcap⟩:=h.shape
 have H:=hide h
 subst hv
 clear h
 by_cases h10:10≤l.length
 ·have hM:signedM l=wrap64 ((joinTo l l.length:Nat):Int):=by
   rw[signedM,show aboveOf l.length=0 by unfold aboveOf;omega,Nat.pow_zero,Nat.mul_one,Nat.mod_eq_of_lt (join_lt _ _)];simp
  have hj:=join_any H.out hl
  have hjl:=join_lt l l.length
  generalize joinTo l l.length=n at *
  have HJ:=hide hj
  have HM:=hide hM
  clear hM hj
  have h11: ¬(0<64 -7*(l.length:Int)):=by omega
  go_enter Tryz.func207,Tryz.ntmps207
  go_wp2_with fail
  refine HJ.out.mono ?_
  rintro r w1 ⟨rfl,rfl⟩
  go_wp2
  go_ret
  exact⟨by rw[HM.out];rfl,Kp.refl _ _⟩
 ·have hM:signedM l=wrap64 ((joinTo l l.length*2^(64 -7*l.length)%18446744073709551616:Nat):Int)/2^(64 -7*l.length):=rfl
  have hj:=join_any H.out hl
  have hjl:=join_lt l l.length
  generalize joinTo l l.length=n at *
  have HJ:=hide hj
  have HM:=hide hM
  clear hM hj
  have h10':7*l.length<64:=by omega
  go_enter Tryz.func207,Tryz.ntmps207
  go_wp2_with fail
  refine HJ.out.mono ?_
  rintro r w1 ⟨rfl,rfl⟩
  go_wp2
  go_ret
  refine⟨?_,Kp.refl _ _⟩
  rw[HM.out]
  have e:((n:Int)*2^(64 -7*l.length))=((n*2^(64 -7*l.length):Nat):Int):=by simp
  show Ending.returned (.int .i64 (wrap64 (IntKind.u64.wrap ((n:Int)*2^(64 -7*l.length)))/2^(64 -7*l.length)))=_
  rw[e,wrap_nat]

def andSign (x:UInt8):Bool:=x&&&64==0
def paddedSignedM (g:List UInt8):Bool:=decide (2≤g.length)&&((g.getD (g.length -1) 0==0&&andSign (g.getD (g.length -2) 0))||(g.getD (g.length -1) 0==127&& !andSign (g.getD (g.length -2) 0)))
theorem andSign_all: ∀x:Fin 256,(Go.bits BinOp.and IntKind.u8 (x.val:Int) 64==0)=andSign (UInt8.ofNat x.val):=by decide +kernel
theorem andSign_at (x:UInt8):(Go.bits BinOp.and IntKind.u8 (x.toNat:Int) 64==0)=andSign x:=by
 have :=andSign_all ⟨x.toNat,x.toNat_lt⟩
 simpa using this
theorem u8_eq127 (x:UInt8):((x.toNat:Int)==127)=(x==127):=by
 rw[Bool.eq_iff_iff];simp[←UInt8.toNat_inj];omega

theorem paddedSigned_any {w:World} {v:Value} {l:List UInt8} (h:BytesAt w v l) (hl:l.length≤10):
  Calls Tryz.prog 208 #[v] w fun r w'=>r= .returned (.bool (paddedSignedM l))∧Kp no w w':=by
 obtain⟨ad,cap,hv,hcap⟩:=h.shape
 have H:=hide h
 subst hv
 clear h
 by_cases h1:2≤l.length
 ·obtain⟨a,o,cap',hv,_,hcell⟩:=BytesAt.get H.out (show l.length -1<l.length by omega)
  obtain⟨a2,o2,cap2,hv2,_,hcell2⟩:=BytesAt.get H.out (show l.length -2<l.length by omega)
  simp only[Value.slice.injEq]at hv hv2
  obtain⟨rfl,-,rfl⟩:=hv
  simp only[Option.some.injEq,Addr.mk.injEq,and_true,true_and]at hv2
  obtain⟨⟨rfl,rfl⟩,rfl⟩:=hv2
  have hM:paddedSignedM l=((l.getD (l.length -1) 0==0&&andSign (l.getD (l.length -2) 0))||(l.getD (l.length -1) 0==127&& !andSign (l.getD (l.length -2) 0))):=by simp[paddedSignedM,h1]
  generalize l.getD (l.length -1) 0=x at *
  generalize l.getD (l.length -2) 0=y at *
  have q0:=u8_eq0 x
  have q1:=u8_eq127 x
  have q2:=andSign_at y
  have q3:(Go.bits BinOp.and IntKind.u8 (y.toNat:Int) 64 !=0)= !andSign y:=by rw[bne,q2]
  generalize(x==0)=b0 at *
  generalize(x==127)=b1 at *
  generalize andSign y=b2 at *
  have HM:=hide hM
  clear hM
  cases b0<;>cases b1<;>cases b2<;>
  ·simp only[Bool.not_true,Bool.not_false]at q3
   go_enter Tryz.func208,Tryz.ntmps208
   go_wp2
   go_quiet(fail)
   go_wp2
   go_ret
   exact⟨by rw[HM.out];rfl,(Kp.refl _ _).drewN _⟩
 ·have hM:paddedSignedM l=false:=by simp[paddedSignedM,h1]
  have HM:=hide hM
  clear hM
  go_enter Tryz.func208,Tryz.ntmps208
  go_wp2
  go_ret
  exact⟨by rw[HM.out];rfl,Kp.refl _ _⟩

def beyondM (g:List UInt8):Bool:=decide (10≤g.length)&& !(g.getD 9 0==0)&& !(g.getD 9 0==127)
theorem beyond_any {w:World} {v:Value} {l:List UInt8} (h:BytesAt w v l) (hl:l.length≤10):
  Calls Tryz.prog 209 #[v] w fun r w'=>r= .returned (.bool (beyondM l))∧Kp no w w':=by
 obtain⟨ad,cap,hv,hcap⟩:=h.shape
 have H:=hide h
 subst hv
 clear h
 by_cases h1:10≤l.length
 ·obtain⟨a,o,cap',hv,_,hcell⟩:=BytesAt.get H.out (show 9<l.length by omega)
  simp only[Value.slice.injEq]at hv
  obtain⟨rfl,-,rfl⟩:=hv
  have hM:beyondM l=(!(l.getD 9 0==0)&& !(l.getD 9 0==127)):=by simp[beyondM,h1]
  generalize l.getD 9 0=x at *
  have q0:=u8_eq0 x
  have q1:=u8_eq127 x
  have q2:((x.toNat:Int) !=0)= !(x==0):=by rw[bne,q0]
  have q3:((x.toNat:Int) !=127)= !(x==127):=by rw[bne,q1]
  generalize(x==0)=b0 at *
  generalize(x==127)=b1 at *
  have HM:=hide hM
  clear hM
  clear q0 q1
  cases b0<;>cases b1<;>
  ·simp only[Bool.not_true,Bool.not_false]at q2 q3
   go_enter Tryz.func209,Tryz.ntmps209
   go_wp2
   go_ret
   exact⟨by rw[HM.out];rfl,Kp.refl _ _⟩
 ·have hM:beyondM l=false:=by simp[beyondM,h1]
  have HM:=hide hM
  clear hM
  go_enter Tryz.func209,Tryz.ntmps209
  go_wp2
  go_ret
  exact⟨by rw[HM.out];rfl,Kp.refl _ _⟩

end Go.Proofs.YtdeplgkhmebalaaGreatDoor

set_option linter.unusedSimpArgs false
set_option linter.unusedVariables false
set_option maxHeartbeats 1000000
set_option maxRecDepth 100000
namespace Go.Proofs.YtdeplgkhmebalaaGreatDoor
open Go.RowKit

def S32M (D:List UInt8) (i:Nat):Except (Int×Int) (Int×Nat):=
 match groupsM D 5 i with
 | .error e=> .error e
 | .ok (g,j)=>if signedM g≠IntKind.i32.wrap (signedM g)∨paddedSignedM g=true then .error (2,i)else .ok (signedM g,j)
def S64M (D:List UInt8) (i:Nat):Except (Int×Int) (Int×Nat):=
 match groupsM D 10 i with
 | .error e=> .error e
 | .ok (g,j)=>if beyondM g=true∨paddedSignedM g=true then .error (2,i)else .ok (signedM g,j)

theorem signed_range (g:List UInt8): -9223372036854775808≤signedM g∧signedM g≤9223372036854775807:=by
 unfold signedM
 generalize((joinTo g g.length*2^aboveOf g.length%18446744073709551616:Nat):Int)=x
 generalize aboveOf g.length=a
 have h1: -9223372036854775808≤wrap64 x∧wrap64 x≤9223372036854775807:=by
  unfold wrap64;omega
 generalize wrap64 x=y at *
 have hp:(0:Int)<2^a:=Int.pow_pos (by decide)
 have hp1:(1:Int)≤2^a:=hp
 constructor
 ·refine Int.le_trans ?_ (Int.ediv_le_ediv hp h1.1)
  refine Int.le_ediv_of_mul_le hp ?_
  have :=Int.mul_le_mul_of_nonpos_left (a:=(-9223372036854775808:Int)) (b:=2^a) (c:=1) (by decide) hp1
  simpa using this
 ·refine Int.le_trans (Int.ediv_le_ediv hp h1.2) (Int.ediv_le_self _ (by decide))

theorem i32_range (n:Int): -2147483648≤IntKind.i32.wrap n∧IntKind.i32.wrap n≤2147483647:=by
 simp only[IntKind.wrap,IntKind.signed,IntKind.bits]
 simp
 split <;>omega

theorem i32_wrap (n:Int):IntKind.i32.wrap n=wrap32 n:=by
 simp only[IntKind.wrap,IntKind.signed,IntKind.bits,wrap32]
 simp
 split <;>omega

theorem S32_any {w:World} {rb:Nat} {dv:Value} {D:List UInt8} {i:Nat} (h:RSt w rb dv D i):
  Calls Tryz.prog 177 #[ptrTo rb] w fun r w'=>Gives w w' rb dv D (fun(n:Int) v=>v= .int .i32 n) (.int .i32 0) (S32M D i) r∧Kp (one rb) w w':=by
 have hM:S32M D i=(match groupsM D 5 i with | .error e=> .error e| .ok (g,j)=>if signedM g≠IntKind.i32.wrap (signedM g)∨paddedSignedM g=true then .error (2,i)else .ok (signedM g,j)):=rfl
 generalize S32M D i=R at *
 have hg:=groups_any h 5 (by decide)
 have hrg:=fun g j=>groups_range (D:=D) (m:=5) (i:=i) (g:=g) (j:=j)
 obtain⟨hc,-⟩:=cells_of h.blk
 generalize groupsM D 5 i=Q at *
 have Hg:=hide hg
 clear hg h
 match Q,hM,Hg,hrg with
 | .error e,hM,Hg,_=>
  have HM:=hide hM
  clear hM
  go_enter Tryz.func177,Tryz.ntmps177
  go_wp2_with fail
  refine Hg.out.mono ?_
  rintro r w1 ⟨⟨fv,j,rfl,⟨fb,rfl,hfb,hfo⟩,h1⟩,k1⟩
  have H1:=hide h1
  have HF:=hide hfo
  clear h1 hfo
  go_wp2
  go_ret2
  rw[HM.out]
  exact⟨⟨ptrTo fb,j,rfl,⟨fb,rfl,hfb,HF.out⟩,H1.out⟩,k1⟩
 | .ok (g,j),hM,Hg,hrg=>
  have hgl:g.length≤10:=by have :=hrg g j rfl;omega
  have HM:=hide hM
  clear hM hrg
  go_enter Tryz.func177,Tryz.ntmps177
  go_wp2_with fail
  refine Hg.out.mono ?_
  rintro r w1 ⟨⟨v,rfl,⟨hb,hsub⟩,h1⟩,k1⟩
  obtain⟨ad,cap,rfl,_⟩:=hb.shape
  have H1:=hide h1
  have HB:=hide hb
  clear h1 hb hsub
  go_wp2_with fail
  refine(signed_any HB.out hgl).mono ?_
  rintro r w2 ⟨rfl,k2⟩
  have HK:=hide (k1.then k2)
  have H2:=hide (H1.out.kp k2 (fun h=>h) (fun _ _ _ h=>h))
  have HB2:=hide (HB.out.kp k2 (fun _ _ h=>h))
  clear H1 HB k1 k2
  have hM:=HM.out
  have hjl:=signed_range g
  generalize signedM g=n at *
  clear HM
  by_cases hn:n=IntKind.i32.wrap n
  ·have hb32: -2147483648≤n∧n≤2147483647:=by rw[hn];exact i32_range n
   have hpd:=paddedSigned_any HB2.out hgl
   generalize paddedSignedM g=pd at *
   have HP:=hide hpd
   have HN:=hide hn
   clear hpd hn
   cases pd
   ·rw[if_neg (by simpa using HN.out)]at hM
    have HM1:=hide hM
    clear hM
    go_wp2_with fail
    refine HP.out.mono ?_
    rintro r w3 ⟨rfl,k3⟩
    go_wp2
    go_ret2
    rw[HM1.out]
    exact⟨⟨_,rfl,rfl,H2.out.kp k3 (fun h=>h) (fun _ _ _ h=>h)⟩,HK.out.then k3⟩
   ·rw[if_pos (.inr rfl)]at hM
    have HM1:=hide hM
    clear hM
    go_wp2_with fail
    refine HP.out.mono ?_
    rintro r w3 ⟨rfl,k3⟩
    have H1:=hide (H2.out.kp k3 (fun h=>h) (fun _ _ _ h=>h))
    have HK3:=hide (HK.out.then k3)
    go_wp2_with fail
    refine(form_any _ _).mono ?_
    rintro r w9 ⟨rfl,rfl⟩
    go_wp2
    go_ret2
    rw[HM1.out]
    exact⟨⟨ptrTo w3.heap.size,j,rfl,⟨w3.heap.size,rfl,HK3.out.size,heap_alloc_new _ _⟩,H1.out.kp ((Kp.refl no w3).alloc _) (fun h=>h) (fun _ _ _ h=>h)⟩,HK3.out.alloc _⟩
  ·rw[if_pos (.inl hn)]at hM
   have HM1:=hide hM
   clear hM
   rw[i32_wrap]at hn
   have hq:(n==wrap32 n)=false:=by simpa using hn
   have hq2:(n !=wrap32 n)=true:=by simpa using hn
   have hr:=i32_range n
   rw[i32_wrap]at hr
   go_wp2_with fail
   refine(form_any _ _).mono ?_
   rintro r w9 ⟨rfl,rfl⟩
   go_wp2
   go_ret2
   rw[HM1.out]
   exact⟨⟨ptrTo w2.heap.size,j,rfl,⟨w2.heap.size,rfl,HK.out.size,heap_alloc_new _ _⟩,H2.out.kp ((Kp.refl no w2).alloc _) (fun h=>h) (fun _ _ _ h=>h)⟩,HK.out.alloc _⟩

theorem S32_range {D:List UInt8} {i:Nat} {n:Int} {j:Nat} (h:S32M D i= .ok (n,j)): -2147483648≤n∧n≤2147483647∧i<j∧j≤D.length:=by
 unfold S32M at h
 split at h
 ·cases h
 ·rename_i g j' hg
  split at h
  ·cases h
  ·rename_i hc
   cases h
   have h1:signedM g=IntKind.i32.wrap (signedM g):=Classical.byContradiction (fun e=>hc (.inl e))
   have h2:=i32_range (signedM g)
   have h3:=groups_range hg
   rw[←h1]at h2
   omega
theorem S64_range {D:List UInt8} {i:Nat} {n:Int} {j:Nat} (h:S64M D i= .ok (n,j)): -9223372036854775808≤n∧n≤9223372036854775807∧i<j∧j≤D.length:=by
 unfold S64M at h
 split at h
 ·cases h
 ·rename_i g j' hg
  split at h
  ·cases h
  ·cases h
   have h2:=signed_range g
   have h3:=groups_range hg
   omega

theorem S64_any {w:World} {rb:Nat} {dv:Value} {D:List UInt8} {i:Nat} (h:RSt w rb dv D i):
  Calls Tryz.prog 178 #[ptrTo rb] w fun r w'=>Gives w w' rb dv D (fun(n:Int) v=>v= .int .i64 n) (.int .i64 0) (S64M D i) r∧Kp (one rb) w w':=by
 have hM:S64M D i=(match groupsM D 10 i with | .error e=> .error e| .ok (g,j)=>if beyondM g=true∨paddedSignedM g=true then .error (2,i)else .ok (signedM g,j)):=rfl
 generalize S64M D i=R at *
 have hg:=groups_any h 10 (by decide)
 have hrg:=fun g j=>groups_range (D:=D) (m:=10) (i:=i) (g:=g) (j:=j)
 obtain⟨hc,-⟩:=cells_of h.blk
 generalize groupsM D 10 i=Q at *
 have Hg:=hide hg
 clear hg h
 match Q,hM,Hg,hrg with
 | .error e,hM,Hg,_=>
  have HM:=hide hM
  clear hM
  go_enter Tryz.func178,Tryz.ntmps178
  go_wp2_with fail
  refine Hg.out.mono ?_
  rintro r w1 ⟨⟨fv,j,rfl,⟨fb,rfl,hfb,hfo⟩,h1⟩,k1⟩
  have H1:=hide h1
  have HF:=hide hfo
  clear h1 hfo
  go_wp2
  go_ret2
  rw[HM.out]
  exact⟨⟨ptrTo fb,j,rfl,⟨fb,rfl,hfb,HF.out⟩,H1.out⟩,k1⟩
 | .ok (g,j),hM,Hg,hrg=>
  have hgl:g.length≤10:=by have :=hrg g j rfl;omega
  have HM:=hide hM
  clear hM hrg
  go_enter Tryz.func178,Tryz.ntmps178
  go_wp2_with fail
  refine Hg.out.mono ?_
  rintro r w1 ⟨⟨v,rfl,⟨hb,hsub⟩,h1⟩,k1⟩
  obtain⟨ad,cap,rfl,_⟩:=hb.shape
  have H1:=hide h1
  have HB:=hide hb
  clear h1 hb hsub
  go_wp2_with fail
  refine(beyond_any HB.out hgl).mono ?_
  rintro r w2 ⟨rfl,k2⟩
  have HK:=hide (k1.then k2)
  have H2:=hide (H1.out.kp k2 (fun h=>h) (fun _ _ _ h=>h))
  have HB2:=hide (HB.out.kp k2 (fun _ _ h=>h))
  clear H1 HB k1 k2
  have hM:=HM.out
  clear HM
  have hpd:=paddedSigned_any HB2.out hgl
  generalize beyondM g=bd at *
  cases bd
  ·generalize paddedSignedM g=pd at *
   have HP:=hide hpd
   clear hpd
   cases pd
   ·rw[if_neg (by simp)]at hM
    have HM1:=hide hM
    clear hM
    go_wp2_with fail
    refine HP.out.mono ?_
    rintro r w3 ⟨rfl,k3⟩
    have HB3:=hide (HB2.out.kp k3 (fun _ _ h=>h))
    go_wp2_with fail
    refine(signed_any HB3.out hgl).mono ?_
    rintro r w4 ⟨rfl,k4⟩
    go_wp2
    go_ret2
    rw[HM1.out]
    exact⟨⟨_,rfl,rfl,(H2.out.kp k3 (fun h=>h) (fun _ _ _ h=>h)).kp k4 (fun h=>h) (fun _ _ _ h=>h)⟩,(HK.out.then k3).then k4⟩
   ·rw[if_pos (.inr rfl)]at hM
    have HM1:=hide hM
    clear hM
    go_wp2_with fail
    refine HP.out.mono ?_
    rintro r w3 ⟨rfl,k3⟩
    have H1:=hide (H2.out.kp k3 (fun h=>h) (fun _ _ _ h=>h))
    have HK3:=hide (HK.out.then k3)
    go_wp2_with fail
    refine(form_any _ _).mono ?_
    rintro r w9 ⟨rfl,rfl⟩
    go_wp2
    go_ret2
    rw[HM1.out]
    exact⟨⟨ptrTo w3.heap.size,j,rfl,⟨w3.heap.size,rfl,HK3.out.size,heap_alloc_new _ _⟩,H1.out.kp ((Kp.refl no w3).alloc _) (fun h=>h) (fun _ _ _ h=>h)⟩,HK3.out.alloc _⟩
  ·rw[if_pos (.inl rfl)]at hM
   have HM1:=hide hM
   clear hM hpd
   go_wp2_with fail
   refine(form_any _ _).mono ?_
   rintro r w9 ⟨rfl,rfl⟩
   go_wp2
   go_ret2
   rw[HM1.out]
   exact⟨⟨ptrTo w2.heap.size,j,rfl,⟨w2.heap.size,rfl,HK.out.size,heap_alloc_new _ _⟩,H2.out.kp ((Kp.refl no w2).alloc _) (fun h=>h) (fun _ _ _ h=>h)⟩,HK.out.alloc _⟩

end Go.Proofs.YtdeplgkhmebalaaGreatDoor

set_option linter.unusedSimpArgs false
set_option linter.unusedVariables false
set_option maxHeartbeats 400000
namespace Go.Proofs.YtdeplgkhmebalaaGreatDoor.Rf
open Go.RowKit

def bvB (v:Value) (l:List UInt8):Option Nat:=if l=[]then none else v.ownBlock
def BytesOk (w:World) (v:Value) (l:List UInt8):Prop:=(∃ad cap,v= .slice ad l.length cap∧l.length≤cap)∧(l≠[]→BytesAt w v l)
theorem BytesOk.shape {w:World} {v:Value} {l:List UInt8} (h:BytesOk w v l): ∃ad cap,v= .slice ad l.length cap∧l.length≤cap:=h.1
theorem BytesOk.of {w:World} {v:Value} {l:List UInt8} (h:BytesAt w v l):BytesOk w v l:=⟨RowAt.shape h,fun _=>h⟩
theorem BytesOk.kp {S:Nat→Prop} {w w':World} {v:Value} {l:List UInt8} (h:BytesOk w v l) (k:Kp S w w') (hs: ∀b,bvB v l=some b→ ¬S b):BytesOk w' v l:=
 ⟨h.1,fun hn=>(h.2 hn).kp k (fun b hb=>hs b (by unfold bvB;rw[if_neg hn];exact hb))⟩
theorem BytesOk.get {w:World} {v:Value} {l:List UInt8} (h:BytesOk w v l) {k:Nat} (hk:k<l.length): ∃a o cap,v= .slice (some ⟨a,o,none⟩) l.length cap∧l.length≤cap∧w.cell? ⟨a,o+k,none⟩=some (.int .u8 (l.getD k 0).toNat):=
 BytesAt.get (h.2 (fun e=>by rw[e]at hk;exact absurd hk (Nat.not_lt_zero _))) hk

structure PE where
 m:Value
 data:List UInt8
 b:Value
 en:Nat
 loc:Value
 d:Int

abbrev PS:=Except (Int×Int) Nat

abbrev PE.obj (E:PE) (i err pl:Int):Obj:= .cells #[E.m,E.b,.int .i64 i,.int .i64 (E.en:Int),.int .i64 err,.int .i64 pl,E.loc,.int .i64 E.d] 236

structure PSt (w:World) (pb:Nat) (E:PE) (σ:PS):Prop where
 ok: ∀i,σ= .ok i→i≤E.en∧w.heap[pb]? =some (E.obj i 0 0)
 bad: ∀e at_,σ= .error (e,at_)→e≠0∧ ∃i:Nat,i≤2000∧w.heap[pb]? =some (E.obj i e at_)
 bytes:BytesOk w E.b E.data
 low: ∀k,bvB E.b E.data=some k→k<pb
 len:E.data.length≤2000
 en:E.en≤E.data.length

def failM (e at_:Int):PS→PS
 | .ok _=> .error (e,at_)
 | .error x=> .error x
def badM:PS→Bool
 | .ok _=>false
 | .error _=>true
def nextM (E:PE):PS→UInt8×PS
 | .ok i=>if E.en≤i then (0,.error (2,E.en))else (E.data.getD i 0,.ok (i+1))
 | .error x=>(0,.error x)

abbrev ptr (b:Nat):Value:= .pointer (some ⟨b,0,none⟩)

theorem PSt.kp {w w':World} {pb:Nat} {E:PE} {σ σ':PS} (h:PSt w pb E σ) (k:Kp (one pb) w w')
  (hok: ∀i,σ'= .ok i→i≤E.en∧w'.heap[pb]? =some (E.obj i 0 0)) (hbad: ∀e at_,σ'= .error (e,at_)→e≠0∧ ∃i:Nat,i≤2000∧w'.heap[pb]? =some (E.obj i e at_)):PSt w' pb E σ':=
 ⟨hok,hbad,h.bytes.kp k (fun b hb e=>by have :=h.low b hb;unfold one at e;omega),h.low,h.len,h.en⟩

theorem PSt.keep {S:Nat→Prop} {w w':World} {pb:Nat} {E:PE} {σ:PS} (h:PSt w pb E σ) (k:Kp S w w') (hS: ∀k,k≤pb→ ¬S k):PSt w' pb E σ:=
 ⟨fun i hi=>⟨(h.ok i hi).1,k.blk (h.ok i hi).2 (hS _ (Nat.le_refl _))⟩,fun e a he=>by
  obtain⟨h0,i,hi,hb⟩:=h.bad e a he
  exact⟨h0,i,hi,k.blk hb (hS _ (Nat.le_refl _))⟩,h.bytes.kp k (fun b hb=>hS b (Nat.le_of_lt (h.low b hb))),h.low,h.len,h.en⟩

theorem bad_ok {w:World} {pb:Nat} {E:PE} {i err pl:Int} (hb:w.heap[pb]? =some (E.obj i err pl)):
  Calls Tryz.prog 118 #[ptr pb] w fun e w'=>e= .returned (.bool (err !=0))∧w'=w:=by
 obtain⟨hc,-⟩:=cells_of hb
 clear hb
 go_enter Tryz.func118,Tryz.ntmps118
 go_wp2
 go_ret
 exact⟨rfl,rfl⟩

theorem bad_any {w:World} {pb:Nat} {E:PE} {σ:PS} (h:PSt w pb E σ):
  Calls Tryz.prog 118 #[ptr pb] w fun e w'=>e= .returned (.bool (badM σ))∧w'=w:=by
 match σ,h with
 | .ok i,h=>exact bad_ok (h.ok i rfl).2
 | .error (e,a),h=>
  obtain⟨h0,i,-,hb⟩:=h.bad e a rfl
  refine(bad_ok hb).mono ?_
  rintro r w' ⟨rfl,rfl⟩
  exact⟨by simp[badM,h0],rfl⟩

theorem fail_ok {w:World} {pb:Nat} {E:PE} {i pl:Int} (e at_:Int) (hb:w.heap[pb]? =some (E.obj i 0 pl)):
  Calls Tryz.prog 120 #[ptr pb,.int .i64 e,.int .i64 at_] w fun r w'=>r= .returned (.tuple #[])∧w'.heap[pb]? =some (E.obj i e at_)∧Kp (one pb) w w':=by
 obtain⟨hc,hf⟩:=cells_of hb
 go_enter Tryz.func120,Tryz.ntmps120
 go_wp2
 go_end0
 exact⟨rfl,heap_setCell (heap_setCell hb _) _,((Kp.refl (one pb) _).set1 _ _).set1 _ _⟩

theorem fail_bad {w:World} {pb:Nat} {E:PE} {i err pl:Int} (e at_:Int) (hb:w.heap[pb]? =some (E.obj i err pl)) (he:err≠0):
  Calls Tryz.prog 120 #[ptr pb,.int .i64 e,.int .i64 at_] w fun r w'=>r= .returned (.tuple #[])∧w'=w:=by
 obtain⟨hc,hf⟩:=cells_of hb
 have he':(err==0)=false:=by simpa using he
 clear hb he
 go_enter Tryz.func120,Tryz.ntmps120
 go_wp2
 go_end0
 exact⟨rfl,rfl⟩

theorem fail_any {w:World} {pb:Nat} {E:PE} {σ:PS} (h:PSt w pb E σ) (e at_:Int) (he:e≠0):
  Calls Tryz.prog 120 #[ptr pb,.int .i64 e,.int .i64 at_] w fun r w'=>r= .returned (.tuple #[])∧PSt w' pb E (failM e at_ σ)∧Kp (one pb) w w':=by
 match σ,h with
 | .ok i,h=>
  obtain⟨hi,hb⟩:=h.ok i rfl
  refine(fail_ok e at_ hb).mono ?_
  rintro r w' ⟨rfl,hb',k⟩
  refine⟨rfl,h.kp k (fun j hj=>by cases hj) (fun e' a' hj=> ?_),k⟩
  cases hj
  exact⟨he,i,by have :=h.len;have :=h.en;omega,hb'⟩
 | .error (e0,a0),h=>
  obtain⟨h0,i,-,hb⟩:=h.bad e0 a0 rfl
  refine(fail_bad e at_ hb h0).mono ?_
  rintro r w' ⟨rfl,rfl⟩
  exact⟨rfl,h,Kp.refl _ _⟩

theorem next_ok {w:World} {pb:Nat} {E:PE} {i:Nat} (h:PSt w pb E (.ok i)) (hi:i<E.en):
  Calls Tryz.prog 186 #[ptr pb] w fun r w'=>r= .returned (.int .u8 (E.data.getD i 0).toNat)∧w'.heap[pb]? =some (E.obj (i+1:Nat) 0 0)∧Kp (one pb) w w':=by
 obtain⟨-,hb⟩:=h.ok i rfl
 obtain⟨hc,hf⟩:=cells_of hb
 have hl:=h.len
 have hen:=h.en
 have hdl:i<E.data.length:=by omega
 obtain⟨a,o,cap,hbv,hcap,hdc⟩:=h.bytes.get (k:=i) (by omega)
 have hap:a≠pb:=Nat.ne_of_lt (h.low a (by unfold bvB;rw[if_neg (fun e=>by rw[e]at hdl;exact absurd hdl (Nat.not_lt_zero _)),hbv];rfl))
 rw[hbv]at hc
 generalize E.data.getD i 0=c at *
 generalize E.data.length=dl at *
 have HB:=hide hb
 clear hb hbv h
 go_enter Tryz.func186,Tryz.ntmps186
 go_wp2
 go_quiet(fail)
 go_wp2_with(go_at_call 118;refine(bad_ok (by exact HB.out)).mono ?_;rintro e w' ⟨rfl,rfl⟩)
 go_quiet(fail)
 go_wp2
 go_ret
 exact⟨rfl,heap_setCell HB.out _,(((Kp.refl (one pb) w).drewN _).set1 _ _).drewN _⟩

theorem next_end {w:World} {pb:Nat} {E:PE} {i:Nat} (h:PSt w pb E (.ok i)) (hi:E.en≤i):
  Calls Tryz.prog 186 #[ptr pb] w fun r w'=>r= .returned (.int .u8 0)∧w'.heap[pb]? =some (E.obj i 2 E.en)∧Kp (one pb) w w':=by
 obtain⟨-,hb⟩:=h.ok i rfl
 obtain⟨hc,hf⟩:=cells_of hb
 have HB:=hide hb
 clear hb h
 go_enter Tryz.func186,Tryz.ntmps186
 go_wp2
 go_quiet(fail)
 go_wp2_with fail
 refine(fail_ok _ _ (by exact HB.out)).mono ?_
 rintro e w1 ⟨rfl,hb1,k1⟩
 have HB1:=hide hb1
 obtain⟨hc1,hf1⟩:=cells_of hb1
 clear hb1 hc hf
 go_wp2_with fail
 refine(bad_ok (by exact HB1.out)).mono ?_
 rintro e w' ⟨rfl,rfl⟩
 go_wp2
 go_ret
 exact⟨rfl,HB1.out,((Kp.refl (one pb) w).drewN _).trans k1⟩

theorem next_bad {w:World} {pb:Nat} {E:PE} {i:Nat} {e at_:Int} (hb:w.heap[pb]? =some (E.obj i e at_)) (he:e≠0):
  Calls Tryz.prog 186 #[ptr pb] w fun r w'=>r= .returned (.int .u8 0)∧w'.heap[pb]? =some (E.obj i e at_)∧Kp (one pb) w w':=by
 obtain⟨hc,hf⟩:=cells_of hb
 have HB:=hide hb
 have hbt:(e !=0)=true:=by simpa using he
 have hne:=hide he
 clear hb he
 by_cases hi:E.en≤i
 ·go_enter Tryz.func186,Tryz.ntmps186
  go_wp2
  go_quiet(fail)
  go_wp2_with(first |(go_at_call 118;refine(bad_ok (by exact HB.out)).mono ?_;rintro e w' ⟨rfl,rfl⟩)|(go_at_call 120;refine(fail_bad _ _ (by exact HB.out) hne.out).mono ?_;rintro e w' ⟨rfl,rfl⟩))
  go_ret
  exact⟨rfl,HB.out,(Kp.refl (one pb) w).drewN _⟩
 ·go_enter Tryz.func186,Tryz.ntmps186
  go_wp2
  go_quiet(fail)
  go_wp2_with(go_at_call 118;refine(bad_ok (by exact HB.out)).mono ?_;rintro e w' ⟨rfl,rfl⟩)
  go_ret
  exact⟨rfl,HB.out,(Kp.refl (one pb) w).drewN _⟩

theorem next_any {w:World} {pb:Nat} {E:PE} {σ:PS} (h:PSt w pb E σ):
  Calls Tryz.prog 186 #[ptr pb] w fun r w'=>r= .returned (.int .u8 (nextM E σ).1.toNat)∧PSt w' pb E (nextM E σ).2∧Kp (one pb) w w':=by
 match σ,h with
 | .ok i,h=>
  by_cases hi:E.en≤i
  ·refine(next_end h hi).mono ?_
   rintro r w' ⟨rfl,hb,k⟩
   refine⟨by simp[nextM,hi],h.kp k (fun j hj=>by simp[nextM,hi]at hj) (fun e a hj=> ?_),k⟩
   simp[nextM,hi]at hj
   obtain⟨rfl,rfl⟩:=hj
   exact⟨by decide,i,by have :=(h.ok i rfl).1;have :=h.en;have :=h.len;omega,hb⟩
  ·refine(next_ok h (by omega)).mono ?_
   rintro r w' ⟨rfl,hb,k⟩
   refine⟨by simp[nextM,hi],h.kp k (fun j hj=> ?_) (fun e a hj=>by simp[nextM,hi]at hj),k⟩
   simp[nextM,hi]at hj
   subst hj
   exact⟨by omega,hb⟩
 | .error (e,a),h=>
  obtain⟨h0,i,hi,hb⟩:=h.bad e a rfl
  refine(next_bad hb h0).mono ?_
  rintro r w' ⟨rfl,hb',k⟩
  refine⟨by simp[nextM],h.kp k (fun j hj=>by simp[nextM]at hj) (fun e' a' hj=> ?_),k⟩
  simp[nextM]at hj
  obtain⟨rfl,rfl⟩:=hj
  exact⟨h0,i,hi,hb'⟩

end Go.Proofs.YtdeplgkhmebalaaGreatDoor.Rf

set_option linter.unusedSimpArgs false
set_option linter.unusedVariables false
namespace Go.Proofs.YtdeplgkhmebalaaGreatDoor
open Go.RowKit

def ScriptAt (w:World) (v:Value) (n:Nat):Prop:= ∃cells,RowAt w v 6 n cells∧ ∀k,k<n→ ∃(kd a b c:Int) (sv:Value) (data:List UInt8) (al:Option Addr) (nl cl:Nat),
 cells[k*6]? =some (.int .i64 kd)∧cells[k*6+1]? =some (.int .i64 a)∧cells[k*6+2]? =some (.int .i64 b)∧cells[k*6+3]? =some (.int .i64 c)∧cells[k*6+4]? =some sv∧cells[k*6+5]? =some (.slice al nl cl)∧
 Rf.BytesOk w sv data∧(∀b,Rf.bvB sv data=some b→b<w.heap.size)∧data.length≤2000000∧ -9223372036854775808≤a∧a≤9223372036854775807

end Go.Proofs.YtdeplgkhmebalaaGreatDoor

set_option linter.unusedSimpArgs false
set_option linter.unusedVariables false
set_option maxHeartbeats 400000
namespace Go.Proofs.YtdeplgkhmebalaaGreatDoor.Rf
open Go.RowKit

def PS.place:PS→Int
 | .ok i=>i
 | .error _=>0

theorem PSt.obj {w:World} {pb:Nat} {E:PE} {σ:PS} (h:PSt w pb E σ): ∃(i:Nat) (err pl:Int),i≤2000∧w.heap[pb]? =some (E.obj i err pl)∧((i:Int)=σ.place∨badM σ=true)∧(err !=0)=badM σ:=by
 match σ,h with
 | .ok i,h=>
  obtain⟨hi,hb⟩:=h.ok i rfl
  exact⟨i,0,0,by have :=h.len;have :=h.en;omega,hb,.inl rfl,rfl⟩
 | .error (e,a),h=>
  obtain⟨h0,i,hi,hb⟩:=h.bad e a rfl
  exact⟨i,e,a,hi,hb,.inr rfl,by simpa[badM]using h0⟩

theorem fail_of_bad {σ:PS} (h:badM σ=true) (e a:Int):failM e a σ=σ:=by
 cases σ with
 |ok i=>cases h
 |error x=>rfl
theorem fail_place {σ σ1:PS} {i:Int} (h:i=σ.place∨badM σ=true) (hs:badM σ=true→badM σ1=true) (e:Int):failM e i σ1=failM e σ.place σ1:=by
 rcases h with rfl |h
 ·rfl
 ·rw[fail_of_bad (hs h),fail_of_bad (hs h)]
theorem next_sticky {E:PE} {σ:PS} (h:badM σ=true):nextM E σ=(0,σ):=by
 cases σ with
 |ok i=>cases h
 |error x=>rfl

def needM (E:PE) (a b c:UInt8) (σ:PS):UInt8×PS:=
 let r:=nextM E σ
 (r.1,if r.1≠a∧r.1≠b∧r.1≠c then failM 2 σ.place r.2 else r.2)

theorem u8_ne (x a:UInt8):((x.toNat:Int) !=(a.toNat:Int))= !(x==a):=by
 rw[bne,Bool.eq_iff_iff];simp[←UInt8.toNat_inj];omega
theorem u8_eq (x a:UInt8):((x.toNat:Int)==(a.toNat:Int))=(x==a):=by
 rw[Bool.eq_iff_iff];simp[←UInt8.toNat_inj];omega

theorem need_any {w:World} {pb:Nat} {E:PE} {σ:PS} (h:PSt w pb E σ) (a b c:UInt8):
  Calls Tryz.prog 157 #[ptr pb,.int .u8 a.toNat,.int .u8 b.toNat,.int .u8 c.toNat] w fun r w'=>r= .returned (.int .u8 (needM E a b c σ).1.toNat)∧PSt w' pb E (needM E a b c σ).2∧Kp (one pb) w w':=by
 obtain⟨i,err,pl,hi,hb,hp,-⟩:=h.obj
 obtain⟨hc,-⟩:=cells_of hb
 have hn:=next_any h
 have hst:badM σ=true→badM (nextM E σ).2=true:=fun hh=>by rw[next_sticky hh];exact hh
 have hfp:=fun e=>fail_place hp hst e
 have hM:needM E a b c σ=((nextM E σ).1,if (nextM E σ).1≠a∧(nextM E σ).1≠b∧(nextM E σ).1≠c then failM 2 i (nextM E σ).2 else (nextM E σ).2):=by rw[hfp];rfl
 rw[hM]
 clear hM hfp hst hp hb h
 generalize(nextM E σ).1=x at *
 generalize(nextM E σ).2=σ1 at *
 have Hn:=hide hn
 clear hn
 have ea:=u8_ne x a
 have eb:=u8_ne x b
 have ec:=u8_ne x c
 by_cases h1:x≠a∧x≠b∧x≠c
 ·rw[if_pos h1]
  simp only[show(x==a)=false by simpa using h1.1,show(x==b)=false by simpa using h1.2.1,show(x==c)=false by simpa using h1.2.2]at ea eb ec
  clear h1
  go_enter Tryz.func157,Tryz.ntmps157
  go_wp2_with fail
  refine Hn.out.mono ?_
  rintro e w1 ⟨rfl,h1,k1⟩
  have H1:=hide h1
  clear h1
  go_wp2_with fail
  refine(fail_any H1.out _ _ (by decide)).mono ?_
  rintro e w2 ⟨rfl,h2,k2⟩
  have H2:=hide h2
  clear h2
  go_wp2
  go_ret
  exact⟨rfl,H2.out,k1.trans k2⟩
 ·rw[if_neg h1]
  go_enter Tryz.func157,Tryz.ntmps157
  go_wp2_with fail
  refine Hn.out.mono ?_
  rintro e w1 ⟨rfl,h1',k1⟩
  have H1:=hide h1'
  clear h1'
  by_cases xa:x=a
  ·subst xa
   go_wp2
   go_ret
   exact⟨rfl,H1.out,k1⟩
  ·simp only[show(x==a)=false by simpa using xa]at ea
   by_cases xb:x=b
   ·subst xb
    go_wp2
    go_ret
    exact⟨rfl,H1.out,k1⟩
   ·simp only[show(x==b)=false by simpa using xb]at eb
    by_cases xc:x=c
    ·subst xc
     go_wp2
     go_ret
     exact⟨rfl,H1.out,k1⟩
    ·exact absurd ⟨xa,xb,xc⟩ h1

end Go.Proofs.YtdeplgkhmebalaaGreatDoor.Rf

set_option linter.unusedSimpArgs false
set_option linter.unusedVariables false
set_option maxHeartbeats 400000
namespace Go.Proofs.YtdeplgkhmebalaaGreatDoor.Rf
open Go.RowKit

def sameM (l:List Bool) (from_:Nat) (like:Bool):Bool:=(l.drop from_).all (fun b=>b==like)

theorem same_step {l:List Bool} {k:Nat} (hk:k<l.length) (like:Bool):sameM l k like=((l.getD k false==like)&&sameM l (k+1) like):=by
 unfold sameM
 rw[List.drop_eq_getElem_cons hk,List.all_cons]
 simp[List.getD,List.getElem?_eq_getElem hk]
theorem same_end {l:List Bool} {k:Nat} (hk:l.length≤k) (like:Bool):sameM l k like=true:=by
 unfold sameM
 rw[List.drop_of_length_le hk];rfl

theorem same_any {w:World} {v:Value} {l:List Bool} (h:BoolsAt w v l) (hl:l.length≤1000) (j:Nat) (hj:j≤1000) (like:Bool):
  Calls Tryz.prog 188 #[v,.int .i64 j,.bool like] w fun r w'=>r= .returned (.bool (sameM l j like))∧w'=w:=by
 obtain⟨ad,cap,hv,hcap⟩:=h.shape
 have H:=hide h
 subst hv
 clear h
 go_enter Tryz.func188,Tryz.ntmps188
 go_wp2
 go_loop [7] (fun i=> ∃k:Nat,j≤k∧k≤1000∧i= .int .i64 k∧sameM l k like=sameM l j like) (fun i=>1000 - (intOf i).toNat)
 case atStart=>exact⟨j,Nat.le_refl _,hj,rfl,rfl⟩
 case round=>
  obtain⟨k,hjk,hk,rfl,hM⟩:=hrel
  have HM:=hide hM
  clear hM
  by_cases hlt:k<l.length
  ·obtain⟨a,o,cap',hv,_,hcell⟩:=BoolsAt.get H.out hlt
   simp only[Value.slice.injEq]at hv
   obtain⟨rfl,-,rfl⟩:=hv
   have hs:=same_step hlt like
   generalize hx:l.getD k false=x at *
   have HX:=hide hx
   have HS:=hide hs
   clear hx hs
   by_cases hxl:x=like
   ·subst hxl
    go_wp2
    go_round
    case rel=>exact⟨k+1,by omega,by omega,by go_num,by rw[←HM.out,HS.out];simp⟩
    case measure=>simp[intOf];omega
   ·have hb:(x==like)=false:=by simpa using hxl
    have hb':(x !=like)=true:=by simpa using hxl
    clear hxl
    go_wp2
    go_ret
    refine⟨?_,rfl⟩
    rw[←HM.out,HS.out,hb];rfl
  ·go_wp2
   go_ret
   exact⟨by rw[←HM.out,same_end (by omega)];rfl,rfl⟩

end Go.Proofs.YtdeplgkhmebalaaGreatDoor.Rf

set_option linter.unusedSimpArgs false
set_option linter.unusedVariables false
set_option maxHeartbeats 1000000
set_option maxRecDepth 100000
namespace Go.Proofs.YtdeplgkhmebalaaGreatDoor.Rf
open Go.RowKit

theorem info_bool:(Tryz.prog.info? 4).map (fun i=>(i.zero,i.size,i.bytes))=some (some (.bool false),1,1):=by kernel_rfl

def bits7 (c:UInt8):List Bool:=(List.range 7).map fun k=>c.toNat.testBit k

def numGo (E:PE) (at_:Int):Nat→List Bool→PS→List Bool×PS
 |0,_,σ=>([],failM 2 at_ σ)
 |r+1,bits,σ=>
  let x:=nextM E σ
  if badM x.2 then ([],x.2)else
  if 128≤x.1 then numGo E at_ r (bits++bits7 x.1) x.2 else (bits++bits7 x.1,x.2)
def numberM (E:PE) (most:Nat) (σ:PS):List Bool×PS:=numGo E σ.place most [] σ

def lenOf:Value→Nat
 | .slice _ n _=>n
 |_=>0

theorem bit_all: ∀(x:Fin 256) (j:Fin 7),(Go.bits BinOp.and IntKind.u8 ((x.val:Int)/2^j.val) 1==1)=x.val.testBit j.val:=by decide +kernel
theorem bit_at (x:UInt8) (j:Nat) (hj:j<7):(Go.bits BinOp.and IntKind.u8 ((x.toNat:Int)/2^j) 1==1)=x.toNat.testBit j:=bit_all ⟨x.toNat,x.toNat_lt⟩ ⟨j,hj⟩
theorem bits7_take (x:UInt8) (j:Nat) (hj:j<7):(bits7 x).take (j+1)=(bits7 x).take j++[x.toNat.testBit j]:=by
 rw[List.take_succ_eq_append_getElem (by simpa[bits7]using hj)];simp[bits7]
theorem bits7_length (x:UInt8):(bits7 x).length=7:=by simp[bits7]

theorem info_bool': ∃i,Tryz.prog.info? 4=some i∧i.zero=some (.bool false)∧i.size=1∧i.bytes=1:=info_parts info_bool

theorem number_any {w:World} {pb:Nat} {E:PE} {σ:PS} (h:PSt w pb E σ) (most:Nat) (hm:most≤10) (hm0:0<most):
  Calls Tryz.prog 187 #[ptr pb,.int .i64 most] w fun r w'=> ∃v,r= .returned v∧BoolsAt w' v (numberM E most σ).1∧(∀k,v.ownBlock=some k→w.heap.size≤k)∧PSt w' pb E (numberM E most σ).2∧Kp (one pb) w w':=by
 obtain⟨i,err,pl,hi,hb,hp,-⟩:=h.obj
 obtain⟨hc,-⟩:=cells_of hb
 obtain⟨i0,hi0,hz0,hz1,hz2⟩:=info_bool'
 have HP:=hide hp
 have H:=hide h
 have hpb:=lt_of_blk hb
 clear hb hp h
 go_enter Tryz.func187,Tryz.ntmps187
 go_wp2
 go_loopw [5,7] (fun v m wr=> ∃(r:Nat) (bits:List Bool) (σ':PS),r≤most∧bits.length+7*r=7*most∧wr.ownsRow w.heap.size 4 1 v bits.length (bits.map Value.bool)∧PSt wr pb E σ'∧Kp (one pb) w wr∧(badM σ=true→badM σ'=true)∧
   (m= .bool true∧numGo E σ.place r bits σ'=numberM E most σ∨m= .bool false∧(bits,σ')=numberM E most σ)) (fun v _ _=>7*most+7 -lenOf v)
 case atStart=>exact⟨most,[],σ,Nat.le_refl _,by simp,World.ownsRow_nil _ _ _ _,H.out,Kp.refl _ _,fun h=>h,.inl ⟨rfl,rfl⟩⟩
 case round=>
  obtain⟨r,bits,σ',hr,hbl,hown,hst,hkp,hsty,hcase⟩:=hrel
  rcases hcase with⟨rfl,hM⟩|⟨rfl,hM⟩
  ·have HO:=hide hown
   have HS:=hide hst
   have HK:=hide hkp
   have HM:=hide hM
   clear hst hkp hM
   obtain⟨ad,cap,rfl⟩:=own_shape hown
   clear hown
   by_cases hr0:r=0
   ·have hz:(((bits.length:Nat):Int)==7*(most:Int))=true:=by simp;omega
    have HR:=hide hr0
    clear hr0
    go_wp2_with fail
    refine(fail_any HS.out _ _ (by decide)).mono ?_
    rintro e w1 ⟨rfl,h1,k1⟩
    have H1:=hide h1
    clear h1
    go_wp2_with fail
    refine(next_any H1.out).mono ?_
    rintro e w2 ⟨rfl,h2,k2⟩
    have hbf:badM (failM 2 i σ')=true:=by cases σ'<;>rfl
    rw[next_sticky hbf]
    rw[next_sticky hbf]at h2
    have H2:=hide h2
    clear h2
    go_wp2_with fail
    refine(bad_any H2.out).mono ?_
    rintro e w3 ⟨rfl,rfl⟩
    go_wp2
    go_ret
    have hfin:numberM E most σ=([],failM 2 i σ'):=by
     rw[←HM.out,HR.out,fail_place HP.out hsty];rfl
    rw[hfin]
    exact⟨.slice none 0 0,rfl,RowAt.nil _ _,(fun k hk=>by cases hk),H2.out,(HK.out.trans k1).trans k2⟩
   ·obtain⟨q,rfl⟩: ∃q,r=q+1:=⟨r -1,by omega⟩
    clear hr0
    have hz:(((bits.length:Nat):Int)==7*(most:Int))=false:=by simp;omega
    go_wp2_with fail
    refine(next_any HS.out).mono ?_
    rintro e w1 ⟨rfl,h1,k1⟩
    have hM:=HM.out
    rw[numGo]at hM
    have hsty1:badM σ=true→badM (nextM E σ').2=true:=fun hh=>by rw[next_sticky (hsty hh)];exact hsty hh
    generalize(nextM E σ').1=x at *
    generalize(nextM E σ').2=σ1 at *
    have H1:=hide h1
    have HM1:=hide hM
    clear h1 hM HM
    by_cases hbd:badM σ1=true
    ·go_wp2_with fail
     refine(bad_any H1.out).mono ?_
     rintro e w3 ⟨rfl,rfl⟩
     go_wp2
     go_ret
     have hM:=HM1.out
     rw[if_pos hbd]at hM
     rw[←hM]
     exact⟨.slice none 0 0,rfl,RowAt.nil _ _,(fun k hk=>by cases hk),H1.out,HK.out.trans k1⟩
    ·have hM:=HM1.out
     rw[if_neg hbd]at hM
     simp only[Bool.not_eq_true]at hbd
     have HM2:=hide hM
     clear hM HM1
     go_wp2_with fail
     refine(bad_any H1.out).mono ?_
     rintro e w3 ⟨rfl,rfl⟩
     go_wp2
     go_loopw [5,9] (fun v k wr2=> ∃(j:Nat),j≤7∧k= .int .i64 j∧wr2.ownsRow w.heap.size 4 1 v (bits.length+j) ((bits++(bits7 x).take j).map Value.bool)∧PSt wr2 pb E σ1∧Kp (one pb) w wr2) (fun _ k _=>7 - (intOf k).toNat)
     case atStart=>
      refine⟨0,by omega,rfl,?_,H1.out,HK.out.trans k1⟩
      simpa using k1.own HO.out (fun k hk=>by have :=(own_new HO.out) k hk;intro e;unfold one at e;omega)
     case round=>
      obtain⟨j,hj,rfl,hown2,hst2,hkp2⟩:=hrel
      have HO2:=hide hown2
      have HS2:=hide hst2
      have HK2:=hide hkp2
      obtain⟨ad2,cap2,rfl⟩:=own_shape hown2
      clear hown2 hst2 hkp2
      by_cases hj7:j<7
      ·go_wp2_with(at_builtin;refine wpList_append_own _ rfl _ _ 55 rfl w.heap.size 4 i0 (.bool false) 1 1 Tryz.underlying55 hi0 hz0 hz1 hz2 rfl (by decide) _ _ _ rfl (HO2.out.alloc _) ⟨wr.heap.size,0,none⟩ 1 1 [.bool (Go.bits BinOp.and IntKind.u8 ((x.toNat:Int)/2^j) 1==1)] rfl rfl (cell_one_new _ _ _) ?c2 ?c3 ?c4 ?c5 ?_)
       case c2=>intro u hu;simp at hu;subst hu;rfl
       case c3=>unfold maxLen;omega
       case c4=>omega
       case c5=>have :=HK2.out.size;simp;omega
       intro v' w4 hown4 hgrow _
       have HO4:=hide hown4
       have HG:=hide hgrow
       clear hown4 hgrow
       go_wp2
       go_roundw
       case rel=>
        have kw:Kp (fun k=>w.heap.size≤k) wr w4:=((Kp.refl (fun k=>w.heap.size≤k) wr).alloc _).grown HG.out (fun k hk=> .inl (own_new HO2.out k hk))
        refine⟨j+1,by omega,by go_num,?_,HS2.out.keep kw (fun k hk=>by omega),HK2.out.comp kw (fun _ _ h=>h) (fun k hk h=>by omega)⟩
        rw[bits7_take x j hj7,←bit_at x j hj7]
        simpa[Nat.add_assoc,List.append_assoc]using HO4.out
       case measure=>simp[intOf];omega
      ·obtain rfl :j=7:=by omega
       clear hj hj7
       have hM:=HM2.out
       have HO3:wr.ownsRow w.heap.size 4 1 (Value.slice ad2 (bits.length+7) cap2) (bits++bits7 x).length ((bits++bits7 x).map Value.bool):=by
        have :=HO2.out
        rw[List.take_of_length_le (by rw[bits7_length];omega)]at this
        simpa[bits7_length]using this
       have HO3':=hide HO3
       clear HO3
       by_cases hx:128≤x
       ·rw[if_pos hx]at hM
        have hx':(128:Int)≤x.toNat:=by have :=UInt8.le_iff_toNat_le.1 hx;simp at this;omega
        have HM3:=hide hM
        clear hM
        go_wp2
        go_roundw
        case rel=>exact⟨q,bits++bits7 x,σ1,by omega,by simp[bits7_length];omega,HO3'.out,HS2.out,HK2.out,hsty1,.inl ⟨rfl,HM3.out⟩⟩
        case measure=>simp[lenOf];omega
       ·rw[if_neg hx]at hM
        have hx': ¬(128:Int)≤x.toNat:=by intro h;apply hx;rw[UInt8.le_iff_toNat_le];simp;omega
        have HM3:=hide hM
        clear hM
        go_wp2
        go_roundw
        case rel=>exact⟨q,bits++bits7 x,σ1,by omega,by simp[bits7_length];omega,HO3'.out,HS2.out,HK2.out,hsty1,.inr ⟨rfl,HM3.out⟩⟩
        case measure=>simp[lenOf];omega
  ·have HO:=hide hown
   have HS:=hide hst
   have HK:=hide hkp
   have HM:=hide hM
   clear hst hkp hM
   obtain⟨ad,cap,rfl⟩:=own_shape hown
   clear hown
   go_wp2
   go_ret
   rw[←HM.out]
   exact⟨_,rfl,RowAt.own HO.out,own_new HO.out,HS.out,HK.out⟩

end Go.Proofs.YtdeplgkhmebalaaGreatDoor.Rf

set_option linter.unusedSimpArgs false
set_option linter.unusedVariables false
set_option maxHeartbeats 1000000
set_option maxRecDepth 100000
namespace Go.Proofs.YtdeplgkhmebalaaGreatDoor.Rf
open Go.RowKit

theorem numGo_len (E:PE) (a:Int) (r:Nat): ∀(bits:List Bool) (σ:PS),(numGo E a r bits σ).1.length≤bits.length+7*r∧(badM (numGo E a r bits σ).2=false→bits.length+7≤(numGo E a r bits σ).1.length):=by
 induction r with
 |zero=>intro bits σ;refine⟨by simp[numGo],fun h=> ?_⟩;cases σ<;>simp[numGo,failM,badM]at h
 |succ r ih=>
  intro bits σ
  rw[numGo]
  split
  ·rename_i hb;exact⟨by simp,fun h=>by simp_all⟩
  ·split
   ·have :=ih (bits++bits7 (nextM E σ).1) (nextM E σ).2
    simp only[List.length_append,bits7_length]at this
    refine⟨by omega,fun h=>by have :=this.2 h;omega⟩
   ·simp[bits7_length];omega
theorem number_len (E:PE) (m:Nat) (σ:PS):(numberM E m σ).1.length≤7*m∧(badM (numberM E m σ).2=false→7≤(numberM E m σ).1.length):=by
 have :=numGo_len E σ.place m [] σ
 simpa[numberM]using this
theorem numGo_sticky {E:PE} {a:Int} {r:Nat} {bits:List Bool} {σ:PS} (h:badM σ=true):(numGo E a r bits σ)=([],σ):=by
 cases r with
 |zero=>rw[numGo,fail_of_bad h]
 |succ r=>rw[numGo,next_sticky h];simp[h]
theorem number_sticky {E:PE} {m:Nat} {σ:PS} (h:badM σ=true):numberM E m σ=([],σ):=numGo_sticky h

def valOf:List Bool→Nat
 |[]=>0
 |b::t=>(if b then 1 else 0)+2*valOf t
theorem valOf_lt (l:List Bool):valOf l<2^l.length:=by
 induction l with
 |nil=>simp[valOf]
 |cons b t ih=>simp only[valOf,List.length_cons,Nat.pow_succ];split <;>omega
theorem valOf_drop {l:List Bool} {k:Nat} (hk:k<l.length):valOf (l.drop k)=(if l.getD k false then 1 else 0)+2*valOf (l.drop (k+1)):=by
 rw[List.drop_eq_getElem_cons hk,valOf]
 simp[List.getD,List.getElem?_eq_getElem hk]
theorem valOf_bd {l:List Bool} (h:l.length≤34):valOf l≤17179869183:=by
 have h1:=valOf_lt l
 have h2:2^l.length≤2^34:=Nat.pow_le_pow_right (by decide) h
 have h3:2^34=17179869184:=by decide
 omega

def uM (E:PE) (most:Int) (σ:PS):Nat×PS:=
 let r:=numberM E 5 σ
 if badM r.2 then (0,r.2)else
 if (7<r.1.length∧sameM r.1 (r.1.length -7) false=true)∨(32<r.1.length∧sameM r.1 32 false=false)∨most<(valOf r.1:Int)then (0,failM 2 σ.place r.2)else (valOf r.1,r.2)

theorem same_int {w:World} {v:Value} {l:List Bool} (h:BoolsAt w v l) (hl:l.length≤1000) (j:Int) (h0:0≤j) (hj:j≤1000) (like:Bool):
  Calls Tryz.prog 188 #[v,.int .i64 j,.bool like] w fun r w'=>r= .returned (.bool (sameM l j.toNat like))∧w'=w:=by
 obtain⟨n,rfl⟩:=Int.eq_ofNat_of_zero_le h0
 simpa using same_any h hl n (by omega) like

theorem u_any {w:World} {pb:Nat} {E:PE} {σ:PS} (h:PSt w pb E σ) (most:Int):
  Calls Tryz.prog 158 #[ptr pb,.int .i64 most] w fun r w'=>r= .returned (.int .i64 (uM E most σ).1)∧PSt w' pb E (uM E most σ).2∧Kp (one pb) w w':=by
 obtain⟨i,err,pl,hi,hb,hp,-⟩:=h.obj
 obtain⟨hc,-⟩:=cells_of hb
 have hst:badM σ=true→badM (numberM E 5 σ).2=true:=fun hh=>by rw[number_sticky hh];exact hh
 have hfp:=fail_place hp hst 2
 have hM:uM E most σ=(if badM (numberM E 5 σ).2 then (0,(numberM E 5 σ).2)else
   if (7<(numberM E 5 σ).1.length∧sameM (numberM E 5 σ).1 ((numberM E 5 σ).1.length -7) false=true)∨(32<(numberM E 5 σ).1.length∧sameM (numberM E 5 σ).1 32 false=false)∨most<(valOf (numberM E 5 σ).1:Int)then (0,failM 2 i (numberM E 5 σ).2)else (valOf (numberM E 5 σ).1,(numberM E 5 σ).2)):=by rw[hfp];rfl
 generalize uM E most σ=R at *
 have hn:=number_any h 5 (by decide) (by decide)
 have hlen:=number_len E 5 σ
 clear hfp hst hp hb h
 generalize(numberM E 5 σ).1=bits at *
 generalize(numberM E 5 σ).2=σ1 at *
 obtain⟨hl1,hl2⟩:=hlen
 have Hn:=hide hn
 have HL:=hide hl2
 have HM:=hide hM
 clear hn hl2 hM
 go_enter Tryz.func158,Tryz.ntmps158
 go_wp2_with fail
 refine Hn.out.mono ?_
 rintro e w1 ⟨v,rfl,hB,hnew,h1,k1⟩
 obtain⟨ad,cap,rfl,hcap⟩:=hB.shape
 have HB:=hide hB
 have HS:=hide h1
 have HN:=hide hnew
 clear hB h1 hnew Hn
 have hM:=HM.out
 by_cases hbd:badM σ1=true
 ·rw[if_pos hbd]at hM
  have HM1:=hide hM
  clear hM
  go_wp2_with fail
  refine(bad_any HS.out).mono ?_
  rintro e w3 ⟨rfl,rfl⟩
  go_wp2
  go_ret
  rw[HM1.out]
  exact⟨rfl,HS.out,k1⟩
 ·rw[if_neg hbd]at hM
  simp only[Bool.not_eq_true]at hbd
  have HM1:=hide hM
  clear hM HM
  have hl2:=HL.out hbd
  go_wp2_with fail
  refine(bad_any HS.out).mono ?_
  rintro e w3 ⟨rfl,rfl⟩
  go_upto_region 5 with fail
  go_cut [7] (fun x wx=>x= .bool (decide (7<bits.length)&&sameM bits (bits.length -7) false)∧w3=wx)
  case first =>
   by_cases h7:7<bits.length
   ·go_wp2_with fail
    refine(same_int HB.out (by omega) _ (by omega) (by omega) _).mono ?_
    rintro e w4 ⟨rfl,rfl⟩
    go_wp2_with fail
    go_meet
    exact⟨by simp[h7],rfl⟩
   ·go_wp2_with fail
    go_meet
    exact⟨by simp[h7],rfl⟩
  case rest=>
  obtain⟨rfl,rfl⟩:=hcut
  go_upto_region 6 with fail
  go_cut [8] (fun x wx=>x= .bool (decide (32<bits.length)&& !sameM bits 32 false)∧w3=wx)
  case first =>
   by_cases h32:32<bits.length
   ·go_wp2_with fail
    refine(same_int HB.out (by omega) _ (by omega) (by omega) _).mono ?_
    rintro e w4 ⟨rfl,rfl⟩
    go_wp2_with fail
    go_meet
    exact⟨by simp[h32],rfl⟩
   ·go_wp2_with fail
    go_meet
    exact⟨by simp[h32],rfl⟩
  case rest=>
  obtain⟨rfl,rfl⟩:=hcut
  have hM2:=HM1.out
  have hM3:R=if ((decide (7<bits.length)&&sameM bits (bits.length -7) false)=true∨(decide (32<bits.length)&& !sameM bits 32 false)=true∨most<(valOf bits:Int))then (0,failM 2 i σ1)else (valOf bits,σ1):=by
   rw[hM2];simp
  generalize(decide (7<bits.length)&&sameM bits (bits.length -7) false)=lg at *
  generalize(decide (32<bits.length)&& !sameM bits 32 false)=gr at *
  have HM3:=hide hM3
  clear hM2 hM3 HM1
  go_wp2
  go_loop [9,10] (fun n k=> ∃j:Nat,j≤bits.length∧k= .int .i64 ((j:Int) -1)∧n= .int .i64 (valOf (bits.drop j):Nat)) (fun _ k=>(intOf k+1).toNat)
  case atStart=>exact⟨bits.length,Nat.le_refl _,rfl,by simp[valOf]⟩
  case round=>
   obtain⟨j,hj,rfl,rfl⟩:=hrel
   by_cases hj0:j=0
   ·subst hj0
    simp only[List.drop_zero]
    have hvb:(valOf bits:Int)≤34359738368:=by
     have h1:=valOf_lt bits
     have h2:2^bits.length≤2^35:=Nat.pow_le_pow_right (by decide) (by omega)
     have h3:2^35=34359738368:=by decide
     omega
    cases lg<;>cases gr
    ·by_cases hmo:most<(valOf bits:Int)
     ·go_wp2_with fail
      refine(fail_any HS.out _ _ (by decide)).mono ?_
      rintro e w4 ⟨rfl,h4,k4⟩
      have H4:=hide h4
      clear h4
      go_wp2
      go_ret
      rw[HM3.out,if_pos (by simp[hmo])]
      exact⟨rfl,H4.out,k1.trans k4⟩
     ·go_wp2
      go_ret
      rw[HM3.out,if_neg (by simp[hmo])]
      exact⟨rfl,HS.out,k1⟩
    all_goals
     go_wp2_with fail
     refine(fail_any HS.out _ _ (by decide)).mono ?_
     rintro e w4 ⟨rfl,h4,k4⟩
     have H4:=hide h4
     clear h4
     go_wp2
     go_ret
     rw[HM3.out,if_pos (by simp)]
     exact⟨rfl,H4.out,k1.trans k4⟩
   ·obtain⟨q,rfl⟩: ∃q,j=q+1:=⟨j -1,by omega⟩
    clear hj0
    obtain⟨a,o,cap',hv,_,hcell⟩:=BoolsAt.get HB.out (show q<bits.length by omega)
    simp only[Value.slice.injEq]at hv
    obtain⟨rfl,-,rfl⟩:=hv
    have hvd:=valOf_drop (show q<bits.length by omega)
    have hbd2:=valOf_bd (l:=bits.drop (q+1)) (by simp;omega)
    generalize valOf (bits.drop (q+1))=n at *
    generalize bits.getD q false=x at *
    have HV:=hide hvd
    clear hvd
    have e1:((q+1:Nat):Int) -1=q:=by omega
    rw[e1]
    have e2:((q:Int)).toNat=q:=by omega
    cases x
    ·go_wp2
     go_round
     case rel=>exact⟨q,by omega,by go_num,by rw[HV.out];simp⟩
     case measure=>simp[intOf]
    ·go_wp2
     go_round
     case rel=>exact⟨q,by omega,by go_num,by rw[HV.out];simp;omega⟩
     case measure=>simp[intOf]

end Go.Proofs.YtdeplgkhmebalaaGreatDoor.Rf
