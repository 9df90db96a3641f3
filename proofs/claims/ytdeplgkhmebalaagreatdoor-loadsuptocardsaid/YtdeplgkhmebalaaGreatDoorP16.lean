/- Lists that are copied. -/
import Derived.Test.YtdeplgkhmebalaaGreatDoorP13
import Derived.Test.YtdeplgkhmebalaaGreatDoorProg
import Derived.Laws.CopyOwn
import Derived.Test.YtdeplgkhmebalaaGreatDoorP04
import Derived.Test.YtdeplgkhmebalaaGreatDoorP03
import Derived.Test.YtdeplgkhmebalaaGreatDoorP02
import Derived.Test.YtdeplgkhmebalaaGreatDoorP12

set_option linter.unusedSimpArgs false
set_option linter.unusedVariables false
set_option maxHeartbeats 1000000
set_option maxRecDepth 100000
namespace Go.Proofs.YtdeplgkhmebalaaGreatDoor
open Go.RowKit

theorem info_su8:(Tryz.prog.info? 5).map (fun i=>(i.zero,i.size,i.bytes))=some (some (.int .u8 0),1,1):=by kernel_rfl
theorem info_su64:(Tryz.prog.info? 38).map (fun i=>(i.zero,i.size,i.bytes))=some (some (.int .u64 0),1,8):=by kernel_rfl
theorem size_u8:(Tryz.prog.info? 5).map (·.size)=some 1:=by kernel_rfl
theorem size_u64:(Tryz.prog.info? 38).map (·.size)=some 1:=by kernel_rfl

theorem Kp.ofGrown {w w':World} (g:w.grownBy w' none):Kp no w w':=(Kp.refl no w).grown g (fun _ e=>by cases e)
theorem Kp.ofBelow {w w':World} (h:Below w.heap.size w w'):Kp no w w':=⟨h.os,h.tape,h.output,h.size,fun k hk _=>h.block k hk⟩
theorem add_cell {W:World} {a o j:Nat} {x:Value} (h:W.cell? ⟨a,o+j,none⟩=some x):W.cell? ((⟨a,o,none⟩:Addr).add j)=some x:=by
 unfold Addr.add
 split
 ·rename_i h0;rw[←h,h0];rfl
 ·exact h
theorem splice_all {cur xs:List Value} (h:xs.length=cur.length):splice cur 0 xs=xs:=by
 unfold splice
 rw[Nat.zero_add,List.take_zero,List.drop_eq_nil_of_le (by omega)]
 simp
theorem Kp.toBelow {w w':World} (h:Kp no w w'):Below w.heap.size w w':=⟨h.os,h.tape,h.output,h.size,fun k hk=>h.block k hk (fun h=>h)⟩

theorem freshB_any {w:World} {v:Value} {n:Nat} {xs:List Value} (h:RowAt w v 1 n xs) (h1: ∀u∈xs,u.oneCell'=true) (hn:n≤1000000):
  Calls Tryz.prog 53 #[v] w fun r w'=>(r= .returned (.slice (some ⟨w.heap.size,0,none⟩) n n)∧w'.ownsRow w.heap.size 5 1 (.slice (some ⟨w.heap.size,0,none⟩) n n) n xs)∧Kp no w w':=by
 obtain⟨i0,hi0,hz0,hz1,hz2⟩:=info_parts info_su8
 have hl:=h.1
 obtain⟨ad,cap,hv,hcap⟩:=h.shape
 subst hv
 have hsrc:0<xs.length→ ∃a,ad=some a∧ ∀W,Kp no w W→ ∀j x,xs[j]? =some x→W.cell? (a.add j)=some x:=by
  intro h0
  obtain⟨-,⟨he,hn0⟩|⟨a,o,c,he,-,hc⟩⟩:=h
  ·omega
  ·cases he
   exact⟨_,rfl,fun W k j x hj=>k.allCells (add_cell (hc j x hj))⟩
 have HSrc:=hide hsrc
 have H1:=hide h1
 have HL:=hide hl
 clear h h1 hl hsrc
 go_enter Tryz.func53,Tryz.ntmps53
 go_wp2_with(refine wpList_make_full _ rfl _ _ 25 rfl w.heap.size 5 i0 (.int .u8 0) 1 Tryz.underlying25 hi0 hz0 hz1 _ _ _ _ n rfl rfl rfl rfl ?c1 ?c2 (Nat.le_refl _) ?_)
 case c1=>rw[hz2];omega
 case c2=>unfold maxLen;omega
 intro w1 hown hgrow
 have k1:=Kp.ofGrown hgrow
 obtain⟨hol,⟨he,-⟩|⟨g,cp,cur,he,hg,hh,-,hmx,hsz,htk⟩⟩:=hown
 ·cases he
 cases he
 have HH:=hide hh
 have K1:=hide k1
 have HS:=hide hsz
 have HMx:=hide hmx
 clear hgrow hol hg hh hsz htk k1 hmx
 go_wp2_with(refine wpList_copy_splice rfl _ _ _ _ rfl 5 Tryz.underlying25 size_u8 _ _ _ _ _ _ rfl rfl w.heap.size 0 cur.toList 5 ?d1 xs ?d2 (fun h0=>⟨rfl,?d3⟩) ?d4 H1.out w.heap.size w K1.out.toBelow (Nat.le_refl _) ?_)
 case d1=>rw[Array.toArray_toList];exact HH.out
 case d2=>have :=HL.out;simp;omega
 case d3=>obtain⟨a,e,f⟩:=HSrc.out h0;exact⟨a,e,f _ K1.out⟩
 case d4=>have :=HL.out;have :=HS.out;simp;omega
 intro w2 HG2 hB2
 go_wp2
 go_ret
 refine⟨⟨rfl,HL.out,.inr ⟨w.heap.size,n,xs.toArray,rfl,Nat.le_refl _,?_,Nat.le_refl _,HMx.out,by have :=HL.out;simpa using this,by have :=HL.out;rw[List.take_of_length_le (by simp;omega)]⟩⟩,Kp.ofBelow hB2⟩
 have e:=HG2.out
 rw[splice_all (by have :=HL.out;have :=HS.out;simp;omega)]at e
 exact e

theorem freshV_any {w:World} {v:Value} {n:Nat} {xs:List Value} (h:RowAt w v 1 n xs) (h1: ∀u∈xs,u.oneCell'=true) (hn:n≤1000000):
  Calls Tryz.prog 52 #[v] w fun r w'=>(r= .returned (.slice (some ⟨w.heap.size,0,none⟩) n n)∧w'.ownsRow w.heap.size 38 1 (.slice (some ⟨w.heap.size,0,none⟩) n n) n xs)∧Kp no w w':=by
 obtain⟨i0,hi0,hz0,hz1,hz2⟩:=info_parts info_su64
 have hl:=h.1
 obtain⟨ad,cap,hv,hcap⟩:=h.shape
 subst hv
 have hsrc:0<xs.length→ ∃a,ad=some a∧ ∀W,Kp no w W→ ∀j x,xs[j]? =some x→W.cell? (a.add j)=some x:=by
  intro h0
  obtain⟨-,⟨he,hn0⟩|⟨a,o,c,he,-,hc⟩⟩:=h
  ·omega
  ·cases he
   exact⟨_,rfl,fun W k j x hj=>k.allCells (add_cell (hc j x hj))⟩
 have HSrc:=hide hsrc
 have H1:=hide h1
 have HL:=hide hl
 clear h h1 hl hsrc
 go_enter Tryz.func52,Tryz.ntmps52
 go_wp2_with(refine wpList_make_full _ rfl _ _ 53 rfl w.heap.size 38 i0 (.int .u64 0) 1 Tryz.underlying53 hi0 hz0 hz1 _ _ _ _ n rfl rfl rfl rfl ?c1 ?c2 (Nat.le_refl _) ?_)
 case c1=>rw[hz2];omega
 case c2=>unfold maxLen;omega
 intro w1 hown hgrow
 have k1:=Kp.ofGrown hgrow
 obtain⟨hol,⟨he,-⟩|⟨g,cp,cur,he,hg,hh,-,hmx,hsz,htk⟩⟩:=hown
 ·cases he
 cases he
 have HH:=hide hh
 have K1:=hide k1
 have HS:=hide hsz
 have HMx:=hide hmx
 clear hgrow hol hg hh hsz htk k1 hmx
 go_wp2_with(refine wpList_copy_splice rfl _ _ _ _ rfl 38 Tryz.underlying53 size_u64 _ _ _ _ _ _ rfl rfl w.heap.size 0 cur.toList 38 ?d1 xs ?d2 (fun h0=>⟨rfl,?d3⟩) ?d4 H1.out w.heap.size w K1.out.toBelow (Nat.le_refl _) ?_)
 case d1=>rw[Array.toArray_toList];exact HH.out
 case d2=>have :=HL.out;simp;omega
 case d3=>obtain⟨a,e,f⟩:=HSrc.out h0;exact⟨a,e,f _ K1.out⟩
 case d4=>have :=HL.out;have :=HS.out;simp;omega
 intro w2 HG2 hB2
 go_wp2
 go_ret
 refine⟨⟨rfl,HL.out,.inr ⟨w.heap.size,n,xs.toArray,rfl,Nat.le_refl _,?_,Nat.le_refl _,HMx.out,by have :=HL.out;simpa using this,by have :=HL.out;rw[List.take_of_length_le (by simp;omega)]⟩⟩,Kp.ofBelow hB2⟩
 have e:=HG2.out
 rw[splice_all (by have :=HL.out;have :=HS.out;simp;omega)]at e
 exact e

end Go.Proofs.YtdeplgkhmebalaaGreatDoor

set_option linter.unusedSimpArgs false
set_option linter.unusedVariables false
set_option maxHeartbeats 1000000
set_option maxRecDepth 100000
namespace Go.Proofs.YtdeplgkhmebalaaGreatDoor
open Go.RowKit

theorem sameBytes_any {w:World} {va vb:Value} {a b:List UInt8} (ha:BytesAt w va a) (hb:BytesAt w vb b) (hla:a.length≤1000000000):
  Calls Tryz.prog 88 #[va,vb] w fun r w'=>r= .returned (.bool (decide (a=b)))∧Kp no w w':=by
 obtain⟨ada,capa,rfl,hca⟩:=ha.shape
 obtain⟨adb,capb,rfl,hcb⟩:=hb.shape
 have HA:=hide ha
 have HB:=hide hb
 clear ha hb
 by_cases hl:a.length=b.length
 ·have hlb:(((a.length:Nat):Int) !=((b.length:Nat):Int))=false:=by simp;omega
  go_enter Tryz.func88,Tryz.ntmps88
  have Hl:=hide hl
  clear hl
  go_wp2
  go_loopw [5] (fun i wr=> ∃(k:Nat),k≤a.length∧i= .int .i64 k∧(∀j,j<k→a.getD j 0=b.getD j 0)∧Kp no w wr) (fun i _=>a.length - (intOf i).toNat)
  case atStart=>exact⟨0,by omega,rfl,fun j hj=>by omega,Kp.refl _ _⟩
  case round=>
   obtain⟨k,hk,rfl,hall,hkp⟩:=hrel
   have HK:=hide hkp
   clear hkp
   have HL:=hide hall
   clear hall
   by_cases hlt:k<a.length
   ·obtain⟨a1,o1,c1,hv1,_,hcell1⟩:=BytesAt.get HA.out hlt
    obtain⟨a2,o2,c2,hv2,_,hcell2⟩:=BytesAt.get HB.out (show k<b.length by rw[←Hl.out];exact hlt)
    simp only[Value.slice.injEq]at hv1 hv2
    obtain⟨rfl,-,rfl⟩:=hv1
    obtain⟨rfl,-,rfl⟩:=hv2
    replace hcell1:=HK.out.allCells hcell1
    replace hcell2:=HK.out.allCells hcell2
    have hkb:k<b.length:=by rw[←Hl.out];exact hlt
    have hne:=Rf.u8_ne (a.getD k 0) (b.getD k 0)
    generalize hx:a.getD k 0=x at *
    generalize hy:b.getD k 0=y at *
    have HX:=hide hx
    have HY:=hide hy
    clear hx hy
    by_cases hxy:x=y
    ·rw[show(!(x==y))=false by simpa using hxy]at hne
     have Hxy:=hide hxy
     clear hxy
     go_wp2
     go_quiet(fail)
     go_wp2
     go_roundw
     case rel=>
      refine⟨k+1,by omega,by go_num,fun j hj=> ?_,HK.out.drewN _⟩
      rcases Nat.lt_or_ge j k with h1|h1
      ·exact HL.out j h1
      ·obtain rfl :j=k:=by omega
       rw[HX.out,HY.out,Hxy.out]
     case measure=>simp[intOf];omega
    ·rw[show(!(x==y))=true by simpa using hxy]at hne
     have Hxy:=hide hxy
     clear hxy
     go_wp2
     go_quiet(fail)
     go_wp2
     go_ret
     refine⟨ret_bool ?_,HK.out.drewN _⟩
     symm
     rw[decide_eq_false_iff_not]
     intro hab
     exact Hxy.out (by rw[←HX.out,←HY.out,hab])
   ·go_wp2
    go_ret
    refine⟨ret_bool ?_,HK.out⟩
    symm
    rw[decide_eq_true_iff,Rf.list_eq_iff Hl.out]
    intro j hj
    exact HL.out j (by omega)
 ·have hlb:(((a.length:Nat):Int) !=((b.length:Nat):Int))=true:=by simp;omega
  go_enter Tryz.func88,Tryz.ntmps88
  have Hl:=hide hl
  clear hl
  go_wp2
  go_ret
  refine⟨ret_bool ?_,Kp.refl _ _⟩
  symm
  rw[decide_eq_false_iff_not]
  rintro rfl
  exact Hl.out rfl

theorem fullBytes_any {w:World} {v:Value} {n:Nat} {m:UInt8} (h:BytesAt w v (List.replicate n m)) (hn:n≤1000000000):
  Calls Tryz.prog 64 #[v,.int .u8 m.toNat] w fun r w'=>r= .returned (.bool true)∧Kp no w w':=by
 obtain⟨ad,cap,rfl,hcap⟩:=h.shape
 rw[List.length_replicate]at hcap
 have H:=hide h
 clear h
 rw[List.length_replicate]at *
 go_enter Tryz.func64,Tryz.ntmps64
 go_wp2
 go_loopw [5] (fun i wr=> ∃(k:Nat),k≤n∧i= .int .i64 k∧Kp no w wr) (fun i _=>n - (intOf i).toNat)
 case atStart=>exact⟨0,by omega,rfl,Kp.refl _ _⟩
 case round=>
  obtain⟨k,hk,rfl,hkp⟩:=hrel
  have HK:=hide hkp
  clear hkp
  by_cases hlt:k<n
  ·obtain⟨a1,o1,c1,hv1,_,hcell1⟩:=BytesAt.get H.out (show k<(List.replicate n m).length by rw[List.length_replicate];exact hlt)
   simp only[Value.slice.injEq]at hv1
   obtain⟨rfl,-,rfl⟩:=hv1
   replace hcell1:=HK.out.allCells hcell1
   rw[show(List.replicate n m).getD k 0=m by rw[List.getD_eq_getElem?_getD,List.getElem?_replicate,if_pos hlt];rfl]at hcell1
   go_wp2
   go_roundw
   case rel=>exact⟨k+1,by omega,by go_num,HK.out⟩
   case measure=>simp[intOf];omega
  ·go_wp2
   go_ret
   exact⟨rfl,HK.out⟩

theorem pick_any (w:World) {c:Int} (h1: -9223372036854775808≤c) (h2:c≤9223372036854775807) {n:Nat} (hn:0<n) (hn2:n≤1000):
  Calls Tryz.prog 58 #[.int .i64 c,.int .i64 n] w fun r w'=>(∃k:Nat,k<n∧r= .returned (.int .i64 k))∧w'=w:=by
 have hq: ∀d:Int,0≤d→ ∃k:Nat,k<n∧Int.tmod d n=k:=fun d hd=>by
  obtain⟨e,rfl⟩:=Int.eq_ofNat_of_zero_le hd
  exact⟨e%n,Nat.mod_lt _ hn,by rw[Int.tmod_eq_emod_of_nonneg (by omega)];rfl⟩
 have HQ:=hide hq
 clear hq
 by_cases hc:c<0
 ·have hw1:wrap64 (c+1)=c+1:=by unfold wrap64;omega
  have hw2:wrap64 (-(c+1))= -(c+1):=by unfold wrap64;omega
  obtain⟨k,hk,hm⟩:=HQ.out (-(c+1)) (by omega)
  have hw3:wrap64 (k:Int)=k:=by unfold wrap64;omega
  have hnz:((n:Int)==0)=false:=by simp;omega
  go_enter Tryz.func58,Tryz.ntmps58
  go_wp2
  go_ret
  exact⟨⟨k,hk,rfl⟩,rfl⟩
 ·obtain⟨k,hk,hm⟩:=HQ.out c (by omega)
  have hw3:wrap64 (k:Int)=k:=by unfold wrap64;omega
  have hnz:((n:Int)==0)=false:=by simp;omega
  go_enter Tryz.func58,Tryz.ntmps58
  go_wp2
  go_ret
  exact⟨⟨k,hk,rfl⟩,rfl⟩

abbrev lentL (l:List UInt8):List UInt8:=l++[77,0]
theorem lent_any {w:World} {v:Value} {l:List UInt8} (h:Rf.BytesOk w v l) (hn:l.length≤2000000):
  Calls Tryz.prog 85 #[v] w fun r w'=>(r= .returned (.slice (some ⟨w.heap.size,0,none⟩) (l.length+2) (l.length+2))∧ ∃cur:Array Value,w'.heap[w.heap.size]? =some (.cells cur 5)∧cur.toList=Rf.byteVals (lentL l))∧Kp no w w':=by
 obtain⟨i0,hi0,hz0,hz1,hz2⟩:=info_parts info_su8
 obtain⟨ad,cap,hv,hcap⟩:=h.shape
 subst hv
 have hsrc:0<(Rf.byteVals l).length→ ∃a,ad=some a∧ ∀W,Kp no w W→ ∀j x,(Rf.byteVals l)[j]? =some x→W.cell? (a.add j)=some x:=by
  intro h0
  obtain⟨-,⟨he,hn0⟩|⟨a,o,c,he,-,hc⟩⟩:=h.2 (fun e=>by rw[e]at h0;exact absurd h0 (Nat.not_lt_zero _))
  ·simp at h0;omega
  ·cases he
   exact⟨_,rfl,fun W k j x hj=>k.allCells (add_cell (hc j x hj))⟩
 have HSrc:=hide hsrc
 have hbl:(Rf.byteVals l).length=l.length:=by simp
 have HL:=hide hbl
 clear h hsrc hbl
 have hwr:wrap64 ((l.length:Int)+2)=((l.length+2:Nat):Int):=by unfold wrap64;omega
 go_enter Tryz.func85,Tryz.ntmps85
 go_wp2_with(refine wpList_make_full _ rfl _ _ 25 rfl w.heap.size 5 i0 (.int .u8 0) 1 Tryz.underlying25 hi0 hz0 hz1 _ _ _ _ (l.length+2) rfl rfl rfl rfl ?c1 ?c2 (Nat.le_refl _) ?_)
 case c1=>rw[hz2];omega
 case c2=>unfold maxLen;omega
 intro w1 hown hgrow
 have k1:=Kp.ofGrown hgrow
 obtain⟨hol,⟨he,-⟩|⟨g,cp,cur,he,hg,hh,-,hmx,hsz,htk⟩⟩:=hown
 ·cases he
 cases he
 have HH:=hide hh
 have K1:=hide k1
 have HS:=hide hsz
 rw[Nat.mul_one,List.take_of_length_le (by have :cur.toList.length=(l.length+2)*1:=(by simpa using hsz);omega)]at htk
 have HTk:=hide htk
 clear hgrow hol hg hh hsz htk k1 hmx
 go_wp2_with(refine wpList_copy_splice rfl _ _ _ _ rfl 5 Tryz.underlying25 size_u8 _ _ _ _ _ _ rfl rfl w.heap.size 0 cur.toList 5 ?d1 (Rf.byteVals l) ?d2 (fun h0=>⟨rfl,?d3⟩) ?d4 (bytes_oneCell _) w.heap.size w K1.out.toBelow (Nat.le_refl _) ?_)
 case d1=>rw[Array.toArray_toList];exact HH.out
 case d2=>have :=HL.out;simp
 case d3=>obtain⟨a,e,f⟩:=HSrc.out h0;exact⟨a,e,f _ K1.out⟩
 case d4=>have :=HL.out;have :=HS.out;simp;omega
 intro w2 HG2 hB2
 have hsp:splice cur.toList 0 (Rf.byteVals l)=Rf.byteVals (l++[0,0]):=by
  unfold splice
  rw[HTk.out,toList_madeCells_one,List.take_zero,List.nil_append,Nat.zero_add,HL.out]
  rw[List.drop_replicate,Nat.add_sub_cancel_left]
  simp[Rf.byteVals,List.replicate_succ]
 have hblk:w2.heap[w.heap.size]? =some (.cells (Rf.byteVals (l++[0,0])).toArray 5):=by
  have :=HG2.out
  rw[hsp]at this
  exact this
 obtain⟨hc2,hf2⟩:=cells_of hblk
 have hx:(Rf.byteVals (l++[0,0])).toArray[l.length]? =some (.int .u8 0):=by simp
 have HBk:=hide hblk
 have HB2:=hide (Kp.ofBelow hB2)
 clear hblk hB2 HG2 hsp
 go_wp2_with fail
 go_ret
 refine⟨⟨rfl,_,heap_setCell HBk.out _,?_⟩,HB2.out.setNew (Nat.le_refl _) _ _⟩
 rw[Array.toList_setIfInBounds]
 simp[List.set_append]

theorem back_any {w:World} {g:Nat} {wv:Value} {l:List UInt8} (hn:l.length≤2000000) {cur:Array Value} (hg:w.heap[g]? =some (.cells cur 5)) (hcur:cur.toList=Rf.byteVals (lentL l)) (hw:Rf.BytesOk w wv l) (hne:Rf.bvB wv l≠some g):
  Calls Tryz.prog 86 #[.slice (some ⟨g,0,none⟩) (l.length+2) (l.length+2),wv] w fun r w'=>r= .returned (.bool true)∧Kp (one g) w w':=by
 obtain⟨ad,cap,rfl,hcap⟩:=hw.shape
 have hget: ∀q,cur[q]? =(Rf.byteVals (lentL l))[q]? :=fun q=>by rw[←hcur,Array.getElem?_toList]
 have e1:cur[l.length]? =some (.int .u8 77):=by rw[hget];simp
 have e2:cur[l.length+1]? =some (.int .u8 0):=by rw[hget];simp
 obtain⟨hc,-⟩:=cells_of hg
 have hwr:wrap64 ((l.length:Int)+1)=((l.length+1:Nat):Int):=by unfold wrap64;omega
 have HG:=hide hg
 have HGet:=hide hget
 have HW:=hide hw
 have HN:=hide hne
 have hsz:cur.size=l.length+2:=by
  have :=congrArg List.length hcur
  simpa using this
 have HSz:=hide hsz
 have h77:w.cell? ⟨g,l.length,none⟩=some (.int .u8 77):=by rw[hc];exact e1
 have h0:w.cell? ⟨g,l.length+1,none⟩=some (.int .u8 0):=by rw[hc];exact e2
 clear hg hget hw hcur hne hsz hc e1 e2
 go_enter Tryz.func86,Tryz.ntmps86
 go_wp2
 go_loopw [6,7] (fun o i wr=> ∃(k:Nat) (c:Array Value),k≤l.length∧o= .bool true∧i= .int .i64 k∧wr.heap[g]? =some (.cells c 5)∧c.size=l.length+2∧(∀q,k≤q→c[q]? =cur[q]?)∧Kp (one g) w wr) (fun _ i _=>l.length - (intOf i).toNat)
 case atStart=>exact⟨0,cur,by omega,rfl,rfl,HG.out,HSz.out,fun _ _=>rfl,Kp.refl _ _⟩
 case round=>
  obtain⟨k,c,hk,rfl,rfl,hgc,hcs,hrest,hkp⟩:=hrel
  have HK:=hide hkp
  have HR:=hide hrest
  have HGc:=hide hgc
  have HCs:=hide hcs
  clear hkp hrest hgc hcs h77 h0
  by_cases hlt:k<l.length
  ·obtain⟨a1,o1,c1,hv1,_,hcell1⟩:=Rf.BytesOk.get HW.out hlt
   simp only[Value.slice.injEq]at hv1
   obtain⟨rfl,-,rfl⟩:=hv1
   replace hcell1:=HK.out.cell hcell1 (fun e=>HN.out (by unfold Rf.bvB;rw[if_neg (fun e=>by rw[e]at hlt;exact absurd hlt (Nat.not_lt_zero _)),show g=a1 from e.symm];rfl))
   have hck:c[k]? =some (.int .u8 (l.getD k 0).toNat):=by
    rw[HR.out k (Nat.le_refl _),HGet.out]
    rw[List.getElem?_map,List.getElem?_append_left hlt,List.getElem?_eq_getElem hlt,List.getD_eq_getElem?_getD,List.getElem?_eq_getElem hlt]
    rfl
   obtain⟨hcc,hfc⟩:=cells_of HGc.out
   have hcell2:wr.cell? ⟨g,k,none⟩=some (.int .u8 (l.getD k 0).toNat):=by rw[hcc];exact hck
   have hfr2:=hfc k
   clear hck hcc hfc
   go_wp2
   go_quiet(fail)
   go_wp2
   go_roundw
   case rel=>
    refine⟨k+1,_,by omega,by simp,by go_num,heap_setCell (by exact HGc.out) _,by have :=HCs.out;simp;omega,fun q hq=> ?_,(HK.out.drewN _).set1 _ _⟩
    rw[Array.getElem?_setIfInBounds_ne (by omega)]
    exact HR.out q (by omega)
   case measure=>simp[intOf];omega
  ·go_wp2
   go_ret
   exact⟨rfl,HK.out⟩
end Go.Proofs.YtdeplgkhmebalaaGreatDoor

set_option linter.unusedSimpArgs false
set_option linter.unusedVariables false
set_option maxHeartbeats 1000000
set_option maxRecDepth 100000
namespace Go.Proofs.YtdeplgkhmebalaaGreatDoor
open Go.RowKit

def bcs (l:List UInt8):List Value:=l.map fun c=> .int .u8 c.toNat
def NB (w w':World) (v:Value) (l:List UInt8):Prop:=w'.ownsRow w.heap.size 5 1 v l.length (bcs l)
theorem NB.at {w w':World} {v:Value} {l:List UInt8} (h:NB w w' v l):BytesAt w' v l:=RowAt.own h
theorem NB.kp {w w' w'':World} {v:Value} {l:List UInt8} (h:NB w w' v l) (k:Kp no w' w''):NB w w'' v l:=k.own h (fun _ _ h=>h)
theorem NB.lt {w w':World} {v:Value} {l:List UInt8} (h:NB w w' v l): ∀b,v.ownBlock=some b→b<w'.heap.size:=fun b hb=>(World.ownsRow.lt h b hb).2
theorem bcsLen (l:List UInt8):(bcs l).length=l.length:=by simp[bcs]
theorem bcsApp (l m:List UInt8):bcs (l++m)=bcs l++bcs m:=by simp[bcs]

def pickM (c:Int) (n:Nat):Nat:=(if c<0 then (-(c+1)).toNat else c.toNat)%n

theorem pickK_any (w:World) (c:Int) (n:Nat) (hc1: -9223372036854775808≤c) (hc2:c<9223372036854775808) (hn0:0<n) (hn:n<9223372036854775808):
  Calls Tryz.prog 23 #[.int .i64 c,.int .i64 n] w fun r w'=>r= .returned (.int .i64 (pickM c n))∧w'=w:=by
 have hP:pickM c n=(if c<0 then (-(c+1)).toNat else c.toNat)%n:=rfl
 generalize pickM c n=R at *
 by_cases h0:c<0
 ·rw[if_pos h0]at hP
  obtain⟨d,hd⟩: ∃d:Nat,(d:Int)= -(c+1):=⟨(-(c+1)).toNat,by omega⟩
  rw[←hd]at hP
  have hw:IntKind.i64.wrap (c+1)=c+1:=by rw[IntKind.wrap_i64];omega
  have hw2:IntKind.i64.wrap (-(c+1))=(d:Int):=by rw[IntKind.wrap_i64];omega
  have hw3:IntKind.i64.wrap (Int.tmod (d:Int) (n:Int))=((d%n:Nat):Int):=by
   rw[←Int.ofNat_tmod,IntKind.wrap_i64];have :=Nat.mod_lt d hn0;omega
  have hne:((n:Int)==0)=false:=by simp;omega
  have HP:=hide hP
  clear hP hd
  go_enter Tryz.func23,Tryz.ntmps23
  go_wp2
  go_ret
  rw[HP.out]
  simp
 ·rw[if_neg h0]at hP
  obtain⟨d,hd⟩: ∃d:Nat,c=(d:Int):=⟨c.toNat,by omega⟩
  subst hd
  have hw3:IntKind.i64.wrap (Int.tmod (d:Int) (n:Int))=((d%n:Nat):Int):=by
   rw[←Int.ofNat_tmod,IntKind.wrap_i64];have :=Nat.mod_lt d hn0;omega
  have hne:((n:Int)==0)=false:=by simp;omega
  have HP:=hide hP
  clear hP
  go_enter Tryz.func23,Tryz.ntmps23
  go_wp2
  go_ret
  rw[HP.out]
  simp

def uF:Nat→Nat→List UInt8
 |0,n=>[UInt8.ofNat n]
 |k+1,n=>if n<128 then [UInt8.ofNat n]else UInt8.ofNat (n%128+128)::uF k (n/128)
def uB (n:Nat):List UInt8:=uF 10 n

theorem uK_any (w:World) (n:Nat) (hn:n<9223372036854775808):
  Calls Tryz.prog 45 #[.int .i64 n] w fun r w'=>(∃v,r= .returned v∧NB w w' v (uB n))∧Kp no w w':=by
 obtain⟨i0,hi0,hz0,hz1,hz2⟩:=info_parts info_su8
 have hp:n<128^11:=by omega
 have HP:=hide hp
 clear hp
 go_enter Tryz.func45,Tryz.ntmps45
 go_wp2
 go_loopg [0,3] 10 (fun k nv lv wr=> ∃(m:Nat) (l:List UInt8),nv= .int .i64 m∧m<9223372036854775808∧m<128^(k+1)∧l.length+k≤10∧NB w wr lv l∧Kp no w wr∧l++uF k m=uB n)
 case atStart=>exact⟨n,[],rfl,hn,HP.out,by simp,⟨rfl,.inl ⟨rfl,rfl⟩⟩,Kp.refl _ _,rfl⟩
 case round=>
  obtain⟨m,l,rfl,hm,hmk,hlk,hown,hkp,hl⟩:=hrel
  obtain⟨adl,capl,rfl⟩:=own_shape hown
  have HO:=hide hown
  have HK:=hide hkp
  have HL:=hide hl
  have hszr:=hkp.size
  clear hown hkp hl
  by_cases h128:m<128
  ·have hwc:IntKind.u8.wrap (m:Int)=((UInt8.ofNat m).toNat:Int):=by rw[IntKind.wrap_u8,UInt8.toNat_ofNat'];omega
   go_wp2_with(at_builtin;refine wpList_append_row _ rfl _ _ 25 rfl w.heap.size 5 i0 (.int .u8 0) 1 1 Tryz.underlying25 hi0 hz0 hz1 hz2 rfl (by decide) _ _ _ rfl (HO.out.alloc _) _ 1 [.int .u8 (UInt8.ofNat m).toNat] rfl (RowAt.new _ _ _) (one_oneCell rfl) ?c3 ?c4 ?c5 ?_)
   case c3=>unfold maxLen;omega
   case c4=>omega
   case c5=>simp;omega
   intro v3 w3 hown3 hgrow3
   have HO3:=hide hown3
   have HK3:=hide ((HK.out.alloc _).grown hgrow3 (fun b hb=> .inr (own_new HO.out b hb)))
   clear hown3 hgrow3
   go_wp2
   go_ret
   refine⟨⟨v3,rfl,?_⟩,HK3.out⟩
   rw[←HL.out]
   have e:uF gk m=[UInt8.ofNat m]:=by
    cases gk with
    |zero=>rfl
    |succ k=>rw[uF,if_pos h128]
   unfold NB
   rw[e,bcsApp,List.length_append]
   exact HO3.out
  ·cases gk with
   |zero=>exfalso;simp at hmk;omega
   |succ k=>
    have hl:=HL.out
    rw[uF,if_neg h128]at hl
    have HL2:=hide hl
    have hwa:IntKind.i64.wrap (Int.tmod (m:Int) 128)=((m%128:Nat):Int):=by
     rw[show Int.tmod (m:Int) 128=((m%128:Nat):Int)from(Int.ofNat_tmod m 128).symm,IntKind.wrap_i64];omega
    have hwb:IntKind.i64.wrap (((m%128:Nat):Int)+128)=((m%128+128:Nat):Int):=by rw[IntKind.wrap_i64];omega
    have hwc:IntKind.u8.wrap ((m%128+128:Nat):Int)=((UInt8.ofNat (m%128+128)).toNat:Int):=by rw[IntKind.wrap_u8,UInt8.toNat_ofNat'];omega
    have hwd:IntKind.i64.wrap (Int.tdiv (m:Int) 128)=((m/128:Nat):Int):=by
     rw[show Int.tdiv (m:Int) 128=((m/128:Nat):Int)from(Int.ofNat_tdiv m 128).symm,IntKind.wrap_i64];omega
    have hmk':m/128<128^(k+1):=by
     rw[Nat.div_lt_iff_lt_mul (by decide)];rw[Nat.pow_succ]at hmk;exact hmk
    have HMk:=hide hmk'
    clear hl hmk hmk'
    go_wp2_with(at_builtin;refine wpList_append_row _ rfl _ _ 25 rfl w.heap.size 5 i0 (.int .u8 0) 1 1 Tryz.underlying25 hi0 hz0 hz1 hz2 rfl (by decide) _ _ _ rfl (HO.out.alloc _) _ 1 _ rfl (RowAt.new _ _ _) (one_oneCell rfl) ?c6 ?c7 ?c8 ?_)
    case c6=>unfold maxLen;omega
    case c7=>omega
    case c8=>simp;omega
    intro v3 w3 hown3 hgrow3
    obtain⟨ad3,cap3,rfl⟩:=own_shape hown3
    have HK3:=hide ((HK.out.alloc _).grown hgrow3 (fun b hb=> .inr (own_new HO.out b hb)))
    have HO3:Hid (NB w w3 (.slice ad3 (l.length+1) cap3) (l++[UInt8.ofNat (m%128+128)])):=by
     refine hide ?_
     unfold NB
     rw[bcsApp,List.length_append]
     refine Eq.mp ?_ hown3
     congr 3
     simp[UInt8.toNat_ofNat']
     omega
    clear hown3 hgrow3
    go_wp2
    go_roundg k
    case rel=>exact⟨m/128,l++[UInt8.ofNat (m%128+128)],by simp,by omega,HMk.out,by simp;omega,HO3.out,HK3.out,by rw[List.append_assoc];exact HL2.out⟩
    case measure=>omega

theorem NB.made (w:World) (cs:List UInt8) (h:cs.length≤maxLen):NB w (w.alloc (.cells (bcs cs).toArray 5)) (.slice (some ⟨w.heap.size,0,none⟩) cs.length cs.length) cs:=
 ⟨by simp[bcs],.inr ⟨w.heap.size,cs.length,(bcs cs).toArray,rfl,Nat.le_refl _,heap_alloc_new _ _,Nat.le_refl _,h,by simp[bcs],by rw[Nat.mul_one];exact List.take_of_length_le (by simp[bcs])⟩⟩

theorem oneK_any (w:World) (t:UInt8):Calls Tryz.prog 17 #[.int .u8 t.toNat] w fun r w'=>(∃v,r= .returned v∧NB w w' v [t])∧Kp no w w':=by
 go_enter Tryz.func17,Tryz.ntmps17
 go_wp2
 go_ret
 exact⟨⟨_,rfl,NB.made w [t] (by simp[maxLen])⟩,(Kp.refl _ _).alloc _⟩
theorem twoK_any (w:World) (t:UInt8):Calls Tryz.prog 25 #[.int .u8 t.toNat] w fun r w'=>(∃v,r= .returned v∧NB w w' v [t,t])∧Kp no w w':=by
 go_enter Tryz.func25,Tryz.ntmps25
 go_wp2
 go_ret
 exact⟨⟨_,rfl,NB.made w [t,t] (by simp[maxLen])⟩,(Kp.refl _ _).alloc _⟩

def ListsAt (w:World) (v:Value) (ls:List (List UInt8)):Prop:=
 ∃vs,RowAt w v 1 ls.length vs∧ ∀k,k<ls.length→ ∃x,vs[k]? =some x∧BytesAt w x (ls.getD k [])
theorem ListsAt.kp {w w':World} {v:Value} {ls:List (List UInt8)} (h:ListsAt w v ls) (k:Kp no w w'):ListsAt w' v ls:=by
 obtain⟨vs,h1,h2⟩:=h
 refine⟨vs,h1.kp k (fun _ _ h=>h),fun j hj=> ?_⟩
 obtain⟨x,h3,h4⟩:=h2 j hj
 exact⟨x,h3,RowAt.kp h4 k (fun _ _ h=>h)⟩
theorem ListsAt.get {w:World} {v:Value} {ls:List (List UInt8)} (h:ListsAt w v ls) {k:Nat} (hk:k<ls.length):
  ∃a o cap ad c,v= .slice (some ⟨a,o,none⟩) ls.length cap∧ls.length≤cap∧w.cell? ⟨a,o+k,none⟩=some (.slice ad (ls.getD k []).length c)∧BytesAt w (.slice ad (ls.getD k []).length c) (ls.getD k []):=by
 obtain⟨vs,h1,h2⟩:=h
 obtain⟨x,hx,hb⟩:=h2 k hk
 obtain⟨ad,c,rfl,-⟩:=hb.shape
 obtain⟨a,o,cap,hv,hc,hcell⟩:=h1.get hx
 exact⟨a,o,cap,ad,c,hv,hc,hcell,hb⟩
theorem flatten_take {ls:List (List UInt8)} {k:Nat} (hk:k<ls.length):(ls.take (k+1)).flatten=(ls.take k).flatten++ls.getD k []:=by
 rw[List.take_add_one,List.flatten_append,List.getElem?_eq_getElem hk]
 simp[List.getD,List.getElem?_eq_getElem hk]
theorem flatten_le (ls:List (List UInt8)) (k:Nat):(ls.take k).flatten.length≤ls.flatten.length:=by
 conv =>rhs;rw[←List.take_append_drop k ls,List.flatten_append,List.length_append]
 omega

theorem joinK_any {w:World} {v:Value} {ls:List (List UInt8)} (h:ListsAt w v ls) (hl:ls.length≤1000) (ht:ls.flatten.length≤1000000000):
  Calls Tryz.prog 18 #[v] w fun r w'=>(∃v,r= .returned v∧NB w w' v ls.flatten)∧Kp no w w':=by
 obtain⟨i0,hi0,hz0,hz1,hz2⟩:=info_parts info_su8
 obtain⟨ad,cap,rfl,hcap⟩: ∃ad cap,v= .slice ad ls.length cap∧ls.length≤cap:=by
  obtain⟨vs,h1,-⟩:=h
  exact h1.shape
 have H:=hide h
 have HT:=hide ht
 clear h ht
 go_enter Tryz.func18,Tryz.ntmps18
 go_wp2
 go_loopw [3,4] (fun lv kv wr=> ∃(k:Nat),k≤ls.length∧kv= .int .i64 k∧NB w wr lv (ls.take k).flatten∧Kp no w wr) (fun _ kv _=>ls.length - (intOf kv).toNat)
 case atStart=>exact⟨0,by omega,rfl,⟨rfl,.inl ⟨rfl,rfl⟩⟩,Kp.refl _ _⟩
 case round=>
  obtain⟨k,hk,rfl,hown,hkp⟩:=hrel
  obtain⟨adl,capl,rfl⟩:=own_shape hown
  have HO:=hide hown
  have HK:=hide hkp
  have hszr:=hkp.size
  clear hown hkp
  by_cases hkn:k<ls.length
  ·obtain⟨a,o,cp,ax,c,he,-,hcell,hb⟩:=(H.out.kp HK.out).get hkn
   cases he
   have hfl:=flatten_take hkn
   have hle:(ls.take k).flatten.length+(ls.getD k []).length≤1000000000:=by
    rw[←List.length_append,←hfl]
    exact Nat.le_trans (flatten_le ls _) HT.out
   generalize hlk:ls.getD k []=lk at *
   have HFl:=hide hfl
   have HB:=hide hb
   clear hfl hb hlk
   generalize hP:(ls.take k).flatten=P at *
   clear hP
   go_wp2_with(at_builtin;refine wpList_append_row _ rfl _ _ 25 rfl w.heap.size 5 i0 (.int .u8 0) 1 1 Tryz.underlying25 hi0 hz0 hz1 hz2 rfl (by decide) _ _ _ rfl HO.out _ _ _ rfl HB.out (bytes_oneCell lk) ?c6 ?c7 ?c8 ?_)
   case c6=>unfold maxLen;omega
   case c7=>omega
   case c8=>omega
   intro v3 w3 hown3 hgrow3
   obtain⟨ad3,cap3,rfl⟩:=own_shape hown3
   have HK3:=hide (HK.out.grown hgrow3 (fun b hb=> .inr (own_new HO.out b hb)))
   have HO3:Hid (NB w w3 (.slice ad3 (P.length+lk.length) cap3) (ls.take (k+1)).flatten):=by
    refine hide ?_
    rw[HFl.out]
    unfold NB
    rw[bcsApp,List.length_append]
    exact hown3
   clear hown3 hgrow3
   go_wp2
   go_roundw
   case rel=>exact⟨k+1,by omega,by go_num,HO3.out,HK3.out⟩
   case measure=>simp[intOf];omega
  ·obtain rfl :k=ls.length:=by omega
   go_wp2
   go_ret
   have e:(ls.take ls.length).flatten=ls.flatten:=by rw[List.take_length]
   rw[e]at HO
   rw[List.take_length]
   exact⟨⟨_,rfl,HO.out⟩,HK.out⟩
end Go.Proofs.YtdeplgkhmebalaaGreatDoor
