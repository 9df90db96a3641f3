/- The document's reader: the parts of a block. -/
import Derived.Test.YtdeplgkhmebalaaGreatDoorP09

set_option linter.unusedSimpArgs false
set_option linter.unusedVariables false
namespace Go.Proofs.YtdeplgkhmebalaaGreatDoor.Rf
open Go.RowKit

theorem info_bytes:(Tryz.prog.info? 25).map (fun i=>(i.zero,i.size,i.bytes))=some (some (.slice none 0 0),1,24):=by kernel_rfl
theorem info_bytes': ∃i,Tryz.prog.info? 25=some i∧i.zero=some (.slice none 0 0)∧i.size=1∧i.bytes=24:=info_parts info_bytes

structure BlkPre (w:World) (pb:Nat) (E:PE) (G:Env) (labels:List (List UInt8)) (result:List UInt8) (lv rv:Value):Prop where
 env:EnvAt w pb E G
 lab:LabelsAt w pb lv labels
 labLL: ∀l∈labels,l.length≤1000
 res:BytesAt w rv result
 resS:Sep pb rv
 resL:result.length≤1000
 d0:0≤E.d
 d16:E.d≤16
 dl:(labels.length:Int)=E.d+1

theorem BlkPre.kp {w w':World} {pb:Nat} {E:PE} {G:Env} {labels:List (List UInt8)} {result:List UInt8} {lv rv:Value} (h:BlkPre w pb E G labels result lv rv) (k:Kp (one pb) w w'):BlkPre w' pb E G labels result lv rv:=
 ⟨h.env.kp k,h.lab.kp k,h.labLL,h.res.one h.resS k,h.resS,h.resL,h.d0,h.d16,h.dl⟩

def BlockOK (n:Nat):Prop:= ∀(w:World) (pb:Nat) (E:PE) (G:Env) (labels:List (List UInt8)) (result:List UInt8) (lv rv:Value) (other:Bool) (σ:PS) (f:Nat),
 BlkPre w pb E G labels result lv rv→PSt w pb E σ→E.left σ≤n→E.left σ<f→
 Calls Tryz.prog 161 #[ptr pb,rv,lv,.bool other] w fun r w'=> ∃ad len cap,r= .returned (.tuple #[.slice ad len cap,.bool (blk G f E labels result other [] false σ).1])∧PSt w' pb E (blk G f E labels result other [] false σ).2∧Kp (one pb) w w'

abbrev PE.deeper (E:PE) (d:Int):PE:={E with d:=d}

theorem PSt.deep {w w':World} {pb:Nat} {E:PE} {σ:PS} (h:PSt w pb E σ) (d:Int) (k:Kp (one pb) w w') (hb: ∀i e p,w.heap[pb]? =some (E.obj i e p)→w'.heap[pb]? =some ((E.deeper d).obj i e p)):PSt w' pb (E.deeper d) σ:=
 ⟨fun i hi=>⟨(h.ok i hi).1,hb _ _ _ (h.ok i hi).2⟩,fun e a he=>by
  obtain⟨h0,i,hi,hbb⟩:=h.bad e a he
  exact⟨h0,i,hi,hb _ _ _ hbb⟩,h.bytes.kp k (fun b hb e=>by have :=h.low b hb;unfold one at e;omega),h.low,h.len,h.en⟩
theorem EnvAt.deep {w:World} {pb:Nat} {E:PE} {G:Env} (h:EnvAt w pb E G) (d:Int):EnvAt w pb (E.deeper d) G:=⟨h.loc,h.locS,h.mod,h.locL,h.funL,h.funLL,h.gloL⟩
theorem left_deep (E:PE) (d:Int) (σ:PS):(E.deeper d).left σ=E.left σ:=by cases σ<;>rfl

theorem LabelsAt.snoc {w:World} {pb base:Nat} {v rv:Value} {e:TypeId} {labels:List (List UInt8)} {r:List UInt8} {cells:List Value} (hcl: ∀(k:Nat) (l:List UInt8),labels[k]? =some l→ ∃x,cells[k]? =some x∧BytesAt w x l∧Sep pb x) (hlen:cells.length=labels.length)
  (ho:w.ownsRow base e 1 v (labels.length+1) (cells++[rv])) (hb:pb<base) (hr:BytesAt w rv r) (hrs:Sep pb rv):LabelsAt w pb v (labels++[r]):=by
 refine⟨fun b hb'=>by have :=own_new ho b hb';omega,cells++[rv],by simpa using RowAt.own ho,fun k l hk=> ?_⟩
 rcases Nat.lt_or_ge k labels.length with h1|h1
 ·rw[List.getElem?_append_left h1]at hk
  obtain⟨x,h2,h3,h4⟩:=hcl k l hk
  exact⟨x,by rw[List.getElem?_append_left (by omega)];exact h2,h3,h4⟩
 ·rw[List.getElem?_append_right h1]at hk
  have hk0:k -labels.length=0:=by
   rcases Nat.eq_zero_or_pos (k -labels.length)with h0|h0
   ·exact h0
   ·rw[List.getElem?_eq_none (by simp;omega)]at hk;cases hk
  rw[hk0]at hk
  simp at hk
  subst hk
  refine⟨rv,?_,hr,hrs⟩
  rw[List.getElem?_append_right (by omega),show k -cells.length=0 by omega]
  rfl

theorem fail_sticky {σ:PS} {e a:Int} (h:badM σ=true):badM (failM e a σ)=true:=by rw[fail_of_bad h];exact h
theorem blk_sticky {G:Env} {f:Nat} {E:PE} {labels:List (List UInt8)} {result:List UInt8} {other:Bool} {stack:List UInt8} {dead:Bool} {σ:PS} (h:badM σ=true):blk G f E labels result other stack dead σ=(false,σ):=by
 cases f with
 |zero=>rfl
 |succ f=>rw[blk,if_pos h]
theorem Fwd.en {E E':PE} {k:Nat} {a b:PS} (h:Fwd E' k a b) (he:E'.en=E.en):Fwd E k a b:=by
 rcases h with h|⟨i,i',h1,h2,h3,h4⟩
 ·exact .inl h
 ·exact .inr ⟨i,i',h1,h2,h3,by omega⟩
theorem inner_fwd {B:PE→List (List UInt8)→List UInt8→Bool→PS→Bool×PS} {E:PE} {labels:List (List UInt8)} {op n:Nat} {at_:Int} {stack:List UInt8} {σ:PS}
  (hB: ∀E' l r o σ',E'.en=E.en→(∀i,σ'= .ok i→i≤E.en)→Fwd E 0 σ' (B E' l r o σ').2) (hS: ∀E' l r o σ',badM σ'=true→badM (B E' l r o σ').2=true) (h: ∀i,σ= .ok i→i≤E.en):Fwd E 0 σ (innerF B E labels op n at_ stack σ).2:=by
 unfold innerF
 split
 ·exact fwd_fail _ _
 ·simp only
  generalize(if n=64 then ([]:List UInt8)else [UInt8.ofNat n])=res
  generalize labels++[if op=3 then []else res]=ar
  have h1:=hB {E with d:=E.d+1} ar res (decide (op=4)) σ rfl h
  generalize B {E with d:=E.d+1} ar res (decide (op=4)) σ=r1 at *
  cases r1.1
  ·simp only[Bool.false_eq_true,if_false]
   split
   ·exact fwd_fail _ _
   ·exact h1
  ·simp only[if_true]
   have h2:=Fwd.trans h1 (hB {E with d:=E.d+1} ar res false r1.2 rfl (fwd_le h1)) (hS _ _ _ _ _)
   exact h2.mono (by omega)
theorem blk_fwd {G:Env} (f:Nat): ∀(E:PE) (labels:List (List UInt8)) (result:List UInt8) (other:Bool) (stack:List UInt8) (dead:Bool) (σ:PS),(∀i,σ= .ok i→i≤E.en)→Fwd E 0 σ (blk G f E labels result other stack dead σ).2:=by
 induction f with
 |zero=>intro E labels result other stack dead σ h;exact Fwd.refl h
 |succ f ih=>
  intro E labels result other stack dead σ h
  rw[blk]
  split
  ·rename_i hb;exact .inl hb
  simp only
  split
  ·rename_i hb;exact .inl hb
  rename_i hnb
  have hn:Fwd E 1 σ (nextM E σ).2:=next_fwd
  split
  ·split
   ·exact fwd_fail _ _
   ·exact hn.mono (by omega)
  split
  ·exact fwd_fail _ _
  split
  ·exact fwd_fail _ _
  have hy:Fwd E 0 (nextM E σ).2 (instrM E G labels stack (nextM E σ).1.toNat (nextM E σ).2).2:=instr_fwd (fwd_le hn)
  have hny:Fwd E 0 σ (instrM E G labels stack (nextM E σ).1.toNat (nextM E σ).2).2:=(hn.trans hy (fun hb=>by simp[hb]at hnb)).mono (by omega)
  generalize instrM E G labels stack (nextM E σ).1.toNat (nextM E σ).2=y at *
  have h3:Fwd E 0 σ (if y.1.ok=false∨(offM stack y.1.take).2=false then failM 3 σ.place y.2 else y.2):=by
   split
   ·exact fwd_fail _ _
   ·exact hny
  generalize(if y.1.ok=false∨(offM stack y.1.take).2=false then failM 3 σ.place y.2 else y.2)=σ3 at *
  split
  ·rename_i hb;exact .inl hb
  rename_i hnb3
  have hz:Fwd E 0 σ3 (if (nextM E σ).1=2∨(nextM E σ).1=3∨(nextM E σ).1=4 then innerF (fun E' l' r' o' σ'=>blk G f E' l' r' o' [] false σ') E labels (nextM E σ).1.toNat y.1.n σ.place ((offM stack y.1.take).1++y.1.put) σ3 else ((offM stack y.1.take).1++y.1.put,σ3)).2:=by
   split
   ·exact inner_fwd (fun E' l r o σ' he hh=>(ih E' l r o [] false σ' (fun i hi=>by rw[he];exact hh i hi)).en he) (fun E' l r o σ' hb=>by rw[blk_sticky hb];exact hb) (fwd_le h3)
   ·exact Fwd.refl (fwd_le h3)
  generalize(if (nextM E σ).1=2∨(nextM E σ).1=3∨(nextM E σ).1=4 then innerF (fun E' l' r' o' σ'=>blk G f E' l' r' o' [] false σ') E labels (nextM E σ).1.toNat y.1.n σ.place ((offM stack y.1.take).1++y.1.put) σ3 else ((offM stack y.1.take).1++y.1.put,σ3))=z at *
  have hzz:=(h3.trans hz (fun hb=>by simp[hb]at hnb3)).mono (show 0≤0+0 by omega)
  exact(hzz.trans (ih E labels result other z.1 _ z.2 (fwd_le hz)) (fun hb=>by rw[blk_sticky hb];exact hb)).mono (by omega)
theorem fwd_left {E:PE} {k:Nat} {a b:PS} (h:Fwd E k a b):E.left b≤E.left a:=by
 cases hb:badM b with
 |true=>rw[left_bad hb];omega
 |false=>have :=h.left hb;omega

end Go.Proofs.YtdeplgkhmebalaaGreatDoor.Rf

set_option linter.unusedSimpArgs false
set_option linter.unusedVariables false
set_option maxHeartbeats 2000000
set_option maxRecDepth 100000
namespace Go.Proofs.YtdeplgkhmebalaaGreatDoor.Rf
open Go.RowKit

abbrev nodeO (op n:Nat) (lab body els:Value) (val:Int):Obj:= .cells #[.int .u8 op,.int .u64 n,lab,body,els,.int .i64 val] 309

structure InPre (w0 w:World) (pb:Nat) (E:PE) (G:Env) (labels:List (List UInt8)) (lv:Value) (stack:List UInt8) (sv:Value) (xb base op:Nat) (t:UInt8) (la:Option Addr) (ln lc:Nat) (val:Int):Prop where
 env:EnvAt w0 pb E G
 lab:LabelsAt w0 pb lv labels
 k0:Kp (one pb) w0 w
 boxN:w0.heap.size≤xb
 pbL:pb<w0.heap.size
 labLL: ∀l∈labels,l.length≤1000
 d0:0≤E.d
 d16:E.d≤16
 dl:(labels.length:Int)=E.d+1
 box:w.heap[xb]? =some (nodeO op t.toNat (.slice la ln lc) nilS nilS val)
 boxP:xb≠pb
 own:w.ownsRow base 5 1 sv stack.length (byteVals stack)
 ownP:pb<base
 ownX:sv.ownBlock≠some xb
 ownB:base≤w.heap.size
 stkL:stack.length≤10000000
 op3:op=2∨op=3∨op=4

def inS (pb xb:Nat) (sv:Value):Nat→Prop:=fun k=>k=pb∨k=xb∨sv.ownBlock=some k

theorem inner_of {n:Nat} (IH:BlockOK n) {w0 w:World} {pb:Nat} {E:PE} {G:Env} {labels:List (List UInt8)} {lv:Value} {stack:List UInt8} {sv:Value} {xb base op:Nat} {t:UInt8} {la:Option Addr} {ln lc:Nat} {val:Int} {σ:PS} {f:Nat}
  (h:InPre w0 w pb E G labels lv stack sv xb base op t la ln lc val) (hst:PSt w pb E σ) (hleft:E.left σ≤n) (hf:E.left σ<f) (at_:Int):
  Calls Tryz.prog 194 #[ptr pb,ptr xb,.int .i64 at_,sv,lv] w fun r w'=> ∃v,r= .returned v∧
   w'.ownsRow base 5 1 v (innerF (fun E' l' r' o' σ'=>blk G f E' l' r' o' [] false σ') E labels op t.toNat at_ stack σ).1.length (byteVals (innerF (fun E' l' r' o' σ'=>blk G f E' l' r' o' [] false σ') E labels op t.toNat at_ stack σ).1)∧
   PSt w' pb E (innerF (fun E' l' r' o' σ'=>blk G f E' l' r' o' [] false σ') E labels op t.toNat at_ stack σ).2∧Kp (inS pb xb sv) w w'∧
   ∃ba bl bc ea el ec val',w'.heap[xb]? =some (nodeO op t.toNat (.slice la ln lc) (.slice ba bl bc) (.slice ea el ec) val'):=by
 by_cases hd:E.d=16
 ·have hM:innerF (fun E' l' r' o' σ'=>blk G f E' l' r' o' [] false σ') E labels op t.toNat at_ stack σ=([],failM 3 at_ σ):=by rw[innerF,if_pos hd]
  rw[hM]
  have H:=hide h
  have HS:=hide hst
  obtain⟨i,err,pl,hi,hb,-,-⟩:=hst.obj
  obtain⟨hc,hfz⟩:=cells_of hb
  rw[hd]at hc
  obtain⟨hcx,hfx⟩:=cells_of h.box
  have hpb:=hst.lt
  have hxb:=lt_of_blk h.box
  obtain⟨ads,caps,rfl⟩:=own_shape h.own
  clear hM h hst hb hd hleft hf
  by_cases ht:t=64
  ·have hq:((t.toNat:Int) !=64)=false:=by rw[ht];rfl
   have Ht:=hide ht
   clear ht
   go_enter Tryz.func194,Tryz.ntmps194
   go_wp2_with fail
   refine(fail_any HS.out _ _ (by decide)).mono ?_
   rintro e w1 ⟨rfl,h1,k1⟩
   have H1:=hide h1
   clear h1
   go_wp2
   go_ret
   exact⟨nilS,rfl,World.ownsRow_nil _ _ _ _,H1.out,k1.mono (fun k hk e=> .inl e),_,_,_,_,_,_,_,k1.blk H.out.box (fun e=>H.out.boxP e)⟩
  ·have hq:((t.toNat:Int) !=64)=true:=by
    rw[show(64:Int)=((64:UInt8).toNat:Int)from rfl,u8_ne];simpa using ht
   have Ht:=hide ht
   clear ht
   have hxc:=fun(x:Obj) (o:Nat)=>cell_alloc_old hxb x o
   have hpc:=fun(x:Obj) (o:Nat)=>cell_alloc_old hpb x o
   go_enter Tryz.func194,Tryz.ntmps194
   go_wp2_with fail
   refine(fail_any (HS.out.no ((Kp.refl no w).alloc _)) _ _ (by decide)).mono ?_
   rintro e w1 ⟨rfl,h1,k1⟩
   have H1:=hide h1
   clear h1
   go_wp2
   go_ret
   have k01:Kp (one pb) w w1:=((Kp.refl (one pb) w).alloc _).trans k1
   exact⟨nilS,rfl,World.ownsRow_nil _ _ _ _,H1.out,k01.mono (fun k hk e=> .inl e),_,_,_,_,_,_,_,k01.blk H.out.box (fun e=>H.out.boxP e)⟩
 ·obtain⟨result,hres⟩: ∃result:List UInt8,result=if t=64 then []else [t]:=⟨_,rfl⟩
  have hrl:result.length≤1:=by rw[hres];split <;>simp
  have hM:innerF (fun E' l' r' o' σ'=>blk G f E' l' r' o' [] false σ') E labels op t.toNat at_ stack σ=(stack++result,if (blk G f (E.deeper (E.d+1)) (labels++[if op=3 then []else result]) result (decide (op=4)) [] false σ).1 then (blk G f (E.deeper (E.d+1)) (labels++[if op=3 then []else result]) result false [] false (blk G f (E.deeper (E.d+1)) (labels++[if op=3 then []else result]) result (decide (op=4)) [] false σ).2).2 else if op=4∧result≠[]then failM 3 ((blk G f (E.deeper (E.d+1)) (labels++[if op=3 then []else result]) result (decide (op=4)) [] false σ).2.place -1) (blk G f (E.deeper (E.d+1)) (labels++[if op=3 then []else result]) result (decide (op=4)) [] false σ).2 else (blk G f (E.deeper (E.d+1)) (labels++[if op=3 then []else result]) result (decide (op=4)) [] false σ).2):=by
   have e:(if t.toNat=64 then ([]:List UInt8)else [UInt8.ofNat t.toNat])=result:=by
    rw[hres]
    by_cases ht:t=64
    ·subst ht;rfl
    ·rw[if_neg ht,if_neg (by intro h;apply ht;rw[←UInt8.toNat_inj];exact h)];simp
   rw[innerF,if_neg hd]
   simp only[e]
  generalize innerF (fun E' l' r' o' σ'=>blk G f E' l' r' o' [] false σ') E labels op t.toNat at_ stack σ=R at *
  obtain⟨around,har⟩: ∃around:List (List UInt8),around=labels++[if op=3 then []else result]:=⟨_,rfl⟩
  rw[←har]at hM
  have H:=hide h
  have HS:=hide hst
  have HM:=hide hM
  have Hres:=hide hres
  have Har:=hide har
  obtain⟨i,err,pl,hi,hb,-,-⟩:=hst.obj
  have HBB:=hide hb
  obtain⟨hc,hfz⟩:=cells_of hb
  obtain⟨hcx,hfx⟩:=cells_of h.box
  have hpb:=hst.lt
  have hxb:=lt_of_blk h.box
  have hd0:=h.d0
  have hd16:=h.d16
  have hdb:(E.d==16)=false:=by simpa using hd
  have Hleft:=hide hleft
  have Hf:=hide hf
  have HIH:=hide IH
  obtain⟨ads,caps,rfl⟩:=own_shape h.own
  obtain⟨cells,hrow,hcells⟩:=h.lab.row
  obtain⟨adl,capl,rfl,hcapl⟩:=hrow.shape
  have HR:=hide hrow
  have HC:=hide hcells
  obtain⟨i1,hi1,hy0,hy1,hy2⟩:=info_u8'
  obtain⟨i2,hi2,hz0,hz1,hz2⟩:=info_bytes'
  clear hM h hst hb hd hleft hf hres har IH hrow hcells
  go_enter Tryz.func194,Tryz.ntmps194
  go_upto_if 21 with fail
  go_cut [11] (fun rv wx=> ∃ad cap,rv= .slice ad result.length cap∧BytesAt wx (.slice ad result.length cap) result∧(∀b,(Value.slice ad result.length cap).ownBlock=some b→w.heap.size≤b)∧Kp no w wx)
  case first =>
   by_cases ht:t=64
   ·have hq:((t.toNat:Int) !=64)=false:=by rw[ht];rfl
    have hr:result=[]:=by rw[Hres.out,if_pos ht]
    have Hr:=hide hr
    clear ht hr
    go_wp2_with fail
    go_meet
    rw[Hr.out]
    exact⟨none,0,rfl,BytesAt.nil _,(fun b hb=>by cases hb),Kp.refl _ _⟩
   ·have hq:((t.toNat:Int) !=64)=true:=by
     rw[show(64:Int)=((64:UInt8).toNat:Int)from rfl,u8_ne];simpa using ht
    have hr:result=[t]:=by rw[Hres.out,if_neg ht]
    have Hr:=hide hr
    have htl:=t.toNat_lt
    clear ht hr
    go_wp2_with fail
    go_meet
    rw[Hr.out]
    exact⟨_,1,rfl,BytesAt.blk (l:=[t]) (heap_alloc_new _ _),(fun b hb=>by simp only[Value.ownBlock,Option.some.injEq]at hb;omega),(Kp.refl no w).alloc _⟩
  case rest=>
  rename World=>wA
  obtain⟨adr,capr,rfl,hbr,hnr,kc⟩:=hcut
  have HBR:=hide hbr
  have HNR:=hide hnr
  have HKC:=hide kc
  obtain⟨hcc,hfc⟩:=cells_of (kc.blk HBB.out (fun h=>h))
  obtain⟨hcx2,hfx2⟩:=cells_of (kc.blk H.out.box (fun h=>h))
  have hpbc:pb<wA.heap.size:=Nat.lt_of_lt_of_le hpb kc.size
  have hxp:=H.out.boxP
  have hxp':pb≠xb:=fun e=>hxp e.symm
  have hll:labels.length≤17:=by have :=H.out.dl;omega
  clear hbr hnr hc hfz hcx hfx
  go_wp2_with(at_builtin;refine wpList_append_row _ rfl _ _ 43 rfl wA.heap.size 25 i2 (.slice none 0 0) 1 24 Tryz.underlying43 hi2 hz0 hz1 hz2 rfl (by decide) _ _ _ rfl (World.ownsRow_nil _ _ _ _) _ labels.length cells rfl ?c2 ?c1 ?c3 ?c4 ?c5 ?_)
  case c2=>exact HR.out.kp (S:=one pb) (H.out.k0.trans ((kc.any).set1 _ _)) (fun b hb e=>H.out.lab.sep b hb e)
  case c1=>
   intro u hu
   obtain⟨k,hk⟩:=List.getElem?_of_mem hu
   have hkl:k<labels.length:=by
    have h1:=HR.out.1
    rcases Nat.lt_or_ge k cells.length with h2|h2
    ·omega
    ·rw[List.getElem?_eq_none h2]at hk;cases hk
   obtain⟨x,hx1,hx2,-⟩:=HC.out k _ (List.getElem?_eq_getElem hkl)
   rw[hx1]at hk
   cases hk
   obtain⟨a',c',rfl,_⟩:=hx2.shape
   rfl
  case c3=>unfold maxLen;omega
  case c4=>omega
  case c5=>simp
  intro v1 w1 hown1 hgrow1
  obtain⟨ad1,cap1,rfl⟩:=own_shape hown1
  have HO1:=hide hown1
  have k1:Kp no (wA.setCell ⟨pb,7,none⟩ (.int .i64 (E.d+1))) w1:=(Kp.refl no _).grown hgrow1 (fun k hk=>by cases hk)
  have HK1:=hide k1
  obtain⟨hcx3,hfx3⟩:=cells_of (k1.blk (heap_setCell_ne hxp _ (kc.blk H.out.box (fun h=>h))) (fun h=>h))
  have HP1:=hide (k1.blk (heap_setCell (kc.blk HBB.out (fun h=>h)) (.int .i64 (E.d+1))) (fun h=>h))
  have hsz1:wA.heap.size≤w1.heap.size:=by have :=k1.size;simpa using this
  clear hown1 hgrow1 hcc hfc hcx2 hfx2 k1
  have KW1:=hide (((HKC.out.any (S:=one pb)).set1 7 (.int .i64 (E.d+1))).then HK1.out)
  have hclen:cells.length=labels.length:=by have :=HR.out.1;omega
  have Hcl:=hide hclen
  clear hclen
  go_upto_if 50 with fail
  go_cut [12] (fun av wx=> ∃ad cap lastv,av= .slice ad (labels.length+1) cap∧wx.ownsRow wA.heap.size 25 1 (.slice ad (labels.length+1) cap) (labels.length+1) (cells++[lastv])∧((lastv=nilS∧around=labels++[[]])∨(lastv= .slice adr result.length capr∧around=labels++[result]))∧Kp (fun k=>wA.heap.size≤k) w1 wx)
  case first =>
   by_cases hop3:op=3
   ·have hq:((op:Int)==3)=true:=by simp;omega
    have harr:around=labels++[[]]:=by rw[Har.out,if_pos hop3]
    have HA:=hide harr
    clear hop3 harr
    go_wp2_with(at_builtin;refine wpList_append_row _ rfl _ _ 43 rfl wA.heap.size 25 i2 (.slice none 0 0) 1 24 Tryz.underlying43 hi2 hz0 hz1 hz2 rfl (by decide) _ _ _ rfl (HO1.out.alloc _) _ 1 [.slice none 0 0] rfl (RowAt.new _ _ _) (one_oneCell rfl) ?c3 ?c4 ?c5 ?_)
    case c3=>unfold maxLen;omega
    case c4=>omega
    case c5=>simp;omega
    intro v2 w2 hown2 hgrow2
    have kw2:Kp (fun k=>wA.heap.size≤k) w1 w2:=((Kp.refl (fun k=>wA.heap.size≤k) w1).alloc _).grown hgrow2 (fun k hk=> .inl (own_new HO1.out k hk))
    obtain⟨ad2,cap2,rfl⟩:=own_shape hown2
    have HO2:=hide hown2
    clear hown2 hgrow2
    go_wp2_with fail
    go_meet
    exact⟨ad2,cap2,nilS,by simp,by simpa using HO2.out,.inl ⟨rfl,HA.out⟩,kw2⟩
   ·have hq:((op:Int)==3)=false:=by simp;omega
    have harr:around=labels++[result]:=by rw[Har.out,if_neg hop3]
    have HA:=hide harr
    clear hop3 harr
    go_wp2_with(at_builtin;refine wpList_append_row _ rfl _ _ 43 rfl wA.heap.size 25 i2 (.slice none 0 0) 1 24 Tryz.underlying43 hi2 hz0 hz1 hz2 rfl (by decide) _ _ _ rfl (HO1.out.alloc _) _ 1 [.slice adr result.length capr] rfl (RowAt.new _ _ _) (one_oneCell rfl) ?c3 ?c4 ?c5 ?_)
    case c3=>unfold maxLen;omega
    case c4=>omega
    case c5=>simp;omega
    intro v2 w2 hown2 hgrow2
    have kw2:Kp (fun k=>wA.heap.size≤k) w1 w2:=((Kp.refl (fun k=>wA.heap.size≤k) w1).alloc _).grown hgrow2 (fun k hk=> .inl (own_new HO1.out k hk))
    obtain⟨ad2,cap2,rfl⟩:=own_shape hown2
    have HO2:=hide hown2
    clear hown2 hgrow2
    go_wp2_with fail
    go_meet
    exact⟨ad2,cap2,.slice adr result.length capr,by simp,by simpa using HO2.out,.inr ⟨rfl,HA.out⟩,kw2⟩
  case rest=>
  rename World=>wB
  obtain⟨adB,capB,lastv,rfl,hownB,hlast,kB⟩:=hcut
  have HOB:=hide hownB
  have HLast:=hide hlast
  have HKB:=hide kB
  have hszA:=HKC.out.size
  have hxbA:xb<wA.heap.size:=by omega
  have KWB:=hide (KW1.out.comp kB (fun _ _ h=>h) (fun k hk h=>by omega))
  have HXB:=hide (kB.blk (HK1.out.blk (heap_setCell_ne hxp (.int .i64 (E.d+1)) (HKC.out.blk H.out.box (fun h=>h))) (fun h=>h)) (by omega))
  have HPS:=hide (HS.out.deep (E.d+1) KWB.out (fun i' e' p' hb'=>kB.blk (HK1.out.blk (heap_setCell (HKC.out.blk hb' (fun h=>h)) (.int .i64 (E.d+1))) (fun h=>h)) (by omega)))
  have KAB:=hide ((((Kp.refl (one pb) wA).set1 7 (.int .i64 (E.d+1))).then HK1.out).comp kB (fun _ _ h=>h) (fun k hk h=>by omega))
  have hrs:Sep pb (.slice adr result.length capr):=fun b hb=>by have :=HNR.out b hb;omega
  have HRS:=hide hrs
  have HPre:Hid (∀W,Kp (two pb xb) wB W→BlkPre W pb (E.deeper (E.d+1)) G around result (.slice adB (labels.length+1) capB) (.slice adr result.length capr)):=by
   intro W kW
   have k0W:Kp (one pb) w0 W:=(H.out.k0.trans KWB.out).comp kW (fun _ _ h=>h) (fun k hk h=>by have :=H.out.boxN;unfold two at h;unfold one;omega)
   have hresW:BytesAt W (.slice adr result.length capr) result:=HBR.out.kp (KAB.out.comp kW (S:=two pb xb) (fun k _ h=> .inl h) (fun _ _ h=>h)) (fun b hb h=>by
    have :=HNR.out b hb
    rcases h with h|h
    ·exact HRS.out b hb h
    ·omega)
   have hownW:=kW.own HOB.out (fun b hb h=>by have :=own_new HOB.out b hb;unfold two at h;omega)
   have hcl: ∀(k:Nat) (l:List UInt8),labels[k]? =some l→ ∃x,cells[k]? =some x∧BytesAt W x l∧Sep pb x:=fun k l hk=>by
    obtain⟨x,hx1,hx2,hx3⟩:=HC.out k l hk
    exact⟨x,hx1,hx2.one hx3 k0W,hx3⟩
   have hlabW:LabelsAt W pb (.slice adB (labels.length+1) capB) around:=by
    rcases HLast.out with⟨rfl,ha⟩|⟨rfl,ha⟩
    ·rw[ha];exact LabelsAt.snoc hcl Hcl.out hownW hpbc (BytesAt.nil _) (Sep.nil _)
    ·rw[ha];exact LabelsAt.snoc hcl Hcl.out hownW hpbc hresW HRS.out
   refine⟨(H.out.env.kp k0W).deep _,hlabW,?_,hresW,HRS.out,by omega,by show 0≤E.d+1;omega,?_,?_⟩
   ·intro l hl
    rcases HLast.out with⟨-,ha⟩|⟨-,ha⟩
    ·rw[ha]at hl
     rcases List.mem_append.1 hl with h1|h1
     ·exact H.out.labLL l h1
     ·simp at h1;subst h1;simp
    ·rw[ha]at hl
     rcases List.mem_append.1 hl with h1|h1
     ·exact H.out.labLL l h1
     ·simp at h1;subst h1;omega
   ·show E.d+1≤16
    have :E.d≠16:=by simpa using hdb
    omega
   ·have :=H.out.dl
    rcases HLast.out with⟨-,ha⟩|⟨-,ha⟩<;>(rw[ha];simp;omega)
  obtain⟨o4,ho4⟩: ∃o4:Bool,o4=decide (op=4):=⟨_,rfl⟩
  have hq4:((op:Int)==4)=o4:=by
   rw[ho4,Bool.eq_iff_iff];simp;omega
  have hM:=HM.out
  rw[←ho4]at hM
  have HM2:=hide hM
  have Ho4:=hide ho4
  obtain⟨hcx4,hfx4⟩:=cells_of HXB.out
  clear hM HM ho4 hownB hlast kB hcx3 hfx3 hrs
  have hxgt:pb<xb:=by have :=H.out.boxN;have :=H.out.pbL;omega
  have hleft0:(E.deeper (E.d+1)).left σ≤n:=by rw[left_deep];exact Hleft.out
  have hf0:(E.deeper (E.d+1)).left σ<f:=by rw[left_deep];exact Hf.out
  have hleB:=blk_fwd (G:=G) f (E.deeper (E.d+1)) around result o4 [] false σ (fun i hi=>(HPS.out.ok i hi).1)
  have hcall:=fun(W:World) (kW:Kp (two pb xb) wB W) (hW:PSt W pb (E.deeper (E.d+1)) σ)=>HIH.out W pb (E.deeper (E.d+1)) G around result _ _ o4 σ f (HPre.out W kW) hW hleft0 hf0
  have hM2:=HM2.out
  generalize blk G f (E.deeper (E.d+1)) around result o4 [] false σ=B1 at *
  have Hcall:=hide hcall
  have HM3:=hide hM2
  have hl1:(E.deeper (E.d+1)).left B1.2≤n:=by have :=fwd_left hleB;omega
  have hl2:(E.deeper (E.d+1)).left B1.2<f:=by have :=fwd_left hleB;omega
  have Hl1:=hide hl1
  have Hl2:=hide hl2
  clear hcall hM2 HM2 hleB hl1 hl2 hleft0 hf0
  go_wp2_with fail
  refine(Hcall.out _ ((Kp.refl (two pb xb) wB).setAt (.inr rfl) _ _) (HPS.out.keep (S:=one xb) ((Kp.refl (one xb) wB).set1 _ _) (fun k hk=>by unfold one;omega))).mono ?_
  rintro r w5 ⟨ba,bl,bc,rfl,h5,k5⟩
  have HK5:=hide k5
  have HS5:=hide h5
  have HX5:=hide (k5.blk (heap_setCell HXB.out (.int .i64 (result.length:Nat))) (show ¬one pb xb from fun e=>hxp e))
  obtain⟨hcx5,hfx5⟩:=cells_of HX5.out
  clear h5 k5 hcx4 hfx4
  go_upto_if 79 with fail
  obtain⟨σ2,hσ2⟩: ∃σ2:PS,σ2=R.2:=⟨_,rfl⟩
  have HR2:Hid (R=(stack++result,σ2)):=by
   show R=(stack++result,σ2)
   rw[hσ2]
   have :=HM3.out
   rw[this]
  have HM4:Hid (σ2=if B1.1 then (blk G f (E.deeper (E.d+1)) around result false [] false B1.2).2 else if op=4∧result≠[]then failM 3 (B1.2.place -1) B1.2 else B1.2):=by
   show σ2=_
   rw[hσ2,HM3.out]
  clear hσ2 HM3
  have K5B:=hide (((Kp.refl (two pb xb) wB).setAt (.inr rfl) 5 (.int .i64 (result.length:Nat))).comp HK5.out (S:=two pb xb) (fun _ _ h=>h) (fun k _ h=> .inl h))
  have KX:=fun(v:Value)=>((Kp.refl (two pb xb) w5).setAt (.inr rfl) 3 v)
  have HKX:=hide KX
  clear KX
  go_cut [14] (fun x wx=>x= .bool B1.1∧PSt wx pb (E.deeper (E.d+1)) σ2∧Kp (two pb xb) w5 wx∧ ∃ea el ec,wx.heap[xb]? =some (nodeO op t.toNat (.slice la ln lc) (.slice ba bl bc) (.slice ea el ec) (result.length:Nat)))
  case first =>
   have HX6:=hide (heap_setCell (o:=3) HX5.out (.slice ba bl bc))
   have HS6:=hide (HS5.out.keep (S:=one xb) ((Kp.refl (one xb) w5).set1 3 (.slice ba bl bc)) (fun k hk=>by unfold one;omega))
   obtain⟨hcx6,hfx6⟩:=cells_of HX6.out
   clear hcx5 hfx5
   have hM:=HM4.out
   cases hB:B1.1
   ·rw[hB]at hM
    simp only[Bool.false_eq_true,if_false]at hM
    by_cases hor:op=4∧result≠[]
    ·rw[if_pos hor]at hM
     have HM5:=hide hM
     have hbd1:o4=true:=by rw[Ho4.out];simpa using hor.1
     have hrpos:0<result.length:=List.length_pos_iff.2 hor.2
     subst hbd1
     obtain⟨i6,err6,pl6,hi6,hb6,hp6,-⟩:=HS6.out.obj
     obtain⟨hc6,-⟩:=cells_of hb6
     have HP6:=hide hp6
     have HB:=hide hB
     clear hM hB hor hb6 hp6
     go_wp2_with fail
     refine(fail_any HS6.out _ _ (by decide)).mono ?_
     rintro r w7 ⟨rfl,h7,k7⟩
     have H7:=hide h7
     clear h7
     go_wp2_with fail
     go_meet
     have he:failM 3 ((i6:Int) -1) B1.2=failM 3 (B1.2.place -1) B1.2:=by
      rcases HP6.out with h|h
      ·rw[h]
      ·rw[fail_of_bad h,fail_of_bad h]
     refine⟨by rw[HB.out],by rw[HM5.out,←he];exact H7.out,(HKX.out _).comp k7 (fun _ _ h=>h) (fun k _ h=> .inl h),_,_,_,k7.blk HX6.out (fun e=>hxp e)⟩
    ·rw[if_neg hor]at hM
     have HM5:=hide hM
     have HB:=hide hB
     by_cases hop4:op=4
     ·have hbd1:o4=true:=by rw[Ho4.out];simpa using hop4
      have hr0:result=[]:=by
       cases hr:result with
       |nil=>rfl
       |cons a b=>exact absurd ⟨hop4,by simp[hr]⟩ hor
      have hr0': ¬(0<result.length):=by rw[hr0];simp
      have Hr0:=hide hr0
      subst hbd1
      clear hM hB hor hop4 hr0
      go_wp2_with fail
      go_meet
      refine⟨by rw[HB.out],by rw[HM5.out];exact HS6.out,HKX.out _,_,_,_,HX6.out⟩
     ·have hbd1:o4=false:=by rw[Ho4.out];simpa using hop4
      subst hbd1
      clear hM hB hor hop4
      go_wp2_with fail
      go_meet
      refine⟨by rw[HB.out],by rw[HM5.out];exact HS6.out,HKX.out _,_,_,_,HX6.out⟩
   ·rw[hB]at hM
    simp only[if_true]at hM
    have HM5:=hide hM
    have HB:=hide hB
    clear hM hB
    go_wp2_with fail
    refine(HIH.out _ pb (E.deeper (E.d+1)) G around result _ _ false B1.2 f (HPre.out _ (K5B.out.trans (HKX.out _))) HS6.out Hl1.out Hl2.out).mono ?_
    rintro r w7 ⟨ea,el,ec,rfl,h7,k7⟩
    have HX7:=hide (k7.blk HX6.out (fun e=>hxp e))
    obtain⟨hcx7,hfx7⟩:=cells_of HX7.out
    have H7:=hide h7
    clear h7 hcx6 hfx6
    go_wp2_with fail
    go_meet
    refine⟨by rw[HB.out],by rw[HM5.out];exact H7.out.keep (S:=one xb) ((Kp.refl (one xb) w7).set1 4 (.slice ea el ec)) (fun k hk=>by unfold one;omega),(((HKX.out _).comp k7 (S:=two pb xb) (fun _ _ h=>h) (fun k _ h=> .inl h)).setAt (.inr rfl) _ _),ea,el,ec,heap_setCell HX7.out _⟩
  case rest=>
   rename World=>wD
   obtain⟨rfl,hsD,kD,ea,el,ec,hxD⟩:=hcut
   have HSD:=hide hsD
   have HKD:=hide kD
   have HXD:=hide hxD
   obtain⟨iD,errD,plD,hiD,hbD,-,-⟩:=hsD.obj
   obtain⟨hcD,hfD⟩:=cells_of hbD
   have HBD:=hide hbD
   clear hsD kD hxD hbD hcx5 hfx5
   have kBD:=K5B.out.trans HKD.out
   have kB8:=kBD.setAt (b:=pb) (.inl rfl) 7 (.int .i64 E.d)
   have hsvlt: ∀b,(Value.slice ads stack.length caps).ownBlock=some b→base≤b∧b<w.heap.size:=fun b hb=>H.out.own.lt b hb
   have hsvx: ∀b,(Value.slice ads stack.length caps).ownBlock=some b→b≠xb:=fun b hb e=>H.out.ownX (by rw[hb,e])
   have hbp:=H.out.ownP
   have hown8:(wD.setCell ⟨pb,7,none⟩ (.int .i64 E.d)).ownsRow base 5 1 (.slice ads stack.length caps) stack.length (byteVals stack):=
    kB8.own (KWB.out.own H.out.own (fun b hb e=>by have :=hsvlt b hb;unfold one at e;omega)) (fun b hb e=>by have :=hsvlt b hb;have :=hsvx b hb;unfold two at e;omega)
   have HO8:=hide hown8
   have HK8:=hide kB8
   have Hlt:=hide hsvlt
   have Hvx:=hide hsvx
   have HKBD:=hide kBD
   have hstk:=H.out.stkL
   clear hown8 kB8 hsvlt hsvx kBD
   go_wp2_with(at_builtin;refine wpList_append_row _ rfl _ _ 25 rfl base 5 i1 (.int .u8 0) 1 1 Tryz.underlying25 hi1 hy0 hy1 hy2 rfl (by decide) _ _ _ rfl HO8.out _ result.length (byteVals result) rfl ((HPre.out _ HK8.out).res) (bytes_oneCell _) ?c3 ?c4 ?c5 ?_)
   case c3=>unfold maxLen;omega
   case c4=>omega
   case c5=>have h1:=KWB.out.size;have h2:=HK8.out.size;have h3:=H.out.ownB;simp at h2⊢;omega
   intro v9 w9 hown9 hgrow9
   have HO9:=hide hown9
   have HG9:=hide hgrow9
   clear hown9 hgrow9
   go_wp2
   go_ret
   rw[HR2.out]
   have k9:Kp (fun k=>(Value.slice ads stack.length caps).ownBlock=some k) (wD.setCell ⟨pb,7,none⟩ (.int .i64 E.d)) w9:=(Kp.refl _ _).grown HG9.out (fun k hk=> .inl hk)
   have hPS8:PSt (wD.setCell ⟨pb,7,none⟩ (.int .i64 E.d)) pb E σ2:=HSD.out.deep E.d ((Kp.refl (one pb) wD).set1 7 (.int .i64 E.d)) (fun i' e' p' hb'=>heap_setCell hb' _)
   refine⟨v9,rfl,by simpa using HO9.out,hPS8.keep k9 (fun k hk e=>by have :=Hlt.out k e;omega),?_,ba,bl,bc,ea,el,ec,_,k9.blk (heap_setCell_ne (fun e=>hxp e) _ HXD.out) (fun e=>Hvx.out xb e rfl)⟩
   ·refine(KWB.out.comp HK8.out (S:=inS pb xb (.slice ads stack.length caps)) (fun k _ h=> .inl h) (fun k _ h=> ?_)).comp k9 (fun _ _ h=>h) (fun k _ h=> .inr (.inr h))
    rcases h with h|h
    ·exact .inl h
    ·exact .inr (.inl h)

end Go.Proofs.YtdeplgkhmebalaaGreatDoor.Rf
