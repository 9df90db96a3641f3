/- Appending a slice, nil or not, to a row of the call's own, and where the new slice lies. -/
import Derived.Test.YtdeplgkhmebalaaGreatDoorP02
import Derived.Deep.RegionHeld3
import Derived.Deep.AppendLies
import Derived.Deep.DrawnRows
import Derived.BigCall
import Derived.Shelf.Abstract

set_option linter.unusedSimpArgs false
set_option linter.unusedVariables false
namespace Go.Proofs.YtdeplgkhmebalaaGreatDoor
open Go.RowKit

section
variable{P:Program} (w:World)
theorem run_append_at (t ty:TypeId) (base:Nat) (e:TypeId) (i:TypeInfo) (z:Value) (size bytes:Nat) (ht:P.underlying t=some (.slice e)) (hi:P.info? e=some i) (hz:i.zero=some z)
  (hsize:i.size=size) (hby:i.bytes=bytes) (hzs:z.cells.size=size) (hsz:0<size)
  (v:Value) (n:Nat) (xs:List Value) (hown:w.ownsRow base e size v n xs)
  (sv:Value) (m:Nat) (news:List Value) (hsrc:RowAt w sv size m news) (h1: ∀u∈news,u.oneCell'=true)
  (h63:n+m≤maxLen) (hbytes:(n+m)*bytes≤140737488355328) (hbase:base≤w.heap.size):
  ∃v' w',(Builtin.append_ #[t,t] ty #[v,sv]).run P w= .ok v' w'∧w'.ownsRow base e size v' (n+m) (xs++news)∧w.grownBy w' v.ownBlock∧(v'.ownBlock=v.ownBlock∨v'.ownBlock=some w.heap.size):=by
 obtain⟨hl,⟨rfl,rfl⟩|⟨ad,of,cap,rfl,hc,hcell⟩⟩:=hsrc
 ·obtain rfl :news=[]:=List.length_eq_zero_iff.1 (by simpa using hl)
  have hr:=run_append_owned_none (P:=P) w base t ty e i size ht hi v n xs hown
  exact⟨v,w,hr,by simpa using hown,grownBy_refl _ _,.inl rfl⟩
 ·obtain⟨v',w',hr,h2,h3,-,h5⟩:=run_append_own_at (P:=P) w base t ty e i z size bytes ht hi hz hsize hby hzs hsz v n xs hown ⟨ad,of,none⟩ m cap news hl (fun j u hj=>by rw[Addr.add_lit];exact hcell j u hj) h1 h63 hbytes hbase
  exact⟨v',w',hr,h2,h3,h5⟩
theorem wp_append_at {o:Oper} {a:Act} {K:Act→World→Prop} {Q:Exit→Act→World→Prop} (s x:Operand) (t:TypeId)
  (ho:o.op= .call {callee:= .builtin .append,args:= #[s,x],argTypes:= #[t,t]})
  (base:Nat) (e:TypeId) (i:TypeInfo) (z:Value) (size bytes:Nat) (ht:P.underlying t=some (.slice e)) (hi:P.info? e=some i) (hz:i.zero=some z)
  (hsize:i.size=size) (hby:i.bytes=bytes) (hzs:z.cells.size=size) (hsz:0<size)
  (v:Value) (n:Nat) (xs:List Value) (hs:a.eval s=v) (hown:w.ownsRow base e size v n xs)
  (sv:Value) (m:Nat) (news:List Value) (hx:a.eval x=sv) (hsrc:RowAt w sv size m news) (h1: ∀u∈news,u.oneCell'=true)
  (h63:n+m≤maxLen) (hbytes:(n+m)*bytes≤140737488355328) (hbase:base≤w.heap.size)
  (h: ∀v' w',w'.ownsRow base e size v' (n+m) (xs++news)→w.grownBy w' v.ownBlock→(v'.ownBlock=v.ownBlock∨v'.ownBlock=some w.heap.size)→K (a.put o.dst v') w'):o.wp P a w K Q:=by
 obtain⟨v',w',hr,h2,h3,h4⟩:=run_append_at (P:=P) w t o.type base e i z size bytes ht hi hz hsize hby hzs hsz v n xs hown sv m news hsrc h1 h63 hbytes hbase
 unfold Oper.wp execOp
 simp only[ho,resolve,invoke,builtin,Sem.run_bind,Sem.run_pure,Result.andThen_ok,List.map_toArray,List.map_cons,List.map_nil,hs,hx,hr]
 exact h v' w' h2 h3 h4
theorem wpList_append_at {ops:Array Oper} {rest:List Oper} {o:Oper} {a:Act} {Q:Exit→Act→World→Prop} (hgd:o.guard=none) (s x:Operand) (t:TypeId)
  (ho:o.op= .call {callee:= .builtin .append,args:= #[s,x],argTypes:= #[t,t]})
  (base:Nat) (e:TypeId) (i:TypeInfo) (z:Value) (size bytes:Nat) (ht:P.underlying t=some (.slice e)) (hi:P.info? e=some i) (hz:i.zero=some z)
  (hsize:i.size=size) (hby:i.bytes=bytes) (hzs:z.cells.size=size) (hsz:0<size)
  (v:Value) (n:Nat) (xs:List Value) (hs:a.eval s=v) (hown:w.ownsRow base e size v n xs)
  (sv:Value) (m:Nat) (news:List Value) (hx:a.eval x=sv) (hsrc:RowAt w sv size m news) (h1: ∀u∈news,u.oneCell'=true)
  (h63:n+m≤maxLen) (hbytes:(n+m)*bytes≤140737488355328) (hbase:base≤w.heap.size)
  (h: ∀v' w',w'.ownsRow base e size v' (n+m) (xs++news)→w.grownBy w' v.ownBlock→(v'.ownBlock=v.ownBlock∨v'.ownBlock=some w.heap.size)→wpList P ops Q rest (a.put o.dst v') w'):wpList P ops Q (o::rest) a w:=
 wpList_plain hgd fun _ hK=>wp_append_at w s x t ho base e i z size bytes ht hi hz hsize hby hzs hsz v n xs hs hown sv m news hx hsrc h1 h63 hbytes hbase fun v' w' h2 h3 h4=>hK _ _ (h v' w' h2 h3 h4)
theorem step_append_at {ops:Array Oper} {o:Oper} {a:Act} {K:Act→World→Prop} {Q:Exit→Act→World→Prop} {E:Prop} (hgd:o.guard=none) (s x:Operand) (t:TypeId)
  (ho:o.op= .call {callee:= .builtin .append,args:= #[s,x],argTypes:= #[t,t]})
  (base:Nat) (e:TypeId) (i:TypeInfo) (z:Value) (size bytes:Nat) (ht:P.underlying t=some (.slice e)) (hi:P.info? e=some i) (hz:i.zero=some z)
  (hsize:i.size=size) (hby:i.bytes=bytes) (hzs:z.cells.size=size) (hsz:0<size)
  (v:Value) (n:Nat) (xs:List Value) (hs:a.eval s=v) (hown:w.ownsRow base e size v n xs)
  (sv:Value) (m:Nat) (news:List Value) (hx:a.eval x=sv) (hsrc:RowAt w sv size m news) (h1: ∀u∈news,u.oneCell'=true)
  (h63:n+m≤maxLen) (hbytes:(n+m)*bytes≤140737488355328) (hbase:base≤w.heap.size)
  (h: ∀v' w',w'.ownsRow base e size v' (n+m) (xs++news)→w.grownBy w' v.ownBlock→(v'.ownBlock=v.ownBlock∨v'.ownBlock=some w.heap.size)→K (a.put o.dst v') w'):
  if Region.wanted o (yielded ops a.tmps)=true then Oper.wp P o a w K Q else E:=by
 have hw:Region.wanted o (yielded ops a.tmps)=true:=by simp[Region.wanted,hgd]
 rw[if_pos hw]
 exact wp_append_at w s x t ho base e i z size bytes ht hi hz hsize hby hzs hsz v n xs hs hown sv m news hx hsrc h1 h63 hbytes hbase h
end

theorem step_call {P:Program} {w:World} {ops:Array Oper} {o:Oper} {a:Act} {K:Act→World→Prop} {Q:Exit→Act→World→Prop} {E:Prop} (hgd:o.guard=none) (f:FuncId) (xs:Array Operand) (ats:Array TypeId)
  (ho:o.op= .call {callee:= .value (.func f),args:=xs,argTypes:=ats}) (hen: ∀args w,(callFunc f args).run P w= .ok (.enter f args) w) (args:Array Value) (hargs:xs.toList.map a.eval=args.toList)
  {R:Ending→World→Prop} (hc:Calls P f args w R) (h: ∀r w',R r w'→ ∃v,r= .returned v∧K (a.put o.dst v) w'):
  if Region.wanted o (yielded ops a.tmps)=true then Oper.wp P o a w K Q else E:=by
 have hw:Region.wanted o (yielded ops a.tmps)=true:=by simp[Region.wanted,hgd]
 rw[if_pos hw]
 obtain⟨dst,op,ty,pos,after,guard⟩:=o
 simp only at ho
 subst ho
 unfold Oper.wp
 rw[execOp_call_go,show #[]++xs.map a.eval++ #[]=args from Array.toList_inj.1 (by simpa using hargs),hen,Oper.upon_enter]
 refine hc.mono ?_
 intro r w' hr
 obtain⟨v,rfl,hk⟩:=h r w' hr
 exact hk

theorem RowAt.ofBlock {w:World} {b:Nat} {cs:Array Value} {t:TypeId} (h:w.heap[b]? =some (.cells cs t)) (n sz:Nat) (hl:cs.size=n*sz):RowAt w (.slice (some ⟨b,0,none⟩) n n) sz n cs.toList:=
 ⟨by simpa using hl,.inr ⟨b,0,n,rfl,Nat.le_refl _,fun k x hk=>by rw[(cells_of h).1];simpa using hk⟩⟩
theorem RowAt.allocAt {w:World} {H:Nat} (hH:w.heap.size=H) (cs:Array Value) (t:TypeId) (n sz:Nat) (hl:cs.size=n*sz):RowAt (w.alloc (.cells cs t)) (.slice (some ⟨H,0,none⟩) n n) sz n cs.toList:=by
 subst hH
 exact RowAt.ofBlock (heap_alloc_new _ _) n sz hl

end Go.Proofs.YtdeplgkhmebalaaGreatDoor

set_option linter.unusedSimpArgs false
set_option linter.unusedVariables false
namespace Go.Proofs.YtdeplgkhmebalaaGreatDoor
open Go.RowKit

section
variable{P:Program} {ops:Array Oper} {Q:Exit→Act→World→Prop} {md:Region.Mode} {S:World→Prop} {L:Nat}

def waits (md:Region.Mode) (ops:Array Oper) (j i:Nat):Bool:=
 match ops[j]? with
 |some oj=>oj.after.any fun e=>Region.binds md e&&e.on==i
 |none=>false
theorem waits_spec {j i:Nat} (h:waits md ops j i=true): ∃oj,ops[j]? =some oj∧ ∃e∈oj.after,Region.binds md e=true∧e.on=i:=by
 unfold waits at h
 split at h
 ·rename_i oj hj
  obtain⟨e,he,hb⟩:=Array.any_eq_true'.1 h
  simp only[Bool.and_eq_true,beq_iff_eq]at hb
  exact⟨oj,hj,e,he,hb.1,hb.2⟩
 ·cases h

def leads (md:Region.Mode) (ops:Array Oper) (L:Nat) (listed:Array Bool):Nat→List Nat→Bool
 |i,[]=>waits md ops L i&& !listed.getD L true
 |i,j::p=>waits md ops j i&& !listed.getD j true&&leads md ops L listed j p

theorem not_ready {listed:Array Bool} {i j:Nat} (h:waits md ops j i=true) (hi:listed.getD i false=false):j∉Region.ready md ops listed:=by
 intro hr
 obtain⟨_,o,ho,hall⟩:=mem_ready.1 hr
 obtain⟨o',ho',e,he,hb,rfl⟩:=waits_spec h
 rw[ho]at ho';cases ho'
 rw[hall e he hb]at hi;cases hi
theorem getD_tf {listed:Array Bool} {i:Nat} (h:listed.getD i true=false):listed.getD i false=false:=by
 rcases Nat.lt_or_ge i listed.size with h'|h'
 ·simp[h']at h⊢;exact h
 ·simp[Array.getElem?_eq_none h']at h
theorem leads_step {listed:Array Bool} {k:Nat} (hk:k∈Region.ready md ops listed): ∀(p:List Nat) (i:Nat),listed.getD i true=false→k≠i→leads md ops L listed i p=true→leads md ops L (listed.setIfInBounds k true) i p=true∧k≠L
 |[],i,hi,hki,h=>by
  simp only[leads,Bool.and_eq_true,Bool.not_eq_true']at h⊢
  have hkL:k≠L:=fun e=>not_ready h.1 (getD_tf hi) (e▸hk)
  exact⟨⟨h.1,by rw[getD_set_ne true hkL];exact h.2⟩,hkL⟩
 |j::p,i,hi,hki,h=>by
  simp only[leads,Bool.and_eq_true,Bool.not_eq_true']at h⊢
  have hkj:k≠j:=fun e=>not_ready h.1.1 (getD_tf hi) (e▸hk)
  have :=leads_step hk p j h.1.2 hkj h.2
  exact⟨⟨⟨h.1.1,by rw[getD_set_ne true hkj];exact h.1.2⟩,this.1⟩,this.2⟩

theorem leads_not_ready {listed:Array Bool}: ∀(p:List Nat) (i:Nat),listed.getD i true=false→leads md ops L listed i p=true→L∉Region.ready md ops listed∧listed.getD L false=false
 |[],i,hi,h=>by
  simp only[leads,Bool.and_eq_true,Bool.not_eq_true']at h
  exact⟨not_ready h.1 (getD_tf hi),getD_tf h.2⟩
 |j::p,i,hi,h=>by
  simp only[leads,Bool.and_eq_true,Bool.not_eq_true']at h
  exact leads_not_ready p j h.1.2 h.2

def wpAnyS (P:Program) (md:Region.Mode) (ops:Array Oper) (Q:Exit→Act→World→Prop) (S:World→Prop) (L:Nat):Nat→Array Bool→Act→World→Prop
 |0,listed,a,w=>Region.ready md ops listed=[]∧Q .normal a w
 |fuel+1,listed,a,w=>
  (Region.ready md ops listed=[]→Q .normal a w)∧
  ∀i∈Region.ready md ops listed,wpOp P ops Q i (fun a' w'=>((listed.setIfInBounds i true).getD L false=false→S w')∧wpAnyS P md ops Q S L fuel (listed.setIfInBounds i true) a' w') a w

theorem wpAny_of_S: ∀(fuel:Nat) (listed:Array Bool) (a:Act) (w:World),wpAnyS P md ops Q S L fuel listed a w→wpAny P md ops Q fuel listed a w
 |0,_,_,_,h=>h
 |fuel+1,_,_,_,h=>⟨h.1,fun i hi=>wpOp_mono (fun a' w' h'=>wpAny_of_S fuel _ a' w' h'.2) (h.2 i hi)⟩

theorem wpAnyS_first {i:Nat} {oi:Oper} {v:Value} (p:List Nat) (hi:ops[i]? =some oi) (hsel: ∀(j:Nat) (o:Oper) cs b,ops[j]? =some o→o.op≠ .select cs b)
  (hQ: ∀c a w,Q (.panic c) (a.put oi.dst v) w→Q (.panic c) a w):
  ∀(fuel:Nat) (listed:Array Bool) (a:Act) (w:World),
   (∀j oj,ops[j]? =some oj→j≠i→listed.getD j true=false→(∀e∈oj.after,Region.binds md e=true→e.on≠i)→oi.apart ops oj=true)→
   i∈Region.ready md ops listed→(listed.size≤L∨leads md ops L listed i p=true)→YieldsIf P ops S oi v a→S w→
   wpAnyS P md ops Q S L fuel (listed.setIfInBounds i true) (a.put oi.dst v) w→wpAnyS P md ops Q S L (fuel+1) listed a w:=by
 intro fuel
 induction fuel with
 |zero=>
  intro listed a w _ hr _ hy hS H
  refine⟨fun h=>(by rw[h]at hr;cases hr),fun j hj=> ?_⟩
  by_cases hji:j=i
  ·subst hji;exact hy.wpOp hi hS ⟨fun _=>hS,H⟩
  ·have :=ready_mono hj hji
   rw[H.1]at this
   cases this
 |succ fuel ih=>
  intro listed a w hfree hr hL hy hS H
  refine⟨fun h=>(by rw[h]at hr;cases hr),fun j hj=> ?_⟩
  by_cases hji:j=i
  ·subst hji;exact hy.wpOp hi hS ⟨fun _=>hS,H⟩
  ·have h1:=H.2 j (ready_mono hj hji)
   obtain⟨hjun,oj,hoj,hall⟩:=mem_ready.1 hj
   have hnot: ∀e∈oj.after,Region.binds md e=true→e.on≠i:=fun e he hb heq=>by
    have h1:=hall e he hb
    have h0:=(mem_ready.1 hr).1
    rw[heq]at h1
    rcases Nat.lt_or_ge i listed.size with h'|h'
    ·simp[h']at h0 h1;rw[h0]at h1;cases h1
    ·simp[Array.getElem?_eq_none h']at h1
   have h2:=wpOp_putIf hoj (hfree j oj hoj hji hjun hnot) (fun cs b=>hsel i oi cs b hi) (fun cs b=>hsel j oj cs b hoj) hQ hy h1
   have hfree': ∀k ok,ops[k]? =some ok→k≠i→(listed.setIfInBounds j true).getD k true=false→
     (∀e∈ok.after,Region.binds md e=true→e.on≠i)→oi.apart ops ok=true:=fun k ok hk hki hun hno=>by
    refine hfree k ok hk hki ?_ hno
    by_cases hjk:j=k
    ·subst hjk;exact hjun
    ·rw[getD_set_ne true hjk]at hun;exact hun
   have hL':((listed.setIfInBounds j true).size≤L∨leads md ops L (listed.setIfInBounds j true) i p=true)∧((listed.setIfInBounds i true).setIfInBounds j true).getD L false=false:=by
    rcases hL with hL|hL
    ·exact⟨.inl (by simpa using hL),by simp[Array.getD_eq_getD_getElem?,Array.getElem?_eq_none (show((listed.setIfInBounds i true).setIfInBounds j true).size≤L by simpa using hL)]⟩
    ·have h1:=leads_step hj p i (mem_ready.1 hr).1 hji hL
     have h2:=leads_not_ready p i (mem_ready.1 hr).1 hL
     have hiL:i≠L:=fun e=>h2.1 (e▸hr)
     exact⟨.inr h1.1,by rw[getD_set_ne false h1.2,getD_set_ne false hiL];exact h2.2⟩
   refine wpOp_mono (fun a' w' h3=>⟨fun _=>h3.2.1 hL'.2,ih (listed.setIfInBounds j true) a' w' hfree' (ready_mono hr (Ne.symm hji)) hL'.1 h3.1 (h3.2.1 hL'.2) ?_⟩) h2
   rw[Array.setIfInBounds_comm _ _ hji]
   exact h3.2.2

def takeB (md:Region.Mode) (l:List Oper) (L:Nat) (listed:Array Bool) (i:Nat) (p:List Nat):Bool:=
 Region.noSelect l.toArray&&Region.free md l.toArray listed i&&(Region.ready md l.toArray listed).contains i&&(decide (listed.size≤L)||leads md l.toArray L listed i p)
theorem drop_get {l rest:List Oper} {i:Nat} {o:Oper} (h:l.drop i=o::rest):l.toArray[i]? =some o:=by
 have :(l.drop i)[0]? =some o:=by rw[h];rfl
 rw[List.getElem?_drop]at this
 simpa using this

theorem wpAnyS_take {l:List Oper} (i:Nat) (p:List Nat) {oi:Oper} {rest:List Oper} {v:Value} {fuel:Nat} {listed listed':Array Bool} {a:Act} {w:World} (hi:l.drop i=oi::rest)
  (hB:takeB md l L listed i p=true) (hl:listed.setIfInBounds i true=listed') (hg:oi.guard=none) (hQ: ∀c a w,Q (.panic c) (a.put oi.dst v) w→Q (.panic c) a w) (hS:S w) (hy: ∀w,S w→(execOp a.eval oi).run P w= .ok (.value v) w)
  (h:wpAnyS P md l.toArray Q S L fuel listed' (a.put oi.dst v) w):wpAnyS P md l.toArray Q S L (fuel+1) listed a w:=by
 subst hl
 simp only[takeB,Bool.and_eq_true,Bool.or_eq_true,decide_eq_true_eq]at hB
 exact wpAnyS_first p (drop_get hi) (Region.noSelect_spec hB.1.1.1) hQ fuel listed a w (Region.free_spec (drop_get hi) hB.1.1.2) (by simpa using hB.1.2) (by simpa using hB.2) (.inl ⟨by simp[Region.wanted,hg],hy⟩) hS h
theorem tk {l:List Oper} (i:Nat) (p:List Nat) {oi:Oper} {rest:List Oper} {v:Value} {fuel:Nat} {listed:Array Bool} {a:Act} {w:World} (hi:l.drop i=oi::rest)
  (hB:takeB md l L listed i p=true) (hg:oi.guard=none) (hQ: ∀c a w,Q (.panic c) (a.put oi.dst v) w→Q (.panic c) a w) (hS:S w) (hy: ∀w,S w→(execOp a.eval oi).run P w= .ok (.value v) w)
  (h:wpAnyS P md l.toArray Q S L fuel (listed.setIfInBounds i true) (a.put oi.dst v) w):wpAnyS P md l.toArray Q S L (fuel+1) listed a w:=wpAnyS_take i p hi hB rfl hg hQ hS hy h
theorem wpAnyS_skip {l:List Oper} (i:Nat) (p:List Nat) {oi:Oper} {rest:List Oper} {fuel:Nat} {listed listed':Array Bool} {a:Act} {w:World} (hi:l.drop i=oi::rest)
  (hB:takeB md l L listed i p=true) (hl:listed.setIfInBounds i true=listed') (hw:Region.wanted oi (yielded l.toArray a.tmps)=false) (hQ: ∀c a w,Q (.panic c) (a.put oi.dst undef) w→Q (.panic c) a w) (hS:S w)
  (h:wpAnyS P md l.toArray Q S L fuel listed' (a.put oi.dst undef) w):wpAnyS P md l.toArray Q S L (fuel+1) listed a w:=by
 subst hl
 simp only[takeB,Bool.and_eq_true,Bool.or_eq_true,decide_eq_true_eq]at hB
 exact wpAnyS_first p (drop_get hi) (Region.noSelect_spec hB.1.1.1) hQ fuel listed a w (Region.free_spec (drop_get hi) hB.1.1.2) (by simpa using hB.1.2) (by simpa using hB.2) (.inr ⟨hw,rfl⟩) hS h
theorem wpAnyS_last {l:List Oper} (i:Nat) {o:Oper} {rest:List Oper} {fuel:Nat} {listed listed':Array Bool} {a:Act} {w:World} (hi:l.drop i=o::rest) (hr:Region.ready md l.toArray listed=[i]) (hl:listed.setIfInBounds i true=listed')
  (h: ∀K:Act→World→Prop,(∀a' w',((listed'.getD L false=false→S w')∧wpAnyS P md l.toArray Q S L fuel listed' a' w')→K a' w')→if Region.wanted o (yielded l.toArray a.tmps)=true then Oper.wp P o a w K Q else K (a.put o.dst undef) w):wpAnyS P md l.toArray Q S L (fuel+1) listed a w:=by
 subst hl
 refine⟨fun h0=>(by rw[hr]at h0;cases h0),fun j hj=> ?_⟩
 rw[hr,List.mem_singleton]at hj
 subst hj
 have :=h (fun a' w'=>((listed.setIfInBounds j true).getD L false=false→S w')∧wpAnyS P md l.toArray Q S L fuel (listed.setIfInBounds j true) a' w') (fun a' w' h1=>h1)
 unfold wpOp
 simp only[drop_get hi]
 split
 ·rename_i hw;rw[if_pos hw]at this;exact .inl this
 ·rename_i hw;rw[if_neg hw]at this;exact this
theorem wpAnyS_one {l:List Oper} (i:Nat) {o:Oper} {rest:List Oper} {fuel:Nat} {listed listed':Array Bool} {a:Act} {w:World} (hi:l.drop i=o::rest) (hr:Region.ready md l.toArray listed=[i]) (hl:listed.setIfInBounds i true=listed')
  (h: ∀K:Act→World→Prop,(∀a' w',S w'→(S w'→wpAnyS P md l.toArray Q S L fuel listed' a' w')→K a' w')→if Region.wanted o (yielded l.toArray a.tmps)=true then Oper.wp P o a w K Q else K (a.put o.dst undef) w):wpAnyS P md l.toArray Q S L (fuel+1) listed a w:=
 wpAnyS_last i hi hr hl (fun K hK=>h K (fun a' w' h1 h2=>hK a' w' ⟨fun _=>h1,h2 h1⟩))
theorem wpAnyS_end {l:List Oper} (i:Nat) {o:Oper} {rest:List Oper} {fuel:Nat} {listed listed':Array Bool} {a:Act} {w:World} (hi:l.drop i=o::rest) (hr:Region.ready md l.toArray listed=[i]) (hl:listed.setIfInBounds i true=listed') (hL:listed'.getD L false=true)
  (h: ∀K:Act→World→Prop,(∀a' w',wpAnyS P md l.toArray Q S L fuel listed' a' w'→K a' w')→if Region.wanted o (yielded l.toArray a.tmps)=true then Oper.wp P o a w K Q else K (a.put o.dst undef) w):wpAnyS P md l.toArray Q S L (fuel+1) listed a w:=
 wpAnyS_last i hi hr hl (fun K hK=>h K (fun a' w' h1=>hK a' w' ⟨fun h=>(by rw[hL]at h;cases h),h1⟩))
theorem wpAnyS_done {l:List Oper} {listed:Array Bool} {a:Act} {w:World} (hr:Region.ready md l.toArray listed=[]) (h:Q .normal a w): ∀fuel,wpAnyS P md l.toArray Q S L fuel listed a w
 |0=>⟨hr,h⟩
 |_+1=>⟨fun _=>h,by rw[hr];simp⟩
theorem wp_region_S {id:Nat} {l:List Oper} {a:Act} {w:World} (L:Nat) (S:World→Prop) {n:Nat} {listed:Array Bool} (hm:P.follows .mixedOrders=true) (hn:l.length=n) (hl:Array.replicate n false=listed) (hS:S w.drew)
  (h:S w.drew→wpAnyS P .any l.toArray Q S L n listed a w.drew):(Code.region id l.toArray true).wp P Q a w:=by
 subst hn hl
 exact wp_region_any hm (wpAny_of_S _ _ _ _ (h hS))
end

theorem pS:(∀(a:Act) (v:Value),a.put none v=a)∧(∀(a:Act) (t:Tmp) (v:Value),a.put (some t) v={a with tmps:=a.tmps.setIfInBounds t v})∧(∀{α:Type} (l:List α) (i:Nat) (x:α),l.toArray.setIfInBounds i x=(l.set i x).toArray)∧
  (∀{α:Type} (y:α) (l:List α) (x:α),(y::l).set 0 x=x::l)∧(∀{α:Type} (y:α) (l:List α) (n:Nat) (x:α),(y::l).set (n+1) x=y::l.set n x):=
 ⟨fun _ _=>rfl,fun _ _ _=>rfl,fun _ _ _=>by simp,fun _ _ _=>rfl,fun _ _ _ _=>rfl⟩
end Go.Proofs.YtdeplgkhmebalaaGreatDoor

set_option linter.unusedSimpArgs false
set_option linter.unusedVariables false
namespace Go.Proofs.YtdeplgkhmebalaaGreatDoor
open Go.RowKit
section
variable{P:Program} {ops:Array Oper} {Q:Exit→Act→World→Prop} {md:Region.Mode} {S:World→Prop} {L:Nat}
theorem wpAnyS_two {l:List Oper} (i j:Nat) {oi oj:Oper} {ri rj:List Oper} {fuel:Nat} {listed l1 l2:Array Bool} {a:Act} {w:World} (hi:l.drop i=oi::ri) (hj:l.drop j=oj::rj) (hr:Region.ready md l.toArray listed=[i,j]) (hl1:listed.setIfInBounds i true=l1) (hl2:listed.setIfInBounds j true=l2)
  (h1: ∀K:Act→World→Prop,(∀a' w',S w'→(S w'→wpAnyS P md l.toArray Q S L fuel l1 a' w')→K a' w')→if Region.wanted oi (yielded l.toArray a.tmps)=true then Oper.wp P oi a w K Q else K (a.put oi.dst undef) w)
  (h2: ∀K:Act→World→Prop,(∀a' w',S w'→(S w'→wpAnyS P md l.toArray Q S L fuel l2 a' w')→K a' w')→if Region.wanted oj (yielded l.toArray a.tmps)=true then Oper.wp P oj a w K Q else K (a.put oj.dst undef) w):wpAnyS P md l.toArray Q S L (fuel+1) listed a w:=by
 subst hl1 hl2
 refine⟨fun h0=>(by rw[hr]at h0;cases h0),fun k hk=> ?_⟩
 rw[hr]at hk
 rcases List.mem_cons.1 hk with hk|hk
 ·subst hk
  have :=h1 (fun a' w'=>((listed.setIfInBounds k true).getD L false=false→S w')∧wpAnyS P md l.toArray Q S L fuel (listed.setIfInBounds k true) a' w') (fun a' w' h1 h2=>⟨fun _=>h1,h2 h1⟩)
  unfold wpOp
  simp only[drop_get hi]
  split
  ·rename_i hw;rw[if_pos hw]at this;exact .inl this
  ·rename_i hw;rw[if_neg hw]at this;exact this
 ·rw[List.mem_singleton]at hk
  subst hk
  have :=h2 (fun a' w'=>((listed.setIfInBounds k true).getD L false=false→S w')∧wpAnyS P md l.toArray Q S L fuel (listed.setIfInBounds k true) a' w') (fun a' w' h1 h2=>⟨fun _=>h1,h2 h1⟩)
  unfold wpOp
  simp only[drop_get hj]
  split
  ·rename_i hw;rw[if_pos hw]at this;exact .inl this
  ·rename_i hw;rw[if_neg hw]at this;exact this
end
end Go.Proofs.YtdeplgkhmebalaaGreatDoor
