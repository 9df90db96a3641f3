/- The document's reader and the program's agree: what is taken from the stack. -/
import Derived.Test.YtdeplgkhmebalaaGreatDoorP19
import Derived.Test.YtdeplgkhmebalaaGreatDoorP17
import Derived.Test.YtdeplgkhmebalaaGreatDoorP09
import Derived.Test.YtdeplgkhmebalaaGreatDoorP11

set_option linter.unusedSimpArgs false
set_option linter.unusedVariables false
namespace Go.Proofs.YtdeplgkhmebalaaGreatDoor
open Go.RowKit

theorem takeN_app (a b:List UInt8): ∀(k:Nat) (s:Bd),k≤b.length→takeN (a++b) (a.length+k) s=(takeN b k s).bind (takeN (a++b) a.length):=by
 intro k
 induction k with
 |zero=>intro s _;rfl
 |succ k ih=>
  intro s hk
  rw[←Nat.add_assoc,takeN,takeN]
  have e:(a++b).getD (a.length+k) 0=b.getD k 0:=by
   rw[List.getD_eq_getElem?_getD,List.getD_eq_getElem?_getD,List.getElem?_append_right (by omega),Nat.add_sub_cancel_left]
  rw[e]
  cases takeM s (b.getD k 0)with
  |none=>rfl
  |some s1=>exact ih s1 (by omega)
theorem takeN_left (a b:List UInt8): ∀(k:Nat) (s:Bd),k≤a.length→takeN (a++b) k s=takeN a k s:=by
 intro k
 induction k with
 |zero=>intro s _;rfl
 |succ k ih=>
  intro s hk
  rw[takeN,takeN]
  have e:(a++b).getD k 0=a.getD k 0:=by
   rw[List.getD_eq_getElem?_getD,List.getD_eq_getElem?_getD,List.getElem?_append_left (by omega)]
  rw[e]
  cases takeM s (a.getD k 0)with
  |none=>rfl
  |some s1=>exact ih s1 (by omega)
theorem takeAll_app (s:Bd) (a b:List UInt8):takeAllM s (a++b)=(takeAllM s b).bind fun s'=>takeAllM s' a:=by
 unfold takeAllM
 rw[List.length_append,takeN_app a b _ _ (Nat.le_refl _)]
 congr 1
 funext s'
 exact takeN_left a b _ _ (Nat.le_refl _)
theorem take_one (s:Bd) (t:UInt8):takeM s t=takeAllM s [t]:=by
 unfold takeAllM
 show _=takeN [t] (0+1) s
 rw[takeN]
 show _=match takeM s t with |none=>none|some s'=>takeN [t] 0 s'
 cases takeM s t<;>rfl
theorem takeAll_of {s:Bd} {l ts:List UInt8} (h:s.stack=l++ts) (hh:s.top.height≤l.length):takeAllM s ts=some {s with stack:=l}:=by
 have key: ∀(k:Nat) (s:Bd) (l:List UInt8),k≤ts.length→s.stack=l++ts.take k→s.top.height≤l.length→takeN ts k s=some {s with stack:=l}:=by
  intro k
  induction k with
  |zero=>
   intro s l _ h _
   rw[List.take_zero,List.append_nil]at h
   rw[takeN,←h]
  |succ k ih=>
   intro s l hk h hh
   rw[takeN]
   have e:ts.take (k+1)=ts.take k++[ts.getD k 0]:=by
    rw[List.take_succ_eq_append_getElem (by omega),List.getD_eq_getElem?_getD,List.getElem?_eq_getElem (by omega)];rfl
   rw[e,←List.append_assoc]at h
   have hlen:s.stack.length=(l++ts.take k).length+1:=by rw[h,List.length_append];rfl
   have h1:takeM s (ts.getD k 0)=some {s with stack:=l++ts.take k}:=by
    unfold takeM takeAnyM
    rw[if_neg (by rw[hlen];simp only[List.length_append];omega)]
    have e1:s.stack.getD (s.stack.length -1) 0=ts.getD k 0:=by
     rw[hlen,Nat.add_sub_cancel,h,List.getD_eq_getElem?_getD,List.getElem?_append_right (Nat.le_refl _),Nat.sub_self];rfl
    have e2:s.stack.take (s.stack.length -1)=l++ts.take k:=by
     rw[hlen,Nat.add_sub_cancel,h,List.take_left' rfl]
    simp only[e1,e2,if_true]
   rw[h1]
   exact ih {s with stack:=l++ts.take k} l (by omega) rfl hh
 refine key ts.length s l (Nat.le_refl _) ?_ hh
 rw[List.take_length];exact h
theorem off_iff {st ts m:List UInt8}:((Rf.offM st ts).2=true∧(Rf.offM st ts).1=m)↔st=m++ts:=by
 unfold Rf.offM
 constructor
 ·rintro⟨h1,h2⟩
  split at h1
  ·cases h1
  ·rename_i h
   rw[if_neg h]at h2
   simp only[decide_eq_true_eq]at h1
   simp only at h2
   rw[←h2]
   conv =>rhs;rw[←h1]
   rw[List.length_drop]
   conv =>lhs;rw[←List.take_append_drop (st.length -ts.length) st]
   congr 2
   omega
 ·intro h
  have hl:st.length=m.length+ts.length:=by rw[h,List.length_append]
  rw[if_neg (by omega)]
  rw[show st.length -ts.length=m.length by omega]
  refine⟨?_,?_⟩
  ·simp only[decide_eq_true_eq];rw[h,List.drop_left' rfl]
  ·simp only;rw[h,List.take_left' rfl]
theorem off_takes {s:Bd} {base st:List UInt8} (hs:s.stack=base++st) (hb:s.top.height=base.length) (ts:List UInt8):
  (∃m,st=m++ts∧Rf.offM st ts=(m,true)∧takeAllM s ts=some {s with stack:=base++m})∨((Rf.offM st ts).2=false∧takeAllM s ts=none):=by
 cases h:takeAllM s ts with
 |some s'=>
  obtain⟨h1,h2,h3⟩:=takeAll_spec (by rw[hb,hs,List.length_append];omega) h
  have hl:base++st=s'.stack++ts:=by rw[←hs,h1]
  obtain⟨m,hm⟩: ∃m,s'.stack=base++m:=by
   refine⟨s'.stack.drop base.length,?_⟩
   have :(s'.stack++ts).take base.length=base:=by rw[←hl,List.take_left' rfl]
   rw[List.take_append_of_le_length (by omega)]at this
   conv =>lhs;rw[←List.take_append_drop base.length s'.stack,this]
  rw[hm,List.append_assoc]at hl
  have hst:=List.append_cancel_left hl
  have ho:=off_iff.2 hst
  refine .inl ⟨m,hst,Prod.ext ho.2 ho.1,?_⟩
  rw[h3,hm]
 |none=>
  refine .inr ⟨?_,rfl⟩
  cases ho:(Rf.offM st ts).2 with
  |false=>rfl
  |true=>
   have :=off_iff.1 ⟨ho,rfl⟩
   rw[takeAll_of (l:=base++(Rf.offM st ts).1) (by rw[hs,List.append_assoc,←this]) (by rw[hb,List.length_append];omega)]at h
   cases h
end Go.Proofs.YtdeplgkhmebalaaGreatDoor

set_option linter.unusedSimpArgs false
set_option linter.unusedVariables false
namespace Go.Proofs.YtdeplgkhmebalaaGreatDoor
open Go.RowKit

def core (b:Bk):Bk:={b with start:=0,waits:=[]}
theorem core_value (b:Bk):valueM (core b)=valueM b:=rfl
theorem bk_core (s:Bd) (k:Nat):core (s.bk k)=(s.blocks.map core).getD k noBk:=by
 unfold Bd.bk
 rw[List.getD_eq_getElem?_getD,List.getD_eq_getElem?_getD,List.getElem?_map]
 cases s.blocks[k]? <;>rfl
theorem top_core {s s1:Bd} (h:s1.blocks.map core=s.blocks.map core):core s1.top=core s.top:=by
 have hl:s1.blocks.length=s.blocks.length:=by have :=congrArg List.length h;simpa using this
 unfold Bd.top
 rw[bk_core,bk_core,h,hl]
theorem values_core {s s1:Bd} (h:s1.blocks.map core=s.blocks.map core):s1.blocks.map valueM=s.blocks.map valueM:=by
 have :=congrArg (List.map valueM) h
 simpa[List.map_map,Function.comp_def,core_value]using this
theorem set_core (l:List Bk) (k:Nat) (b:Bk) (h:core b=core (l.getD k noBk)):(l.set k b).map core=l.map core:=by
 apply List.ext_getElem?
 intro j
 rw[List.getElem?_map,List.getElem?_map,List.getElem?_set]
 split
 ·rename_i e
  subst e
  split
  ·rename_i hk
   rw[List.getElem?_eq_getElem hk]
   simp only[Option.map_some,h]
   rw[List.getD_eq_getElem?_getD,List.getElem?_eq_getElem hk];rfl
  ·rename_i hk
   rw[List.getElem?_eq_none (by omega)]
 ·rfl
theorem jump_core (s:Bd) (op:UInt8) (k:Nat):(jumpM s op k).blocks.map core=s.blocks.map core∧(jumpM s op k).stack=s.stack∧(jumpM s op k).i=s.i:=by
 unfold jumpM
 split
 ·exact⟨rfl,rfl,rfl⟩
 ·exact⟨set_core _ _ _ rfl,rfl,rfl⟩
theorem jumpAll_core (l:List Nat): ∀s:Bd,(jumpAll l s).blocks.map core=s.blocks.map core∧(jumpAll l s).stack=s.stack∧(jumpAll l s).i=s.i:=by
 induction l with
 |nil=>intro s;exact⟨rfl,rfl,rfl⟩
 |cons k l ih=>
  intro s
  have h1:=ih (jumpM s 12 k)
  have h2:=jump_core s 12 k
  exact⟨h1.1.trans h2.1,h1.2.1.trans h2.2.1,h1.2.2.trans h2.2.2⟩

structure Ag (E:Rf.PE) (G:Rf.Env) (c:Ctx):Prop where
 en:E.en≤E.data.length
 D:c.D=E.data.take E.en
 funs:c.funcs=G.funcs
 locs:c.locals=G.locs
 gls:c.gl=G.globs.map fun g=>(g.1,g.2.1==1)
structure Rl (E:Rf.PE) (s:Bd) (labels:List (List UInt8)) (base stack:List UInt8):Prop where
 i:s.i≤E.en
 lab:labels=s.blocks.map valueM
 ne:s.blocks≠[]
 st:s.stack=base++stack
 hb:s.top.height=base.length

def StepLike (s:Bd) (base stack:List UInt8) (r:Res) (y:Rf.IR×Rf.PS) (cl:Bool):Prop:=match r with
 | .error e=>(if y.1.ok=false∨(Rf.offM stack y.1.take).2=false then Rf.failM 3 s.pos y.2 else y.2)= .error e
 | .ok s1=>y.1.ok=true∧(Rf.offM stack y.1.take).2=true∧y.2= .ok s1.i∧s1.closed=cl∧s1.blocks.map core=s.blocks.map core∧s1.stack=base++((Rf.offM stack y.1.take).1++y.1.put)

theorem step_err {s:Bd} {base stack:List UInt8} {y:Rf.IR×Rf.PS} {cl:Bool} {e:Int×Int} (h:y.2= .error e):StepLike s base stack (.error e) y cl:=by
 show(if _ then Rf.failM 3 _ y.2 else y.2)=_
 rw[h]
 split <;>rfl
theorem step_wrong {s:Bd} {base stack:List UInt8} {ir:Rf.IR} {j:Nat} {cl:Bool} (h:ir.ok=false∨(Rf.offM stack ir.take).2=false):StepLike s base stack (wrongM s) (ir,.ok j) cl:=by
 show(if _ then Rf.failM 3 _ _ else _)=_
 rw[if_pos h]
 rfl
theorem step_take {s s0:Bd} {base stack:List UInt8} {ir:Rf.IR} {j:Nat} {cl:Bool} {K:Bd→Bd} (hst:s0.stack=base++stack) (hb:s0.top.height=base.length) (hok:ir.ok=true)
  (hK: ∀m,(K {s0 with stack:=base++m}).i=j∧(K {s0 with stack:=base++m}).closed=cl∧(K {s0 with stack:=base++m}).blocks.map core=s.blocks.map core∧(K {s0 with stack:=base++m}).stack=base++(m++ir.put)):
  StepLike s base stack (match takeAllM s0 ir.take with |none=>wrongM s|some s1=> .ok (K s1)) (ir,.ok j) cl:=by
 rcases off_takes hst hb ir.take with⟨m,h1,h2,h3⟩|⟨h1,h2⟩
 ·rw[h3]
  obtain⟨k1,k2,k3,k4⟩:=hK m
  refine⟨hok,by rw[h2],by rw[k1],k2,k3,?_⟩
  rw[k4,h2]
 ·rw[h2]
  exact step_wrong (.inr h1)

section
variable{E:Rf.PE} {G:Rf.Env} {c:Ctx} {s:Bd} {labels:List (List UInt8)} {base stack:List UInt8} (A:Ag E G c) (R:Rl E s labels base stack) (hc:s.closed=false)
include A R
theorem ag_below (most:Int):Like (Rf.uM E most (.ok s.i)) (belowM c.D (most+1) s.i):=by
 rw[A.D];exact rf_u A.en most R.i
theorem ag_U:Like (Rf.uM E 4294967295 (.ok s.i)) (UM c.D s.i):=by
 have h:=ag_below A R 4294967295
 unfold belowM at h
 cases hu:UM c.D s.i with
 |error e=>rw[hu]at h;exact h
 |ok x=>
  obtain⟨n,j⟩:=x
  have hn:n≤4294967295:=by
   unfold UM at hu
   split at hu
   ·cases hu
   ·split at hu
    ·cases hu
    ·rename_i hh
     cases hu
     simp only[not_or]at hh
     omega
  rw[hu]at h
  simp only at h
  rw[if_neg (by omega)]at h
  exact h
omit A in
theorem ag_stop:StepLike s base stack (stopM s) (Rf.instrM E G labels stack 0 (.ok s.i)) true:=by
 have h:=step_take (s:=s) (s0:=s) (ir:={n:=0,labels:=[],value:=0,take:=[],put:=[],ok:=true}) (j:=s.i) (cl:=true) (K:=fun s1=>{emitM s1 ⟨0,0,0,0,0⟩with closed:=true}) R.st R.hb rfl
  (fun m=>⟨rfl,rfl,rfl,by simp[emitM]⟩)
 exact h
include hc
theorem ag_call:StepLike s base stack (callM c s) (Rf.instrM E G labels stack 16 (.ok s.i)) false:=by
 have hu:=ag_below A R ((G.funcs.length:Int) -1)
 unfold callM
 rw[show Rf.instrM E G labels stack 16 (.ok s.i)=(if Rf.badM (Rf.uM E ((G.funcs.length:Int) -1) (.ok s.i)).2 then (⟨0,[],0,[],[],false⟩,(Rf.uM E ((G.funcs.length:Int) -1) (.ok s.i)).2)else
  (⟨(Rf.uM E ((G.funcs.length:Int) -1) (.ok s.i)).1,[],0,(G.funcs.getD (Rf.uM E ((G.funcs.length:Int) -1) (.ok s.i)).1 ([],[])).1,(G.funcs.getD (Rf.uM E ((G.funcs.length:Int) -1) (.ok s.i)).1 ([],[])).2,true⟩,(Rf.uM E ((G.funcs.length:Int) -1) (.ok s.i)).2))from rfl]
 rw[show((G.funcs.length:Int) -1+1)=(c.funcs.length:Int)by rw[A.funs];omega]at hu
 cases hb:belowM c.D c.funcs.length s.i with
 |error e=>
  rw[hu.err hb,if_pos (show Rf.badM (Except.error e)=true from rfl)]
  exact step_err rfl
 |ok x=>
  obtain⟨n,j⟩:=x
  rw[hu.ok hb,if_neg (by simp[Rf.badM])]
  simp only[A.funs]
  exact step_take (s:=s) (s0:={s with i:=j}) (ir:=⟨n,[],0,(G.funcs.getD n ([],[])).1,(G.funcs.getD n ([],[])).2,true⟩) (K:=fun s1=>putM (emitM s1 ⟨16,n,0,0,0⟩) (G.funcs.getD n ([],[])).2) R.st R.hb rfl (fun m=>⟨rfl,hc,rfl,by simp[emitM,putM]⟩)
theorem ag_local {op:UInt8} (h:op=32∨op=33∨op=34):StepLike s base stack (localM c op s) (Rf.instrM E G labels stack op.toNat (.ok s.i)) false:=by
 have hu:=ag_below A R ((G.locs.length:Int) -1)
 rw[show((G.locs.length:Int) -1+1)=(c.locals.length:Int)by rw[A.locs];omega]at hu
 have hM:Rf.instrM E G labels stack op.toNat (.ok s.i)=Rf.localM E G op.toNat (.ok s.i):=by rcases h with rfl |rfl |rfl <;>rfl
 rw[hM]
 unfold localM Rf.localM
 simp only
 cases hb:belowM c.D c.locals.length s.i with
 |error e=>
  rw[hu.err hb,if_pos (show Rf.badM (Except.error e)=true from rfl)]
  exact step_err rfl
 |ok x=>
  obtain⟨n,j⟩:=x
  rw[hu.ok hb,if_neg (by simp[Rf.badM])]
  simp only[A.locs]
  rcases h with rfl |rfl |rfl
  ·exact step_take (s:=s) (s0:={s with i:=j}) (ir:=⟨n,[],0,[],[G.locs.getD n 0],true⟩) (K:=fun s1=>putM (emitM s1 ⟨32,n,0,0,0⟩) [G.locs.getD n 0]) R.st R.hb rfl (fun m=>⟨rfl,hc,rfl,by simp[emitM,putM]⟩)
  ·have :=step_take (s:=s) (s0:={s with i:=j}) (base:=base) (stack:=stack) (ir:=⟨n,[],0,[G.locs.getD n 0],[],true⟩) (cl:=false) (j:=j) (K:=fun s1=>emitM s1 ⟨33,n,0,0,0⟩) R.st R.hb rfl (fun m=>⟨rfl,hc,rfl,by simp[emitM]⟩)
   simp only[←take_one]at this
   exact this
  ·have :=step_take (s:=s) (s0:={s with i:=j}) (base:=base) (stack:=stack) (ir:=⟨n,[],0,[G.locs.getD n 0],[G.locs.getD n 0],true⟩) (cl:=false) (j:=j) (K:=fun s1=>putM (emitM s1 ⟨34,n,0,0,0⟩) [G.locs.getD n 0]) R.st R.hb rfl (fun m=>⟨rfl,hc,rfl,by simp[emitM,putM]⟩)
   simp only[←take_one]at this
   exact this
theorem ag_global {op:UInt8} (h:op=35∨op=36):StepLike s base stack (globalM c op s) (Rf.instrM E G labels stack op.toNat (.ok s.i)) false:=by
 have hu:=ag_below A R ((G.globs.length:Int) -1)
 rw[show((G.globs.length:Int) -1+1)=(c.gl.length:Int)by rw[A.gls,List.length_map];omega]at hu
 have hM:Rf.instrM E G labels stack op.toNat (.ok s.i)=Rf.globalM E G op.toNat (.ok s.i):=by rcases h with rfl |rfl <;>rfl
 rw[hM]
 unfold globalM Rf.globalM
 simp only
 cases hb:belowM c.D c.gl.length s.i with
 |error e=>
  rw[hu.err hb,if_pos (show Rf.badM (Except.error e)=true from rfl)]
  exact step_err rfl
 |ok x=>
  obtain⟨n,j⟩:=x
  rw[hu.ok hb,if_neg (by simp[Rf.badM])]
  have hg:c.gl.getD n (0,false)=((G.globs.getD n (0,0,0)).1,(G.globs.getD n (0,0,0)).2.1==1):=by
   rw[A.gls,List.getD_eq_getElem?_getD,List.getD_eq_getElem?_getD,List.getElem?_map]
   cases G.globs[n]? <;>rfl
  simp only[hg]
  generalize G.globs.getD n (0,0,0)=g at *
  rcases h with rfl |rfl
  ·exact step_take (s:=s) (s0:={s with i:=j}) (ir:=⟨n,[],0,[],[g.1],true⟩) (K:=fun s1=>putM (emitM s1 ⟨35,n,0,0,0⟩) [g.1]) R.st R.hb rfl (fun m=>⟨rfl,hc,rfl,by simp[emitM,putM]⟩)
  ·cases hm:(g.2.1==1)with
   |false=>exact step_wrong (ir:=⟨n,[],0,[g.1],[],false⟩) (.inl rfl)
   |true=>
    have :=step_take (s:=s) (s0:={s with i:=j}) (base:=base) (stack:=stack) (ir:=⟨n,[],0,[g.1],[],true⟩) (cl:=false) (j:=j) (K:=fun s1=>emitM s1 ⟨36,n,0,0,0⟩) R.st R.hb rfl (fun m=>⟨rfl,hc,rfl,by simp[emitM]⟩)
    simp only[←take_one]at this
    exact this
end
end Go.Proofs.YtdeplgkhmebalaaGreatDoor

set_option linter.unusedSimpArgs false
set_option linter.unusedVariables false
namespace Go.Proofs.YtdeplgkhmebalaaGreatDoor
open Go.RowKit

theorem bk_value (s:Bd) (k:Nat):(s.blocks.map valueM).getD k []=valueM (s.bk k):=by
 unfold Bd.bk
 rw[List.getD_eq_getElem?_getD,List.getD_eq_getElem?_getD,List.getElem?_map]
 cases s.blocks[k]? <;>rfl
theorem carries_eq (s:Bd) (k:Nat):carriesM s k=match takeAllM s (valueM (s.bk k))with |none=>none|some s'=>some (putM s' (valueM (s.bk k))):=by
 unfold carriesM
 cases takeAllM s (valueM (s.bk k))<;>rfl
theorem takeAll_more {s:Bd} {v:List UInt8} {t:UInt8}:takeAllM s (v++[t])=match takeM s t with |none=>none|some s'=>takeAllM s' v:=by
 rw[takeAll_app,←take_one]
 cases takeM s t<;>rfl
theorem take_bk {s s1:Bd} {t:UInt8} (h:takeM s t=some s1) (k:Nat):s1.bk k=s.bk k∧s1.top=s.top:=by
 have :=(take_spec h).2.2
 rw[this];exact⟨rfl,rfl⟩
section
variable{E:Rf.PE} {G:Rf.Env} {c:Ctx} {s:Bd} {labels:List (List UInt8)} {base stack:List UInt8} (A:Ag E G c) (R:Rl E s labels base stack) (hc:s.closed=false)
include A R
theorem Rl.at {j:Nat} (hj:j≤E.en):Rl E {s with i:=j} labels base stack:=by
 have :=A.en
 exact⟨hj,R.lab,R.ne,R.st,R.hb⟩
theorem ag_label:match labelM c s with
  | .error e=>(Rf.labelM E labels (.ok s.i)).2= .error e
  | .ok (k,s1)=> ∃n j,j≤E.en∧s1={s with i:=j}∧Rf.labelM E labels (.ok s.i)=((n,valueM (s.bk k)),.ok j):=by
 have hll:labels.length=s.blocks.length:=by rw[R.lab,List.length_map]
 have hu:=ag_below A R ((labels.length:Int) -1)
 have hr:=below_rb (D:=c.D) (i:=s.i) (s.blocks.length:Int) (by rw[A.D,rf_len A.en];exact R.i)
 rw[show((labels.length:Int) -1+1)=(s.blocks.length:Int)by rw[hll];omega]at hu
 unfold labelM Rf.labelM
 cases hb:belowM c.D s.blocks.length s.i with
 |error e=>
  simp only[hu.err hb]
  rw[if_pos (show Rf.badM (Except.error e)=true from rfl)]
 |ok x=>
  obtain⟨n,j⟩:=x
  simp only[hu.ok hb]
  have hj:j≤c.D.length:=hr.ok hb
  rw[A.D,rf_len A.en]at hj
  refine⟨n,j,hj,rfl,?_⟩
  rw[if_neg (by simp[Rf.badM]),hll,R.lab,bk_value]
omit A in
theorem ag_leave:StepLike s base stack (leaveM s) (Rf.instrM E G labels stack 15 (.ok s.i)) true:=by
 have hM:Rf.instrM E G labels stack 15 (.ok s.i)=(⟨0,[(labels.length:Int) -1],(labels.getD 0 []).length,labels.getD 0 [],labels.getD 0 [],true⟩,.ok s.i):=rfl
 have hv:labels.getD 0 []=valueM (s.bk 0):=by rw[R.lab,bk_value]
 rw[hM,hv]
 unfold leaveM
 rw[carries_eq]
 have h:=step_take (s:=s) (s0:=s) (base:=base) (stack:=stack) (ir:=⟨0,[(labels.length:Int) -1],(valueM (s.bk 0)).length,valueM (s.bk 0),valueM (s.bk 0),true⟩) (j:=s.i) (cl:=true) (K:=fun s1=>{jumpM (putM s1 (valueM (s.bk 0))) 12 0 with closed:=true}) R.st R.hb rfl
  (fun m=>by
   obtain⟨h1,h2,h3⟩:=jump_core (putM {s with stack:=base++m} (valueM (s.bk 0))) 12 0
   exact⟨h3,rfl,h1,h2.trans (by simp[putM])⟩)
 cases ht:takeAllM s (valueM (s.bk 0))with
 |none=>simp only[ht]at h⊢;exact h
 |some s1=>simp only[ht]at h⊢;exact h
theorem ag_branch {op:UInt8} (hop:op=12∨op=13) (hc:s.closed=false):StepLike s base stack (branchM c op s) (Rf.instrM E G labels stack op.toNat (.ok s.i)) (op==12):=by
 have hM:Rf.instrM E G labels stack op.toNat (.ok s.i)=(⟨0,[((Rf.labelM E labels (.ok s.i)).1.1:Int)],(Rf.labelM E labels (.ok s.i)).1.2.length,(Rf.labelM E labels (.ok s.i)).1.2++(if op.toNat=13 then [127]else []),(Rf.labelM E labels (.ok s.i)).1.2,true⟩,(Rf.labelM E labels (.ok s.i)).2):=by
  rcases hop with rfl |rfl <;>rfl
 rw[hM]
 have hl:=ag_label A R
 unfold branchM
 cases hb:labelM c s with
 |error e=>
  rw[hb]at hl
  exact step_err hl
 |ok x=>
  obtain⟨k,s1⟩:=x
  rw[hb]at hl
  obtain⟨n,j,hj,rfl,hl⟩:=hl
  rw[hl]
  simp only
  have h:=step_take (s:=s) (s0:={s with i:=j}) (base:=base) (stack:=stack) (ir:=⟨0,[(n:Int)],(valueM (s.bk k)).length,valueM (s.bk k)++(if op.toNat=13 then [127]else []),valueM (s.bk k),true⟩) (j:=j) (cl:=op==12) (K:=fun s1=>{jumpM (putM s1 (valueM (s.bk k))) op k with closed:=op==12}) R.st R.hb rfl
   (fun m=>by
    obtain⟨h1,h2,h3⟩:=jump_core (putM {s with i:=j,stack:=base++m} (valueM (s.bk k))) op k
    exact⟨h3,rfl,h1,h2.trans (by simp[putM])⟩)
  rcases hop with rfl |rfl
  ·rw[if_neg (by decide)]at h⊢
   rw[if_neg (by decide)]
   simp only[List.append_nil]at h⊢
   rw[carries_eq]
   have hbk:valueM (Bd.bk {s with i:=j} k)=valueM (s.bk k):=rfl
   rw[hbk]
   cases ht:takeAllM {s with i:=j} (valueM (s.bk k))with
   |none=>simp only[ht]at h⊢;exact h
   |some s1=>simp only[ht]at h⊢;exact h
  ·rw[if_pos (by decide)]at h⊢
   rw[if_pos (show UInt8.toNat 13=13 by decide)]
   simp only[takeAll_more]at h
   cases ht:takeM {s with i:=j} 127 with
   |none=>simp only[ht]at h⊢;exact h
   |some s2=>
    simp only[ht]at h⊢
    rw[carries_eq,(take_bk ht k).1]
    have hbk:valueM (Bd.bk {s with i:=j} k)=valueM (s.bk k):=rfl
    rw[hbk]
    cases ht2:takeAllM s2 (valueM (s.bk k))with
    |none=>simp only[ht2]at h⊢;exact h
    |some s3=>simp only[ht2]at h⊢;exact h
omit A in
theorem ag_drop (hc:s.closed=false):StepLike s base stack (dropM s) (Rf.instrM E G labels stack 26 (.ok s.i)) false:=by
 have hM:Rf.instrM E G labels stack 26 (.ok s.i)=if stack=[]then (⟨0,[],0,[],[],false⟩,.ok s.i)else (⟨0,[],0,[stack.getD (stack.length -1) 0],[],true⟩,.ok s.i):=rfl
 rw[hM]
 unfold dropM takeAnyM
 by_cases h0:stack=[]
 ·rw[if_pos h0,if_pos (by rw[R.st,R.hb,h0,List.append_nil];exact Nat.le_refl _)]
  exact step_wrong (.inl rfl)
 ·have hl:0<stack.length:=List.length_pos_iff.2 h0
  have hsl:s.stack.length=base.length+stack.length:=by rw[R.st,List.length_append]
  rw[if_neg h0,if_neg (by rw[R.hb];omega)]
  have e1:stack=stack.take (stack.length -1)++[stack.getD (stack.length -1) 0]:=by
   conv =>lhs;rw[←List.take_append_drop (stack.length -1) stack]
   rw[List.drop_eq_getElem_cons (by omega),List.getD_eq_getElem?_getD,List.getElem?_eq_getElem (by omega)]
   simp only[List.drop_eq_nil_of_le (show stack.length≤stack.length -1+1 by omega)]
   rfl
  have ho:=off_iff.2 e1
  refine⟨rfl,ho.1,rfl,hc,rfl,?_⟩
  simp only[emitM]
  rw[ho.2,List.append_nil,R.st,List.length_append,List.take_append,List.take_of_length_le (by omega)]
  congr 2
  omega
omit A in
theorem ag_choose (hc:s.closed=false):StepLike s base stack (chooseM s) (Rf.instrM E G labels stack 27 (.ok s.i)) false:=by
 have hM:Rf.instrM E G labels stack 27 (.ok s.i)=if stack.length<3 then (⟨0,[],0,[],[],false⟩,.ok s.i)else (⟨0,[],0,[stack.getD (stack.length -2) 0,stack.getD (stack.length -2) 0,127],[stack.getD (stack.length -2) 0],true⟩,.ok s.i):=rfl
 rw[hM]
 have hsl:s.stack.length=base.length+stack.length:=by rw[R.st,List.length_append]
 have key:chooseM s=if stack.length<3 then wrongM s else match takeAllM s [stack.getD (stack.length -2) 0,stack.getD (stack.length -2) 0,127]with |none=>wrongM s|some s3=> .ok (putM (emitM s3 ⟨27,0,0,0,0⟩) [stack.getD (stack.length -2) 0]):=by
  unfold chooseM
  have e3: ∀t:UInt8,takeAllM s [t,t,127]=match takeM s 127 with |none=>none|some s1=>match takeM s1 t with |none=>none|some s2=>takeM s2 t:=by
   intro t
   rw[show[t,t,127]=[t,t]++[127]from rfl,takeAll_more]
   cases takeM s 127 with
   |none=>rfl
   |some s1=>
    simp only
    rw[show[t,t]=[t]++[t]from rfl,takeAll_more]
    cases takeM s1 t with
    |none=>rfl
    |some s2=>simp only[take_one]
  rw[e3]
  cases h1:takeM s 127 with
  |none=>simp
  |some s1=>
   obtain⟨a1,a2,a3⟩:=take_spec h1
   have htop1:s1.top=s.top:=(take_bk h1 0).2
   simp only
   have hl1:s.stack.length=s1.stack.length+1:=by rw[a1,List.length_append];rfl
   cases h2:takeAnyM s1 with
   |none=>
    unfold takeAnyM at h2
    split at h2
    ·rename_i hh
     rw[htop1,R.hb]at hh
     rw[if_pos (by omega)]
    ·cases h2
   |some x=>
    obtain⟨u,s2⟩:=x
    obtain⟨b1,b2,b3⟩:=takeAny_spec h2
    have hl2:s1.stack.length=s2.stack.length+1:=by rw[b1,List.length_append];rfl
    have htop2:s2.top=s.top:=by rw[b3,←htop1];rfl
    rw[htop1,R.hb]at b2
    simp only
    by_cases h3:stack.length<3
    ·rw[if_pos h3]
     have :takeM s2 u=none:=by
      unfold takeM takeAnyM
      rw[if_pos (by rw[htop2,R.hb];omega)]
     rw[this]
    ·rw[if_neg h3]
     have hu:stack.getD (stack.length -2) 0=u:=by
      have e:s.stack=(s2.stack++[u])++[127]:=by rw[a1,b1]
      rw[R.st]at e
      have :(base++stack)[base.length+(stack.length -2)]? =some u:=by
       rw[e,List.append_assoc,List.getElem?_append_right (by omega)]
       rw[show base.length+(stack.length -2) -s2.stack.length=0 by omega]
       rfl
      rw[List.getElem?_append_right (by omega),Nat.add_sub_cancel_left]at this
      rw[List.getD_eq_getElem?_getD,this];rfl
     rw[hu]
     have ht:takeM s1 u=some s2:=by
      unfold takeM
      rw[h2]
      simp
     rw[ht]
     simp only
     cases takeM s2 u<;>rfl
 rw[key]
 by_cases h3:stack.length<3
 ·rw[if_pos h3,if_pos h3]
  exact step_wrong (.inl rfl)
 ·rw[if_neg h3,if_neg h3]
  exact step_take (s:=s) (s0:=s) (ir:=⟨0,[],0,[stack.getD (stack.length -2) 0,stack.getD (stack.length -2) 0,127],[stack.getD (stack.length -2) 0],true⟩) (K:=fun s3=>putM (emitM s3 ⟨27,0,0,0,0⟩) [stack.getD (stack.length -2) 0]) R.st R.hb rfl (fun m=>⟨rfl,hc,rfl,by simp[emitM,putM]⟩)
end
end Go.Proofs.YtdeplgkhmebalaaGreatDoor

set_option linter.unusedSimpArgs false
set_option linter.unusedVariables false
namespace Go.Proofs.YtdeplgkhmebalaaGreatDoor
open Go.RowKit

theorem tab_bad (E:Rf.PE) (labels:List (List UInt8)) (r k:Nat) (first :List UInt8) (same:Bool) (labs:List Int) (e:Int×Int):(Rf.tabGo E labels r k first same labs (.error e)).2= .error e:=by
 cases r with
 |zero=>rfl
 |succ r=>rw[Rf.tabGo,if_pos (show Rf.badM (Except.error e)=true from rfl)]
theorem alike_blocks {s s1:Bd} (h:s1.blocks=s.blocks) (l:List Nat):alikeM s1 l=alikeM s l:=by
 unfold alikeM Bd.bk
 rw[h]
theorem take_blocks {s s1:Bd} {ts:List UInt8} (h0:s.top.height≤s.stack.length) (h:takeAllM s ts=some s1):s1.blocks=s.blocks:=by
 rw[(takeAll_spec h0 h).2.2]
def plainR (n:Nat):Bool:=decide (¬(n=0∨n=1)∧ ¬(n=2∨n=3∨n=4)∧ ¬(n=12∨n=13)∧n≠14∧n≠15∧n≠16∧n≠26∧n≠27∧ ¬(32≤n∧n≤34)∧ ¬(n=35∨n=36)∧ ¬(40≤n∧n≤58)∧n≠65∧n≠66)
def rowB (y:Nat):Bool:=match findM (UInt8.ofNat y)with
 |none=> !Rf.knownM (UInt8.ofNat y)
 |some r=>Rf.knownM (UInt8.ofNat y)&&(
  if r.behind=0 then (decide (y=1)&&decide (r.takes=[])&&decide (r.gives=[]))||(plainR y&&decide (Rf.plain0 y=(r.takes,r.gives)))
  else if r.behind=1 then decide (40≤y)&&decide (y≤58)&&decide (Rf.memTP y=(r.takes,r.gives))
  else if r.behind=2 then decide (y=65)&&decide (r.takes=[])&&decide (r.gives=[127])
  else if r.behind=3 then decide (y=66)&&decide (r.takes=[])&&decide (r.gives=[126])
  else decide (r.behind=4)&&[0,2,3,4,5,11,12,13,14,15,16,26,27,32,33,34,35,36].contains y)
theorem row_all: ∀y:Fin 256,rowB y.val=true:=by decide +kernel
theorem row_of (op:UInt8):rowB op.toNat=true:=row_all ⟨op.toNat,op.toNat_lt⟩
theorem known_find (op:UInt8):Rf.knownM op=true↔ ∃r,findM op=some r:=by
 have h:=row_of op
 unfold rowB at h
 rw[UInt8.ofNat_toNat]at h
 cases hf:findM op with
 |none=>rw[hf]at h;simp at h;simp[h]
 |some r=>rw[hf]at h;simp only[Bool.and_eq_true]at h;simp[h.1]
section
variable{E:Rf.PE} {G:Rf.Env} {c:Ctx} {s:Bd} {labels:List (List UInt8)} {base stack:List UInt8} (A:Ag E G c) (R:Rl E s labels base stack)
include A R
theorem tab_more: ∀(r i k:Nat) (first :List UInt8) (same:Bool) (labs:List Int),0<k→i≤E.en→match labelsM c r {s with i:=i}with
  | .error e=>(Rf.tabGo E labels r k first same labs (.ok i)).2= .error e
  | .ok (l,s1)=> ∃j ns,j≤E.en∧s1={s with i:=j}∧l.length=r∧Rf.tabGo E labels r k first same labs (.ok i)=((first,same&&l.all (fun q=>valueM (s.bk q)==first),ns),.ok j):=by
 intro r
 induction r with
 |zero=>
  intro i k first same labs _ hi
  exact⟨i,labs,hi,rfl,rfl,by simp[Rf.tabGo]⟩
 |succ r ih=>
  intro i k first same labs hk hi
  have hl:=ag_label A (R.at A hi)
  rw[labelsM,Rf.tabGo,if_neg (show ¬Rf.badM (Except.ok i)=true by simp[Rf.badM])]
  simp only[if_neg (show ¬k=0 by omega)]
  cases hb:labelM c {s with i:=i}with
  |error e=>
   rw[hb]at hl
   have hl':(Rf.labelM E labels (Except.ok i)).2=Except.error e:=hl
   simp only[hl']
   exact tab_bad _ _ _ _ _ _ _ _
  |ok x=>
   obtain⟨q,s1⟩:=x
   rw[hb]at hl
   obtain⟨n,j,hj,rfl,hl⟩:=hl
   have hl':Rf.labelM E labels (Except.ok i)=((n,valueM (s.bk q)),Except.ok j):=hl
   simp only[hl']
   have h1:=ih j (k+1) first (same&&decide (first =valueM (s.bk q))) (labs++[(n:Int)]) (by omega) hj
   cases hm:labelsM c r {s with i:=j}with
   |error e=>rw[hm]at h1;exact h1
   |ok y=>
    obtain⟨l,s2⟩:=y
    rw[hm]at h1
    obtain⟨j2,ns,hj2,rfl,hll,h1⟩:=h1
    refine⟨j2,ns,hj2,rfl,by simp[hll],?_⟩
    rw[h1,List.all_cons,Bool.and_assoc]
    have e:decide (first =valueM (s.bk q))=(valueM (s.bk q)==first):=by
     rw[Bool.eq_iff_iff,decide_eq_true_iff,beq_iff_eq]
     exact eq_comm
    rw[e]
theorem tab_first {r i:Nat} (hi:i≤E.en):match labelsM c (r+1) {s with i:=i}with
  | .error e=>(Rf.tabGo E labels (r+1) 0 [] true [] (.ok i)).2= .error e
  | .ok (l,s1)=> ∃j ns,j≤E.en∧s1={s with i:=j}∧l.length=r+1∧Rf.tabGo E labels (r+1) 0 [] true [] (.ok i)=((valueM (s.bk (l.getD 0 0)),alikeM s l,ns),.ok j):=by
 have hl:=ag_label A (R.at A hi)
 rw[labelsM,Rf.tabGo,if_neg (show ¬Rf.badM (Except.ok i)=true by simp[Rf.badM])]
 simp only[if_true]
 cases hb:labelM c {s with i:=i}with
 |error e=>
  rw[hb]at hl
  have hl':(Rf.labelM E labels (Except.ok i)).2=Except.error e:=hl
  simp only[hl']
  exact tab_bad _ _ _ _ _ _ _ _
 |ok x=>
  obtain⟨q,s1⟩:=x
  rw[hb]at hl
  obtain⟨n,j,hj,rfl,hl⟩:=hl
  have hl':Rf.labelM E labels (Except.ok i)=((n,valueM (s.bk q)),Except.ok j):=hl
  simp only[hl',decide_true,Bool.and_self,Nat.zero_add]
  have h1:=tab_more A R r j 1 (valueM (s.bk q)) true ([]++[(n:Int)]) (by omega) hj
  cases hm:labelsM c r {s with i:=j}with
  |error e=>rw[hm]at h1;exact h1
  |ok y=>
   obtain⟨l,s2⟩:=y
   rw[hm]at h1
   obtain⟨j2,ns,hj2,rfl,hll,h1⟩:=h1
   refine⟨j2,ns,hj2,rfl,by simp[hll],?_⟩
   rw[h1]
   simp[alikeM]
theorem ag_table:StepLike s base stack (tableM c s) (Rf.instrM E G labels stack 14 (.ok s.i)) true:=by
 have hM:Rf.instrM E G labels stack 14 (.ok s.i)=Rf.tableM E labels (.ok s.i):=rfl
 rw[hM]
 have hu:=ag_below A R 16
 rw[show((16:Int)+1)=17 from rfl]at hu
 have hr:=below_rb (D:=c.D) (i:=s.i) 17 (by rw[A.D,rf_len A.en];exact R.i)
 unfold tableM Rf.tableM
 simp only
 cases hb:belowM c.D 17 s.i with
 |error e=>
  simp only[hu.err hb]
  exact step_err (tab_bad _ _ _ _ _ _ _ _)
 |ok x=>
  obtain⟨n,j⟩:=x
  have hj:j≤c.D.length:=hr.ok hb
  rw[A.D,rf_len A.en]at hj
  simp only[hu.ok hb]
  have ht:=tab_first A R (r:=n) hj
  cases hm:labelsM c (n+1) {s with i:=j}with
  |error e=>rw[hm]at ht;exact step_err ht
  |ok y=>
   obtain⟨l,s1⟩:=y
   rw[hm]at ht
   obtain⟨j2,ns,hj2,rfl,hll,ht⟩:=ht
   rw[ht]
   simp only
   have h0:(Bd.top {s with i:=j2}).height≤(Bd.stack {s with i:=j2}).length:=by
    show s.top.height≤s.stack.length
    rw[R.hb,R.st,List.length_append];omega
   cases hal:alikeM s l with
   |false=>
    have hw:StepLike s base stack (wrongM s) (⟨0,ns,(valueM (s.bk (l.getD 0 0))).length,valueM (s.bk (l.getD 0 0))++[127],valueM (s.bk (l.getD 0 0)),false⟩,Except.ok j2) true:=step_wrong (.inl rfl)
    cases h1:takeM {s with i:=j2} 127 with
    |none=>exact hw
    |some s2=>
     simp only
     have b2:s2.blocks=s.blocks:=by rw[(take_spec h1).2.2]
     cases h2:carriesM s2 (l.getD n 0)with
     |none=>exact hw
     |some s3=>
      have b3:s3=s2:=(carries_spec (by rw[(take_bk h1 0).2];exact(take_spec h1).2.1) h2).1
      simp only
      rw[alike_blocks (s:=s) (by rw[b3,b2]),hal,if_neg (by decide)]
      exact hw
   |true=>
    have hv:valueM (s.bk (l.getD n 0))=valueM (s.bk (l.getD 0 0)):=by
     unfold alikeM at hal
     rw[List.all_eq_true]at hal
     have :=hal (l.getD n 0) (by rw[List.getD_eq_getElem?_getD,List.getElem?_eq_getElem (by omega)];exact List.getElem_mem _)
     simpa using this
    have h:=step_take (s:=s) (s0:={s with i:=j2}) (base:=base) (stack:=stack) (ir:=⟨0,ns,(valueM (s.bk (l.getD 0 0))).length,valueM (s.bk (l.getD 0 0))++[127],valueM (s.bk (l.getD 0 0)),true⟩) (j:=j2) (cl:=true) (K:=fun s1=>{jumpAll l (emitM (putM s1 (valueM (s.bk (l.getD 0 0)))) ⟨14,n,0,0,0⟩)with closed:=true}) R.st R.hb rfl
     (fun m=>by
      obtain⟨h1,h2,h3⟩:=jumpAll_core l (emitM (putM {s with i:=j2,stack:=base++m} (valueM (s.bk (l.getD 0 0)))) ⟨14,n,0,0,0⟩)
      exact⟨h3,rfl,h1,h2.trans (by simp[putM,emitM])⟩)
    simp only[takeAll_more]at h
    cases h1:takeM {s with i:=j2} 127 with
    |none=>simp only[h1]at h⊢;exact h
    |some s2=>
     simp only[h1]at h⊢
     rw[carries_eq,(take_bk h1 _).1]
     have hbk:valueM (Bd.bk {s with i:=j2} (l.getD n 0))=valueM (s.bk (l.getD 0 0)):=hv
     rw[hbk]
     have b2:s2.blocks=s.blocks:=by rw[(take_spec h1).2.2]
     cases h2:takeAllM s2 (valueM (s.bk (l.getD 0 0)))with
     |none=>simp only[h2]at h⊢;exact h
     |some s3=>
      have b3:s3.blocks=s2.blocks:=take_blocks (by rw[(take_bk h1 0).2];exact(take_spec h1).2.1) h2
      simp only[h2]at h⊢
      rw[alike_blocks (s:=s) (show(putM s3 _).blocks=s.blocks from b3.trans b2),hal,if_pos rfl]
      exact h
theorem ag_plain (hc:s.closed=false) {op:UInt8} {r:RowT} (hf:findM op=some r) (h4:r.behind≠4):StepLike s base stack (plainB c op r s) (Rf.instrM E G labels stack op.toNat (.ok s.i)) false:=by
 have hrow:=row_of op
 unfold rowB at hrow
 rw[UInt8.ofNat_toNat,hf]at hrow
 simp only[Bool.and_eq_true]at hrow
 obtain⟨-,hrow⟩:=hrow
 have step: ∀(n j:Nat) (y:Rf.IR×Rf.PS),y=(⟨n,[],0,r.takes,r.gives,true⟩,Except.ok j)→ ∀n',StepLike s base stack (match takeAllM {s with i:=j} r.takes with |none=>wrongM s|some s1=> .ok (putM (emitM s1 ⟨op,n',0,0,0⟩) r.gives)) y false:=by
  intro n j y hy n'
  rw[hy]
  exact step_take (s:=s) (s0:={s with i:=j}) (ir:=⟨n,[],0,r.takes,r.gives,true⟩) (K:=fun s1=>putM (emitM s1 ⟨op,n',0,0,0⟩) r.gives) R.st R.hb rfl (fun m=>⟨rfl,hc,rfl,by simp[emitM,putM]⟩)
 unfold plainB
 by_cases h0:r.behind=0
 ·rw[if_pos h0]at hrow
  have hb:behindM c.D r.behind s.i= .ok (0,s.i):=by rw[h0];rfl
  simp only[hb]
  refine step 0 s.i _ ?_ 0
  simp only[Bool.or_eq_true,Bool.and_eq_true,decide_eq_true_eq]at hrow
  rcases hrow with⟨⟨h1,h2⟩,h3⟩|⟨h1,h2⟩
  ·rw[h1,h2,h3];rfl
  ·unfold plainR at h1
   simp only[decide_eq_true_eq]at h1
   obtain⟨a1,a2,a3,a4,a5,a6,a7,a8,a9,a10,a11,a12,a13⟩:=h1
   unfold Rf.instrM Rf.plainM
   rw[if_neg a1,if_neg a2,if_neg a3,if_neg a4,if_neg a5,if_neg a6,if_neg a7,if_neg a8,if_neg a9,if_neg a10,if_neg a11,if_neg a12,if_neg a13,h2]
 ·rw[if_neg h0]at hrow
  by_cases h1:r.behind=1
  ·rw[if_pos h1]at hrow
   simp only[Bool.and_eq_true,decide_eq_true_eq]at hrow
   obtain⟨⟨a1,a2⟩,a3⟩:=hrow
   have hu:=ag_U A R
   have hb:behindM c.D r.behind s.i=UM c.D s.i:=by rw[h1];rfl
   have hi:Rf.instrM E G labels stack op.toNat (.ok s.i)=(⟨(Rf.uM E 4294967295 (.ok s.i)).1,[],0,r.takes,r.gives,true⟩,(Rf.uM E 4294967295 (.ok s.i)).2):=by
    unfold Rf.instrM
    rw[if_neg (by omega),if_neg (by omega),if_neg (by omega),if_neg (by omega),if_neg (by omega),if_neg (by omega),if_neg (by omega),if_neg (by omega),Rf.plainM_mem _ _ _ _ ⟨a1,a2⟩,a3]
   rw[hb]
   cases hm:UM c.D s.i with
   |error e=>exact step_err (by rw[hi];exact hu.err hm)
   |ok x=>
    obtain⟨n,j⟩:=x
    exact step n j _ (by rw[hi,hu.ok hm]) n
  ·rw[if_neg h1]at hrow
   by_cases h2:r.behind=2
   ·rw[if_pos h2]at hrow
    simp only[Bool.and_eq_true,decide_eq_true_eq]at hrow
    obtain⟨⟨a1,a2⟩,a3⟩:=hrow
    have hu:=rf_s32 A.en R.i
    rw[←A.D]at hu
    have hi:Rf.instrM E G labels stack op.toNat (.ok s.i)=(⟨(Rf.sM E 32 (.ok s.i)).1,[],0,r.takes,r.gives,true⟩,(Rf.sM E 32 (.ok s.i)).2):=by
     rw[a1,a2,a3];rfl
    rw[h2]
    cases hm:behindM c.D 2 s.i with
    |error e=>exact step_err (by rw[hi];exact hu.err hm)
    |ok x=>
     obtain⟨n,j⟩:=x
     exact step n j _ (by rw[hi,hu.ok hm]) n
   ·rw[if_neg h2]at hrow
    by_cases h3:r.behind=3
    ·rw[if_pos h3]at hrow
     simp only[Bool.and_eq_true,decide_eq_true_eq]at hrow
     obtain⟨⟨a1,a2⟩,a3⟩:=hrow
     have hu:=rf_s64 A.en R.i
     rw[←A.D]at hu
     have hi:Rf.instrM E G labels stack op.toNat (.ok s.i)=(⟨(Rf.sM E 64 (.ok s.i)).1,[],0,r.takes,r.gives,true⟩,(Rf.sM E 64 (.ok s.i)).2):=by
      rw[a1,a2,a3];rfl
     rw[h3]
     cases hm:behindM c.D 3 s.i with
     |error e=>exact step_err (by rw[hi];exact hu.err hm)
     |ok x=>
      obtain⟨n,j⟩:=x
      exact step n j _ (by rw[hi,hu.ok hm]) n
    ·rw[if_neg h3]at hrow
     simp only[Bool.and_eq_true,decide_eq_true_eq]at hrow
     exact absurd hrow.1 h4
end
end Go.Proofs.YtdeplgkhmebalaaGreatDoor

set_option linter.unusedSimpArgs false
set_option linter.unusedVariables false
namespace Go.Proofs.YtdeplgkhmebalaaGreatDoor
open Go.RowKit

def stepsTo (c:Ctx):Nat→Bd→Bd→Prop
 |0,s,s'=>s=s'
 |k+1,s,s'=>s.blocks≠[]∧ ∃s1,stepM c s= .ok s1∧stepsTo c k s1 s'
def stepsErr (c:Ctx):Nat→Bd→Int×Int→Prop
 |0,s,e=>s.blocks≠[]∧stepM c s= .error e
 |k+1,s,e=>s.blocks≠[]∧ ∃s1,stepM c s= .ok s1∧stepsErr c k s1 e
theorem look_to {c:Ctx}: ∀(k n:Nat) (s s':Bd),stepsTo c k s s'→lookM c (k+n) s=lookM c n s':=by
 intro k
 induction k with
 |zero=>intro n s s' h;rw[show s=s' from h,Nat.zero_add]
 |succ k ih=>
  intro n s s' ⟨h1,s1,h2,h3⟩
  rw[show k+1+n=(k+n)+1 by omega,lookM,if_neg h1,h2]
  exact ih n s1 s' h3
theorem look_er {c:Ctx}: ∀(k n:Nat) (s:Bd) (e:Int×Int),stepsErr c k s e→lookM c (k+1+n) s= .error e:=by
 intro k
 induction k with
 |zero=>
  intro n s e ⟨h1,h2⟩
  rw[show 0+1+n=n+1 by omega,lookM,if_neg h1,h2]
 |succ k ih=>
  intro n s e ⟨h1,s1,h2,h3⟩
  rw[show k+1+1+n=(k+1+n)+1 by omega,lookM,if_neg h1,h2]
  exact ih n s1 e h3
theorem to_to {c:Ctx}: ∀(k m:Nat) (s s1 s2:Bd),stepsTo c k s s1→stepsTo c m s1 s2→stepsTo c (k+m) s s2:=by
 intro k
 induction k with
 |zero=>intro m s s1 s2 h1 h2;rw[show s=s1 from h1,Nat.zero_add];exact h2
 |succ k ih=>
  intro m s s1 s2 ⟨a,s',b,d⟩ h2
  rw[show k+1+m=(k+m)+1 by omega]
  exact⟨a,s',b,ih m s' s1 s2 d h2⟩
theorem to_er {c:Ctx}: ∀(k m:Nat) (s s1:Bd) (e:Int×Int),stepsTo c k s s1→stepsErr c m s1 e→stepsErr c (k+m) s e:=by
 intro k
 induction k with
 |zero=>intro m s s1 e h1 h2;rw[show s=s1 from h1,Nat.zero_add];exact h2
 |succ k ih=>
  intro m s s1 e ⟨a,s',b,d⟩ h2
  rw[show k+1+m=(k+m)+1 by omega]
  exact⟨a,s',b,ih m s' s1 e d h2⟩

def Ends (c:Ctx) (n:Nat) (s:Bd) (base:List UInt8) (r:Bool×Rf.PS):Prop:=match r.2 with
 | .error e=> ∃k,k≤n -s.i∧stepsErr c k s e
 | .ok j=>j≤n∧s.i<j∧(
  if r.1=true then s.top.kind=3∧ ∃k s',k≤j -s.i∧stepsTo c k s s'∧s'.i=j∧s'.closed=false∧s'.stack=base∧s'.blocks.map core=s.blocks.dropLast.map core++[core {s.top with kind:=4}]
  else if s.top.kind=3∧s.top.result≠[]then ∃k,k≤n -s.i∧stepsErr c k s (3,(j:Int) -1)
  else ∃k s',k≤j -s.i∧stepsTo c k s s'∧s'.i=j∧s'.closed=false∧s'.stack=base++s.top.result∧s'.blocks.map core=s.blocks.dropLast.map core)
theorem drop_core {s s1:Bd} (h:s1.blocks.map core=s.blocks.map core):s1.blocks.dropLast.map core=s.blocks.dropLast.map core:=by
 rw[List.map_dropLast,List.map_dropLast,h]
theorem kind_core {a b:Bk} (h:core a=core b):a.kind=b.kind∧a.result=b.result∧a.height=b.height∧core {a with kind:=4}=core {b with kind:=4}:=by
 have h1:(core a).kind=(core b).kind:=by rw[h]
 have h2:(core a).result=(core b).result:=by rw[h]
 have h3:(core a).height=(core b).height:=by rw[h]
 refine⟨h1,h2,h3,?_⟩
 show(⟨4,a.result,a.height,0,[]⟩:Bk)=⟨4,b.result,b.height,0,[]⟩
 rw[show a.result=b.result from h2,show a.height=b.height from h3]
theorem Ends.pre {c:Ctx} {n k:Nat} {s s1:Bd} {base:List UInt8} {r:Bool×Rf.PS} (h:Ends c n s1 base r) (hs:stepsTo c k s s1) (hk:k≤s1.i -s.i) (hi:s.i≤s1.i) (hn:s1.i≤n) (hb:s1.blocks.map core=s.blocks.map core):Ends c n s base r:=by
 have ht:=kind_core (top_core hb)
 have hd:=drop_core hb
 unfold Ends at h⊢
 cases hr:r.2 with
 |error e=>
  rw[hr]at h
  obtain⟨m,hm,h⟩:=h
  exact⟨k+m,by omega,to_er _ _ _ _ _ hs h⟩
 |ok j=>
  rw[hr]at h
  simp only at h⊢
  obtain⟨h1,h2,h⟩:=h
  refine⟨h1,by omega,?_⟩
  rw[ht.2.2.2,ht.1,ht.2.1,hd]at h
  split
  ·rename_i hh
   rw[if_pos hh]at h
   obtain⟨h0,m,s',a,b,d⟩:=h
   exact⟨h0,k+m,s',by omega,to_to _ _ _ _ _ hs b,d⟩
  ·rename_i hh
   rw[if_neg hh]at h
   split
   ·rename_i h3
    rw[if_pos h3]at h
    obtain⟨m,hm,h⟩:=h
    exact⟨k+m,by omega,to_er _ _ _ _ _ hs h⟩
   ·rename_i h3
    rw[if_neg h3]at h
    obtain⟨m,s',a,b,d⟩:=h
    exact⟨k+m,s',by omega,to_to _ _ _ _ _ hs b,d⟩

section
variable{E:Rf.PE} {G:Rf.Env} {c:Ctx} {s:Bd} {labels:List (List UInt8)} {base stack:List UInt8} (A:Ag E G c) (R:Rl E s labels base stack) (hc:s.closed=false)
include A R hc
theorem ag_step {op:UInt8} {r:RowT} (hf:findM op=some r) (h2:op≠2) (h3:op≠3) (h4:op≠4) (h5:op≠5) (h11:op≠11):
  StepLike s base stack (if r.behind=4 then specialM c op s else plainB c op r s) (Rf.instrM E G labels stack op.toNat (.ok s.i)) (decide (op=0∨op=12∨op=14∨op=15)):=by
 have hrow:=row_of op
 unfold rowB at hrow
 rw[UInt8.ofNat_toNat,hf]at hrow
 simp only[Bool.and_eq_true]at hrow
 obtain⟨-,hrow⟩:=hrow
 by_cases hb:r.behind=4
 ·rw[if_pos hb]
  rw[if_neg (by omega),if_neg (by omega),if_neg (by omega),if_neg (by omega)]at hrow
  simp only[Bool.and_eq_true,List.contains_iff_mem,List.mem_cons,List.not_mem_nil,or_false]at hrow
  have hh: ∀q:UInt8,op.toNat=q.toNat→op=q:=fun q h=>UInt8.toNat_inj.1 h
  rcases hrow.2 with h|h|h|h|h|h|h|h|h|h|h|h|h|h|h|h|h|h
  ·obtain rfl :=hh 0 h;exact ag_stop R
  ·exact absurd (hh 2 h) h2
  ·exact absurd (hh 3 h) h3
  ·exact absurd (hh 4 h) h4
  ·exact absurd (hh 5 h) h5
  ·exact absurd (hh 11 h) h11
  ·obtain rfl :=hh 12 h;exact ag_branch A R (.inl rfl) hc
  ·obtain rfl :=hh 13 h;exact ag_branch A R (.inr rfl) hc
  ·obtain rfl :=hh 14 h;exact ag_table A R
  ·obtain rfl :=hh 15 h;exact ag_leave R
  ·obtain rfl :=hh 16 h;exact ag_call A R hc
  ·obtain rfl :=hh 26 h;exact ag_drop R hc
  ·obtain rfl :=hh 27 h;exact ag_choose R hc
  ·obtain rfl :=hh 32 h;exact ag_local A R hc (.inl rfl)
  ·obtain rfl :=hh 33 h;exact ag_local A R hc (.inr (.inl rfl))
  ·obtain rfl :=hh 34 h;exact ag_local A R hc (.inr (.inr rfl))
  ·obtain rfl :=hh 35 h;exact ag_global A R hc (.inl rfl)
  ·obtain rfl :=hh 36 h;exact ag_global A R hc (.inr rfl)
 ·rw[if_neg hb]
  have hd:decide (op=0∨op=12∨op=14∨op=15)=false:=by
   rw[decide_eq_false_iff_not]
   rintro(rfl |rfl |rfl |rfl)
   all_goals
    have hx: ∀q,findM q=some r→(findM q).map (fun r=>r.behind)=some r.behind:=fun q h=>by rw[h];rfl
    have :=hx _ hf
    first
     |exact hb (Option.some.inj (this.symm.trans (show _=some 4 by decide)))
  rw[hd]
  exact ag_plain A R hc hf hb
end
end Go.Proofs.YtdeplgkhmebalaaGreatDoor

set_option linter.unusedSimpArgs false
set_option linter.unusedVariables false
namespace Go.Proofs.YtdeplgkhmebalaaGreatDoor
open Go.RowKit

theorem byte_at {D:List UInt8} {i j:Nat} {x:UInt8} (h:byteM D i= .ok (x,j)):j=i+1∧i<D.length:=by
 unfold byteM at h
 split at h
 ·cases h;exact⟨rfl,by assumption⟩
 ·cases h
theorem set_last (l:List Bk) (h:l≠[]) (b:Bk):l.set (l.length -1) b=l.dropLast++[b]:=by
 rcases List.eq_nil_or_concat l with rfl |⟨l',a,rfl⟩
 ·exact absurd rfl h
 ·simp[List.set_append]
theorem aimAll_core (l:List Nat): ∀s:Bd,(aimAll l s).blocks=s.blocks∧(aimAll l s).stack=s.stack∧(aimAll l s).i=s.i:=by
 induction l with
 |nil=>intro s;exact⟨rfl,rfl,rfl⟩
 |cons n l ih=>intro s;exact ih (aimM s n)
theorem step_eq {c:Ctx} {s:Bd} {x:UInt8} {j:Nat} {r:RowT} (hb:byteM c.D s.i= .ok (x,j)) (hf:findM x=some r) (h: ¬(s.closed=true∧x≠5∧x≠11)):
  stepM c s=if r.behind=4 then specialM c x {s with pos:=s.i,i:=j}else plainB c x r {s with pos:=s.i,i:=j}:=by
 unfold stepM
 simp only[hb,hf]
 rw[if_neg h]
theorem blk_bad (G:Rf.Env) (f:Nat) (E:Rf.PE) (labels:List (List UInt8)) (result:List UInt8) (other:Bool) (stack:List UInt8) (dead:Bool) (e:Int×Int):Rf.blk G f E labels result other stack dead (.error e)=(false,.error e):=by
 cases f with
 |zero=>rfl
 |succ f=>rw[Rf.blk,if_pos (show Rf.badM (Except.error e)=true from rfl)]
theorem top_push (l:List Bk) (b:Bk) (s:Bd) (h:s.blocks=l++[b]):s.top=b:=by
 unfold Bd.top Bd.bk
 rw[h,List.length_append,List.length_singleton,Nat.add_sub_cancel,List.getD_eq_getElem?_getD,List.getElem?_append_right (Nat.le_refl _),Nat.sub_self]
 rfl
theorem core_push {s:Bd} {l:List Bk} {b:Bk} (h:s.blocks.map core=l++[b]):core s.top=b:=by
 have hl:s.blocks.length=l.length+1:=by have :=congrArg List.length h;simpa using this
 unfold Bd.top
 rw[bk_core,h,hl,Nat.add_sub_cancel,List.getD_eq_getElem?_getD,List.getElem?_append_right (Nat.le_refl _),Nat.sub_self]
 rfl
section
variable{E:Rf.PE} {s:Bd} {labels:List (List UInt8)} {base stack:List UInt8} (R:Rl E s labels base stack)
include R
theorem fullR_eq:fullM s (s.blocks.length -1)=(s.closed||(stack==s.top.result)):=by
 have h1:s.stack.drop s.top.height=stack:=by rw[R.hb,R.st,List.drop_left' rfl]
 show(s.closed||s.stack.drop s.top.height==s.top.result)=_
 rw[h1]
theorem ag_turn (hk:s.top.kind=3) (hf:(s.closed||(stack==s.top.result))=true): ∃s',turnM s= .ok s'∧s'.i=s.i∧s'.closed=false∧s'.stack=base∧s'.blocks.map core=s.blocks.dropLast.map core++[core {s.top with kind:=4}]:=by
 unfold turnM
 rw[fullR_eq R,hf,if_neg (by simp[hk])]
 obtain⟨h1,h2,h3⟩:=jump_core s 5 (s.blocks.length -1)
 have hne:(jumpM s 5 (s.blocks.length -1)).blocks≠[]:=by
  intro h
  rw[h]at h1
  exact R.ne (List.map_eq_nil_iff.1 h1.symm)
 have ht:=kind_core (top_core h1)
 refine⟨_,rfl,h3,rfl,?_,?_⟩
 ·show(jumpM s 5 (s.blocks.length -1)).stack.take (jumpM s 5 (s.blocks.length -1)).top.height=base
  rw[h2,ht.2.2.1,R.hb,R.st,List.take_left' rfl]
 ·show((jumpM s 5 (s.blocks.length -1)).blocks.set ((jumpM s 5 (s.blocks.length -1)).blocks.length -1) {(jumpM s 5 (s.blocks.length -1)).top with kind:=4}).map core=_
  rw[set_last _ hne,List.map_append,drop_core h1]
  show _++[core _]=_
  rw[ht.2.2.2]
theorem ag_end (hk: ¬(s.top.kind=3∧s.top.result≠[])) (hf:(s.closed||(stack==s.top.result))=true): ∃s',endM s= .ok s'∧s'.i=s.i∧s'.closed=false∧s'.stack=base++s.top.result∧s'.blocks.map core=s.blocks.dropLast.map core:=by
 unfold endM
 rw[fullR_eq R,hf,if_neg (by simpa using hk)]
 have key: ∀s1:Bd,s1.blocks=s.blocks→s1.stack=s.stack→s1.i=s.i→ ∃s',(Except.ok {s1 with stack:=s1.stack.take s.top.height++s.top.result,blocks:=s1.blocks.take (s1.blocks.length -1),closed:=false}:Res)= .ok s'∧s'.i=s.i∧s'.closed=false∧s'.stack=base++s.top.result∧s'.blocks.map core=s.blocks.dropLast.map core:=by
  intro s1 h1 h2 h3
  refine⟨_,rfl,h3,rfl,?_,?_⟩
  ·show s1.stack.take s.top.height++s.top.result=_
   rw[h2,R.hb,R.st,List.take_left' rfl]
  ·show(s1.blocks.take (s1.blocks.length -1)).map core=_
   rw[h1,List.dropLast_eq_take]
 have k1: ∀s1:Bd,s1=(if s.top.kind=3 then aimM s (s.top.start -1)else s)→s1.blocks=s.blocks∧s1.stack=s.stack∧s1.i=s.i:=by
  intro s1 h
  rw[h]
  split <;>exact⟨rfl,rfl,rfl⟩
 obtain⟨s1,hs1⟩: ∃s1,s1=(if s.top.kind=3 then aimM s (s.top.start -1)else s):=⟨_,rfl⟩
 have k1:=k1 s1 hs1
 have k2:=aimAll_core s.top.waits s1
 obtain⟨s3,hs3⟩: ∃s3,s3=(if s.top.kind=0 then emitM (aimAll s.top.waits s1) ⟨11,0,0,0,0⟩else aimAll s.top.waits s1):=⟨_,rfl⟩
 have k3:s3.blocks=s.blocks∧s3.stack=s.stack∧s3.i=s.i:=by
  rw[hs3]
  split
  ·exact⟨k2.1.trans k1.1,k2.2.1.trans k1.2.1,k2.2.2.trans k1.2.2⟩
  ·exact⟨k2.1.trans k1.1,k2.2.1.trans k1.2.1,k2.2.2.trans k1.2.2⟩
 have :=key s3 k3.1 k3.2.1 k3.2.2
 rw[←hs1]
 simp only
 rw[←hs3]
 exact this
end
end Go.Proofs.YtdeplgkhmebalaaGreatDoor

set_option linter.unusedSimpArgs false
set_option linter.unusedVariables false
namespace Go.Proofs.YtdeplgkhmebalaaGreatDoor
open Go.RowKit

theorem Ag.deep {E:Rf.PE} {G:Rf.Env} {c:Ctx} (A:Ag E G c) (d:Int):Ag {E with d:=d} G c:=⟨A.en,A.D,A.funs,A.locs,A.gls⟩
theorem ends_err {c:Ctx} {n:Nat} {s:Bd} {base:List UInt8} {b:Bool} {e:Int×Int} (hne:s.blocks≠[]) (h:stepM c s= .error e):Ends c n s base (b,.error e):=⟨0,Nat.zero_le _,hne,h⟩

theorem ag_open {G:Rf.Env} {c:Ctx} {f:Nat} (ih: ∀(E:Rf.PE) (s:Bd) (labels:List (List UInt8)) (base stack:List UInt8),Ag E G c→Rl E s labels base stack→E.d=(s.blocks.length:Int) -1→E.en -s.i<f→
   Ends c E.en s base (Rf.blk G f E labels s.top.result (decide (s.top.kind=3)) stack s.closed (.ok s.i)))
  {E:Rf.PE} {s s2:Bd} {labels:List (List UInt8)} {base m:List UInt8} {op t:UInt8} (A:Ag E G c) (hd:E.d=(s.blocks.length:Int) -1) (hlab:labels=s.blocks.map valueM) (hne:s.blocks≠[]) (hbase:s.top.height=base.length)
  (hop:op=2∨op=3∨op=4) (h16:E.d≠16) (hstep:stepM c s= .ok s2) (hi:s.i<s2.i) (hn:s2.i≤E.en) (hf:E.en -s2.i<f) (hcl:s2.closed=false) (hst:s2.stack=base++m)
  {st:Nat} (hbl:s2.blocks=s.blocks++[⟨if op=3 then 2 else if op=4 then 3 else 1,if t=64 then []else [t],(base++m).length,st,[]⟩]) (at_:Int)
  {T:Bool×Rf.PS} (hT:T=(let z:=Rf.innerF (fun E' l' r' o' σ'=>Rf.blk G f E' l' r' o' [] false σ') E labels op.toNat t.toNat at_ m (.ok s2.i);Rf.blk G f E labels s.top.result (decide (s.top.kind=3)) z.1 false z.2)):
  Ends c E.en s base T:=by
 have hen:E.en=({E with d:=E.d+1}:Rf.PE).en:=rfl
 have htop:=top_push _ _ s2 hbl
 obtain⟨res,hres⟩: ∃res:List UInt8,res=if t=64 then []else [t]:=⟨_,rfl⟩
 have hres':(if t.toNat=64 then ([]:List UInt8)else [UInt8.ofNat t.toNat])=res:=by
  rw[hres,UInt8.ofNat_toNat]
  by_cases h:t=64
  ·rw[if_pos h,if_pos (show t.toNat=64 by rw[h];rfl)]
  ·rw[if_neg h,if_neg (show ¬t.toNat=64 from fun e=>h (UInt8.toNat_inj.1 (by rw[e];rfl)))]
 rw[←hres]at hbl htop
 obtain⟨kd,hkd⟩: ∃kd:Nat,kd=if op=3 then 2 else if op=4 then 3 else 1:=⟨_,rfl⟩
 rw[←hkd]at hbl htop
 have hk3:decide (op.toNat=4)=decide (kd=3):=by rw[hkd];rcases hop with rfl |rfl |rfl <;>rfl
 have hk2:(if op.toNat=3 then ([]:List UInt8)else res)=valueM ⟨kd,res,(base++m).length,st,[]⟩:=by
  show _=if kd=2 then []else res
  rw[hkd]
  rcases hop with rfl |rfl |rfl <;>rfl
 have hk4:(op.toNat=4)↔kd=3:=by
  rw[hkd];rcases hop with rfl |rfl |rfl <;>decide
 unfold Rf.innerF at hT
 rw[if_neg h16]at hT
 simp only[hres',hk3,hk2]at hT
 simp only[hk4]at hT
 obtain⟨around,har⟩: ∃around,around=labels++[valueM ⟨kd,res,(base++m).length,st,[]⟩]:=⟨_,rfl⟩
 rw[←har]at hT
 have hlen2:s2.blocks.length=s.blocks.length+1:=by rw[hbl,List.length_append];rfl
 have R2:Rl {E with d:=E.d+1} s2 around (base++m) []:=⟨hn,by rw[har,hbl,List.map_append,hlab];rfl,by rw[hbl];simp,by rw[hst,List.append_nil],by rw[htop]⟩
 have h1:=ih {E with d:=E.d+1} s2 around (base++m) [] (A.deep _) R2 (by show E.d+1=_;rw[hd,hlen2];omega) hf
 rw[htop,hcl]at h1
 simp only at h1
 have hst1:stepsTo c 1 s s2:=⟨hne,s2,hstep,rfl⟩
 --what comes behind
 have hfin: ∀(s3:Bd) (k:Nat),stepsTo c k s s3→k≤s3.i -s.i→s2.i≤s3.i→s3.i≤E.en→s3.closed=false→s3.stack=base++m++res→s3.blocks.map core=s.blocks.map core→
   Ends c E.en s base (Rf.blk G f E labels s.top.result (decide (s.top.kind=3)) (m++res) false (.ok s3.i)):=by
  intro s3 k hs hk h23 h3n hc3 hst3 hb3
  have ht3:=kind_core (top_core hb3)
  have hl3:s3.blocks.length=s.blocks.length:=by have :=congrArg List.length hb3;simpa using this
  have R3:Rl E s3 labels base (m++res):=⟨h3n,by rw[hlab,values_core hb3],by intro h;rw[h]at hl3;exact hne (List.eq_nil_of_length_eq_zero hl3.symm),by rw[hst3,List.append_assoc],by rw[ht3.2.2.1,hbase]⟩
  have h3:=ih E s3 labels base (m++res) A R3 (by rw[hd,hl3]) (by omega)
  rw[ht3.1,ht3.2.1,hc3]at h3
  exact h3.pre hs hk (by omega) h3n hb3
 have herr: ∀(e:Int×Int) (k:Nat),k≤E.en -s2.i→stepsErr c k s2 e→Ends c E.en s base (false,.error e):=by
  intro e k hk h
  exact⟨1+k,by omega,to_er _ _ _ _ _ hst1 h⟩
 generalize hr1:Rf.blk G f {E with d:=E.d+1} around res (decide (kd=3)) [] false (.ok s2.i)=r1 at *
 obtain⟨b1,σ1⟩:=r1
 cases σ1 with
 |error e=>
  have hz:T=(false,.error e):=by
   rw[hT]
   cases b1
   ·simp only[Bool.false_eq_true,if_false]
    split
    ·exact blk_bad _ _ _ _ _ _ _ _ _
    ·exact blk_bad _ _ _ _ _ _ _ _ _
   ·simp only[if_true,blk_bad]
  rw[hz]
  obtain⟨k,hk,h⟩:=h1
  exact herr e k hk h
 |ok j=>
  obtain⟨hj1,hj2,h1⟩:=h1
  rw[htop]at h1
  simp only at h1
  cases b1 with
  |true=>
   rw[if_pos rfl]at h1
   obtain⟨hkd3,k,s3,hk,hs3,hi3,hc3,hst3,hb3⟩:=h1
   have hb3':s3.blocks.map core=s.blocks.map core++[core ⟨4,res,(base++m).length,st,[]⟩]:=by
    rw[hb3,hbl,List.dropLast_concat]
   have ht3:=core_push hb3'
   have hv3:s3.blocks.map valueM=s.blocks.map valueM++[res]:=by
    have :=congrArg (List.map valueM) hb3'
    rw[List.map_append,List.map_map,List.map_map]at this
    exact this
   have hkk:s3.top.kind=4∧s3.top.result=res∧s3.top.height=(base++m).length:=by
    have a1:(core s3.top).kind=4:=by rw[ht3];rfl
    have a2:(core s3.top).result=res:=by rw[ht3];rfl
    have a3:(core s3.top).height=(base++m).length:=by rw[ht3];rfl
    exact⟨a1,a2,a3⟩
   have hl3:s3.blocks.length=s.blocks.length+1:=by have :=congrArg List.length hb3';simpa using this
   have hval:valueM ⟨kd,res,(base++m).length,st,[]⟩=res:=by
    show(if kd=2 then []else res)=res
    rw[if_neg (by omega)]
   have R3:Rl {E with d:=E.d+1} s3 around (base++m) []:=⟨by rw[hi3];exact hj1,by rw[har,hv3,hlab,hval],by intro h;rw[h]at hl3;simp at hl3,by rw[hst3,List.append_nil],hkk.2.2⟩
   have h2:=ih {E with d:=E.d+1} s3 around (base++m) [] (A.deep _) R3 (by show E.d+1=_;rw[hd,hl3];omega) (by show E.en -s3.i<f;omega)
   rw[hkk.1,hkk.2.1,hc3,show decide ((4:Nat)=3)=false from rfl,hi3]at h2
   simp only[if_true]at hT
   have hst3':stepsTo c (1+k) s s3:=to_to _ _ _ _ _ hst1 hs3
   generalize hr2:Rf.blk G f {E with d:=E.d+1} around res false [] false (.ok j)=r2 at *
   obtain⟨b2,σ2⟩:=r2
   cases σ2 with
   |error e=>
    have hz:T=(false,.error e):=by
     rw[hT]
     exact blk_bad _ _ _ _ _ _ _ _ _
    rw[hz]
    obtain⟨k2,hk2',h⟩:=h2
    have hk2'':k2≤E.en -s3.i:=hk2'
    exact⟨1+k+k2,by omega,to_er _ _ _ _ _ hst3' h⟩
   |ok j2=>
    obtain⟨hj21,hj22,h2⟩:=h2
    rw[hkk.1,hkk.2.1]at h2
    cases b2 with
    |true=>rw[if_pos rfl]at h2;omega
    |false=>
     rw[if_neg (show ¬((false,(Except.ok j2:Rf.PS)).fst=true)from Bool.false_ne_true),if_neg (by rintro⟨h,-⟩;omega)]at h2
     obtain⟨k2,s4,hk2',hs4,hi4,hc4,hst4,hb4⟩:=h2
     have hb4':s4.blocks.map core=s.blocks.map core:=by
      rw[hb4,List.map_dropLast,hb3',List.dropLast_concat]
     rw[hT,←hi4]
     have hj21':j2≤E.en:=hj21
     exact hfin s4 (1+k+k2) (to_to _ _ _ _ _ hst3' hs4) (by omega) (by omega) (by omega) hc4 hst4 hb4'
  |false=>
   rw[if_neg (by decide)]at h1
   simp only[Bool.false_eq_true,if_false]at hT
   by_cases hh:kd=3∧res≠[]
   ·rw[if_pos hh]at h1 hT
    obtain⟨k,hk,h⟩:=h1
    have hz:T=(false,.error (3,(j:Int) -1)):=by
     rw[hT]
     exact blk_bad _ _ _ _ _ _ _ _ _
    rw[hz]
    exact herr _ k hk h
   ·rw[if_neg hh]at h1 hT
    obtain⟨k,s3,hk,hs3,hi3,hc3,hst3,hb3⟩:=h1
    have hb3':s3.blocks.map core=s.blocks.map core:=by rw[hb3,hbl,List.dropLast_concat]
    rw[hT,←hi3]
    have hj1':j≤E.en:=hj1
    exact hfin s3 (1+k) (to_to _ _ _ _ _ hst1 hs3) (by omega) (by omega) (by omega) hc3 hst3 hb3'
end Go.Proofs.YtdeplgkhmebalaaGreatDoor

set_option linter.unusedSimpArgs false
set_option linter.unusedVariables false
namespace Go.Proofs.YtdeplgkhmebalaaGreatDoor
open Go.RowKit

theorem blk_at {E:Rf.PE} {G:Rf.Env} {c:Ctx} {f i j:Nat} {x:UInt8} (A:Ag E G c) (hi:i≤E.en) (hb:byteM c.D i= .ok (x,j)) (labels:List (List UInt8)) (result:List UInt8) (other:Bool) (stack:List UInt8) (dead:Bool):
  Rf.blk G (f+1) E labels result other stack dead (.ok i)=
   if x=5∨x=11 then (decide (x=5),if (dead=false∧stack≠result)∨(x=5∧other=false)then .error (3,(i:Int))else .ok j)else
   if Rf.knownM x=false then (false,.error (2,(i:Int)))else
   if dead=true then (false,.error (3,(i:Int)))else
   let y:=Rf.instrM E G labels stack x.toNat (.ok j)
   let o:=Rf.offM stack y.1.take
   let σ3:=if y.1.ok=false∨o.2=false then Rf.failM 3 i y.2 else y.2
   if Rf.badM σ3 then (false,σ3)else
   let z:=if x=2∨x=3∨x=4 then Rf.innerF (fun E' l' r' o' σ'=>Rf.blk G f E' l' r' o' [] false σ') E labels x.toNat y.1.n i (o.1++y.1.put) σ3 else (o.1++y.1.put,σ3)
   Rf.blk G f E labels result other z.1 (decide (x=0∨x=12∨x=14∨x=15)) z.2:=by
 rw[Rf.blk,if_neg (show ¬Rf.badM (Except.ok i)=true by simp[Rf.badM])]
 have hn:Rf.nextM E (.ok i)=(x,.ok j):=by rw[rf_next A.en hi,←A.D,hb];rfl
 simp only[hn]
 rw[if_neg (show ¬Rf.badM (Except.ok j)=true by simp[Rf.badM])]
 rfl
theorem blk_end {E:Rf.PE} {G:Rf.Env} {c:Ctx} {f i:Nat} {e:Int×Int} (A:Ag E G c) (hi:i≤E.en) (hb:byteM c.D i= .error e) (labels:List (List UInt8)) (result:List UInt8) (other:Bool) (stack:List UInt8) (dead:Bool):
  Rf.blk G (f+1) E labels result other stack dead (.ok i)=(false,.error e):=by
 rw[Rf.blk,if_neg (show ¬Rf.badM (Except.ok i)=true by simp[Rf.badM])]
 have hn:Rf.nextM E (.ok i)=(0,.error e):=by rw[rf_next A.en hi,←A.D,hb];rfl
 simp only[hn]
 rw[if_pos (show Rf.badM (Except.error e)=true from rfl)]

theorem end_wrong {E:Rf.PE} {s:Bd} {labels:List (List UInt8)} {base stack:List UInt8} (R:Rl E s labels base stack) (h:(s.closed||(stack==s.top.result))=false∨(s.top.kind=3∧s.top.result≠[])):endM s=wrongM s:=by
 unfold endM
 rw[fullR_eq R,if_pos h]
theorem blk_look {G:Rf.Env} {c:Ctx}: ∀(f:Nat) (E:Rf.PE) (s:Bd) (labels:List (List UInt8)) (base stack:List UInt8),Ag E G c→Rl E s labels base stack→E.d=(s.blocks.length:Int) -1→E.en -s.i<f→
  Ends c E.en s base (Rf.blk G f E labels s.top.result (decide (s.top.kind=3)) stack s.closed (.ok s.i)):=by
 intro f
 induction f with
 |zero=>intro E s labels base stack _ _ _ h;omega
 |succ f ih=>
  intro E s labels base stack A R hd hf
  cases hb:byteM c.D s.i with
  |error e=>
   rw[blk_end A R.i hb]
   exact ends_err R.ne (by unfold stepM;rw[hb])
  |ok p=>
   obtain⟨x,j⟩:=p
   obtain⟨hj,hlt⟩:=byte_at hb
   rw[A.D,rf_len A.en]at hlt
   rw[blk_at A R.i hb]
   have R0:Rl E {s with pos:=s.i,i:=j} labels base stack:=⟨by show j≤E.en;omega,R.lab,R.ne,R.st,R.hb⟩
   by_cases h511:x=5∨x=11
   ·rw[if_pos h511]
    have hfull:=fullR_eq R0
    rcases h511 with rfl |rfl
    ·have hst:=step_eq hb (show findM 5=some ⟨2,5,4,[],[]⟩from rfl) (by simp)
     rw[if_pos rfl]at hst
     have hst':stepM c s=turnM {s with pos:=s.i,i:=j}:=hst
     by_cases hw:s.top.kind=3∧(s.closed||(stack==s.top.result))=true
     ·obtain⟨s',h1,h2,h3,h4,h5⟩:=ag_turn R0 hw.1 hw.2
      rw[h1]at hst'
      rw[if_neg (by
       rintro(⟨a,b⟩|⟨-,a⟩)
       ·have :=hw.2;rw[a]at this;simp at this;exact b this
       ·rw[decide_eq_false_iff_not]at a;exact a hw.1)]
      refine⟨by omega,by omega,?_⟩
      rw[if_pos (by simp)]
      exact⟨hw.1,1,s',by omega,⟨R.ne,s',hst',rfl⟩,h2,h3,h4,h5⟩
     ·have hwr:turnM {s with pos:=s.i,i:=j}= .error (3,(s.i:Int)):=by
       unfold turnM
       rw[hfull,if_pos]
       ·rfl
       ·by_cases hk:s.top.kind=3
        ·right
         cases hq:(s.closed||(stack==s.top.result))with
         |false=>exact hq
         |true=>exact absurd ⟨hk,hq⟩ hw
        ·exact .inl hk
      rw[hwr]at hst'
      rw[if_pos (by
       by_cases hk:s.top.kind=3
       ·left
        cases hq:(s.closed||(stack==s.top.result))with
        |false=>simp at hq;exact hq
        |true=>exact absurd ⟨hk,hq⟩ hw
       ·right;exact⟨rfl,by simpa using hk⟩)]
      exact ends_err R.ne hst'
    ·have hst:=step_eq hb (show findM 11=some ⟨11,16,4,[],[]⟩from rfl) (by simp)
     rw[if_pos rfl]at hst
     have hst':stepM c s=endM {s with pos:=s.i,i:=j}:=hst
     cases hq:(s.closed||(stack==s.top.result))with
     |false=>
      have hwr:endM {s with pos:=s.i,i:=j}= .error (3,(s.i:Int)):=end_wrong R0 (.inl hq)
      rw[hwr]at hst'
      rw[if_pos (by left;simp at hq;exact hq)]
      exact ends_err R.ne hst'
     |true=>
      rw[if_neg (by
       rintro(⟨a,b⟩|⟨a,-⟩)
       ·rw[a]at hq;simp at hq;exact b hq
       ·exact absurd a (by decide))]
      refine⟨by omega,by omega,?_⟩
      rw[if_neg (by simp)]
      by_cases hk:s.top.kind=3∧s.top.result≠[]
      ·rw[if_pos hk]
       have hwr:endM {s with pos:=s.i,i:=j}= .error (3,(s.i:Int)):=end_wrong R0 (.inr hk)
       rw[hwr]at hst'
       refine⟨0,Nat.zero_le _,R.ne,?_⟩
       rw[hst',hj]
       congr 2
       omega
      ·rw[if_neg hk]
       obtain⟨s',h1,h2,h3,h4,h5⟩:=ag_end R0 hk hq
       rw[h1]at hst'
       exact⟨1,s',by omega,⟨R.ne,s',hst',rfl⟩,h2,h3,h4,h5⟩
   ·rw[if_neg h511]
    have h5:x≠5:=fun e=>h511 (.inl e)
    have h11:x≠11:=fun e=>h511 (.inr e)
    cases hfd:findM x with
    |none=>
     have hkn:Rf.knownM x=false:=by
      cases hq:Rf.knownM x with
      |false=>rfl
      |true=>
       obtain⟨r,hr⟩:=(known_find x).1 hq
       rw[hr]at hfd;cases hfd
     rw[if_pos hkn]
     exact ends_err R.ne (by unfold stepM;simp only[hb,hfd])
    |some r=>
     have hkn:Rf.knownM x=true:=(known_find x).2 ⟨r,hfd⟩
     rw[if_neg (by rw[hkn];decide)]
     cases hcl:s.closed with
     |true=>
      rw[if_pos rfl]
      exact ends_err R.ne (by unfold stepM;simp only[hb,hfd];rw[if_pos ⟨hcl,h5,h11⟩])
     |false=>
      rw[if_neg (by decide)]
      have hst:=step_eq hb hfd (by rw[hcl];rintro⟨a,-⟩;cases a)
      by_cases h234:x=2∨x=3∨x=4
      ·simp only[if_pos h234]
       have hdd:decide (x=0∨x=12∨x=14∨x=15)=false:=by rcases h234 with rfl |rfl |rfl <;>decide
       rw[hdd]
       have hM:Rf.instrM E G labels stack x.toNat (.ok j)=(⟨(Rf.needM E 64 127 126 (.ok j)).1.toNat,[],0,if x=4 then [127]else [],[],true⟩,(Rf.needM E 64 127 126 (.ok j)).2):=by
        rcases h234 with rfl |rfl |rfl <;>rfl
       rw[hM]
       simp only
       have hst':stepM c s=openM c x {s with pos:=s.i,i:=j}:=by
        rw[hst]
        have hrb:r.behind=4:=by
         have hx:(findM x).map (fun r=>r.behind)=some 4:=by rcases h234 with rfl |rfl |rfl <;>rfl
         rw[hfd]at hx;exact Option.some.inj hx
        rw[if_pos hrb]
        rcases h234 with rfl |rfl |rfl <;>rfl
       have hnd:=rf_need A.en (i:=j) (a:=64) (b:=127) (c:=126) (al:=[127,126,64]) (by intro q;simp;constructor <;>(rintro(h|h|h)<;>simp[h])) (by omega)
       have hrb:=oneOf_rb (D:=c.D) (i:=j) [127,126,64] (by rw[A.D,rf_len A.en];omega)
       rw[←A.D]at hnd
       unfold openM at hst'
       cases ho:oneOfM c.D [127,126,64] j with
       |error e=>
        simp only[ho]at hst'
        have he:=hnd.err ho
        rw[he]
        have h3:(if true=false∨(Rf.offM stack (if x=4 then [127]else [])).2=false then Rf.failM 3 (s.i:Int) (Except.error e)else Except.error e)=(Except.error e:Rf.PS):=by
         rw[show Rf.failM 3 (s.i:Int) (Except.error e)=Except.error e from rfl,ite_self]
        rw[h3,if_pos (show Rf.badM (Except.error e)=true from rfl)]
        exact ends_err R.ne hst'
       |ok q=>
        obtain⟨t,j2⟩:=q
        simp only[ho]at hst'
        have hj2:j2≤c.D.length:=hrb.ok ho
        rw[A.D,rf_len A.en]at hj2
        have hj2':j2=j+1:=by
         unfold oneOfM at ho
         split at ho
         ·cases ho
         ·rename_i hb2
          split at ho
          ·cases ho;exact(byte_at hb2).1
          ·cases ho
        rw[hnd.ok ho]
        simp only
        have htk:(if x=4 then takeM {s with pos:=s.i,i:=j2} 127 else some {s with pos:=s.i,i:=j2})=takeAllM {s with pos:=s.i,i:=j2} (if x=4 then [127]else []):=by
         split
         ·exact take_one _ _
         ·rfl
        rw[htk]at hst'
        rcases off_takes (s:={s with pos:=s.i,i:=j2}) R.st R.hb (if x=4 then [127]else [])with⟨m,hm,hof,htA⟩|⟨hof,htA⟩
        ·rw[hof]
         simp only[htA]at hst'
         rw[if_neg (show ¬(true=false∨true=false)by simp),if_neg (show ¬Rf.badM (Except.ok j2)=true by simp[Rf.badM])]
         simp only[List.append_nil]
         by_cases h16:E.d=16
         ·have hz:Rf.innerF (fun E' l' r' o' σ'=>Rf.blk G f E' l' r' o' [] false σ') E labels x.toNat t.toNat (s.i:Int) m (.ok j2)=([],.error (3,(s.i:Int))):=by
           unfold Rf.innerF
           rw[if_pos h16]
           rfl
          rw[hz]
          simp only
          rw[blk_bad]
          rw[if_pos (by show s.blocks.length -1=16;omega)]at hst'
          exact ends_err R.ne hst'
         ·rw[if_neg (by show ¬s.blocks.length -1=16;have :=List.length_pos_iff.2 R.ne;omega)]at hst'
          refine ag_open ih A hd R.lab R.ne R.hb h234 h16 (t:=t) (m:=m) hst' (by show s.i<j2;omega) (by show j2≤E.en;omega) (by show E.en -j2<f;omega) hcl rfl (st:=s.code.length+1) ?_ (s.i:Int) rfl
          rfl
        ·have hor:true=false∨(Rf.offM stack (if x=4 then [127]else [])).2=false:= .inr hof
         rw[if_pos hor]
         simp only[htA]at hst'
         rw[if_pos (show Rf.badM (Rf.failM 3 (s.i:Int) (Except.ok j2))=true from rfl)]
         exact ends_err R.ne hst'
      ·simp only[if_neg h234]
       have h2:x≠2:=fun e=>h234 (.inl e)
       have h3:x≠3:=fun e=>h234 (.inr (.inl e))
       have h4:x≠4:=fun e=>h234 (.inr (.inr e))
       have hs:=ag_step A R0 hcl hfd h2 h3 h4 h5 h11
       rw[←hst]at hs
       have hfw:=Rf.instr_fwd (E:=E) (G:=G) (labels:=labels) (stack:=stack) (op:=x.toNat) (σ:= .ok j) (fun i hi=>by cases hi;omega)
       change StepLike _ base stack (stepM c s) (Rf.instrM E G labels stack x.toNat (.ok j)) _ at hs
       generalize Rf.instrM E G labels stack x.toNat (.ok j)=y at *
       cases hse:stepM c s with
       |error e=>
        rw[hse]at hs
        have hs':(if y.1.ok=false∨(Rf.offM stack y.1.take).2=false then Rf.failM 3 (s.i:Int) y.2 else y.2)= .error e:=hs
        rw[hs',if_pos (show Rf.badM (Except.error e)=true from rfl)]
        exact ends_err R.ne hse
       |ok s1=>
        rw[hse]at hs
        obtain⟨k1,k2,k3,k4,k5,k6⟩:=hs
        rw[if_neg (show ¬(y.1.ok=false∨(Rf.offM stack y.1.take).2=false)by rw[k1,k2];simp),k3,if_neg (show ¬Rf.badM (Except.ok s1.i)=true by simp[Rf.badM])]
        have hs1:j≤s1.i∧s1.i≤E.en:=by
         rw[k3]at hfw
         rcases hfw with h|⟨a,b,ha,hb',hab,hbn⟩
         ·cases h
         ·cases ha;cases hb';exact⟨by omega,hbn⟩
        have k5':s1.blocks.map core=s.blocks.map core:=k5
        have ht:=kind_core (top_core k5')
        have hl1:s1.blocks.length=s.blocks.length:=by have :=congrArg List.length k5';simpa using this
        have R1:Rl E s1 labels base ((Rf.offM stack y.1.take).1++y.1.put):=⟨hs1.2,by rw[R.lab,values_core k5'],by intro h;rw[h]at hl1;exact R.ne (List.eq_nil_of_length_eq_zero hl1.symm),k6,by rw[ht.2.2.1,R.hb]⟩
        have h1:=ih E s1 labels base _ A R1 (by rw[hd,hl1]) (by omega)
        rw[ht.1,ht.2.1,k4]at h1
        exact h1.pre (k:=1) ⟨R.ne,s1,hse,rfl⟩ (by omega) (by omega) hs1.2 k5'
end Go.Proofs.YtdeplgkhmebalaaGreatDoor

set_option linter.unusedSimpArgs false
set_option linter.unusedVariables false
namespace Go.Proofs.YtdeplgkhmebalaaGreatDoor
open Go.RowKit

def Rf.bodyR (E:Rf.PE) (funcs:List (List UInt8×List UInt8)) (globs:List (UInt8×UInt8×Nat)) (typ:List UInt8×List UInt8) (i:Nat):Rf.PS:=
 match Rf.uM E 2000 (.ok i)with
 |(_,.error e)=> .error e
 |(n,.ok j)=>
  if E.data.length<j+n then .error (2,(i:Int))else
  let k:=Rf.uM {E with en:=j+n} ((32:Int) -typ.1.length) (.ok j)
  let t:=Rf.typesM {E with en:=j+n} k.1 k.2
  match (Rf.blk ⟨typ.1++t.1,funcs,globs⟩ 2001 {E with en:=j+n,d:=0} [typ.2] typ.2 false [] false t.2).2 with
  | .error e=> .error e
  | .ok q=>if q<j+n then .error (2,(q:Int))else .ok q
theorem body_agree {E:Rf.PE} (he:E.en=E.data.length) (hl:E.data.length≤2000) {typ:List UInt8×List UInt8} (hp:typ.1.length≤32) (fs:List Ty) (globs:List (UInt8×UInt8×Nat)) (code:List Ins) {i:Nat} (hi:i≤E.en):
  Rf.bodyR E fs globs typ i=match bodyM E.data fs (globs.map fun g=>(g.1,g.2.1==1)) typ code i with | .error e=> .error e| .ok (_,q)=> .ok q:=by
 have hu:=rf_u (E:=E) (i:=i) (by omega) 2000 hi
 rw[he,List.take_length]at hu
 have hr:=U_rb (D:=E.data) (i:=i) (by omega)
 unfold Rf.bodyR bodyM
 unfold belowM at hu
 generalize Rf.uM E 2000 (.ok i)=v at *
 obtain⟨v1,v2⟩:=v
 cases hU:UM E.data i with
 |error e=>
  rw[hU]at hu
  have :v2= .error e:=hu
  rw[this]
 |ok x=>
  obtain⟨size,j⟩:=x
  rw[hU]at hu
  have hj:j≤E.data.length:=hr.ok hU
  simp only at hu⊢
  by_cases h1:(2000:Int)+1≤(size:Int)
  ·rw[if_pos h1]at hu
   have :v2= .error (2,(i:Int)):=hu
   rw[this,if_pos (by omega)]
  ·rw[if_neg h1]at hu
   have hv:(v1,v2)=(size,Except.ok j):=hu
   have hv1:v1=size:=congrArg Prod.fst hv
   have hv2:v2= .ok j:=congrArg Prod.snd hv
   rw[hv1,hv2]
   simp only
   by_cases h2:E.data.length<j+size
   ·rw[if_pos h2,if_pos (by omega)]
   ·rw[if_neg h2,if_neg (by omega)]
    have hPl:(E.data.take (j+size)).length=j+size:=by rw[List.length_take];omega
    have hk:=rf_u (E:={E with en:=j+size}) (i:=j) (by show j+size≤E.data.length;omega) ((32:Int) -typ.1.length) (by show j≤j+size;omega)
    have hk':Like (Rf.uM {E with en:=j+size} ((32:Int) -typ.1.length) (.ok j)) (belowM (E.data.take (j+size)) (((32 -typ.1.length:Nat):Int)+1) j):=by
     rw[show(((32 -typ.1.length:Nat):Int)+1)=(32:Int) -typ.1.length+1 by omega]
     exact hk
    have hkb:=below_rb (D:=E.data.take (j+size)) (i:=j) (((32 -typ.1.length:Nat):Int)+1) (by omega)
    clear hk
    unfold listM
    generalize Rf.uM {E with en:=j+size} ((32:Int) -typ.1.length) (.ok j)=k at *
    cases hb:belowM (E.data.take (j+size)) (((32 -typ.1.length:Nat):Int)+1) j with
    |error e=>
     have hke:=hk'.err hb
     have ht:(Rf.typesM {E with en:=j+size} k.1 k.2).2= .error e:=by
      rw[hke];exact types_bad _ _ _ _
     rw[ht,blk_bad]
    |ok y=>
     obtain⟨n,q⟩:=y
     have hq:q≤(E.data.take (j+size)).length:=hkb.ok hb
     rw[hPl]at hq
     rw[hk'.ok hb]
     simp only
     have ht:=rf_types (E:={E with en:=j+size}) (i:=q) (by show j+size≤E.data.length;omega) n hq
     have ht':Like (Rf.typesM {E with en:=j+size} n (.ok q)) (manyM (oneOfM (E.data.take (j+size)) [127,126]) n q):=ht
     have hmb:=many_rb (n:=j+size) (one:=oneOfM (E.data.take (j+size)) [127,126]) (fun i hi=>by have :=oneOf_rb (D:=E.data.take (j+size)) (i:=i) [127,126] (by omega);rw[hPl]at this;exact this) n q hq
     clear ht
     cases hm:manyM (oneOfM (E.data.take (j+size)) [127,126]) n q with
     |error e=>
      rw[ht'.err hm,blk_bad]
     |ok z=>
      obtain⟨more,q2⟩:=z
      have hq2:q2≤j+size:=hmb.ok hm
      rw[ht'.ok hm]
      simp only
      have A:Ag {E with en:=j+size,d:=0} ⟨typ.1++more,fs,globs⟩ ⟨E.data.take (j+size),fs,globs.map fun g=>(g.1,g.2.1==1),typ.1++more⟩:=⟨by show j+size≤E.data.length;omega,rfl,rfl,rfl,rfl⟩
      have R:Rl {E with en:=j+size,d:=0} ⟨q2,code,[],[⟨0,typ.2,0,0,[]⟩],0,false⟩ [typ.2] [] []:=⟨hq2,rfl,by simp,rfl,rfl⟩
      have hE:=blk_look (G:=⟨typ.1++more,fs,globs⟩) (c:=⟨E.data.take (j+size),fs,globs.map fun g=>(g.1,g.2.1==1),typ.1++more⟩) 2001 {E with en:=j+size,d:=0} _ _ _ _ A R rfl (by show j+size -q2<2001;omega)
      change Ends _ (j+size) _ [] (Rf.blk ⟨typ.1++more,fs,globs⟩ 2001 {E with en:=j+size,d:=0} [typ.2] typ.2 false [] false (.ok q2))at hE
      generalize Rf.blk ⟨typ.1++more,fs,globs⟩ 2001 {E with en:=j+size,d:=0} [typ.2] typ.2 false [] false (.ok q2)=r at *
      obtain⟨b,σ⟩:=r
      cases σ with
      |error e=>
       obtain⟨k,hk,h⟩:=hE
       have hk2:k≤j+size -q2:=hk
       have :=look_er k (2000 -k) _ e h
       rw[show k+1+(2000 -k)=2001 by omega]at this
       rw[this]
      |ok p=>
       obtain⟨hp1,hp2,h⟩:=hE
       cases b with
       |true=>
        rw[if_pos rfl]at h
        exact absurd (show(0:Nat)=3 from h.1) (by decide)
       |false=>
        rw[if_neg (show ¬((false,(Except.ok p:Rf.PS)).fst=true)from Bool.false_ne_true),if_neg (by rintro⟨h,-⟩;exact absurd (show(0:Nat)=3 from h) (by decide))]at h
        obtain⟨k,s',hk,hs,hsi,-,-,hbl⟩:=h
        have hbl':s'.blocks=[]:=List.map_eq_nil_iff.1 hbl
        have hk2:k≤p -q2:=hk
        have :=look_to k (2001 -k) _ _ hs
        have hend: ∀(cc:Ctx),cc.D.length=j+size→lookM cc (2001 -k) s'=if p<j+size then .error (2,(p:Int))else .ok s':=by
         intro cc hcc
         rw[show 2001 -k=(2000 -k)+1 by omega,lookM,if_pos hbl',hsi,hcc]
        rw[show k+(2001 -k)=2001 by omega,hend _ hPl]at this
        rw[this]
        simp only
        by_cases h3:p<j+size
        ·rw[if_pos h3,if_pos h3]
        ·rw[if_neg h3,if_neg h3]
         simp only
         congr 1
         omega
end Go.Proofs.YtdeplgkhmebalaaGreatDoor

set_option linter.unusedSimpArgs false
set_option linter.unusedVariables false
set_option maxHeartbeats 2000000
set_option maxRecDepth 100000
namespace Go.Proofs.YtdeplgkhmebalaaGreatDoor.Rf
open Go.RowKit

theorem body_size {w:World} {pb:Nat} {E:PE} {i:Nat} (h:PSt w pb E (.ok i)) (hen:E.en=E.data.length) (hbad:badM (uM E 2000 (.ok i)).2=true∨ ∃j,(uM E 2000 (.ok i)).2= .ok j∧E.data.length<j+(uM E 2000 (.ok i)).1) (f:Nat) (funcs:List (List UInt8×List UInt8)) (globs:List (UInt8×UInt8×Nat)) (typ:List UInt8×List UInt8):
  Calls Tryz.prog 119 #[ptr pb,.int .i64 f] w fun r w'=>r= .returned (.tuple #[])∧PSt w' pb E (bodyR E funcs globs typ i)∧badM (bodyR E funcs globs typ i)=true∧Kp (one pb) w w':=by
 have hu:=u_any h 2000
 have hR:bodyR E funcs globs typ i=failM 2 i (uM E 2000 (.ok i)).2∧badM (bodyR E funcs globs typ i)=true:=by
  unfold bodyR
  generalize uM E 2000 (.ok i)=v at *
  obtain⟨n,σ⟩:=v
  cases σ with
  |error e=>exact⟨rfl,rfl⟩
  |ok j=>
   rcases hbad with hb|⟨j',hj,hlt⟩
   ·cases hb
   ·cases hj
    simp only at hlt⊢
    rw[if_pos hlt]
    exact⟨rfl,rfl⟩
 generalize bodyR E funcs globs typ i=R at *
 have hun:(uM E 2000 (.ok i)).1≤2000:=by
  cases hb:badM (uM E 2000 (.ok i)).2 with
  |false=>have :=u_le E 2000 (.ok i) hb;omega
  |true=>
   have :(uM E 2000 (.ok i)).1=0:=by
    unfold uM at hb⊢
    simp only at hb⊢
    split
    ·rfl
    ·split
     ·rfl
     ·rename_i h1 h2
      rw[if_neg h1,if_neg h2]at hb
      exact absurd hb h1
   omega
 generalize uM E 2000 (.ok i)=v at *
 obtain⟨n,σ1⟩:=v
 have HU:=hide hu
 have HR:=hide hR
 obtain⟨hi,hb⟩:=h.ok i rfl
 obtain⟨hc,-⟩:=cells_of hb
 have hlen:=h.len
 have HS:=hide h
 have hbs:=h.bytes
 obtain⟨ad,cap,hbv,_⟩:=hbs.shape
 have HB:=hide hbad
 clear hu hR hb h hbs hbad
 go_enter Tryz.func119,Tryz.ntmps119
 go_wp2_with fail
 refine HU.out.mono ?_
 rintro e w1 ⟨rfl,h1,k1⟩
 obtain⟨i1,err1,pl1,hi1,hb1,hp1,-⟩:=h1.obj
 obtain⟨hc1,-⟩:=cells_of hb1
 have H1:=hide h1
 rw[hbv]at hc1
 clear h1 hb1
 by_cases hgt:(E.data.length:Int)<(i1:Int)+(n:Int)
 ·go_wp2
  go_quiet(fail)
  go_wp2_with fail
  refine(fail_any (H1.out.keep ((Kp.refl no _).drewN _) (fun _ _ h=>h)) _ _ (by decide)).mono ?_
  rintro e w2 ⟨rfl,h2,k2⟩
  have H2:=hide h2
  clear h2
  have hb2:badM (failM 2 i σ1)=true:=bad_fail 2 i
  go_wp2_with fail
  refine(bad_any H2.out).mono ?_
  rintro e w3 ⟨rfl,rfl⟩
  go_wp2
  first |go_end0|(refine bodyPost_ret (v:= .tuple #[]) (by simp[results,Tryz.results119,go_sem]) rfl ?_)
  obtain⟨r1,r2⟩:=HR.out
  refine⟨rfl,?_,r2,(k1.drewN _).trans k2⟩
  rw[r1]
  exact H2.out
 ·have hbd:badM σ1=true:=by
   rcases HB.out with h|⟨j,rfl,hlt⟩
   ·exact h
   ·rcases hp1 with h|h
    ·have :(i1:Int)=j:=h
     omega
    ·exact h
  go_wp2
  go_quiet(fail)
  go_wp2_with fail
  refine(bad_any (H1.out.keep ((Kp.refl no _).drewN _) (fun _ _ h=>h))).mono ?_
  rintro e w3 ⟨rfl,rfl⟩
  go_wp2
  first |go_end0|(refine bodyPost_ret (v:= .tuple #[]) (by simp[results,Tryz.results119,go_sem]) rfl ?_)
  obtain⟨r1,r2⟩:=HR.out
  refine⟨rfl,?_,r2,k1.drewN _⟩
  rw[r1,fail_of_bad hbd]
  exact H1.out.keep ((Kp.refl no _).drewN _) (fun _ _ h=>h)
end Go.Proofs.YtdeplgkhmebalaaGreatDoor.Rf

set_option linter.unusedSimpArgs false
set_option linter.unusedVariables false
namespace Go.Proofs.YtdeplgkhmebalaaGreatDoor.Rf
open Go.RowKit

structure Al (E' E:PE):Prop where
 d:E'.data=E.data
 e:E'.en=E.en
theorem Al.next {E' E:PE} (h:Al E' E):nextM E'=nextM E:=by
 funext σ
 cases σ<;>simp[nextM,h.d,h.e]
theorem Al.need {E' E:PE} (h:Al E' E):needM E'=needM E:=by
 funext a b c σ
 unfold needM
 rw[h.next]
theorem Al.num {E' E:PE} (h:Al E' E) (a:Int) (r:Nat): ∀(bits:List Bool) (σ:PS),numGo E' a r bits σ=numGo E a r bits σ:=by
 induction r with
 |zero=>intro bits σ;rfl
 |succ r ih=>
  intro bits σ
  unfold numGo
  rw[h.next]
  simp only[ih]
theorem Al.number {E' E:PE} (h:Al E' E):numberM E'=numberM E:=by
 funext m σ
 exact h.num _ _ _ _
theorem Al.u {E' E:PE} (h:Al E' E):uM E'=uM E:=by
 funext m σ
 unfold uM
 rw[h.number]
theorem Al.s {E' E:PE} (h:Al E' E):sM E'=sM E:=by
 funext m σ
 unfold sM
 rw[h.number]
theorem Al.value {E' E:PE} (h:Al E' E):valueM E'=valueM E:=by
 funext m σ
 unfold valueM
 rw[h.s]
theorem Al.typesGo {E' E:PE} (h:Al E' E) (r:Nat): ∀(l:List UInt8) (σ:PS),Rf.typesGo E' r l σ=Rf.typesGo E r l σ:=by
 induction r with
 |zero=>intro l σ;rfl
 |succ r ih=>
  intro l σ
  unfold Rf.typesGo
  rw[h.need]
  simp only[ih]
theorem Al.types {E' E:PE} (h:Al E' E):typesM E'=typesM E:=by
 funext n σ
 exact h.typesGo _ _ _
theorem Al.label {E' E:PE} (h:Al E' E):labelM E'=labelM E:=by
 funext l σ
 unfold labelM
 rw[h.u]
theorem Al.tab {E' E:PE} (h:Al E' E) (labels:List (List UInt8)) (r:Nat): ∀(k:Nat) (first :List UInt8) (same:Bool) (labs:List Int) (σ:PS),tabGo E' labels r k first same labs σ=tabGo E labels r k first same labs σ:=by
 induction r with
 |zero=>intro k first same labs σ;rfl
 |succ r ih=>
  intro k first same labs σ
  unfold tabGo
  rw[h.label]
  simp only[ih]
theorem Al.table {E' E:PE} (h:Al E' E):tableM E'=tableM E:=by
 funext l σ
 unfold tableM
 rw[h.u]
 simp only[h.tab]
theorem Al.plain {E' E:PE} (h:Al E' E):plainM E'=plainM E:=by
 funext G op σ
 unfold plainM localM globalM
 rw[h.u,h.s]
theorem Al.instr {E' E:PE} (h:Al E' E):instrM E'=instrM E:=by
 funext G labels stack op σ
 unfold instrM
 rw[h.need,h.label,h.table,h.u,h.plain]
theorem Al.blk (G:Env) (f:Nat): ∀{E' E:PE},Al E' E→E'.d=E.d→Rf.blk G f E'=Rf.blk G f E:=by
 induction f with
 |zero=>intro E' E _ _;rfl
 |succ f ih=>
  intro E' E h hd
  funext labels result other stack dead σ
  have hi:=ih h hd
  have hj:=ih (E':={E' with d:=E'.d+1}) (E:={E with d:=E.d+1}) ⟨h.d,h.e⟩ (by show E'.d+1=E.d+1;rw[hd])
  unfold Rf.blk innerF
  rw[h.next,h.instr,hi,hd]
  rw[hd]at hj
  simp only[hj]
theorem Al.body {E' E:PE} (h:Al E' E):bodyR E'=bodyR E:=by
 funext funcs globs typ i
 unfold bodyR
 rw[h.u,h.d]
 have h2: ∀k:Nat,Al {E' with en:=k} {E with en:=k}:=fun k=>⟨h.d,rfl⟩
 have h3: ∀(k:Nat) (G:Env) (f:Nat),Rf.blk G f {E' with en:=k,d:=0}=Rf.blk G f {E with en:=k,d:=0}:=fun k G f=>Al.blk G f ⟨h.d,rfl⟩ rfl
 have h4: ∀(k:Nat),uM {E' with en:=k}=uM {E with en:=k}:=fun k=>(h2 k).u
 have h5: ∀(k:Nat),typesM {E' with en:=k}=typesM {E with en:=k}:=fun k=>(h2 k).types
 simp only[h.d]at h3 h4 h5
 simp only[h3,h4,h5]
end Go.Proofs.YtdeplgkhmebalaaGreatDoor.Rf
