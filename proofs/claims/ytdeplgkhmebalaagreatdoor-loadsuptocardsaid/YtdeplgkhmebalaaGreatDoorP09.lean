/- The document's reader: lists of types; which instructions there are. -/
import Derived.Test.YtdeplgkhmebalaaGreatDoorP04
import Derived.Test.YtdeplgkhmebalaaGreatDoorP08

set_option linter.unusedSimpArgs false
set_option linter.unusedVariables false
set_option maxHeartbeats 4000000
set_option maxRecDepth 100000
namespace Go.Proofs.YtdeplgkhmebalaaGreatDoor.Rf
open Go.RowKit

def knownM (op:UInt8):Bool:=
 let n:=op.toNat
 n≤5||(11≤n&&n≤16)||n=26||n=27||(32≤n&&n≤36)||n=40||n=41||n=44||n=45||n=54||n=55||n=58||(63≤n&&n≤66)||(69≤n&&n≤90)||(103≤n&&n≤138)||n=167||n=172||n=173||n=224||n=225

theorem known_any (w:World) (op:UInt8):
  Calls Tryz.prog 191 #[.int .u8 op.toNat] w fun r w'=>r= .returned (.bool (knownM op))∧w'=w:=by
 have hM:knownM op=(decide (op.toNat≤5)||(decide (11≤op.toNat)&&decide (op.toNat≤16))||decide (op.toNat=26)||decide (op.toNat=27)||(decide (32≤op.toNat)&&decide (op.toNat≤36))||decide (op.toNat=40)||decide (op.toNat=41)||decide (op.toNat=44)||decide (op.toNat=45)||decide (op.toNat=54)||decide (op.toNat=55)||decide (op.toNat=58)||(decide (63≤op.toNat)&&decide (op.toNat≤66))||(decide (69≤op.toNat)&&decide (op.toNat≤90))||(decide (103≤op.toNat)&&decide (op.toNat≤138))||decide (op.toNat=167)||decide (op.toNat=172)||decide (op.toNat=173)||decide (op.toNat=224)||decide (op.toNat=225)):=rfl
 generalize knownM op=R at *
 have hlt:=op.toNat_lt
 generalize op.toNat=n at *
 have HM:=hide hM
 clear hM
 go_enter Tryz.func191,Tryz.ntmps191
 go_wp2
 all_goals go_ret
 all_goals refine⟨ret_bool ?_,rfl⟩
 all_goals rw[HM.out,Bool.eq_iff_iff]
 all_goals clear HM
 all_goals first |(simp;omega)|(simp;done)|(go_light;simp at *;omega)

end Go.Proofs.YtdeplgkhmebalaaGreatDoor.Rf

set_option linter.unusedSimpArgs false
set_option linter.unusedVariables false
namespace Go.Proofs.YtdeplgkhmebalaaGreatDoor.Rf
open Go.RowKit

def innerF (B:PE→List (List UInt8)→List UInt8→Bool→PS→Bool×PS) (E:PE) (labels:List (List UInt8)) (op n:Nat) (at_:Int) (stack:List UInt8) (σ:PS):List UInt8×PS:=
 if E.d=16 then ([],failM 3 at_ σ)else
 let result:List UInt8:=if n=64 then []else [UInt8.ofNat n]
 let around:=labels++[if op=3 then []else result]
 let r:=B {E with d:=E.d+1} around result (decide (op=4)) σ
 (stack++result,if r.1 then (B {E with d:=E.d+1} around result false r.2).2 else if op=4∧result≠[]then failM 3 (r.2.place -1) r.2 else r.2)

def blk (G:Env):Nat→PE→List (List UInt8)→List UInt8→Bool→List UInt8→Bool→PS→Bool×PS
 |0,_,_,_,_,_,_,σ=>(false,σ)
 |f+1,E,labels,result,other,stack,dead,σ=>
  if badM σ then (false,σ)else
  let x:=nextM E σ
  if badM x.2 then (false,x.2)else
  if x.1=5∨x.1=11 then (decide (x.1=5),if (dead=false∧stack≠result)∨(x.1=5∧other=false)then failM 3 σ.place x.2 else x.2)else
  if knownM x.1=false then (false,failM 2 σ.place x.2)else
  if dead=true then (false,failM 3 σ.place x.2)else
  let y:=instrM E G labels stack x.1.toNat x.2
  let o:=offM stack y.1.take
  let σ3:=if y.1.ok=false∨o.2=false then failM 3 σ.place y.2 else y.2
  if badM σ3 then (false,σ3)else
  let z:=if x.1=2∨x.1=3∨x.1=4 then innerF (fun E' l' r' o' σ'=>blk G f E' l' r' o' [] false σ') E labels x.1.toNat y.1.n σ.place (o.1++y.1.put) σ3 else (o.1++y.1.put,σ3)
  blk G f E labels result other z.1 (decide (x.1=0∨x.1=12∨x.1=14∨x.1=15)) z.2

def PE.left (E:PE):PS→Nat
 | .ok i=>E.en -i
 | .error _=>0

def Fwd (E:PE) (k:Nat) (σ σ':PS):Prop:=badM σ'=true∨ ∃i i',σ= .ok i∧σ'= .ok i'∧i+k≤i'∧i'≤E.en

theorem Fwd.bad {E:PE} {k:Nat} {σ σ':PS} (h:badM σ'=true):Fwd E k σ σ':= .inl h
theorem Fwd.trans {E:PE} {k l:Nat} {a b c:PS} (h:Fwd E k a b) (h2:Fwd E l b c) (hs:badM b=true→badM c=true):Fwd E (k+l) a c:=by
 rcases h2 with h2|⟨i,i',rfl,rfl,h3,h4⟩
 ·exact .inl h2
 ·rcases h with h|⟨j,j',rfl,hj,h5,h6⟩
  ·exact .inl (hs h)
  ·cases hj
   exact .inr ⟨j,i',rfl,rfl,by omega,h4⟩
theorem Fwd.mono {E:PE} {k l:Nat} {a b:PS} (h:Fwd E k a b) (hl:l≤k):Fwd E l a b:=by
 rcases h with h|⟨i,i',h1,h2,h3,h4⟩
 ·exact .inl h
 ·exact .inr ⟨i,i',h1,h2,by omega,h4⟩
theorem Fwd.refl {E:PE} {σ:PS} (h: ∀i,σ= .ok i→i≤E.en):Fwd E 0 σ σ:=by
 cases σ with
 |ok i=>exact .inr ⟨i,i,rfl,rfl,by omega,h i rfl⟩
 |error x=>exact .inl rfl
theorem Fwd.left {E:PE} {k:Nat} {a b:PS} (h:Fwd E k a b) (hb:badM b=false):E.left b+k≤E.left a:=by
 rcases h with h|⟨i,i',rfl,rfl,h1,h2⟩
 ·rw[h]at hb;cases hb
 ·simp only[PE.left];omega
theorem left_bad {E:PE} {σ:PS} (h:badM σ=true):E.left σ=0:=by
 cases σ with
 |ok i=>cases h
 |error x=>rfl
theorem bad_fail {σ:PS} (e a:Int):badM (failM e a σ)=true:=by cases σ<;>rfl
theorem fwd_fail {E:PE} {k:Nat} {σ σ':PS} (e a:Int):Fwd E k σ (failM e a σ'):= .inl (bad_fail e a)

theorem next_fwd {E:PE} {σ:PS}:Fwd E 1 σ (nextM E σ).2:=by
 cases σ with
 |error x=>exact .inl rfl
 |ok i=>
  simp only[nextM]
  split
  ·exact .inl rfl
  ·exact .inr ⟨i,i+1,rfl,rfl,by omega,by omega⟩
theorem need_fwd {E:PE} {a b c:UInt8} {σ:PS}:Fwd E 1 σ (needM E a b c σ).2:=by
 unfold needM
 simp only
 split
 ·exact fwd_fail _ _
 ·exact next_fwd
theorem numGo_fwd {E:PE} {a:Int} (r:Nat): ∀(bits:List Bool) (σ:PS),Fwd E 1 σ (numGo E a r bits σ).2:=by
 induction r with
 |zero=>intro bits σ;exact fwd_fail _ _
 |succ r ih=>
  intro bits σ
  rw[numGo]
  split
  ·rename_i h;exact .inl h
  ·rename_i h
   split
   ·exact(next_fwd.trans (ih _ _) (fun hb=>by simp[hb]at h)).mono (by omega)
   ·exact next_fwd
theorem number_fwd {E:PE} {m:Nat} {σ:PS}:Fwd E 1 σ (numberM E m σ).2:=numGo_fwd m [] σ
theorem u_fwd {E:PE} {most:Int} {σ:PS}:Fwd E 1 σ (uM E most σ).2:=by
 unfold uM
 simp only
 split
 ·rename_i h;exact .inl h
 ·split
  ·exact fwd_fail _ _
  ·exact number_fwd
theorem s_fwd {E:PE} {size:Nat} {σ:PS}:Fwd E 1 σ (sM E size σ).2:=by
 unfold sM
 generalize(if size=64 then 10 else 5)=m
 simp only
 split
 ·rename_i h;exact .inl h
 ·split
  ·exact fwd_fail _ _
  ·exact number_fwd
theorem label_fwd {E:PE} {labels:List (List UInt8)} {σ:PS}:Fwd E 1 σ (labelM E labels σ).2:=by
 unfold labelM
 simp only
 split
 ·rename_i h;exact .inl h
 ·exact u_fwd

theorem tabGo_fwd {E:PE} {labels:List (List UInt8)} (r:Nat): ∀(k:Nat) (first :List UInt8) (same:Bool) (labs:List Int) (σ:PS),(∀i,σ= .ok i→i≤E.en)→Fwd E 0 σ (tabGo E labels r k first same labs σ).2:=by
 induction r with
 |zero=>intro k first same labs σ h;exact Fwd.refl h
 |succ r ih=>
  intro k first same labs σ h
  rw[tabGo]
  split
  ·rename_i hb;exact .inl hb
  ·have hl:Fwd E 1 σ (labelM E labels σ).2:=label_fwd
   have hle: ∀i,(labelM E labels σ).2= .ok i→i≤E.en:=by
    intro i hi
    rcases hl with hl|⟨_,i',_,h2,_,h4⟩
    ·rw[hi]at hl;cases hl
    ·rw[hi]at h2;cases h2;exact h4
   have h2:=ih (k+1) (if k=0 then (labelM E labels σ).1.2 else first) (same&&decide ((if k=0 then (labelM E labels σ).1.2 else first)=(labelM E labels σ).1.2)) (labs++[((labelM E labels σ).1.1:Int)]) (labelM E labels σ).2 hle
   have hs:badM (labelM E labels σ).2=true→badM (tabGo E labels r (k+1) (if k=0 then (labelM E labels σ).1.2 else first) (same&&decide ((if k=0 then (labelM E labels σ).1.2 else first)=(labelM E labels σ).1.2)) (labs++[((labelM E labels σ).1.1:Int)]) (labelM E labels σ).2).2=true:=by
    intro hb
    cases r with
    |zero=>exact hb
    |succ r=>rw[tabGo,if_pos hb];exact hb
   exact(hl.trans h2 hs).mono (by omega)
theorem fwd_le {E:PE} {k:Nat} {a b:PS} (h:Fwd E k a b): ∀i,b= .ok i→i≤E.en:=by
 intro i hi
 rcases h with h|⟨_,i',_,h2,_,h4⟩
 ·rw[hi]at h;cases h
 ·rw[hi]at h2;cases h2;exact h4
theorem tabGo_sticky {E:PE} {labels:List (List UInt8)} {r k:Nat} {first :List UInt8} {same:Bool} {labs:List Int} {σ:PS} (h:badM σ=true):tabGo E labels r k first same labs σ=((first,same,labs),σ):=by
 cases r with
 |zero=>rfl
 |succ r=>rw[tabGo,if_pos h]
theorem table_fwd {E:PE} {labels:List (List UInt8)} {σ:PS}:Fwd E 1 σ (tableM E labels σ).2:=by
 unfold tableM
 simp only
 exact(u_fwd.trans (tabGo_fwd _ _ _ _ _ _ (fwd_le u_fwd)) (fun h=>by rw[tabGo_sticky h];exact h)).mono (by omega)
theorem plain_fwd {E:PE} {G:Env} {op:Nat} {σ:PS} (h: ∀i,σ= .ok i→i≤E.en):Fwd E 0 σ (plainM E G op σ).2:=by
 unfold plainM
 split
 ·unfold localM;simp only;split
  ·rename_i hb;exact .inl hb
  ·exact u_fwd.mono (by omega)
 ·split
  ·unfold globalM;simp only;split
   ·rename_i hb;exact .inl hb
   ·exact u_fwd.mono (by omega)
  ·split
   ·exact u_fwd.mono (by omega)
   ·split
    ·exact s_fwd.mono (by omega)
    ·split
     ·exact s_fwd.mono (by omega)
     ·exact Fwd.refl h
theorem instr_fwd {E:PE} {G:Env} {labels:List (List UInt8)} {stack:List UInt8} {op:Nat} {σ:PS} (h: ∀i,σ= .ok i→i≤E.en):Fwd E 0 σ (instrM E G labels stack op σ).2:=by
 unfold instrM
 split
 ·exact Fwd.refl h
 split
 ·exact need_fwd.mono (by omega)
 split
 ·exact label_fwd.mono (by omega)
 split
 ·exact table_fwd.mono (by omega)
 split
 ·exact Fwd.refl h
 split
 ·split
  ·rename_i hb;exact .inl hb
  ·exact u_fwd.mono (by omega)
 split
 ·split <;>exact Fwd.refl h
 split
 ·split <;>exact Fwd.refl h
 exact plain_fwd h

theorem tabGo_len {E:PE} {labels:List (List UInt8)} (hl: ∀l∈labels,l.length≤1000) (r:Nat): ∀(k:Nat) (first :List UInt8) (same:Bool) (labs:List Int) (σ:PS),first.length≤1000→(tabGo E labels r k first same labs σ).1.1.length≤1000:=by
 induction r with
 |zero=>intro k first same labs σ h;exact h
 |succ r ih=>
  intro k first same labs σ h
  rw[tabGo]
  split
  ·exact h
  ·refine ih _ _ _ _ _ ?_
   split
   ·exact label_len hl
   ·exact h
theorem instr_len {E:PE} {G:Env} {labels:List (List UInt8)} {stack:List UInt8} {op:Nat} {σ:PS} (hl: ∀l∈labels,l.length≤1000) (hf: ∀x∈G.funcs,x.1.length≤1000∧x.2.length≤1000):
  (instrM E G labels stack op σ).1.take.length≤1001∧(instrM E G labels stack op σ).1.put.length≤1000:=by
 have hlab:=label_len (E:=E) (σ:=σ) hl
 have hd0:(labels.getD 0 []).length≤1000:=by
  simp only[List.getD]
  cases hq:labels[0]? with
  |none=>simp
  |some l=>exact hl l (List.mem_of_getElem? hq)
 have hfd: ∀n,(G.funcs.getD n ([],[])).1.length≤1000∧(G.funcs.getD n ([],[])).2.length≤1000:=by
  intro n
  simp only[List.getD]
  cases hq:G.funcs[n]? with
  |none=>simp
  |some l=>exact hf l (List.mem_of_getElem? hq)
 unfold instrM
 split
 ·simp
 split
 ·constructor
  ·show(if op=4 then [127]else ([]:List UInt8)).length≤1001
   split <;>simp
  ·simp
 split
 ·constructor
  ·show((labelM E labels σ).1.2++(if op=13 then [127]else ([]:List UInt8))).length≤1001
   rw[List.length_append]
   split <;>simp <;>omega
  ·exact hlab
 split
 ·have :=tabGo_len (E:=E) hl ((uM E 16 σ).1+1) 0 [] true [] (uM E 16 σ).2 (by simp)
  constructor
  ·show((tabGo E labels ((uM E 16 σ).1+1) 0 [] true [] (uM E 16 σ).2).1.1++[127]).length≤1001
   simp;omega
  ·exact this
 split
 ·exact⟨by show(labels.getD 0 []).length≤1001;omega,hd0⟩
 split
 ·split
  ·simp
  ·have :=hfd (uM E ((G.funcs.length:Int) -1) σ).1
   exact⟨by show(G.funcs.getD _ ([],[])).1.length≤1001;omega,this.2⟩
 split
 ·split <;>simp
 split
 ·split <;>simp
 unfold plainM
 split
 ·unfold localM;simp only;split
  ·simp
  ·constructor
   ·show(if op=32 then ([]:List UInt8)else _).length≤1001
    split <;>simp
   ·show(if op=33 then ([]:List UInt8)else _).length≤1000
    split <;>simp
 split
 ·unfold globalM;simp only;split
  ·simp
  ·constructor
   ·show(if op=35 then ([]:List UInt8)else _).length≤1001
    split <;>simp
   ·show(if op=36 then ([]:List UInt8)else _).length≤1000
    split <;>simp
 split
 ·unfold memTP
  split
  ·simp
  split
  ·simp
  split <;>simp
 split
 ·simp
 split
 ·simp
 unfold plain0
 repeat' split
 all_goals simp

end Go.Proofs.YtdeplgkhmebalaaGreatDoor.Rf
