/- A statement whose order is left open: operations behind a guard that holds. -/
import Derived.Test.YtdeplgkhmebalaaGreatDoorP05
import Derived.Test.YtdeplgkhmebalaaGreatDoorP32

namespace Go.Proofs.YtdeplgkhmebalaaGreatDoor
open Go.RowKit
section
variable {P : Program} {Q : Exit → Act → World → Prop} {md : Region.Mode} {S : World → Prop} {L : Nat}
theorem wpAnyS_takeG {l : List Oper} (i : Nat) (p : List Nat) {oi : Oper} {rest : List Oper} {v : Value} {fuel : Nat} {listed listed' : Array Bool} {a : Act} {w : World} (hi : l.drop i = oi :: rest)
    (hB : takeB md l L listed i p = true) (hl : listed.setIfInBounds i true = listed') (hw : Region.wanted oi (yielded l.toArray a.tmps) = true) (hQ : ∀ c a w, Q (.panic c) (a.put oi.dst v) w → Q (.panic c) a w) (hS : S w) (hy : ∀ w, S w → (execOp a.eval oi).run P w = .ok (.value v) w)
    (h : wpAnyS P md l.toArray Q S L fuel listed' (a.put oi.dst v) w) : wpAnyS P md l.toArray Q S L (fuel + 1) listed a w := by
  subst hl
  simp only [takeB, Bool.and_eq_true, Bool.or_eq_true, decide_eq_true_eq] at hB
  exact wpAnyS_first p (drop_get hi) (Region.noSelect_spec hB.1.1.1) hQ fuel listed a w (Region.free_spec (drop_get hi) hB.1.1.2) (by simpa using hB.1.2) (by simpa using hB.2) (.inl ⟨hw, hy⟩) hS h
end
theorem step_callG {P : Program} {w : World} {ops : Array Oper} {o : Oper} {a : Act} {K : Act → World → Prop} {Q : Exit → Act → World → Prop} {E : Prop} (hw : Region.wanted o (yielded ops a.tmps) = true) (f : FuncId) (xs : Array Operand) (ats : Array TypeId)
    (ho : o.op = .call { callee := .value (.func f), args := xs, argTypes := ats }) (hen : ∀ args w, (callFunc f args).run P w = .ok (.enter f args) w) (args : Array Value) (hargs : xs.toList.map a.eval = args.toList)
    {R : Ending → World → Prop} (hc : Calls P f args w R) (h : ∀ r w', R r w' → ∃ v, r = .returned v ∧ K (a.put o.dst v) w') :
    if Region.wanted o (yielded ops a.tmps) = true then Oper.wp P o a w K Q else E := by
  rw [if_pos hw]
  obtain ⟨dst, op, ty, pos, after, guard⟩ := o
  simp only at ho
  subst ho
  unfold Oper.wp
  rw [execOp_call_go, show #[] ++ xs.map a.eval ++ #[] = args from Array.toList_inj.1 (by simpa using hargs), hen, Oper.upon_enter]
  refine hc.mono ?_
  intro r w' hr
  obtain ⟨v, rfl, hk⟩ := h r w' hr
  exact hk
end Go.Proofs.YtdeplgkhmebalaaGreatDoor

namespace Go.Proofs.YtdeplgkhmebalaaGreatDoor
open Go.RowKit
def wrCodes : List (List UInt8) := [[], [65, 1, 65, 2], [66, 1], [106], [65, 1, 106], [65, 1, 66, 1, 106], [32, 0], [35, 1], [16, 1], [65, 128, 0], [6], [255], [65, 1, 15, 1], [0, 1], [5], [65, 1, 4, 127, 65, 1, 11], [2, 64, 65, 1, 11, 65, 1], [65, 1, 2, 64, 26, 11], [65, 1, 65, 1, 66, 1, 27], [65, 1, 66, 1, 65, 1, 27], [36, 0], [2, 65], [65, 1, 14, 17], [66, 1, 13, 0], [65, 1, 13, 0], [12, 0], [15], [65, 1, 55, 0], [40, 128, 128, 128, 128, 16], [65, 255, 255, 255, 255, 31], [66, 255, 255, 255, 255, 255, 255, 255, 255, 255, 1]]
def wrPlaces : List Nat := [0, 4, 2, 0, 2, 4, 1, 1, 1, 1, 0, 0, 3, 1, 0, 6, 4, 4, 6, 6, 0, 1, 3, 2, 2, 0, 0, 2, 1, 1, 1]
def wrErrors : List Nat := [3, 3, 3, 3, 3, 3, 2, 2, 2, 2, 2, 2, 3, 3, 3, 3, 3, 3, 3, 3, 3, 2, 2, 3, 3, 3, 3, 3, 2, 2, 2]
def wrBegins (d : Nat) : List UInt8 := (List.range d).flatMap fun _ => [2, 127]
def wrEnds (d : Nat) : List UInt8 := (List.range d).flatMap fun _ => [11]
def wrCode (k n : Nat) : List UInt8 := wrBegins n ++ wrCodes.getD k [] ++ wrEnds n
def wrFn (k n : Nat) : FnS := ⟨[], [127], [], wrCode k n⟩
def wrBytes (k n : Nat) : List UInt8 := moduleB 1 [wrFn k n]
def wrFrom (k n : Nat) : Nat := (wrBytes k n).length - 1 - (wrCode k n).length + 2 * n
def isErr (m : Except (Int × Int) Flat) (e p : Nat) : Bool := match m with
  | .ok _ => false
  | .error x => decide (x.1 = (e : Int)) && decide (x.2 = (p : Int))
theorem isErr_spec {m : Except (Int × Int) Flat} {e p : Nat} (h : isErr m e p = true) : m = .error ((e : Int), (p : Int)) := by
  unfold isErr at h
  split at h
  · cases h
  · rename_i x
    obtain ⟨a, b⟩ := x
    simp only [Bool.and_eq_true, decide_eq_true_eq] at h
    rw [h.1, h.2]
def wrOne (k n : Nat) : Bool := isErr (loadM (wrBytes k n)) (wrErrors.getD k 0) (wrFrom k n + wrPlaces.getD k 0) && decide ((wrBytes k n).length ≤ 1000) && decide ((wrCode k n).length + 1 + 2 * n ≤ (wrBytes k n).length + 2 * n)
set_option maxRecDepth 100000 in
theorem wr_all : ((List.range 31).all fun k => (List.range 9).all fun n => wrOne k n) = true := by kernel_rfl
structure WrOk (k n : Nat) : Prop where
  load : loadM (wrBytes k n) = .error (((wrErrors.getD k 0 : Nat) : Int), ((wrFrom k n + wrPlaces.getD k 0 : Nat) : Int))
  len : (wrBytes k n).length ≤ 1000
  dif : (wrCode k n).length + 1 ≤ (wrBytes k n).length
theorem wr_ok {k n : Nat} (hk : k < 31) (hn : n < 9) : WrOk k n := by
  have := List.all_eq_true.1 (List.all_eq_true.1 wr_all k (by simpa using hk)) n (by simpa using hn)
  simp only [wrOne, Bool.and_eq_true, decide_eq_true_eq] at this
  exact ⟨isErr_spec this.1.1, this.1.2, by omega⟩
def wrGood : FnS := ⟨[], [127], [], [65, 7]⟩
def wrGoodB : List UInt8 := moduleB 1 [wrGood]
def wrGoodF : Flat := flatOf wrGoodB
def wrGot : Option (Nat × Int × Nat × Mc) := callR wrGoodF 0 [] 100000 (List.replicate (wrGoodF.pages * 64) 0) [5] [] 20
theorem wr_good : (isOk (loadM wrGoodB) && flatOkB wrGoodF && decide (wrGoodB.length ≤ 1000) && decide (wrGoodF.globals = [5]) && isGot wrGot 0 7 1 && decide (refusesM wrGoodF 0 [] 100000 = 0)) = true := by kernel_rfl
structure WrGood : Prop where
  load : loadM wrGoodB = .ok wrGoodF
  ok : FlatOk wrGoodF
  len : wrGoodB.length ≤ 1000000
  gl : wrGoodF.globals.map (fun (n : Nat) => ((n : Nat) : Int)) = [5]
  got : ∃ s, wrGot = some (0, 7, 1, s) ∧ s.mem.length ≤ 1000000 ∧ s.gl.length ≤ 1000000 ∧ s.keys.length ≤ 1000
  ref : refusesM wrGoodF ((0 : Nat) : Int) [] ((100000 : Nat) : Int) = 0
theorem wr_goodOk : WrGood := by
  have := wr_good
  simp only [Bool.and_eq_true, decide_eq_true_eq] at this
  obtain ⟨⟨⟨⟨⟨h1, h2⟩, h3⟩, h4⟩, h5⟩, h6⟩ := this
  exact ⟨flatOf_ok h1, flatOk_of h2, by omega, by rw [h4]; rfl, isGot_spec h5, h6⟩
end Go.Proofs.YtdeplgkhmebalaaGreatDoor
