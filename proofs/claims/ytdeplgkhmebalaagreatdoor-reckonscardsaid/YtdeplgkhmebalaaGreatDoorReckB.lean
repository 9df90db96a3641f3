/- What is reckoned: the modules, as they are looked at, and their runs. -/
import Derived.Test.YtdeplgkhmebalaaGreatDoorKeepA
import Derived.Test.YtdeplgkhmebalaaGreatDoorCellsD

namespace Go.Proofs.YtdeplgkhmebalaaGreatDoor
open Go.RowKit
def tyR (wd : Bool) : UInt8 := if wd then 126 else 127
def opC (wd : Bool) (k : Nat) : UInt8 := UInt8.ofNat ((if wd then 124 else 106) + k)
def opP (wd : Bool) (k : Nat) : UInt8 := UInt8.ofNat ((if wd then 81 else 70) + k)
def cbFn (wd : Bool) (k : Nat) : FnS := ⟨[tyR wd, tyR wd], [tyR wd], [], [32, 0, 32, 1, opC wd k]⟩
def cpFn (wd : Bool) (k : Nat) : FnS := ⟨[tyR wd, tyR wd], [127], [], [32, 0, 32, 1, opP wd k]⟩
def cbFns (wd : Bool) : List FnS := (List.range 15).map (cbFn wd)
def cpFns (wd : Bool) : List FnS := (List.range 10).map (cpFn wd)
def rkIns (op : UInt8) (_k : Nat) : List Ins := [⟨32, 0, 0, 0, 0⟩, ⟨32, 1, 0, 0, 0⟩, ⟨op, 0, 0, 0, 0⟩, ⟨11, 0, 0, 0, 0⟩]
def cbG (wd : Bool) : Flat := ⟨(List.range 15).map (fun k => ⟨([tyR wd, tyR wd], [tyR wd]), 2, 4 * k⟩), [5], 0, (List.range 15).flatMap (fun k => rkIns (opC wd k) k)⟩
def cpG (wd : Bool) : Flat := ⟨(List.range 10).map (fun k => ⟨([tyR wd, tyR wd], [127]), 2, 4 * k⟩), [5], 0, (List.range 10).flatMap (fun k => rkIns (opP wd k) k)⟩
structure RkOk (fs : List FnS) (f : Flat) : Prop where
  load : loadM (moduleB 0 fs) = .ok f
  ok : FlatOk f
  len : (moduleB 0 fs).length ≤ 1000
theorem rk_of {fs : List FnS} {f : Flat} (h : (isOk (loadM (moduleB 0 fs)) && flatOkB (flatOf (moduleB 0 fs)) && decide ((moduleB 0 fs).length ≤ 1000)) = true) (he : flatOf (moduleB 0 fs) = f) : RkOk fs f := by
  simp only [Bool.and_eq_true, decide_eq_true_eq] at h
  obtain ⟨⟨h1, h2⟩, h3⟩ := h
  exact ⟨by rw [← he]; exact flatOf_ok h1, by rw [← he]; exact flatOk_of h2, h3⟩
theorem cb_ok (wd : Bool) : RkOk (cbFns wd) (cbG wd) := by
  cases wd
  · exact rk_of (by kernel_rfl) (by kernel_rfl)
  · exact rk_of (by kernel_rfl) (by kernel_rfl)
theorem cp_ok (wd : Bool) : RkOk (cpFns wd) (cpG wd) := by
  cases wd
  · exact rk_of (by kernel_rfl) (by kernel_rfl)
  · exact rk_of (by kernel_rfl) (by kernel_rfl)
section
variable (a b : Int) (mem : List UInt8) (gl : List Int) (keys : List (Int × Int))
set_option maxRecDepth 100000 in
theorem cb_p1 : ∀ (wd : Bool) (k : Nat), k < 15 → stepsR (cbG wd) 2 (enterR (cbG wd) ⟨[a, b], [], 0, 3, mem, gl, keys⟩ k) = some ⟨[a, b, a, b], [(0, 2, 0)], 4 * k + 2, 1, mem, gl, keys⟩
  | true, 0, _ => by kernel_rfl
  | true, 1, _ => by kernel_rfl
  | true, 2, _ => by kernel_rfl
  | true, 3, _ => by kernel_rfl
  | true, 4, _ => by kernel_rfl
  | true, 5, _ => by kernel_rfl
  | true, 6, _ => by kernel_rfl
  | true, 7, _ => by kernel_rfl
  | true, 8, _ => by kernel_rfl
  | true, 9, _ => by kernel_rfl
  | true, 10, _ => by kernel_rfl
  | true, 11, _ => by kernel_rfl
  | true, 12, _ => by kernel_rfl
  | true, 13, _ => by kernel_rfl
  | true, 14, _ => by kernel_rfl
  | false, 0, _ => by kernel_rfl
  | false, 1, _ => by kernel_rfl
  | false, 2, _ => by kernel_rfl
  | false, 3, _ => by kernel_rfl
  | false, 4, _ => by kernel_rfl
  | false, 5, _ => by kernel_rfl
  | false, 6, _ => by kernel_rfl
  | false, 7, _ => by kernel_rfl
  | false, 8, _ => by kernel_rfl
  | false, 9, _ => by kernel_rfl
  | false, 10, _ => by kernel_rfl
  | false, 11, _ => by kernel_rfl
  | false, 12, _ => by kernel_rfl
  | false, 13, _ => by kernel_rfl
  | false, 14, _ => by kernel_rfl
  | _, k + 15, h => absurd h (by omega)
set_option maxRecDepth 100000 in
theorem cb_p2 : ∀ (wd : Bool) (k : Nat), k < 15 → runR (cbG wd) 6 ⟨[a, b, a, b], [(0, 2, 0)], 4 * k + 2, 1, mem, gl, keys⟩ = afterR (combineB wd k ⟨[a, b, a, b], [(0, 2, 0)], 4 * k + 3, 0, mem, gl, keys⟩) (runR (cbG wd) 5)
  | true, 0, _ => by kernel_rfl
  | true, 1, _ => by kernel_rfl
  | true, 2, _ => by kernel_rfl
  | true, 3, _ => by kernel_rfl
  | true, 4, _ => by kernel_rfl
  | true, 5, _ => by kernel_rfl
  | true, 6, _ => by kernel_rfl
  | true, 7, _ => by kernel_rfl
  | true, 8, _ => by kernel_rfl
  | true, 9, _ => by kernel_rfl
  | true, 10, _ => by kernel_rfl
  | true, 11, _ => by kernel_rfl
  | true, 12, _ => by kernel_rfl
  | true, 13, _ => by kernel_rfl
  | true, 14, _ => by kernel_rfl
  | false, 0, _ => by kernel_rfl
  | false, 1, _ => by kernel_rfl
  | false, 2, _ => by kernel_rfl
  | false, 3, _ => by kernel_rfl
  | false, 4, _ => by kernel_rfl
  | false, 5, _ => by kernel_rfl
  | false, 6, _ => by kernel_rfl
  | false, 7, _ => by kernel_rfl
  | false, 8, _ => by kernel_rfl
  | false, 9, _ => by kernel_rfl
  | false, 10, _ => by kernel_rfl
  | false, 11, _ => by kernel_rfl
  | false, 12, _ => by kernel_rfl
  | false, 13, _ => by kernel_rfl
  | false, 14, _ => by kernel_rfl
  | _, k + 15, h => absurd h (by omega)
set_option maxRecDepth 100000 in
theorem cb_p3 (r : Int) : ∀ (wd : Bool) (k : Nat), k < 15 → runR (cbG wd) 5 ⟨[a, b, r], [(0, 2, 0)], 4 * k + 3, 0, mem, gl, keys⟩ = some (0, ⟨[r], [], 0, 0, mem, gl, keys⟩)
  | true, 0, _ => by kernel_rfl
  | true, 1, _ => by kernel_rfl
  | true, 2, _ => by kernel_rfl
  | true, 3, _ => by kernel_rfl
  | true, 4, _ => by kernel_rfl
  | true, 5, _ => by kernel_rfl
  | true, 6, _ => by kernel_rfl
  | true, 7, _ => by kernel_rfl
  | true, 8, _ => by kernel_rfl
  | true, 9, _ => by kernel_rfl
  | true, 10, _ => by kernel_rfl
  | true, 11, _ => by kernel_rfl
  | true, 12, _ => by kernel_rfl
  | true, 13, _ => by kernel_rfl
  | true, 14, _ => by kernel_rfl
  | false, 0, _ => by kernel_rfl
  | false, 1, _ => by kernel_rfl
  | false, 2, _ => by kernel_rfl
  | false, 3, _ => by kernel_rfl
  | false, 4, _ => by kernel_rfl
  | false, 5, _ => by kernel_rfl
  | false, 6, _ => by kernel_rfl
  | false, 7, _ => by kernel_rfl
  | false, 8, _ => by kernel_rfl
  | false, 9, _ => by kernel_rfl
  | false, 10, _ => by kernel_rfl
  | false, 11, _ => by kernel_rfl
  | false, 12, _ => by kernel_rfl
  | false, 13, _ => by kernel_rfl
  | false, 14, _ => by kernel_rfl
  | _, k + 15, h => absurd h (by omega)
set_option maxRecDepth 100000 in
theorem cp_p1 : ∀ (wd : Bool) (k : Nat), k < 10 → stepsR (cpG wd) 2 (enterR (cpG wd) ⟨[a, b], [], 0, 100000, mem, gl, keys⟩ k) = some ⟨[a, b, a, b], [(0, 2, 0)], 4 * k + 2, 99998, mem, gl, keys⟩
  | true, 0, _ => by kernel_rfl
  | true, 1, _ => by kernel_rfl
  | true, 2, _ => by kernel_rfl
  | true, 3, _ => by kernel_rfl
  | true, 4, _ => by kernel_rfl
  | true, 5, _ => by kernel_rfl
  | true, 6, _ => by kernel_rfl
  | true, 7, _ => by kernel_rfl
  | true, 8, _ => by kernel_rfl
  | true, 9, _ => by kernel_rfl
  | false, 0, _ => by kernel_rfl
  | false, 1, _ => by kernel_rfl
  | false, 2, _ => by kernel_rfl
  | false, 3, _ => by kernel_rfl
  | false, 4, _ => by kernel_rfl
  | false, 5, _ => by kernel_rfl
  | false, 6, _ => by kernel_rfl
  | false, 7, _ => by kernel_rfl
  | false, 8, _ => by kernel_rfl
  | false, 9, _ => by kernel_rfl
  | _, k + 10, h => absurd h (by omega)
set_option maxRecDepth 100000 in
theorem cp_p2 : ∀ (wd : Bool) (k : Nat), k < 10 → runR (cpG wd) 6 ⟨[a, b, a, b], [(0, 2, 0)], 4 * k + 2, 99998, mem, gl, keys⟩ = afterR (compareB wd k ⟨[a, b, a, b], [(0, 2, 0)], 4 * k + 3, 99997, mem, gl, keys⟩) (runR (cpG wd) 5)
  | true, 0, _ => by kernel_rfl
  | true, 1, _ => by kernel_rfl
  | true, 2, _ => by kernel_rfl
  | true, 3, _ => by kernel_rfl
  | true, 4, _ => by kernel_rfl
  | true, 5, _ => by kernel_rfl
  | true, 6, _ => by kernel_rfl
  | true, 7, _ => by kernel_rfl
  | true, 8, _ => by kernel_rfl
  | true, 9, _ => by kernel_rfl
  | false, 0, _ => by kernel_rfl
  | false, 1, _ => by kernel_rfl
  | false, 2, _ => by kernel_rfl
  | false, 3, _ => by kernel_rfl
  | false, 4, _ => by kernel_rfl
  | false, 5, _ => by kernel_rfl
  | false, 6, _ => by kernel_rfl
  | false, 7, _ => by kernel_rfl
  | false, 8, _ => by kernel_rfl
  | false, 9, _ => by kernel_rfl
  | _, k + 10, h => absurd h (by omega)
set_option maxRecDepth 100000 in
theorem cp_p3 (r : Int) : ∀ (wd : Bool) (k : Nat), k < 10 → runR (cpG wd) 5 ⟨[a, b, r], [(0, 2, 0)], 4 * k + 3, 99997, mem, gl, keys⟩ = some (0, ⟨[r], [], 0, 99997, mem, gl, keys⟩)
  | true, 0, _ => by kernel_rfl
  | true, 1, _ => by kernel_rfl
  | true, 2, _ => by kernel_rfl
  | true, 3, _ => by kernel_rfl
  | true, 4, _ => by kernel_rfl
  | true, 5, _ => by kernel_rfl
  | true, 6, _ => by kernel_rfl
  | true, 7, _ => by kernel_rfl
  | true, 8, _ => by kernel_rfl
  | true, 9, _ => by kernel_rfl
  | false, 0, _ => by kernel_rfl
  | false, 1, _ => by kernel_rfl
  | false, 2, _ => by kernel_rfl
  | false, 3, _ => by kernel_rfl
  | false, 4, _ => by kernel_rfl
  | false, 5, _ => by kernel_rfl
  | false, 6, _ => by kernel_rfl
  | false, 7, _ => by kernel_rfl
  | false, 8, _ => by kernel_rfl
  | false, 9, _ => by kernel_rfl
  | _, k + 10, h => absurd h (by omega)
end
section
variable {a b : Int} {mem : List UInt8} {gl : List Int} {keys : List (Int × Int)} {wd : Bool} {k : Nat}
theorem combine_at {p f : Nat} {v : Int} {t : Nat} (hc : combineR wd k a b = some (v, t)) : combineB wd k ⟨[a, b, a, b], [(0, 2, 0)], p, f, mem, gl, keys⟩ = if t = 0 then some (0, ⟨[a, b, v], [(0, 2, 0)], p, f, mem, gl, keys⟩) else some (t, ⟨[a, b], [(0, 2, 0)], p, f, mem, gl, keys⟩) := by
  unfold combineB
  rw [if_pos (by simp), show topR (popR ⟨[a, b, a, b], [(0, 2, 0)], p, f, mem, gl, keys⟩) = a from rfl, show topR ⟨[a, b, a, b], [(0, 2, 0)], p, f, mem, gl, keys⟩ = b from rfl, hc]
  rfl
/-- One of two made. -/
theorem cb_call (hk : k < 15) {v : Int} {t : Nat} (hc : combineR wd k a b = some (v, t)) : ∃ s', callR (cbG wd) k [a, b] 3 mem gl keys 8 = some (t, (if t = 0 then v else 0), 3, s') ∧ s'.mem = mem ∧ s'.gl = gl ∧ s'.keys = keys := by
  have h1 := (steps_run (m := 6) 2 _ _ (cb_p1 a b mem gl keys wd k hk)).trans (cb_p2 a b mem gl keys wd k hk)
  rw [combine_at hc] at h1
  match t with
  | 0 =>
    rw [if_pos rfl] at h1
    exact ⟨_, call_gives (h1.trans (after_go.trans (cb_p3 a b mem gl keys v wd k hk))) rfl rfl, rfl, rfl, rfl⟩
  | t + 1 =>
    rw [if_neg (by omega)] at h1
    exact ⟨_, call_trap (h1.trans after_trap) rfl (by simp), rfl, rfl, rfl⟩
/-- Two compared. -/
theorem cp_call (hk : k < 10) : ∃ s', callR (cpG wd) k [a, b] 100000 mem gl keys 8 = some (0, truth (compareR wd k a b), 3, s') ∧ s'.mem = mem ∧ s'.gl = gl ∧ s'.keys = keys := by
  have h1 := (steps_run (m := 6) 2 _ _ (cp_p1 a b mem gl keys wd k hk)).trans (cp_p2 a b mem gl keys wd k hk)
  exact ⟨_, call_gives (h1.trans (after_go.trans (cp_p3 a b mem gl keys _ wd k hk))) rfl rfl, rfl, rfl, rfl⟩
end
end Go.Proofs.YtdeplgkhmebalaaGreatDoor
