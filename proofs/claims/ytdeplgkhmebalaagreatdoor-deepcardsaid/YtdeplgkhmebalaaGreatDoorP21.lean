/- Calls in one another: the module, as it is looked at. -/
import Derived.Test.YtdeplgkhmebalaaGreatDoorP20

namespace Go.Proofs.YtdeplgkhmebalaaGreatDoor
open Go.RowKit
def deepFn : FnS := ⟨[126], [126], [], [0x20, 0, 0x50, 0x04, 0x7e, 0x42, 1, 0x05, 0x20, 0, 0x20, 0, 0x42, 1, 0x7d, 0x10, 0, 0x7e, 0x0b]⟩
def deepBytes : List UInt8 := moduleB 0 [deepFn]
def isOk {α β : Type} : Except α β → Bool
  | .ok _ => true
  | .error _ => false
def flat0 : Flat := ⟨[], [], 0, []⟩
def flatOf (D : List UInt8) : Flat := match loadM D with | .ok f => f | .error _ => flat0
theorem flatOf_ok {D : List UInt8} (h : isOk (loadM D) = true) : loadM D = .ok (flatOf D) := by
  unfold flatOf
  cases hl : loadM D with
  | ok f => rfl
  | error e => rw [hl] at h; cases h
set_option maxRecDepth 100000 in
theorem deep_ok : isOk (loadM deepBytes) = true := by kernel_rfl
def runOk (f : Flat) (n : Nat) (args : List Int) (fuel : Nat) (gl : List Int) (K : Nat) : Option (Nat × Int × Nat) := (callR f n args fuel (List.replicate (f.pages * 64) 0) gl [] K).map fun r => (r.1, r.2.1, r.2.2.1)
def fact : Nat → Nat
  | 0 => 1
  | n + 1 => fact n * (n + 1)
def deepGot (n : Nat) : Option (Nat × Int × Nat × Mc) := callR (flatOf deepBytes) 0 [((n : Nat) : Int)] (if n < 16 then 100000 else 5000) (List.replicate ((flatOf deepBytes).pages * 64) 0) [5] [] 2000
def smallB (s : Mc) : Bool := decide (s.mem.length ≤ 1000000) && decide (s.gl.length ≤ 1000000) && decide (s.keys.length ≤ 1000)
def isGot (g : Option (Nat × Int × Nat × Mc)) (t : Nat) (v : Int) (u : Nat) : Bool := match g with
  | none => false
  | some (t', v', u', s) => decide (t' = t) && decide (v' = v) && decide (u' = u) && smallB s
def deepB (n : Nat) : Bool := isGot (deepGot n) (if n < 16 then 0 else 6) (if n < 16 then (fact n : Int) else 0) (if n < 16 then 9 * n + 4 else 128)
set_option maxRecDepth 100000 in
theorem deep_runs : (List.range 40).all deepB = true := by kernel_rfl
end Go.Proofs.YtdeplgkhmebalaaGreatDoor

namespace Go.Proofs.YtdeplgkhmebalaaGreatDoor
open Go.RowKit
theorem FnsAt.made1 {W : World} {x0 x1 x2 x3 : Value} {fn : FnS} (h0 : BytesAt W x0 fn.params) (h1 : BytesAt W x1 fn.results) (h2 : BytesAt W x2 fn.locals) (h3 : BytesAt W x3 fn.code) (t : TypeId) : FnsAt (W.alloc (.cells #[x0, x1, x2, x3] t)) (.slice (some ⟨W.heap.size, 0, none⟩) 1 1) [fn] := by
  have k : Kp no W (W.alloc (.cells #[x0, x1, x2, x3] t)) := (Kp.refl _ _).alloc _
  refine ⟨[x0, x1, x2, x3], RowAt.ofBlock (heap_alloc_new W (.cells #[x0, x1, x2, x3] t)) 1 4 rfl, fun j hj => ?_⟩
  obtain rfl : j = 0 := by simp at hj; exact hj
  exact ⟨x0, x1, x2, x3, rfl, rfl, rfl, rfl, h0.kq k, h1.kq k, h2.kq k, h3.kq k⟩
theorem isGot_spec {g : Option (Nat × Int × Nat × Mc)} {t : Nat} {v : Int} {u : Nat} (h : isGot g t v u = true) : ∃ s, g = some (t, v, u, s) ∧ s.mem.length ≤ 1000000 ∧ s.gl.length ≤ 1000000 ∧ s.keys.length ≤ 1000 := by
  unfold isGot at h
  split at h
  · cases h
  · simp only [smallB, Bool.and_eq_true, decide_eq_true_eq] at h
    obtain ⟨⟨⟨rfl, rfl⟩, rfl⟩, ⟨h1, h2⟩, h3⟩ := h
    exact ⟨_, rfl, h1, h2, h3⟩
end Go.Proofs.YtdeplgkhmebalaaGreatDoor
