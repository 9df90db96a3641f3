/- A list of numbers that was handed in, as it is told. -/
import Derived.Test.YtdeplgkhmebalaaGreatDoorKeptA
import Derived.Test.YtdeplgkhmebalaaGreatDoorP34
import Derived.ChangeSlices

namespace Go.Proofs.YtdeplgkhmebalaaGreatDoor
open Go.ChangeShapes Go.WideShapes Go.ChangeAt Go.RowKit

set_option maxRecDepth 100000 in
theorem ints_of {H : Type} {enc : TypeId × Value → H} {W : World} {r : Reach} {b0 : Nat} {v : Value} {d : DataW H} {ps : List MemPlace} (hv : Value.okWide Tryz.prog W r b0 44 v)
    (h : DataW.Trod enc Tryz.prog W 0 (fun _ => true) true 44 v d ps) :
    ∃ L : List Int, IntsAt W v L ∧ (∀ j, j < L.length → -9223372036854775808 ≤ L.getD j 0 ∧ L.getD j 0 < 9223372036854775808) ∧ (∀ x ∈ ps, x.block < W.heap.size) := by
  obtain ⟨fuel, hf⟩ := h
  obtain ⟨a0, len0, cap0, rfl⟩ := okWide_slice Tryz.underlying44 hv
  have hlt := DataW.trod_lt fuel _ _ _ hf
  rcases open_ints Tryz.underlying44 Tryz.underlying3 cellsI64 hf with ⟨hcs, hx⟩ | ⟨a, len, cap, zs, hcs, -, hl, hm, hz, hx, hcell, hwz⟩
  · have hcs : [Value.slice a0 len0 cap0] = [Value.slice none 0 0] := hcs
    simp only [List.cons.injEq, and_true] at hcs
    exact ⟨[], ⟨none, 0, hcs, by simp, fun j hj => absurd hj (by simp)⟩, fun j hj => absurd hj (by simp), hlt⟩
  · have hcs : [Value.slice a0 len0 cap0] = [Value.slice (some a) len cap] := hcs
    simp only [List.cons.injEq, and_true] at hcs
    simp only [if_true] at hz
    have hll : (zs.take len).length = len := by rw [List.length_take, hz]; omega
    have hgd : ∀ j, j < len → (zs.take len).getD j 0 = zs.getD j 0 := fun j hj => by
      simp [List.getD_eq_getElem?_getD, hj]
    refine ⟨zs.take len, ⟨some a, cap, by rw [hll]; exact hcs, by rw [hll]; exact hl, fun j hj => ?_⟩, fun j hj => ?_, hlt⟩
    · rw [hll] at hj
      have hc := hcell j (by omega)
      have hc0 := hcell 0 (by omega)
      obtain ⟨ab, ao, asp⟩ := a
      rw [Addr.add_zero'] at hc0
      obtain rfl : asp = none := spot_none hc0
      rw [Addr.add_lit] at hc
      rw [hgd j hj]
      exact ⟨ab, ao, rfl, hc⟩
    · rw [hll] at hj
      rw [hgd j hj]
      have hj' : j < zs.length := by omega
      have := hwz (zs.getD j 0) (by rw [List.getD_eq_getElem?_getD, List.getElem?_eq_getElem hj']; exact List.getElem_mem hj')
      exact ⟨(wf_i64 this).1, (wf_i64 this).2⟩
end Go.Proofs.YtdeplgkhmebalaaGreatDoor
