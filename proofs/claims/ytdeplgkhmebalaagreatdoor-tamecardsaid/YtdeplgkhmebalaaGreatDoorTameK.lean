/- Bytes that were handed in, as they are told; the library's own table as it is laid. -/
import Derived.Test.YtdeplgkhmebalaaGreatDoorTameI
import Derived.Test.YtdeplgkhmebalaaGreatDoorP34
import Derived.ChangeSlices

namespace Go.Proofs.YtdeplgkhmebalaaGreatDoor
open Go.ChangeShapes Go.WideShapes Go.ChangeAt Go.RowKit
theorem shape_lt {w : World} {b : Nat} {x : TypeId × Nat} (h : w.shape? b = some x) : b < w.heap.size := by
  rcases Nat.lt_or_ge b w.heap.size with h1 | h1
  · exact h1
  · unfold World.shape? at h; rw [Array.getElem?_eq_none h1] at h; cases h
set_option maxRecDepth 100000 in
theorem slice_has {W : World} {r : Reach} {b0 : Nat} {a : Addr} {len cap : Nat} (hv : Value.okWide Tryz.prog W r b0 25 (.slice (some a) len cap)) : a.spot = none ∧ a.block < W.heap.size := by
  simp only [Value.okWide, Tryz.underlying25, Cell.okWide, Cell.ok] at hv
  obtain ⟨-, -, -, h1, row, cells, h2, -⟩ := hv
  exact ⟨h1, shape_lt h2⟩
theorem wf_u8 {a : Int} (h : (Lit.int .u8 a).wf = true) : 0 ≤ a ∧ a < 256 := by
  have h' : (decide (IntKind.u8.min ≤ a) && decide (a ≤ IntKind.u8.max)) = true := h
  rw [show IntKind.u8.min = 0 from rfl, show IntKind.u8.max = 255 from rfl] at h'
  simp only [Bool.and_eq_true, decide_eq_true_eq] at h'
  omega
set_option maxRecDepth 100000 in
theorem bytes_of {H : Type} {enc : TypeId × Value → H} {W : World} {r : Reach} {b0 : Nat} {v : Value} {d : DataW H} {ps : List MemPlace} (hv : Value.okWide Tryz.prog W r b0 25 v)
    (h : DataW.Trod enc Tryz.prog W 0 (fun _ => true) true 25 v d ps) :
    ∃ D : List UInt8, BytesAt W v D ∧ (∀ b, v.ownBlock = some b → b < W.heap.size) ∧ (∀ x ∈ ps, x.block < W.heap.size) := by
  obtain ⟨fuel, hf⟩ := h
  obtain ⟨a0, len0, cap0, rfl⟩ := okWide_slice Tryz.underlying25 hv
  have hlt := DataW.trod_lt fuel _ _ _ hf
  rcases open_ints Tryz.underlying25 Tryz.underlying5 cellsU8 hf with ⟨hcs, hx⟩ | ⟨a, len, cap, zs, hcs, -, hl, hm, hz, hx, hcell, hwz⟩
  · have hcs : [Value.slice a0 len0 cap0] = [Value.slice none 0 0] := hcs
    simp only [List.cons.injEq, and_true] at hcs
    rw [hcs]
    exact ⟨[], RowAt.nil _ 1, fun b hb => (by cases hb), hlt⟩
  · have hcs : [Value.slice a0 len0 cap0] = [Value.slice (some a) len cap] := hcs
    simp only [List.cons.injEq, and_true] at hcs
    rw [hcs] at hv ⊢
    obtain ⟨hsp, hbl⟩ := slice_has hv
    obtain ⟨ab, ao, asp⟩ := a
    simp only at hsp hbl
    subst hsp
    simp only [if_true] at hz
    have hll : ((zs.take len).map fun z => UInt8.ofNat z.toNat).length = len := by rw [List.length_map, List.length_take, hz]; omega
    refine ⟨(zs.take len).map fun z => UInt8.ofNat z.toNat, ?_, fun b hb => ?_, hlt⟩
    · have := BytesAt.mk (w := W) (a := ab) (o := ao) (cap := cap) (l := (zs.take len).map fun z => UInt8.ofNat z.toNat) (by rw [hll]; exact hl) (fun k hk => by
        rw [hll] at hk
        have hk' : k < zs.length := by omega
        have hc := hcell k hk'
        rw [Addr.add_lit] at hc
        rw [hc]
        have hw := wf_u8 (hwz (zs.getD k 0) (by rw [List.getD_eq_getElem?_getD, List.getElem?_eq_getElem hk']; exact List.getElem_mem hk'))
        have e : ((zs.take len).map fun z => UInt8.ofNat z.toNat).getD k 0 = UInt8.ofNat (zs.getD k 0).toNat := by
          simp [List.getD_eq_getElem?_getD, hk, List.getElem?_eq_getElem hk']
        rw [e]
        have e2 : ((UInt8.ofNat (zs.getD k 0).toNat).toNat : Int) = zs.getD k 0 := by rw [UInt8.toNat_ofNat']; omega
        rw [e2])
      rw [hll] at this
      exact this
    · have hb : some ab = some b := hb
      simp only [Option.some.injEq] at hb
      omega
theorem laid_tab : (Rows.laid_math_bits_deBruijn64tab : DataW Unit) = .agg (Lib.deBruijn64tab.map fun (n : Nat) => .lit (.int .u8 (n : Int))) := by rfl
theorem gTab : Tryz.prog.globalNamed "math/bits.deBruijn64tab" = some 2 := by kernel_rfl
theorem gTabType : (Tryz.prog.globals[2]?).map (·.type) = some 353 := by kernel_rfl
theorem tab_of_laid {W : World} {laid : List (String × DataW Unit)} (hl : (laid.all fun x => x.2.handleName?.isNone) = true) (hm : ("math/bits.deBruijn64tab", Rows.laid_math_bits_deBruijn64tab) ∈ laid) (h : laidMetH Tryz.prog laid W) : TabW W := by
  rw [MakeChecks.laidMetH_plain _ _ _ hl] at h
  obtain ⟨ps, hv, -⟩ := h
  obtain ⟨g, t, cs, fuel, p, hg, ht, hvar, hd⟩ := laid_reads hv _ _ hm
  obtain rfl := Option.some.inj (gTab.symm.trans hg)
  obtain rfl := Option.some.inj (gTabType.symm.trans ht)
  rw [laid_tab] at hd
  obtain ⟨xs, n, -, hx, -, hxl, hall⟩ := DataW.trod_array Tryz.underlying353 hd
  have hx1 : xs.map (·.1) = Lib.deBruijn64tab.map fun (n : Nat) => (.lit (.int .u8 (n : Int)) : DataW Unit) := by
    have := congrArg Prod.fst hx
    simp only [DataW.agg.injEq] at this
    exact this.symm
  intro j hj
  have h1 := hall j hj
  rw [cellsU8, Nat.mul_one, List.getElem?_eq_getElem (by omega)] at h1
  obtain ⟨z, f0, g0, -⟩ := DataW.trod_int Tryz.underlying5 h1
  have hz : z = ((Lib.deBruijn64tab.getD j 0 : Nat) : Int) := by
    have hlen : j < Lib.deBruijn64tab.length := hj
    have := congrArg (·[j]?) hx1
    simp only [List.getElem?_map, List.getElem?_eq_getElem (show j < xs.length by omega), List.getElem?_eq_getElem hlen, Option.map_some, Option.some.injEq] at this
    rw [g0] at this
    simp only [DataW.lit.injEq, Lit.int.injEq, true_and] at this
    rw [List.getD_eq_getElem?_getD, List.getElem?_eq_getElem hlen]
    exact this
  rw [World.var?_cell hg hvar j, ← Array.getElem?_toList]
  have : cs.toList[j]? = some (.int .u8 z) := by
    have h2 := congrArg (·[0]?) f0
    simpa using h2
  rw [this, hz]
end Go.Proofs.YtdeplgkhmebalaaGreatDoor
