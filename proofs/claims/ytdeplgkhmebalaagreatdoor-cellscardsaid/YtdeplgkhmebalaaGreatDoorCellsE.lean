/- What is stored is there: the statement's own walk. -/
import Derived.Test.YtdeplgkhmebalaaGreatDoorCellsB
import Derived.Test.YtdeplgkhmebalaaGreatDoorCellsC
import Derived.Test.YtdeplgkhmebalaaGreatDoorCellsD
import Derived.Test.YtdeplgkhmebalaaGreatDoorP33
import Derived.Deep.DeepCutAuto

namespace Go.Proofs.YtdeplgkhmebalaaGreatDoor
open Go.RowKit

theorem cell_flatOk (p o : Nat) (hp : p < 5) : FlatOk (cellF p o) := by
  match p, hp with
  | 0, _ => exact flatOk_of (by kernel_rfl)
  | 1, _ => exact flatOk_of (by kernel_rfl)
  | 2, _ => exact flatOk_of (by kernel_rfl)
  | 3, _ => exact flatOk_of (by kernel_rfl)
  | 4, _ => exact flatOk_of (by kernel_rfl)
theorem ce_ref0 (p o : Nat) {a v f : Nat} (ha : a < 4294967296) (hf : f ≤ 100000) : refusesM (cellF p o) ((0 : Nat) : Int) [((a : Nat) : Int), ((v : Nat) : Int)] ((f : Nat) : Int) = 0 := by
  have hfi : fitsM [((a : Nat) : Int), ((v : Nat) : Int)] [127, 126] = true := by
    simp [fitsM, fitsAt, List.range, List.range.loop]
    omega
  unfold refusesM
  rw [if_neg (by simp [cellF, cellFs]), show ((cellF p o).funcs.getD (((0 : Nat) : Int)).toNat fn0).typ.1 = [127, 126] from rfl, hfi, if_neg (by simp), if_neg (by omega)]
theorem ce_refK (p o k : Nat) (hk : k = 1 ∨ k = 2 ∨ k = 3) {a f : Nat} (ha : a < 4294967296) (hf : f ≤ 100000) : refusesM (cellF p o) ((k : Nat) : Int) [((a : Nat) : Int)] ((f : Nat) : Int) = 0 := by
  have hfi : fitsM [((a : Nat) : Int)] [127] = true := by
    simp [fitsM, fitsAt]
    omega
  have ht : ((cellF p o).funcs.getD (((k : Nat) : Int)).toNat fn0).typ.1 = [127] := by
    rcases hk with rfl | rfl | rfl <;> rfl
  unfold refusesM
  rw [if_neg (by simp [cellF, cellFs]; omega), ht, hfi, if_neg (by simp), if_neg (by omega)]
theorem ce_ref4 (p o : Nat) {f : Nat} (hf : f ≤ 100000) : refusesM (cellF p o) ((4 : Nat) : Int) [] ((f : Nat) : Int) = 0 := by
  have hfi : fitsM [] [] = true := rfl
  unfold refusesM
  rw [if_neg (by simp [cellF, cellFs]), show ((cellF p o).funcs.getD (((4 : Nat) : Int)).toNat fn0).typ.1 = [] from rfl, hfi, if_neg (by simp), if_neg (by omega)]
theorem cell_load {p o : Nat} (hp : p < 5) (h : o < 300 ∨ ∃ q, q < 300 ∧ o = 4294967295 - q) : loadM (cellBytes p o) = .ok (cellF p o) ∧ (cellBytes p o).length ≤ 1000 := by
  rcases h with h | ⟨q, h, rfl⟩
  · exact cellIs_spec hp (cl_allN h _)
  · exact cellIs_spec hp (cl_allF h _)
/-- What lies in the memory behind the stores. -/
def cellMem (n q v : Nat) : List UInt8 := if q + 8 ≤ n then stTo (List.replicate n 0) q v 8 else List.replicate n 0
theorem cellMem_len (n q v : Nat) : (cellMem n q v).length = n := by
  unfold cellMem
  split
  · rw [stTo_len, List.length_replicate]
  · rw [List.length_replicate]
theorem rep_getD (n k : Nat) : (List.replicate n (0 : UInt8)).getD k 0 = 0 := by
  simp [List.getD_eq_getElem?_getD, List.getElem?_replicate]
  split <;> rfl
theorem cellMem_in {n q v : Nat} (h : q + 8 ≤ n) (d : Nat) (hd : d < 8) : (cellMem n q v).getD (q + d) 0 = UInt8.ofNat (v / 2 ^ (8 * d)) := by
  unfold cellMem
  rw [if_pos h, stTo_get _ q v (q + d) 8 (by simp; exact h), if_pos (by omega), Nat.add_sub_cancel_left]
theorem cellMem_out {n q v k : Nat} (h : ¬ (q + 8 ≤ n ∧ q ≤ k ∧ k < q + 8)) : (cellMem n q v).getD k 0 = 0 := by
  unfold cellMem
  split
  · rename_i hq
    rw [stTo_get _ q v k 8 (by simp; exact hq), if_neg (by omega), rep_getD]
  · rw [rep_getD]

set_option maxRecDepth 100000 in
set_option maxHeartbeats 4000000 in
theorem cells_any {w : World} (hR : RowsOk w) (p0 m0 : Int) (a0 v g0 : Nat) (hp1 : -9223372036854775808 ≤ p0) (hp2 : p0 < 9223372036854775808) (hm1 : -9223372036854775808 ≤ m0) (hm2 : m0 < 9223372036854775808) (ha0 : a0 < 18446744073709551616) (hv : v < 18446744073709551616) (hg0 : g0 < 18446744073709551616) :
    Calls Tryz.prog 12 #[.int .i64 p0, .int .u64 a0, .int .i64 m0, .int .u64 v, .int .u64 g0] w fun r w' => r = .returned (.bool true) ∧ Kp no w w' := by
  have hp : pickM p0 5 < 5 := Nat.mod_lt _ (by decide)
  have hpk := pickK_any w p0 5 hp1 hp2 (by decide) (by decide)
  generalize pickM p0 5 = p at *
  have ho0 : pickM m0 300 < 300 := Nat.mod_lt _ (by decide)
  have hpk2 := pickK_any w m0 300 hm1 hm2 (by decide) (by decide)
  generalize pickM m0 300 = o0 at *
  obtain ⟨a, ha⟩ : ∃ a, a0 % 400 = a := ⟨_, rfl⟩
  have hal : a < 400 := by omega
  have hwa : (a0 : Int) % 400 = (a : Int) := by omega
  have hwa2 : Int.tmod (a0 : Int) 400 = (a : Int) := by rw [Int.tmod_eq_emod_of_nonneg (by omega)]; omega
  obtain ⟨o, hoE⟩ : ∃ o, (if Int.tmod m0 7 = 0 then 4294967295 - o0 else o0) = o := ⟨_, rfl⟩
  have hoF : o < 300 ∨ ∃ q, q < 300 ∧ o = 4294967295 - q := by
    split at hoE
    · exact .inr ⟨o0, ho0, hoE.symm⟩
    · exact .inl (by omega)
  have hol : o < 4294967296 := by rcases hoF with h | ⟨q, h, e⟩ <;> omega
  obtain ⟨hld, hln⟩ := cell_load hp hoF
  have HPk := hide hpk
  have HPk2 := hide hpk2
  have HR := hide hR
  have HLd := hide hld
  have HLn := hide hln
  have HO := hide hoE
  have HOF := hide hoF
  clear hpk hpk2 hR hld hln hoE hoF hp1 hp2
  go_enter Tryz.func12, Tryz.ntmps12
  go_wp2_with fail
  refine HPk.out.mono ?_
  rintro r w1 ⟨rfl, hw⟩
  rw [hw]
  clear hw w1
  go_wp2_with fail
  refine HPk2.out.mono ?_
  rintro r w1 ⟨rfl, hw⟩
  rw [hw]
  clear hw w1
  go_upto_if 37 with fail
  go_cut [12] (fun x wx => x = .int .i64 (o : Nat) ∧ w = wx)
  case first =>
    by_cases h7 : Int.tmod m0 7 = 0
    · have hws : IntKind.i64.wrap (4294967295 - (o0 : Int)) = (o : Int) := by
        have := HO.out
        rw [if_pos h7] at this
        rw [IntKind.wrap_i64]
        omega
      go_wp2_with fail
      go_meet
      exact ⟨rfl, rfl⟩
    · have e := HO.out
      rw [if_neg h7] at e
      subst e
      go_wp2_with fail
      go_meet
      exact ⟨rfl, rfl⟩
  case rest =>
    obtain ⟨rfl, rfl⟩ := hcut
    have hcl := cellsK_any w p o hp hol HLn.out
    have HCl := hide hcl
    clear hcl
    go_wp2_with fail
    refine HCl.out.mono ?_
    rintro r w4 ⟨⟨v4, rfl, h4⟩, k4⟩
    obtain ⟨a4, c4, hv4, -⟩ := h4.at.shape
    subst hv4
    obtain ⟨n, hn⟩ : ∃ n, p * 64 = n := ⟨_, rfl⟩
    have hok := cell_flatOk p o hp
    have hS := started_keep h4.at h4.lt (HR.out.kp k4) (Nat.le_trans HLn.out (by omega)) HLd.out hok.pg hok.gl
    rw [show List.replicate ((cellF p o).pages * 64) (0 : UInt8) = List.replicate n 0 by rw [← hn]; rfl, show (cellF p o).globals.map (fun (n : Nat) => ((n : Nat) : Int)) = [5] from rfl] at hS
    have HOk := hide hok
    have HN := hide hn
    have hnl : n ≤ 256 := by omega
    have HS := hide hS
    have K4 := hide k4
    clear h4 k4 hS hok hn HCl HLd HLn HR
    go_wp2_with fail
    refine HS.out.mono ?_
    rintro r w5 ⟨⟨ib, tb, rfl, hin⟩, k5⟩
    have hibl := hin.ib
    have htbl := hin.tb
    have hil : ib < w5.heap.size ∧ tb < w5.heap.size := by
      obtain ⟨ro, mb, mv, gv, p, i1, i2, -⟩ := hin.at'
      exact ⟨lt_of_blk i1.blk, lt_of_blk i2.blk⟩
    have h45 := K4.out.size
    have K5 := hide (K4.out.trans k5)
    have HIn := hide hin
    clear hin k5 HS K4
    obtain ⟨q, hq⟩ : ∃ q, a + o = q := ⟨_, rfl⟩
    have hql : q < 5000000000 := by omega
    have hwq : IntKind.i64.wrap ((a : Int) + (o : Int)) = (q : Int) := by rw [IntKind.wrap_i64]; omega
    have hwq8 : IntKind.i64.wrap ((q : Int) + 8) = (q : Int) + 8 := by rw [IntKind.wrap_i64]; omega
    have hwn : IntKind.i64.wrap ((p : Int) * 64) = (n : Int) := by have := HN.out; rw [IntKind.wrap_i64]; omega
    have hwai : IntKind.i64.wrap (a : Int) = (a : Int) := by rw [IntKind.wrap_i64]; omega
    have HQ := hide hq
    clear hq
    go_upto_if 58 with fail
    go_cut [17, 18, 19, 20, 21] (fun _ _ _ _ _ wx => Hid (Inst w4 wx ib tb (cellF p o) (cellMem n q v) [5] [] ∧ Kp no w wx ∧ w5.heap.size ≤ wx.heap.size))
    case first =>
      by_cases hin : q + 8 ≤ n
      · have hqo := HQ.out
        have hmq : (stTo (List.replicate n (0 : UInt8)) q v 8).length = n := by rw [stTo_len, List.length_replicate]
        have hv1 := ValsAt.made w5 [(a : Int), (v : Int)]
        have hc1 := ce_store (p := p) (o := o) (a := a) (v := v) (F := 99997) (mem := List.replicate n 0) (gl := [5]) (keys := []) (by omega) hol hv (by simp; omega) (by simp; omega)
        rw [hqo] at hc1
        have ht1 := gives_keep (n := 0) (K := 8) (u := 3) (HIn.out.quiet ((Kp.refl no w5).alloc (.cells (valCells [(a : Int), (v : Int)]).toArray 38))) HOk.out hv1 (by simp) (fun b hb => by have hb : some _ = some b := hb; simp only [Option.some.injEq] at hb; omega) (ce_ref0 p o (f := 100000) (by omega) (by omega)) (by omega) hc1 (by rw [hmq]; simp; omega)
        have HT1 := hide ht1
        have HQO := hide hqo
        clear ht1 hv1 hc1 hqo
        go_wp2_with fail
        refine HT1.out.mono ?_
        rintro r w6 ⟨rfl, hin6, k6⟩
        have hs6 : w5.heap.size + 1 ≤ w6.heap.size := by have := k6.size; simp at this; exact this
        have K6 := hide ((K5.out.alloc _).comp k6 (fun _ _ h => h) (fun b hb h => by rcases h with h | h <;> omega))
        have hv1 := ValsAt.made w6 [(a : Int)]
        have hc1 := ce_load (p := p) (o := o) (a := a) (F := 99998) (mem := stTo (List.replicate n 0) q v 8) (gl := [5]) (keys := []) (by omega) hol (by omega) (by have := HQO.out; omega)
        rw [HQO.out, leTo_stored _ (List.replicate n 0) q v rfl (by simp; omega) 8 (by omega), show v % 2 ^ (8 * 8) = v from Nat.mod_eq_of_lt hv] at hc1
        have ht1 := gives_keep (n := 1) (K := 7) (u := 2) (hin6.quiet ((Kp.refl no w6).alloc (.cells (valCells [(a : Int)]).toArray 38))) HOk.out hv1 (by simp) (fun b hb => by have hb : some _ = some b := hb; simp only [Option.some.injEq] at hb; omega) (ce_refK p o 1 (f := 100000) (by omega) (by omega) (by omega)) (by omega) hc1 (by rw [hmq]; simp; omega)
        have HT2 := hide ht1
        clear ht1 hv1 hc1 hin6 k6 HT1
        go_wp2_with fail
        refine HT2.out.mono ?_
        rintro r w7 ⟨rfl, hin7, k7⟩
        have hs7 : w6.heap.size + 1 ≤ w7.heap.size := by have := k7.size; simp at this; exact this
        have K7 := hide ((K6.out.alloc _).comp k7 (fun _ _ h => h) (fun b hb h => by rcases h with h | h <;> omega))
        obtain ⟨a7, ha7⟩ : ∃ a7, a + 7 = a7 := ⟨_, rfl⟩
        have hwa7 : IntKind.u64.wrap ((a : Int) + 7) = (a7 : Int) := by rw [IntKind.wrap_u64]; omega
        have hv1 := ValsAt.made w7 [(a7 : Int)]
        have hc1 := ce_last (p := p) (o := o) (a := a7) (F := 99998) (mem := stTo (List.replicate n 0) q v 8) (gl := [5]) (keys := []) (by omega) hol (by omega) (by have := HQO.out; omega)
        rw [show a7 + o = q + 7 by have := HQO.out; omega, leTo_last _ (List.replicate n 0) q v rfl (by simp; omega) hv] at hc1
        have ht1 := gives_keep (n := 2) (K := 7) (u := 2) (hin7.quiet ((Kp.refl no w7).alloc (.cells (valCells [(a7 : Int)]).toArray 38))) HOk.out hv1 (by simp) (fun b hb => by have hb : some _ = some b := hb; simp only [Option.some.injEq] at hb; omega) (ce_refK p o 2 (f := 100000) (by omega) (by omega) (by omega)) (by omega) hc1 (by rw [hmq]; simp; omega)
        obtain ⟨v7, hv7⟩ : ∃ v7, v / 2 ^ 56 = v7 := ⟨_, rfl⟩
        have hv7' : (v : Int) / 72057594037927936 = (v7 : Int) := by omega
        rw [hv7] at ht1
        have HT3 := hide ht1
        have HA7 := hide ha7
        clear ht1 hv1 hc1 hin7 k7 HT2 hv7 ha7
        go_wp2_with fail
        refine HT3.out.mono ?_
        rintro r w8 ⟨rfl, hin8, k8⟩
        have hs8 : w7.heap.size + 1 ≤ w8.heap.size := by have := k8.size; simp at this; exact this
        have K8 := hide ((K7.out.alloc _).comp k8 (fun _ _ h => h) (fun b hb h => by rcases h with h | h <;> omega))
        by_cases heq : q + 8 = n
        · obtain ⟨a8, ha8⟩ : ∃ a8, a + 8 = a8 := ⟨_, rfl⟩
          have hwa8 : IntKind.u64.wrap ((a : Int) + 8) = (a8 : Int) := by rw [IntKind.wrap_u64]; omega
          have hv1 := ValsAt.made w8 [(a8 : Int)]
          have hc1 := ce_lastT (p := p) (o := o) (a := a8) (F := 7) (mem := stTo (List.replicate n 0) q v 8) (gl := [5]) (keys := []) (by omega) hol (by omega) (by have := HQO.out; omega)
          have ht1 := traps_keep (n := 2) (fuel := 9) (K := 7) (t := 4) (u := 2) (hin8.quiet ((Kp.refl no w8).alloc (.cells (valCells [(a8 : Int)]).toArray 38))) HOk.out hv1 (by simp) (fun b hb => by have hb : some _ = some b := hb; simp only [Option.some.injEq] at hb; omega) (ce_refK p o 2 (by omega) (by omega) (by omega)) (by omega) (by omega) hc1 (by rw [hmq]; simp; omega)
          have HT4 := hide ht1
          have hbq : ((q : Int) + 8 == (n : Int)) = true := by simp; omega
          clear ht1 hv1 hc1 hin8 k8 HT3 ha8
          go_wp2_with fail
          refine HT4.out.mono ?_
          rintro r w9 ⟨rfl, hin9, k9⟩
          have hs9 : w8.heap.size + 1 ≤ w9.heap.size := by have := k9.size; simp at this; exact this
          have K9 := hide ((K8.out.alloc _).comp k9 (fun _ _ h => h) (fun b hb h => by rcases h with h | h <;> omega))
          have HIn9 := hide hin9
          clear hin9 k9 HT4
          go_wp2_with fail
          go_meet
          refine hide ⟨?_, K9.out, by omega⟩
          have e := HIn9.out
          rw [cellMem, if_pos hin]
          exact e
        · have hbq : ((q : Int) + 8 == (n : Int)) = false := by simp; omega
          have HIn9 := hide hin8
          clear hin8 k8 HT3
          go_wp2_with fail
          go_meet
          refine hide ⟨?_, K8.out, by omega⟩
          have e := HIn9.out
          rw [cellMem, if_pos hin]
          exact e
      · have hv1 := ValsAt.made w5 [(a : Int), (v : Int)]
        have hc1 := ce_storeT (p := p) (o := o) (a := a) (v := v) (F := 6) (mem := List.replicate n 0) (gl := [5]) (keys := []) (by omega) hol hv (by simp; omega) (by have := HQ.out; simp; omega)
        have ht1 := traps_keep (n := 0) (fuel := 9) (K := 8) (t := 4) (u := 3) (HIn.out.quiet ((Kp.refl no w5).alloc (.cells (valCells [(a : Int), (v : Int)]).toArray 38))) HOk.out hv1 (by simp) (fun b hb => by have hb : some _ = some b := hb; simp only [Option.some.injEq] at hb; omega) (ce_ref0 p o (by omega) (by omega)) (by omega) (by omega) hc1 (by simp; omega)
        have HT1 := hide ht1
        clear ht1 hv1 hc1
        go_wp2_with fail
        refine HT1.out.mono ?_
        rintro r w6 ⟨rfl, hin6, k6⟩
        have hs6 : w5.heap.size + 1 ≤ w6.heap.size := by have := k6.size; simp at this; exact this
        have K6 := hide ((K5.out.alloc _).comp k6 (fun _ _ h => h) (fun b hb h => by rcases h with h | h <;> omega))
        have hv1 := ValsAt.made w6 [(a : Int)]
        have hc1 := ce_loadT (p := p) (o := o) (a := a) (F := 7) (mem := List.replicate n 0) (gl := [5]) (keys := []) (by omega) hol (by simp; omega) (by have := HQ.out; simp; omega)
        have ht1 := traps_keep (n := 1) (fuel := 9) (K := 7) (t := 4) (u := 2) (hin6.quiet ((Kp.refl no w6).alloc (.cells (valCells [(a : Int)]).toArray 38))) HOk.out hv1 (by simp) (fun b hb => by have hb : some _ = some b := hb; simp only [Option.some.injEq] at hb; omega) (ce_refK p o 1 (by omega) (by omega) (by omega)) (by omega) (by omega) hc1 (by simp; omega)
        have HT2 := hide ht1
        clear ht1 hv1 hc1 hin6 k6 HT1
        go_wp2_with fail
        refine HT2.out.mono ?_
        rintro r w7 ⟨rfl, hin7, k7⟩
        have hs7 : w6.heap.size + 1 ≤ w7.heap.size := by have := k7.size; simp at this; exact this
        have K7 := hide ((K6.out.alloc _).comp k7 (fun _ _ h => h) (fun b hb h => by rcases h with h | h <;> omega))
        have HIn7 := hide hin7
        clear hin7 k7 HT2
        go_wp2_with fail
        go_meet
        refine hide ⟨?_, K7.out, by omega⟩
        have e := HIn7.out
        rw [cellMem, if_neg hin]
        exact e
    case rest =>
      have HC := hcut
      clear hcut HIn K5
      have hml := cellMem_len n q v
      have hMi := fun h d hd => cellMem_in (n := n) (q := q) (v := v) h d hd
      have hMo := fun k h => cellMem_out (n := n) (q := q) (v := v) (k := k) h
      generalize cellMem n q v = M at *
      have hme := memory_keep HC.out.1
      rw [hml] at hme
      have HMe := hide hme
      have HMl := hide hml
      have HMi := hide hMi
      have HMo := hide hMo
      clear hme hml hMi hMo
      go_wp2_with fail
      refine HMe.out.mono ?_
      rintro r w7 ⟨⟨b7, rfl, hb7, hv7⟩, hin7, k7⟩
      have hs7 : wc.heap.size ≤ w7.heap.size := k7.size
      have hsc := HC.out.2.2
      have K7 := hide (HC.out.2.1.comp k7 (fun _ _ h => h) (fun b hb h => by rcases h with h | h <;> omega))
      have hcell : ∀ k, k < n → w7.cell? ⟨b7, k, none⟩ = some (.int .u8 (M.getD k 0).toNat) := by
        intro k hk
        obtain ⟨a', o', cap', he, -, hc⟩ := RowAt.get hv7 (k := k) (x := .int .u8 (M.getD k 0).toNat) (by simp [List.getD, List.getElem?_eq_getElem (show k < M.length by rw [HMl.out]; exact hk)])
        cases he
        simpa using hc
      have HCell := hide hcell
      have HIn7 := hide hin7
      clear hin7 hv7 hcell k7 HMe
      go_wp2_with fail
      go_loopw [23, 24] (fun kv _ wr => ∃ (k : Nat), k ≤ n ∧ kv = .int .i64 (k : Nat) ∧ w7 = wr) (fun kv _ _ => n - (intOf kv).toNat)
      case atStart => exact ⟨0, by omega, rfl, rfl⟩
      case round =>
        obtain ⟨k, hk, rfl, rfl⟩ := hrel
        by_cases hkn : k < n
        · have hc := HCell.out k hkn
          have hwk : IntKind.i64.wrap ((k : Int) + 1) = (k : Int) + 1 := by rw [IntKind.wrap_i64]; omega
          by_cases hck : q + 8 ≤ n ∧ q ≤ k ∧ k < q + 8
          · obtain ⟨h1, h2, h3⟩ := hck
            obtain ⟨d, hd⟩ : ∃ d, k = q + d := ⟨k - q, by omega⟩
            have hm := HMi.out h1 d (by omega)
            rw [← hd] at hm
            rw [hm, ← byte_step] at hc
            have hwd : IntKind.i64.wrap ((k : Int) - (q : Int)) = (d : Int) := by rw [IntKind.wrap_i64]; omega
            obtain ⟨e, he⟩ : ∃ e, 8 * d = e := ⟨_, rfl⟩
            have hwe : IntKind.i64.wrap (8 * (d : Int)) = (e : Int) := by rw [IntKind.wrap_i64]; omega
            rw [he] at hc
            have he0 : e < 64 := by omega
            clear hd hm he
            go_wp2_with fail
            exact ⟨⟨k + 1, by omega, by simp, trivial⟩, by simp [intOf]; omega⟩
          · have hm := HMo.out k hck
            rw [hm] at hc
            have hc' : w7.cell? ⟨b7, k, none⟩ = some (.int .u8 0) := hc
            clear hm hc
            by_cases h1 : q + 8 ≤ n
            · by_cases h2 : q ≤ k
              · have h3 : q + 8 ≤ k := by omega
                go_wp2_with fail
                exact ⟨⟨k + 1, by omega, by simp, trivial⟩, by simp [intOf]; omega⟩
              · go_wp2_with fail
                exact ⟨⟨k + 1, by omega, by simp, trivial⟩, by simp [intOf]; omega⟩
            · go_wp2_with fail
              exact ⟨⟨k + 1, by omega, by simp, trivial⟩, by simp [intOf]; omega⟩
        · obtain rfl : k = n := by omega
          obtain ⟨g, hg⟩ : ∃ g, g0 % 8 = g := ⟨_, rfl⟩
          have hgl : g < 8 := by omega
          have hwg : (g0 : Int) % 8 = (g : Int) := by omega
          have hwg2 : Int.tmod (g0 : Int) 8 = (g : Int) := by rw [Int.tmod_eq_emod_of_nonneg (by omega)]; omega
          have hwp : IntKind.u64.wrap (p : Int) = (p : Int) := by rw [IntKind.wrap_u64]; omega
          clear hg HMi HMo HCell
          by_cases hg7 : g = 7
          · subst hg7
            obtain ⟨t, ht⟩ : ∃ t, p + 4294967295 = t := ⟨_, rfl⟩
            have hwt : IntKind.u64.wrap ((p : Int) + 4294967295) = (t : Int) := by rw [IntKind.wrap_u64]; omega
            have ht4 : 4 < t := by omega
            have hM2l : M.length = p * 64 := by have := HMl.out; have := HN.out; omega
            have hc1 := ce_growN (p := p) (o := o) (a := 4294967295) (F := 99998) (mem := M) (gl := [5]) (keys := []) (by omega) (by have := HMl.out; have := HN.out; omega) (by omega) (by omega)
            rw [show ((4294967295 : Nat) : Int) = 4294967295 from rfl] at hc1
            have hv1 := ValsAt.made w7 [4294967295]
            have ht1 := gives_keep (n := 3) (K := 7) (u := 2) (HIn7.out.quiet ((Kp.refl no w7).alloc (.cells (valCells [4294967295]).toArray 38))) HOk.out hv1 (by simp) (fun b hb => by have hb : some _ = some b := hb; simp only [Option.some.injEq] at hb; omega) (by have h := ce_refK p o 3 (a := 4294967295) (f := 100000) (by omega) (by omega) (by omega); rw [show ((4294967295 : Nat) : Int) = 4294967295 from rfl] at h; exact h) (by omega) hc1 (by rw [hM2l]; simp; omega)
            have HT1 := hide ht1
            clear ht1 hv1 hc1 ht
            go_wp2_with fail
            refine HT1.out.mono ?_
            rintro r w8 ⟨rfl, hin8, k8⟩
            have hs8 : w7.heap.size + 1 ≤ w8.heap.size := by have := k8.size; simp at this; exact this
            have K8 := hide ((K7.out.alloc _).comp k8 (fun _ _ h => h) (fun b hb h => by rcases h with h | h <;> omega))
            have hc1 := ce_pages (p := p) (o := o) (q := p) (F := 99999) (mem := M) (gl := [5]) (keys := []) (by omega) (by omega)
            have ht1 := gives_keep (n := 4) (K := 6) (u := 1) (av := .slice none 0 0) (args := []) hin8 HOk.out (show ValsAt w8 (.slice none 0 0) [] from RowAt.nil _ 1) (by simp) (fun b hb => by cases hb) (ce_ref4 p o (f := 100000) (by omega)) (by omega) hc1 (by rw [hM2l]; simp; omega)
            have HT2 := hide ht1
            clear ht1 hc1 hin8 k8 HT1
            go_wp2_with fail
            refine HT2.out.mono ?_
            rintro r w9 ⟨rfl, hin9, k9⟩
            have hs9 : w8.heap.size ≤ w9.heap.size := k9.size
            have K9 := hide (K8.out.comp k9 (fun _ _ h => h) (fun b hb h => by rcases h with h | h <;> omega))
            have hme := memory_keep hin9
            rw [hM2l] at hme
            have HMe := hide hme
            clear hme hin9 k9 HT2
            go_wp2_with fail
            refine HMe.out.mono ?_
            rintro r w10 ⟨⟨b10, rfl, hb10, -⟩, -, k10⟩
            have K10 := hide (K9.out.comp k10 (fun _ _ h => h) (fun b hb h => by rcases h with h | h <;> omega))
            clear k10 HMe
            have hwz : IntKind.i64.wrap (p : Int) = (p : Int) := by rw [IntKind.wrap_i64]; omega
            have hwy : IntKind.i64.wrap ((p : Int) * 64) = ((p * 64 : Nat) : Int) := by rw [IntKind.wrap_i64]; omega
            go_wp2
            go_ret
            exact ⟨by have := HN.out; simp; try omega, K10.out⟩
          · have hgb : ((g : Int) == 7) = false := by simp; omega
            by_cases hpg : 4 < p + g
            · obtain ⟨t, ht⟩ : ∃ t, p + g = t := ⟨_, rfl⟩
              have hwt : IntKind.u64.wrap ((p : Int) + (g : Int)) = (t : Int) := by rw [IntKind.wrap_u64]; omega
              have ht4 : 4 < t := by omega
              have hM2l : M.length = p * 64 := by have := HMl.out; have := HN.out; omega
              have hc1 := ce_growN (p := p) (o := o) (a := g) (F := 99998) (mem := M) (gl := [5]) (keys := []) (by omega) (by have := HMl.out; have := HN.out; omega) (by omega) (by omega)
              have hv1 := ValsAt.made w7 [(g : Int)]
              have ht1 := gives_keep (n := 3) (K := 7) (u := 2) (HIn7.out.quiet ((Kp.refl no w7).alloc (.cells (valCells [(g : Int)]).toArray 38))) HOk.out hv1 (by simp) (fun b hb => by have hb : some _ = some b := hb; simp only [Option.some.injEq] at hb; omega) (ce_refK p o 3 (a := g) (f := 100000) (by omega) (by omega) (by omega)) (by omega) hc1 (by rw [hM2l]; simp; omega)
              have HT1 := hide ht1
              clear ht1 hv1 hc1 ht
              go_wp2_with fail
              refine HT1.out.mono ?_
              rintro r w8 ⟨rfl, hin8, k8⟩
              have hs8 : w7.heap.size + 1 ≤ w8.heap.size := by have := k8.size; simp at this; exact this
              have K8 := hide ((K7.out.alloc _).comp k8 (fun _ _ h => h) (fun b hb h => by rcases h with h | h <;> omega))
              have hc1 := ce_pages (p := p) (o := o) (q := p) (F := 99999) (mem := M) (gl := [5]) (keys := []) (by omega) (by omega)
              have ht1 := gives_keep (n := 4) (K := 6) (u := 1) (av := .slice none 0 0) (args := []) hin8 HOk.out (show ValsAt w8 (.slice none 0 0) [] from RowAt.nil _ 1) (by simp) (fun b hb => by cases hb) (ce_ref4 p o (f := 100000) (by omega)) (by omega) hc1 (by rw [hM2l]; simp; omega)
              have HT2 := hide ht1
              clear ht1 hc1 hin8 k8 HT1
              go_wp2_with fail
              refine HT2.out.mono ?_
              rintro r w9 ⟨rfl, hin9, k9⟩
              have hs9 : w8.heap.size ≤ w9.heap.size := k9.size
              have K9 := hide (K8.out.comp k9 (fun _ _ h => h) (fun b hb h => by rcases h with h | h <;> omega))
              have hme := memory_keep hin9
              rw [hM2l] at hme
              have HMe := hide hme
              clear hme hin9 k9 HT2
              go_wp2_with fail
              refine HMe.out.mono ?_
              rintro r w10 ⟨⟨b10, rfl, hb10, -⟩, -, k10⟩
              have K10 := hide (K9.out.comp k10 (fun _ _ h => h) (fun b hb h => by rcases h with h | h <;> omega))
              clear k10 HMe
              have hwz : IntKind.i64.wrap (p : Int) = (p : Int) := by rw [IntKind.wrap_i64]; omega
              have hwy : IntKind.i64.wrap ((p : Int) * 64) = ((p * 64 : Nat) : Int) := by rw [IntKind.wrap_i64]; omega
              go_wp2
              go_ret
              exact ⟨by have := HN.out; simp; try omega, K10.out⟩
            · obtain ⟨t, ht⟩ : ∃ t, p + g = t := ⟨_, rfl⟩
              have hwt : IntKind.u64.wrap ((p : Int) + (g : Int)) = (t : Int) := by rw [IntKind.wrap_u64]; omega
              have htl : t ≤ 4 := by omega
              obtain ⟨M2, hM2⟩ : ∃ M2, M ++ List.replicate (g * 64) 0 = M2 := ⟨_, rfl⟩
              have hM2l : M2.length = t * 64 := by have := HMl.out; have := HN.out; rw [← hM2, List.length_append, List.length_replicate]; omega
              have hc1 := ce_growY (p := p) (o := o) (a := g) (F := 99998) (mem := M) (gl := [5]) (keys := []) (by have := HMl.out; have := HN.out; omega) (by omega)
              rw [hM2] at hc1
              have hv1 := ValsAt.made w7 [(g : Int)]
              have ht1 := gives_keep (n := 3) (K := 7) (u := 2) (HIn7.out.quiet ((Kp.refl no w7).alloc (.cells (valCells [(g : Int)]).toArray 38))) HOk.out hv1 (by simp) (fun b hb => by have hb : some _ = some b := hb; simp only [Option.some.injEq] at hb; omega) (ce_refK p o 3 (a := g) (f := 100000) (by omega) (by omega) (by omega)) (by omega) hc1 (by rw [hM2l]; simp; omega)
              have HT1 := hide ht1
              clear ht1 hv1 hc1 hM2 ht
              go_wp2_with fail
              refine HT1.out.mono ?_
              rintro r w8 ⟨rfl, hin8, k8⟩
              have hs8 : w7.heap.size + 1 ≤ w8.heap.size := by have := k8.size; simp at this; exact this
              have K8 := hide ((K7.out.alloc _).comp k8 (fun _ _ h => h) (fun b hb h => by rcases h with h | h <;> omega))
              have hc1 := ce_pages (p := p) (o := o) (q := t) (F := 99999) (mem := M2) (gl := [5]) (keys := []) (by omega) (by omega)
              have ht1 := gives_keep (n := 4) (K := 6) (u := 1) (av := .slice none 0 0) (args := []) hin8 HOk.out (show ValsAt w8 (.slice none 0 0) [] from RowAt.nil _ 1) (by simp) (fun b hb => by cases hb) (ce_ref4 p o (f := 100000) (by omega)) (by omega) hc1 (by rw [hM2l]; simp; omega)
              have HT2 := hide ht1
              clear ht1 hc1 hin8 k8 HT1
              go_wp2_with fail
              refine HT2.out.mono ?_
              rintro r w9 ⟨rfl, hin9, k9⟩
              have hs9 : w8.heap.size ≤ w9.heap.size := k9.size
              have K9 := hide (K8.out.comp k9 (fun _ _ h => h) (fun b hb h => by rcases h with h | h <;> omega))
              have hme := memory_keep hin9
              rw [hM2l] at hme
              have HMe := hide hme
              clear hme hin9 k9 HT2
              go_wp2_with fail
              refine HMe.out.mono ?_
              rintro r w10 ⟨⟨b10, rfl, hb10, -⟩, -, k10⟩
              have K10 := hide (K9.out.comp k10 (fun _ _ h => h) (fun b hb h => by rcases h with h | h <;> omega))
              clear k10 HMe
              have hwz : IntKind.i64.wrap (t : Int) = (t : Int) := by rw [IntKind.wrap_i64]; omega
              have hwy : IntKind.i64.wrap ((t : Int) * 64) = ((t * 64 : Nat) : Int) := by rw [IntKind.wrap_i64]; omega
              go_wp2
              go_ret
              exact ⟨by have := HN.out; simp; try omega, K10.out⟩
end Go.Proofs.YtdeplgkhmebalaaGreatDoor

namespace Go.Proofs.YtdeplgkhmebalaaGreatDoor
open Go.RowKit
theorem cellsW_any {w : World} (hR : RowsOk w) (p0 a0 m0 v g0 : Int) (hp1 : -9223372036854775808 ≤ p0) (hp2 : p0 < 9223372036854775808) (ha1 : 0 ≤ a0) (ha2 : a0 < 18446744073709551616) (hm1 : -9223372036854775808 ≤ m0) (hm2 : m0 < 9223372036854775808) (hv1 : 0 ≤ v) (hv2 : v < 18446744073709551616) (hg1 : 0 ≤ g0) (hg2 : g0 < 18446744073709551616) :
    Calls Tryz.prog 12 #[.int .i64 p0, .int .u64 a0, .int .i64 m0, .int .u64 v, .int .u64 g0] w fun r w' => r = .returned (.bool true) ∧ Kp no w w' := by
  obtain ⟨a, rfl⟩ := Int.eq_ofNat_of_zero_le ha1
  obtain ⟨x, rfl⟩ := Int.eq_ofNat_of_zero_le hv1
  obtain ⟨g, rfl⟩ := Int.eq_ofNat_of_zero_le hg1
  exact cells_any hR p0 m0 a x g hp1 hp2 hm1 hm2 (by omega) (by omega) (by omega)
end Go.Proofs.YtdeplgkhmebalaaGreatDoor
