/- What an instance tells of its globals. -/
import Derived.Test.YtdeplgkhmebalaaGreatDoorP32
import Derived.Test.YtdeplgkhmebalaaGreatDoorP26

namespace Go.Proofs.YtdeplgkhmebalaaGreatDoor
open Go.RowKit Go.MuLone

set_option maxRecDepth 100000 in
set_option maxHeartbeats 2000000 in
theorem globals_keep {w w' : World} {ib tb : Nat} {f : Flat} {mem : List UInt8} {gl : List Int} {keys : List (Int × Int)} (hI : Inst w w' ib tb f mem gl keys) :
    Calls Tryz.prog 31 #[ptrTo ib] w' fun r w'' => (∃ b, r = .returned (.slice (some ⟨b, 0, none⟩) gl.length gl.length) ∧ w'.heap.size ≤ b ∧ ValsAt w'' (.slice (some ⟨b, 0, none⟩) gl.length gl.length) gl) ∧ Inst w w'' ib tb f mem gl keys ∧ Kp (ibtb ib tb) w' w'' := by
  obtain ⟨⟨ro, mb, mv, gv, p, h, hs, h3, h4, h5⟩, h6, h7⟩ := hI
  have hne := h.neI hs
  have hio := h.blk
  have hso := hs.blk
  obtain ⟨hic, -⟩ := cells_of hio
  obtain ⟨hsc, hsf⟩ := cells_of hso
  have hst := started_any hio
  have htl := lt_of_blk hso
  have hil := lt_of_blk hio
  obtain ⟨adg, capg, hgv, -⟩ := RowAt.shape h.glR
  subst hgv
  have kL : Kp (one tb) w' (w'.setCell ⟨tb, 0, none⟩ (.int .i32 1)) := (Kp.refl _ w').set1 0 _
  have hi1 := kL.blk hio hne
  have hs1 : (w'.setCell ⟨tb, 0, none⟩ (.int .i32 1)).heap[tb]? = some (.cells #[.int .i32 1, .int .u32 0, .map p] 110) := heap_setCell hso _
  have hfr := freshV_any (RowAt.kp h.glR kL (fun b hb => (h.gvI b hb).2)) (vals_oneCell gl) h.gn
  have hsz1 : (w'.setCell ⟨tb, 0, none⟩ (.int .i32 1)).heap.size = w'.heap.size := by simp [World.setCell]
  have HSt := hide hst
  have H := hide h
  have HS := hide hs
  have HFr := hide hfr
  have KL := hide kL
  have HS1 := hide hs1
  have H3 := hide h3
  have H4 := hide h4
  have H5 := hide h5
  clear h hs hst hio hso hfr kL hs1 h3 h4 h5
  go_enter_defers Tryz.func31, Tryz.ntmps31
  go_wp2_with fail
  refine HSt.out.mono ?_
  rintro r w1 ⟨rfl, hw⟩
  rw [hw]
  clear hw w1
  go_wp2_with fail
  refine (lock_free muLib ⟨tb, 0, none⟩ _ (hsc 0) (hsf 0)).mono ?_
  rintro r w1 ⟨rfl, hw⟩
  rw [hw]
  clear hw w1
  obtain ⟨W1, hW1⟩ : ∃ W1, W1 = w'.setCell ⟨tb, 0, none⟩ (.int .i32 1) := ⟨_, rfl⟩
  rw [← hW1] at hi1 HS1 HFr KL hsz1 ⊢
  clear hW1
  obtain ⟨hic1, -⟩ := cells_of hi1
  clear hi1 hic hsc hsf
  go_wp2_with fail
  refine HFr.out.mono ?_
  rintro r w2 ⟨⟨rfl, ho⟩, k2⟩
  have HO := hide ho
  have K2 := hide k2
  have hs2 := k2.blk HS1.out (fun h => h)
  clear ho k2 HFr
  go_wp2_with fail
  refine leaves_cons (f := 48) (args := #[.pointer (some ⟨tb, 0, none⟩)]) (by simp) (by simp [go_sem]) ?_
  refine (unlock_deferred muLib ⟨tb, 0, none⟩ .returning _ ((cells_of hs2).1 0) ((cells_of hs2).2 0)).mono ?_
  rintro r u' w3 ⟨rfl, rfl, rfl⟩
  rw [hsz1] at HO
  have kA : Kp (one tb) w' (w2.setCell ⟨tb, 0, none⟩ (.int .i32 0)) := (KL.out.then K2.out).set1 0 _
  refine ⟨_, results_tmp rfl _ _ _, ⟨w'.heap.size, rfl, Nat.le_refl _, ?_⟩, ⟨⟨ro, mb, mv, _, p, H.out.kp kA hne (fun b hb => (H.out.roI b hb).2.2) (fun b hb => (H.out.mvI b hb).2) (fun b hb => (H.out.gvI b hb).2), ⟨heap_setCell hs2 _, HS.out.map.kp kA (HS.out.map.ne HS.out.blk), HS.out.few⟩, H3.out, H4.out, H5.out⟩, h6, h7⟩, kA.mono (fun b _ hb => .inr hb)⟩
  exact RowAt.kp (RowAt.own HO.out) ((Kp.refl (one tb) w2).set1 0 _) (fun b hb (e : b = tb) => by have := own_new HO.out b hb; omega)
end Go.Proofs.YtdeplgkhmebalaaGreatDoor

namespace Go.Proofs.YtdeplgkhmebalaaGreatDoor
open Go.RowKit

theorem bp_swap {P : Program} {fn : Func} {R : Ending → World → Prop} {e : Exit} {a : Act} {w w' : World} (h : w = w') (g : bodyPost P fn R e a w') : bodyPost P fn R e a w := h ▸ g

set_option maxRecDepth 100000 in
set_option maxHeartbeats 2000000 in
theorem sums_keep (w : World) : Calls Tryz.prog 16 #[] w fun r w' => (∃ x0 x1 x2 x3, r = .returned (.agg #[x0, x1, x2, x3]) ∧ BytesAt w' x0 loFn.params ∧ BytesAt w' x1 loFn.results ∧ BytesAt w' x2 loFn.locals ∧ BytesAt w' x3 loFn.code) ∧ Kp no w w' := by
  go_enter Tryz.func16, Tryz.ntmps16
  go_wp2_with fail
  refine (oneK_any _ 127).mono ?_
  rintro r w2 ⟨⟨v2, rfl, h2⟩, k2⟩
  obtain ⟨a2, c2, hv2, -⟩ := h2.at.shape
  subst hv2
  have H2 := hide h2
  have K2 := hide k2
  clear h2 k2
  go_wp2_with fail
  refine (oneK_any _ 127).mono ?_
  rintro r w3 ⟨⟨v3, rfl, h3⟩, k3⟩
  obtain ⟨a3, c3, hv3, -⟩ := h3.at.shape
  subst hv3
  have H3 := hide h3
  have K3 := hide k3
  clear h3 k3
  go_wp2_with fail
  refine (oneK_any _ 127).mono ?_
  rintro r w4 ⟨⟨v4, rfl, h4⟩, k4⟩
  obtain ⟨a4, c4, hv4, -⟩ := h4.at.shape
  subst hv4
  have H4 := hide h4
  have K4 := hide k4
  clear h4 k4
  have k14 : Kp no (w.alloc (.cells #[.slice none 0 0, .slice none 0 0, .slice none 0 0, .slice none 0 0] 27)) w4 := (K2.out.trans K3.out).trans K4.out
  have hb4 := k14.blk (heap_alloc_new w _) (fun h => h)
  have hr5 : ∀ obj q, (w4.alloc obj).cell? ⟨w.heap.size, q, none⟩ = #[.slice none 0 0, .slice none 0 0, .slice none 0 0, .slice none 0 0][q]? := fun obj q => (cells_of (heap_alloc_old hb4)).1 q
  have hf5 : ∀ obj q, (w4.alloc obj).frozen? ⟨w.heap.size, q, none⟩ = false := fun obj q => (cells_of (heap_alloc_old hb4)).2 q
  have HB4 := hide hb4
  have K14 := hide k14
  clear hb4 k14
  go_wp2_with fail
  obtain ⟨hfb, hfk⟩ := reply_fin (heap_alloc_old (o := .cells (bcs loFn.code).toArray 5) HB4.out) (.slice a2 1 c2) (.slice a3 1 c3) (.slice a4 1 c4) (.slice (some ⟨w4.heap.size, 0, none⟩) 36 36)
  have hsz1 : (w.alloc (.cells #[.slice none 0 0, .slice none 0 0, .slice none 0 0, .slice none 0 0] 27)).heap.size = w.heap.size + 1 := by simp
  have hs2 := K2.out.size
  have hs3 := K3.out.size
  have hs4 := K4.out.size
  have b2 := RowAt.kp ((H2.out.at.kq (K3.out.trans K4.out)).kq ((Kp.refl no w4).alloc (.cells (bcs loFn.code).toArray 5))) hfk (fun b hb (e : b = _) => by have := own_new H2.out b hb; omega)
  have b3 := RowAt.kp ((H3.out.at.kq K4.out).kq ((Kp.refl no w4).alloc (.cells (bcs loFn.code).toArray 5))) hfk (fun b hb (e : b = _) => by have := own_new H3.out b hb; omega)
  have b4 := RowAt.kp (H4.out.at.kq ((Kp.refl no w4).alloc (.cells (bcs loFn.code).toArray 5))) hfk (fun b hb (e : b = _) => by have := own_new H4.out b hb; omega)
  have b5 := RowAt.kp ((NB.made w4 loFn.code (by simp [loFn, maxLen])).at) hfk (fun b hb (e : b = _) => by have hb : some _ = some b := hb; simp only [Option.some.injEq] at hb; omega)
  have kF : Kp no w (((((w4.alloc (.cells (bcs loFn.code).toArray 5)).setCell ⟨w.heap.size, 0, none⟩ (.slice a2 1 c2)).setCell ⟨w.heap.size, 1, none⟩ (.slice a3 1 c3)).setCell ⟨w.heap.size, 2, none⟩ (.slice a4 1 c4)).setCell ⟨w.heap.size, 3, none⟩ (.slice (some ⟨w4.heap.size, 0, none⟩) 36 36)) :=
    ((((Kp.refl no w).alloc _).trans K14.out).alloc _).comp hfk (fun _ _ h => h) (fun b hb (h : b = _) => by omega)
  refine bp_swap (w' := ((((w4.alloc (.cells (bcs loFn.code).toArray 5)).setCell ⟨w.heap.size, 0, none⟩ (.slice a2 1 c2)).setCell ⟨w.heap.size, 1, none⟩ (.slice a3 1 c3)).setCell ⟨w.heap.size, 2, none⟩ (.slice a4 1 c4)).setCell ⟨w.heap.size, 3, none⟩ (.slice (some ⟨w4.heap.size, 0, none⟩) 36 36)) (by kernel_rfl) ?_
  generalize ((((w4.alloc (.cells (bcs loFn.code).toArray 5)).setCell ⟨w.heap.size, 0, none⟩ (.slice a2 1 c2)).setCell ⟨w.heap.size, 1, none⟩ (.slice a3 1 c3)).setCell ⟨w.heap.size, 2, none⟩ (.slice a4 1 c4)).setCell ⟨w.heap.size, 3, none⟩ (.slice (some ⟨w4.heap.size, 0, none⟩) 36 36) = WF at *
  have hfin := (cells_of hfb).1
  refine bodyPost_ret (v := .agg #[.slice a2 1 c2, .slice a3 1 c3, .slice a4 1 c4, .slice (some ⟨w4.heap.size, 0, none⟩) 36 36]) (by simp [results, Tryz.results16, go_sem, hfin]) rfl ?_
  exact ⟨⟨_, _, _, _, rfl, b2, b3, b4, b5⟩, kF⟩

set_option maxRecDepth 100000 in
set_option maxHeartbeats 4000000 in
theorem loops_any {w : World} (hR : RowsOk w) (n0 l0 : Int) (hn1 : -9223372036854775808 ≤ n0) (hn2 : n0 < 9223372036854775808) (hl1 : -9223372036854775808 ≤ l0) (hl2 : l0 < 9223372036854775808) :
    Calls Tryz.prog 11 #[.int .i64 n0, .int .i64 l0] w fun r w' => r = .returned (.bool true) ∧ Kp no w w' := by
  have hn : pickM n0 700 < 700 := Nat.mod_lt _ (by decide)
  have hpk := pickK_any w n0 700 hn1 hn2 (by decide) (by decide)
  generalize pickM n0 700 = n at *
  obtain ⟨al, hal⟩ : ∃ al, 12 * n + 10 = al := ⟨_, rfl⟩
  have hal2 : 0 < al ∧ al < 10000 := by omega
  have hff : pickM l0 al < al := Nat.mod_lt _ (by omega)
  have hpk2 := fun W => pickK_any W l0 al hl1 hl2 (by omega) (by omega)
  generalize pickM l0 al = f at *
  have hwa : IntKind.i64.wrap (12 * (n : Int)) = 12 * (n : Int) := by rw [IntKind.wrap_i64]; omega
  have hwb : IntKind.i64.wrap (12 * (n : Int) + 10) = (al : Int) := by rw [IntKind.wrap_i64]; omega
  have hwc : IntKind.u64.wrap (n : Int) = (n : Int) := by rw [IntKind.wrap_u64]; omega
  have HPk := hide hpk
  have HPk2 := hide hpk2
  have HR := hide hR
  have HAl := hide hal
  clear hpk hpk2 hR hal hn1 hn2 hl1 hl2
  go_enter Tryz.func11, Tryz.ntmps11
  go_wp2_with fail
  refine HPk.out.mono ?_
  rintro r w1 ⟨rfl, hw⟩
  rw [hw]
  clear hw w1
  go_wp2_with fail
  refine (sums_keep w).mono ?_
  rintro r w2 ⟨⟨x0, x1, x2, x3, rfl, b0, b1, b2, b3⟩, k2⟩
  obtain ⟨ad0, cp0, hx0, -⟩ := b0.shape
  obtain ⟨ad1, cp1, hx1, -⟩ := b1.shape
  obtain ⟨ad2, cp2, hx2, -⟩ := b2.shape
  obtain ⟨ad3, cp3, hx3, -⟩ := b3.shape
  subst hx0 hx1 hx2 hx3
  have hF := FnsAt.made1 (fn := loFn) b0 b1 b2 b3 27
  have hM := module_keep (pages := 1) hF (by simp) (by simp) lo_okay.len
  have HM := hide hM
  have K2 := hide k2
  clear hF hM b0 b1 b2 b3 k2
  go_wp2_with fail
  refine HM.out.mono ?_
  rintro r w4 ⟨⟨v4, rfl, h4⟩, k4⟩
  obtain ⟨a4, c4, hv4, -⟩ := h4.at.shape
  subst hv4
  have k14 : Kp no w w4 := K2.out.trans (((Kp.refl no w2).alloc _).trans k4)
  have hS := started_keep h4.at h4.lt (HR.out.kp k14) lo_okay.len lo_okay.load lo_okay.ok.pg lo_okay.ok.gl
  rw [lo_okay.gl, lo_okay.mem] at hS
  have HS := hide hS
  have K14 := hide k14
  clear h4 k4 k14 hS K2 HM
  go_wp2_with fail
  refine HS.out.mono ?_
  rintro r w5 ⟨⟨ib, tb, rfl, hin⟩, k5⟩
  have hibl := hin.ib
  have htbl := hin.tb
  have hil : ib < w5.heap.size ∧ tb < w5.heap.size := by
    obtain ⟨ro, mb, mv, gv, p, i1, i2, -⟩ := hin.at'
    exact ⟨lt_of_blk i1.blk, lt_of_blk i2.blk⟩
  have h45 := K14.out.size
  have K5 := hide (K14.out.trans k5)
  have HIn := hide hin
  clear hin k5 HS K14
  go_wp2_with fail
  refine (HPk2.out _).mono ?_
  rintro r w1 ⟨rfl, hw⟩
  rw [hw]
  clear hw w1
  have hv := ValsAt.made w5 [(n : Int)]
  obtain ⟨K0, s0, hK0, hc0, hs0⟩ := lo_less (g := 5) hn (show f < 12 * n + 10 by have := HAl.out; omega)
  have htr := traps_keep (n := 0) (fuel := f) (K := K0) (t := 5) (HIn.out.quiet ((Kp.refl no w5).alloc (.cells (valCells [(n : Int)]).toArray 38))) lo_okay.ok hv (by simp) (fun b hb => by have hb : some _ = some b := hb; simp only [Option.some.injEq] at hb; omega) (lo_ref hn (by omega)) (by omega) (by omega) hc0 hs0
  have HTr := hide htr
  clear htr hv hc0 hs0 HPk2
  go_wp2_with fail
  refine HTr.out.mono ?_
  rintro r w6 ⟨rfl, hin6, k6⟩
  have hgl := globals_keep hin6
  have HGl := hide hgl
  have K6 := hide ((K5.out.alloc _).comp k6 (fun _ _ h => h) (fun b hb h => by rcases h with h | h <;> omega))
  have hs6 : w5.heap.size + 1 ≤ w6.heap.size := by have := k6.size; simp at this; exact this
  clear hin6 k6 hgl HTr K5 HIn
  go_wp2_with fail
  refine HGl.out.mono ?_
  rintro r w7 ⟨⟨b7, rfl, hb7, hv7⟩, hin7, k7⟩
  obtain ⟨a7, o7, cp7, he7, -, hc7⟩ := ValsAt.cell hv7 (k := 0) (by simp)
  cases he7
  have hc7' : w7.cell? ⟨b7, 0, none⟩ = some (.int .u64 5) := hc7
  have HIn7 := hide hin7
  have K7 := hide (K6.out.comp k7 (fun _ _ h => h) (fun b hb h => by rcases h with h | h <;> omega))
  have hs7 : w6.heap.size ≤ w7.heap.size := k7.size
  clear hv7 hin7 k7 hc7 HGl K6
  obtain ⟨htr1, -, htr2⟩ := tri_lt hn
  obtain ⟨K1, s1, hK1, hc1, hm1, hg1, hk1⟩ := lo_full (F := 0) (g := 5) hn zeros64
  obtain ⟨K2, s2, hK2, hc2, hm2, hg2, hk2⟩ := lo_full (F := 100000 - al) (g := 6) hn zeros64
  rw [Nat.zero_add, HAl.out] at hc1
  rw [HAl.out, show 100000 - al + al = 100000 by omega] at hc2
  obtain ⟨p, hp⟩ : ∃ p, n * (n + 1) = p := ⟨_, rfl⟩
  obtain ⟨tr, htr⟩ : ∃ tr, p / 2 = tr := ⟨_, rfl⟩
  rw [hp, htr] at hc1 hc2 htr1
  rw [hp] at htr2
  have hg1' : s1.gl = [6] := hg1
  have hw1 : IntKind.i64.wrap ((n : Int) + 1) = (n : Int) + 1 := by rw [IntKind.wrap_i64]; omega
  have hw2 : IntKind.i64.wrap ((n : Int) * ((n : Int) + 1)) = (p : Int) := by rw [show (n : Int) * ((n : Int) + 1) = ((n * (n + 1) : Nat) : Int) by simp, hp, IntKind.wrap_i64]; omega
  have hw3 : IntKind.i64.wrap (Int.tdiv (p : Int) 2) = (tr : Int) := by rw [show Int.tdiv (p : Int) 2 = ((p / 2 : Nat) : Int) from (Int.ofNat_tdiv p 2).symm, htr, IntKind.wrap_i64]; omega
  have hw3' : (p : Int) / 2 = (tr : Int) := by omega
  have hw4 : IntKind.u64.wrap (tr : Int) = (tr : Int) := by rw [IntKind.wrap_u64]; omega
  have hv := ValsAt.made w7 [(n : Int)]
  have hca := callI_keep (n := 0) (fuel := al) (K := K1) (HIn7.out.quiet ((Kp.refl no w7).alloc (.cells (valCells [(n : Int)]).toArray 38))) lo_okay.ok hv (by simp) (fun b hb => by have hb : some _ = some b := hb; simp only [Option.some.injEq] at hb; omega) (lo_ref hn (by omega)) (by omega) hc1 ⟨by rw [hm1]; simp [zeros64], by rw [hg1']; simp, by rw [hk1]; simp⟩
  rw [hm1, hg1', hk1] at hca
  have HCa := hide hca
  have HC2 := hide hc2
  have HM2 := hide hm2
  have HG2 := hide hg2
  have HK2 := hide hk2
  clear hca hv hc1 hm1 hg1 hg1' hk1 hc2 hm2 hg2 hk2 HIn7 hp htr
  go_wp2_with fail
  refine HCa.out.mono ?_
  rintro r w8 ⟨rfl, hin8, -, k8⟩
  have HIn8 := hide (hin8 trivial)
  have K8 := hide ((K7.out.alloc _).comp k8 (fun _ _ h => h) (fun b hb h => by rcases h with h | h <;> omega))
  have hs8 : w7.heap.size + 1 ≤ w8.heap.size := by have := k8.size; simp at this; exact this
  clear hin8 k8 HCa K7 hc7'
  have hgl := globals_keep (HIn8.out.quiet ((Kp.refl no w8).alloc (.cells #[.int .i64 0, .int .i64 0, .int .u64 tr, .int .i64 al] 51)))
  have hb8 := heap_alloc_new w8 (.cells #[.int .i64 0, .int .i64 0, .int .u64 tr, .int .i64 al] 51)
  have HGl := hide hgl
  have HB8 := hide hb8
  clear hgl hb8
  go_wp2_with fail
  refine HGl.out.mono ?_
  rintro r w9 ⟨⟨b9, rfl, hb9, hv9⟩, hin9, k9⟩
  obtain ⟨a9, o9, cp9, he9, -, hc9⟩ := ValsAt.cell hv9 (k := 0) (by simp)
  cases he9
  have hc9' : w9.cell? ⟨b9, 0, none⟩ = some (.int .u64 6) := hc9
  have hr9 := k9.blk HB8.out (fun h => by rcases h with h | h <;> omega)
  obtain ⟨hq9, -⟩ := cells_of hr9
  have K9 := hide ((K8.out.alloc _).comp k9 (fun _ _ h => h) (fun b hb h => by rcases h with h | h <;> omega))
  have hs9 : w8.heap.size + 1 ≤ w9.heap.size := by have := k9.size; simp at this; exact this
  have hv := ValsAt.made w9 [(n : Int)]
  have hgi := gives_keep (n := 0) (K := K2) (hin9.quiet ((Kp.refl no w9).alloc (.cells (valCells [(n : Int)]).toArray 38))) lo_okay.ok hv (by simp) (fun b hb => by have hb : some _ = some b := hb; simp only [Option.some.injEq] at hb; omega) (lo_ref (f := 100000) hn (by omega)) (by omega) HC2.out ⟨by rw [HM2.out]; simp [zeros64], by rw [HG2.out]; simp, by rw [HK2.out]; simp⟩
  have HGi := hide hgi
  clear hgi hv hv9 hin9 k9 hc9 hr9 HGl HB8 HIn8 K8
  go_wp2_with fail
  refine HGi.out.mono ?_
  rintro r w10 ⟨rfl, -, k10⟩
  have K10 := hide ((K9.out.alloc _).comp k10 (fun _ _ h => h) (fun b hb h => by rcases h with h | h <;> omega))
  clear k10
  go_wp2
  go_ret
  exact ⟨rfl, K10.out⟩
end Go.Proofs.YtdeplgkhmebalaaGreatDoor

namespace Go.Proofs.YtdeplgkhmebalaaGreatDoor
open Go.RowKit Go.MuLone
open Go.Maps (Keyed)

set_option maxRecDepth 100000 in
set_option maxHeartbeats 2000000 in
theorem memory_keep {w w' : World} {ib tb : Nat} {f : Flat} {mem : List UInt8} {gl : List Int} {keys : List (Int × Int)} (hI : Inst w w' ib tb f mem gl keys) :
    Calls Tryz.prog 33 #[ptrTo ib] w' fun r w'' => (∃ b, r = .returned (.slice (some ⟨b, 0, none⟩) mem.length mem.length) ∧ w'.heap.size ≤ b ∧ BytesAt w'' (.slice (some ⟨b, 0, none⟩) mem.length mem.length) mem) ∧ Inst w w'' ib tb f mem gl keys ∧ Kp (ibtb ib tb) w' w'' := by
  obtain ⟨⟨ro, mb, mv, gv, p, h, hs, h3, h4, h5⟩, h6, h7⟩ := hI
  have hne := h.neI hs
  have hio := h.blk
  have hso := hs.blk
  obtain ⟨hic, -⟩ := cells_of hio
  obtain ⟨hsc, hsf⟩ := cells_of hso
  have hst := started_any hio
  have htl := lt_of_blk hso
  have hil := lt_of_blk hio
  obtain ⟨adm, capm, hmv, -⟩ := RowAt.shape h.memR
  subst hmv
  have kL : Kp (one tb) w' (w'.setCell ⟨tb, 0, none⟩ (.int .i32 1)) := (Kp.refl _ w').set1 0 _
  have hi1 := kL.blk hio hne
  have hs1 : (w'.setCell ⟨tb, 0, none⟩ (.int .i32 1)).heap[tb]? = some (.cells #[.int .i32 1, .int .u32 0, .map p] 110) := heap_setCell hso _
  have hfr := freshB_any (RowAt.kp h.memR kL (fun b hb => (h.mvI b hb).2)) (bytes'_oneCell mem) h.mn
  have hsz1 : (w'.setCell ⟨tb, 0, none⟩ (.int .i32 1)).heap.size = w'.heap.size := by simp [World.setCell]
  have HSt := hide hst
  have H := hide h
  have HS := hide hs
  have HFr := hide hfr
  have KL := hide kL
  have HS1 := hide hs1
  have H3 := hide h3
  have H4 := hide h4
  have H5 := hide h5
  clear h hs hst hio hso hfr kL hs1 h3 h4 h5
  go_enter_defers Tryz.func33, Tryz.ntmps33
  go_wp2_with fail
  refine HSt.out.mono ?_
  rintro r w1 ⟨rfl, hw⟩
  rw [hw]
  clear hw w1
  go_wp2_with fail
  refine (lock_free muLib ⟨tb, 0, none⟩ _ (hsc 0) (hsf 0)).mono ?_
  rintro r w1 ⟨rfl, hw⟩
  rw [hw]
  clear hw w1
  obtain ⟨W1, hW1⟩ : ∃ W1, W1 = w'.setCell ⟨tb, 0, none⟩ (.int .i32 1) := ⟨_, rfl⟩
  rw [← hW1] at hi1 HS1 HFr KL hsz1 ⊢
  clear hW1
  obtain ⟨hic1, -⟩ := cells_of hi1
  clear hi1 hic hsc hsf
  go_wp2_with fail
  refine HFr.out.mono ?_
  rintro r w2 ⟨⟨rfl, ho⟩, k2⟩
  have HO := hide ho
  have K2 := hide k2
  have hs2 := k2.blk HS1.out (fun h => h)
  clear ho k2 HFr
  go_wp2_with fail
  refine leaves_cons (f := 48) (args := #[.pointer (some ⟨tb, 0, none⟩)]) (by simp) (by simp [go_sem]) ?_
  refine (unlock_deferred muLib ⟨tb, 0, none⟩ .returning _ ((cells_of hs2).1 0) ((cells_of hs2).2 0)).mono ?_
  rintro r u' w3 ⟨rfl, rfl, rfl⟩
  rw [hsz1] at HO
  have kA : Kp (one tb) w' (w2.setCell ⟨tb, 0, none⟩ (.int .i32 0)) := (KL.out.then K2.out).set1 0 _
  refine ⟨_, results_tmp rfl _ _ _, ⟨w'.heap.size, rfl, Nat.le_refl _, ?_⟩, ⟨⟨ro, mb, _, gv, p, H.out.kp kA hne (fun b hb => (H.out.roI b hb).2.2) (fun b hb => (H.out.mvI b hb).2) (fun b hb => (H.out.gvI b hb).2), ⟨heap_setCell hs2 _, HS.out.map.kp kA (HS.out.map.ne HS.out.blk), HS.out.few⟩, H3.out, H4.out, H5.out⟩, h6, h7⟩, kA.mono (fun b _ hb => .inr hb)⟩
  exact RowAt.kp (RowAt.own HO.out) ((Kp.refl (one tb) w2).set1 0 _) (fun b hb (e : b = tb) => by have := own_new HO.out b hb; omega)

end Go.Proofs.YtdeplgkhmebalaaGreatDoor
