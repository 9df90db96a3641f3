/-
  For every input the function Loops of the package stokerkeep returns true and its arguments read as before: the program, at this commit, runs a loop as often as it must and burns as much as it runs; with less fuel it stops there and nothing is left behind, with more it is the same; the table look.rows is as the program's text lays it (the tied card).
-/
import Derived.Test.YtdeplgkhmebalaaGreatDoorLoopsA
import Derived.Test.YtdeplgkhmebalaaGreatDoorLoopsB
import Derived.Test.YtdeplgkhmebalaaGreatDoorCards
import Derived.Test.YtdeplgkhmebalaaGreatDoorTie
import Derived.Test.YtdeplgkhmebalaaGreatDoorP33
import Derived.Test.YtdeplgkhmebalaaGreatDoorFcLoops

namespace Go.Proofs.YtdeplgkhmebalaaGreatDoor
open Go.RowKit

theorem bp_swap {P : Program} {fn : Func} {R : Ending → World → Prop} {e : Exit} {a : Act} {w w' : World} (h : w = w') (g : bodyPost P fn R e a w') : bodyPost P fn R e a w := h ▸ g

set_option maxRecDepth 100000 in
set_option maxHeartbeats 2000000 in
theorem sums_keep (w : World) : Calls Tryz.prog 16 #[] w fun r w' => (∃ x0 x1 x2 x3, r = .returned (.agg #[x0, x1, x2, x3]) ∧ BytesAt w' x0 loFn.params ∧ BytesAt w' x1 loFn.results ∧ BytesAt w' x2 loFn.locals ∧ BytesAt w' x3 loFn.code) ∧ Kp no w w' := by
  go_enter Tryz.func16, Tryz.ntmps16
  go_wp2_with fail
  refine (oneK_any _ 127).mono ?_
  rintro r w2 ⟨⟨v2, rfl, h2⟩, k2⟩
  obtain ⟨a2, c2, hv2, -⟩ := h2.at.shape
  subst hv2
  have H2 := hide h2
  have K2 := hide k2
  clear h2 k2
  go_wp2_with fail
  refine (oneK_any _ 127).mono ?_
  rintro r w3 ⟨⟨v3, rfl, h3⟩, k3⟩
  obtain ⟨a3, c3, hv3, -⟩ := h3.at.shape
  subst hv3
  have H3 := hide h3
  have K3 := hide k3
  clear h3 k3
  go_wp2_with fail
  refine (oneK_any _ 127).mono ?_
  rintro r w4 ⟨⟨v4, rfl, h4⟩, k4⟩
  obtain ⟨a4, c4, hv4, -⟩ := h4.at.shape
  subst hv4
  have H4 := hide h4
  have K4 := hide k4
  clear h4 k4
  have k14 : Kp no (w.alloc (.cells #[.slice none 0 0, .slice none 0 0, .slice none 0 0, .slice none 0 0] 27)) w4 := (K2.out.trans K3.out).trans K4.out
  have hb4 := k14.blk (heap_alloc_new w _) (fun h => h)
  have hr5 : ∀ obj q, (w4.alloc obj).cell? ⟨w.heap.size, q, none⟩ = #[.slice none 0 0, .slice none 0 0, .slice none 0 0, .slice none 0 0][q]? := fun obj q => (cells_of (heap_alloc_old hb4)).1 q
  have hf5 : ∀ obj q, (w4.alloc obj).frozen? ⟨w.heap.size, q, none⟩ = false := fun obj q => (cells_of (heap_alloc_old hb4)).2 q
  have HB4 := hide hb4
  have K14 := hide k14
  clear hb4 k14
  go_wp2_with fail
  obtain ⟨hfb, hfk⟩ := reply_fin (heap_alloc_old (o := .cells (bcs loFn.code).toArray 5) HB4.out) (.slice a2 1 c2) (.slice a3 1 c3) (.slice a4 1 c4) (.slice (some ⟨w4.heap.size, 0, none⟩) 36 36)
  have hsz1 : (w.alloc (.cells #[.slice none 0 0, .slice none 0 0, .slice none 0 0, .slice none 0 0] 27)).heap.size = w.heap.size + 1 := by simp
  have hs2 := K2.out.size
  have hs3 := K3.out.size
  have hs4 := K4.out.size
  have b2 := RowAt.kp ((H2.out.at.kq (K3.out.trans K4.out)).kq ((Kp.refl no w4).alloc (.cells (bcs loFn.code).toArray 5))) hfk (fun b hb (e : b = _) => by have := own_new H2.out b hb; omega)
  have b3 := RowAt.kp ((H3.out.at.kq K4.out).kq ((Kp.refl no w4).alloc (.cells (bcs loFn.code).toArray 5))) hfk (fun b hb (e : b = _) => by have := own_new H3.out b hb; omega)
  have b4 := RowAt.kp (H4.out.at.kq ((Kp.refl no w4).alloc (.cells (bcs loFn.code).toArray 5))) hfk (fun b hb (e : b = _) => by have := own_new H4.out b hb; omega)
  have b5 := RowAt.kp ((NB.made w4 loFn.code (by simp [loFn, maxLen])).at) hfk (fun b hb (e : b = _) => by have hb : some _ = some b := hb; simp only [Option.some.injEq] at hb; omega)
  have kF : Kp no w (((((w4.alloc (.cells (bcs loFn.code).toArray 5)).setCell ⟨w.heap.size, 0, none⟩ (.slice a2 1 c2)).setCell ⟨w.heap.size, 1, none⟩ (.slice a3 1 c3)).setCell ⟨w.heap.size, 2, none⟩ (.slice a4 1 c4)).setCell ⟨w.heap.size, 3, none⟩ (.slice (some ⟨w4.heap.size, 0, none⟩) 36 36)) :=
    ((((Kp.refl no w).alloc _).trans K14.out).alloc _).comp hfk (fun _ _ h => h) (fun b hb (h : b = _) => by omega)
  refine bp_swap (w' := ((((w4.alloc (.cells (bcs loFn.code).toArray 5)).setCell ⟨w.heap.size, 0, none⟩ (.slice a2 1 c2)).setCell ⟨w.heap.size, 1, none⟩ (.slice a3 1 c3)).setCell ⟨w.heap.size, 2, none⟩ (.slice a4 1 c4)).setCell ⟨w.heap.size, 3, none⟩ (.slice (some ⟨w4.heap.size, 0, none⟩) 36 36)) (by kernel_rfl) ?_
  generalize ((((w4.alloc (.cells (bcs loFn.code).toArray 5)).setCell ⟨w.heap.size, 0, none⟩ (.slice a2 1 c2)).setCell ⟨w.heap.size, 1, none⟩ (.slice a3 1 c3)).setCell ⟨w.heap.size, 2, none⟩ (.slice a4 1 c4)).setCell ⟨w.heap.size, 3, none⟩ (.slice (some ⟨w4.heap.size, 0, none⟩) 36 36) = WF at *
  have hfin := (cells_of hfb).1
  refine bodyPost_ret (v := .agg #[.slice a2 1 c2, .slice a3 1 c3, .slice a4 1 c4, .slice (some ⟨w4.heap.size, 0, none⟩) 36 36]) (by simp [results, Tryz.results16, go_sem, hfin]) rfl ?_
  exact ⟨⟨_, _, _, _, rfl, b2, b3, b4, b5⟩, kF⟩

set_option maxRecDepth 100000 in
set_option maxHeartbeats 4000000 in
theorem loops_any {w : World} (hR : RowsOk w) (n0 l0 : Int) (hn1 : -9223372036854775808 ≤ n0) (hn2 : n0 < 9223372036854775808) (hl1 : -9223372036854775808 ≤ l0) (hl2 : l0 < 9223372036854775808) :
    Calls Tryz.prog 11 #[.int .i64 n0, .int .i64 l0] w fun r w' => r = .returned (.bool true) ∧ Kp no w w' := by
  have hn : pickM n0 700 < 700 := Nat.mod_lt _ (by decide)
  have hpk := pickK_any w n0 700 hn1 hn2 (by decide) (by decide)
  generalize pickM n0 700 = n at *
  obtain ⟨al, hal⟩ : ∃ al, 12 * n + 10 = al := ⟨_, rfl⟩
  have hal2 : 0 < al ∧ al < 10000 := by omega
  have hff : pickM l0 al < al := Nat.mod_lt _ (by omega)
  have hpk2 := fun W => pickK_any W l0 al hl1 hl2 (by omega) (by omega)
  generalize pickM l0 al = f at *
  have hwa : IntKind.i64.wrap (12 * (n : Int)) = 12 * (n : Int) := by rw [IntKind.wrap_i64]; omega
  have hwb : IntKind.i64.wrap (12 * (n : Int) + 10) = (al : Int) := by rw [IntKind.wrap_i64]; omega
  have hwc : IntKind.u64.wrap (n : Int) = (n : Int) := by rw [IntKind.wrap_u64]; omega
  have HPk := hide hpk
  have HPk2 := hide hpk2
  have HR := hide hR
  have HAl := hide hal
  clear hpk hpk2 hR hal hn1 hn2 hl1 hl2
  go_enter Tryz.func11, Tryz.ntmps11
  go_wp2_with fail
  refine HPk.out.mono ?_
  rintro r w1 ⟨rfl, hw⟩
  rw [hw]
  clear hw w1
  go_wp2_with fail
  refine (sums_keep w).mono ?_
  rintro r w2 ⟨⟨x0, x1, x2, x3, rfl, b0, b1, b2, b3⟩, k2⟩
  obtain ⟨ad0, cp0, hx0, -⟩ := b0.shape
  obtain ⟨ad1, cp1, hx1, -⟩ := b1.shape
  obtain ⟨ad2, cp2, hx2, -⟩ := b2.shape
  obtain ⟨ad3, cp3, hx3, -⟩ := b3.shape
  subst hx0 hx1 hx2 hx3
  have hF := FnsAt.made1 (fn := loFn) b0 b1 b2 b3 27
  have hM := module_keep (pages := 1) hF (by simp) (by simp) lo_okay.len
  have HM := hide hM
  have K2 := hide k2
  clear hF hM b0 b1 b2 b3 k2
  go_wp2_with fail
  refine HM.out.mono ?_
  rintro r w4 ⟨⟨v4, rfl, h4⟩, k4⟩
  obtain ⟨a4, c4, hv4, -⟩ := h4.at.shape
  subst hv4
  have k14 : Kp no w w4 := K2.out.trans (((Kp.refl no w2).alloc _).trans k4)
  have hS := started_keep h4.at h4.lt (HR.out.kp k14) lo_okay.len lo_okay.load lo_okay.ok.pg lo_okay.ok.gl
  rw [lo_okay.gl, lo_okay.mem] at hS
  have HS := hide hS
  have K14 := hide k14
  clear h4 k4 k14 hS K2 HM
  go_wp2_with fail
  refine HS.out.mono ?_
  rintro r w5 ⟨⟨ib, tb, rfl, hin⟩, k5⟩
  have hibl := hin.ib
  have htbl := hin.tb
  have hil : ib < w5.heap.size ∧ tb < w5.heap.size := by
    obtain ⟨ro, mb, mv, gv, p, i1, i2, -⟩ := hin.at'
    exact ⟨lt_of_blk i1.blk, lt_of_blk i2.blk⟩
  have h45 := K14.out.size
  have K5 := hide (K14.out.trans k5)
  have HIn := hide hin
  clear hin k5 HS K14
  go_wp2_with fail
  refine (HPk2.out _).mono ?_
  rintro r w1 ⟨rfl, hw⟩
  rw [hw]
  clear hw w1
  have hv := ValsAt.made w5 [(n : Int)]
  obtain ⟨K0, s0, hK0, hc0, hs0⟩ := lo_less (g := 5) hn (show f < 12 * n + 10 by have := HAl.out; omega)
  have htr := traps_keep (n := 0) (fuel := f) (K := K0) (t := 5) (HIn.out.quiet ((Kp.refl no w5).alloc (.cells (valCells [(n : Int)]).toArray 38))) lo_okay.ok hv (by simp) (fun b hb => by have hb : some _ = some b := hb; simp only [Option.some.injEq] at hb; omega) (lo_ref hn (by omega)) (by omega) (by omega) hc0 hs0
  have HTr := hide htr
  clear htr hv hc0 hs0 HPk2
  go_wp2_with fail
  refine HTr.out.mono ?_
  rintro r w6 ⟨rfl, hin6, k6⟩
  have hgl := globals_keep hin6
  have HGl := hide hgl
  have K6 := hide ((K5.out.alloc _).comp k6 (fun _ _ h => h) (fun b hb h => by rcases h with h | h <;> omega))
  have hs6 : w5.heap.size + 1 ≤ w6.heap.size := by have := k6.size; simp at this; exact this
  clear hin6 k6 hgl HTr K5 HIn
  go_wp2_with fail
  refine HGl.out.mono ?_
  rintro r w7 ⟨⟨b7, rfl, hb7, hv7⟩, hin7, k7⟩
  obtain ⟨a7, o7, cp7, he7, -, hc7⟩ := ValsAt.cell hv7 (k := 0) (by simp)
  cases he7
  have hc7' : w7.cell? ⟨b7, 0, none⟩ = some (.int .u64 5) := hc7
  have HIn7 := hide hin7
  have K7 := hide (K6.out.comp k7 (fun _ _ h => h) (fun b hb h => by rcases h with h | h <;> omega))
  have hs7 : w6.heap.size ≤ w7.heap.size := k7.size
  clear hv7 hin7 k7 hc7 HGl K6
  obtain ⟨htr1, -, htr2⟩ := tri_lt hn
  obtain ⟨K1, s1, hK1, hc1, hm1, hg1, hk1⟩ := lo_full (F := 0) (g := 5) hn zeros64
  obtain ⟨K2, s2, hK2, hc2, hm2, hg2, hk2⟩ := lo_full (F := 100000 - al) (g := 6) hn zeros64
  rw [Nat.zero_add, HAl.out] at hc1
  rw [HAl.out, show 100000 - al + al = 100000 by omega] at hc2
  obtain ⟨p, hp⟩ : ∃ p, n * (n + 1) = p := ⟨_, rfl⟩
  obtain ⟨tr, htr⟩ : ∃ tr, p / 2 = tr := ⟨_, rfl⟩
  rw [hp, htr] at hc1 hc2 htr1
  rw [hp] at htr2
  have hg1' : s1.gl = [6] := hg1
  have hw1 : IntKind.i64.wrap ((n : Int) + 1) = (n : Int) + 1 := by rw [IntKind.wrap_i64]; omega
  have hw2 : IntKind.i64.wrap ((n : Int) * ((n : Int) + 1)) = (p : Int) := by rw [show (n : Int) * ((n : Int) + 1) = ((n * (n + 1) : Nat) : Int) by simp, hp, IntKind.wrap_i64]; omega
  have hw3 : IntKind.i64.wrap (Int.tdiv (p : Int) 2) = (tr : Int) := by rw [show Int.tdiv (p : Int) 2 = ((p / 2 : Nat) : Int) from (Int.ofNat_tdiv p 2).symm, htr, IntKind.wrap_i64]; omega
  have hw3' : (p : Int) / 2 = (tr : Int) := by omega
  have hw4 : IntKind.u64.wrap (tr : Int) = (tr : Int) := by rw [IntKind.wrap_u64]; omega
  have hv := ValsAt.made w7 [(n : Int)]
  have hca := callI_keep (n := 0) (fuel := al) (K := K1) (HIn7.out.quiet ((Kp.refl no w7).alloc (.cells (valCells [(n : Int)]).toArray 38))) lo_okay.ok hv (by simp) (fun b hb => by have hb : some _ = some b := hb; simp only [Option.some.injEq] at hb; omega) (lo_ref hn (by omega)) (by omega) hc1 ⟨by rw [hm1]; simp [zeros64], by rw [hg1']; simp, by rw [hk1]; simp⟩
  rw [hm1, hg1', hk1] at hca
  have HCa := hide hca
  have HC2 := hide hc2
  have HM2 := hide hm2
  have HG2 := hide hg2
  have HK2 := hide hk2
  clear hca hv hc1 hm1 hg1 hg1' hk1 hc2 hm2 hg2 hk2 HIn7 hp htr
  go_wp2_with fail
  refine HCa.out.mono ?_
  rintro r w8 ⟨rfl, hin8, -, k8⟩
  have HIn8 := hide (hin8 trivial)
  have K8 := hide ((K7.out.alloc _).comp k8 (fun _ _ h => h) (fun b hb h => by rcases h with h | h <;> omega))
  have hs8 : w7.heap.size + 1 ≤ w8.heap.size := by have := k8.size; simp at this; exact this
  clear hin8 k8 HCa K7 hc7'
  have hgl := globals_keep (HIn8.out.quiet ((Kp.refl no w8).alloc (.cells #[.int .i64 0, .int .i64 0, .int .u64 tr, .int .i64 al] 51)))
  have hb8 := heap_alloc_new w8 (.cells #[.int .i64 0, .int .i64 0, .int .u64 tr, .int .i64 al] 51)
  have HGl := hide hgl
  have HB8 := hide hb8
  clear hgl hb8
  go_wp2_with fail
  refine HGl.out.mono ?_
  rintro r w9 ⟨⟨b9, rfl, hb9, hv9⟩, hin9, k9⟩
  obtain ⟨a9, o9, cp9, he9, -, hc9⟩ := ValsAt.cell hv9 (k := 0) (by simp)
  cases he9
  have hc9' : w9.cell? ⟨b9, 0, none⟩ = some (.int .u64 6) := hc9
  have hr9 := k9.blk HB8.out (fun h => by rcases h with h | h <;> omega)
  obtain ⟨hq9, -⟩ := cells_of hr9
  have K9 := hide ((K8.out.alloc _).comp k9 (fun _ _ h => h) (fun b hb h => by rcases h with h | h <;> omega))
  have hs9 : w8.heap.size + 1 ≤ w9.heap.size := by have := k9.size; simp at this; exact this
  have hv := ValsAt.made w9 [(n : Int)]
  have hgi := gives_keep (n := 0) (K := K2) (hin9.quiet ((Kp.refl no w9).alloc (.cells (valCells [(n : Int)]).toArray 38))) lo_okay.ok hv (by simp) (fun b hb => by have hb : some _ = some b := hb; simp only [Option.some.injEq] at hb; omega) (lo_ref (f := 100000) hn (by omega)) (by omega) HC2.out ⟨by rw [HM2.out]; simp [zeros64], by rw [HG2.out]; simp, by rw [HK2.out]; simp⟩
  have HGi := hide hgi
  clear hgi hv hv9 hin9 k9 hc9 hr9 HGl HB8 HIn8 K8
  go_wp2_with fail
  refine HGi.out.mono ?_
  rintro r w10 ⟨rfl, -, k10⟩
  have K10 := hide ((K9.out.alloc _).comp k10 (fun _ _ h => h) (fun b hb h => by rcases h with h | h <;> omega))
  clear k10
  go_wp2
  go_ret
  exact ⟨rfl, K10.out⟩
end Go.Proofs.YtdeplgkhmebalaaGreatDoor

namespace Go.Proofs.YtdeplgkhmebalaaGreatDoor.cLoops
open Go.ChangeShapes Go.WideShapes Go.ChangeAt Go.RowKit

theorem own : ownKnob Tryz.prog.godebug = none := by kernel_rfl

set_option maxRecDepth 100000 in
theorem contract (H : Type) (enc : TypeId × Value → H) (W : World) (base : Nat) (args : Array Value) (ds gs : List (DataW H)) (before : List MemPlace)
    (hval : ∀ (j : Nat) t v, Tryz.f11.params[j]? = some t → args[j]? = some v → Value.okWide Tryz.prog W .any base t v)
    (hW : DataW.Whole enc Tryz.prog Tryz.f11.params.toList Rows.loopsSpec.vars false W args.toList ds gs before) (hL : laidMetH Tryz.prog Rows.loopsRow.laid W) :
    Calls Tryz.prog 11 args W fun e W' => ∃ v, e = .returned v ∧ Rows.loopsSpec.post enc Tryz.prog Tryz.f11 false true false false W args v W' := by
  have hW' := hW
  obtain ⟨p, q, hA0, hV, rfl, hfz, hnd⟩ := hW
  have hA : DataW.TrodAll enc Tryz.prog W 0 (fun _ => true) true Tryz.f11.params.toList args.toList ds p := hA0
  rw [Tryz.params11] at hA hval
  obtain ⟨v0, vs0, d0, ds0, p0, q0, hargs0, rfl, rfl, h0, r0⟩ := trodAll_cons hA
  obtain ⟨v1, vs1, d1, ds1, p1, q1, hargs1, rfl, rfl, h1, r1⟩ := trodAll_cons r0
  obtain ⟨rfl, rfl, rfl⟩ := trodAll_nil r1
  obtain rfl : args = #[v0, v1] := by clear hL hval hW' hA0; cases args; simp_all
  obtain ⟨rfl, rfl⟩ := trodVars_none hV
  obtain ⟨a0, rfl, rfl, rfl, w0⟩ := open_int Tryz.underlying3 (hval 0 3 v0 rfl rfl) h0
  obtain ⟨a1, rfl, rfl, rfl, w1⟩ := open_int Tryz.underlying3 (hval 1 3 v1 rfl rfl) h1
  clear hA0
  simp only [List.append_nil] at hW'
  have walk := loops_any (rows_of_laid (by kernel_rfl) (.tail _ (.head _)) hL) a0 a1 (wf_i64 w0).1 (wf_i64 w0).2 (wf_i64 w1).1 (wf_i64 w1).2
  refine walk.mono fun e W' ⟨he, hk⟩ => ?_
  subst he
  exact ⟨_, rfl, _, _, _, [], [], [], hW', trodAll_cons_mk (shut_bool Tryz.underlying4 _) trodAll_mk0, (trodAll_cons_mk (shut_int Tryz.underlying3 w0) (trodAll_cons_mk (shut_int Tryz.underlying3 w1) trodAll_mk0)), rfl, kept_of hk _, fun h => by cases h⟩

theorem laid_met (os : Os) : laidMetH Tryz.prog Rows.loopsRow.laid ((World.laidAll Tryz.prog os Rows.loopsRow.laid).forCall (fun _ _ => 0) ⟨#[], #[.int .i64 0, .int .i64 0], []⟩).memory := by
  rw [MakeChecks.laidMetH_plain _ _ _ (by kernel_rfl)]
  exact laidMet_laidAll _ (by kernel_rfl) (by kernel_rfl)
theorem shaped (os : Os) : ((World.laidAll Tryz.prog os Rows.loopsRow.laid).forCall (fun _ _ => 0) ⟨#[], #[.int .i64 0, .int .i64 0], []⟩).Shaped Tryz.checked.prog := World.shaped_of_ZipB (by kernel_rfl) (by kernel_rfl)

set_option maxRecDepth 100000 in
theorem lifted (os : Os) (started : os.Started) (H : Type) (enc : TypeId × Value → H) :
    ReturnsInHanded {} Tryz.checked os 11 .any (fun w args => (Rows.loopsSpec.pre enc Tryz.prog Tryz.f11 Rows.loopsRow.domain false w args ∧ laidMetH Tryz.prog Rows.loopsRow.laid w) ∧ sizedMet enc Tryz.prog Tryz.f11 (OpenSpec.ofChange Rows.loopsSpec) false w args)
      (Rows.loopsSpec.post enc Tryz.prog Tryz.f11 false true false false) := by
  refine returnsInHanded_of_change_and (C := Tryz.checked) (X := fun w _ => laidMetH Tryz.prog Rows.loopsRow.laid w) (fun _ _ _ hh h => h.of_heap hh) own started (by kernel_rfl) Tryz.func11
    (ChangeSpec.witness_shaped (enc := enc) (C := Tryz.checked) (os := os) (X := fun w _ => laidMetH Tryz.prog Rows.loopsRow.laid w) false (World.laidAll Tryz.prog os Rows.loopsRow.laid) #[.int .i64 0, .int .i64 0] 8 (World.laidAll_os _ _ _)
      (shaped os) (by kernel_rfl) (by kernel_rfl) (by kernel_rfl) (laid_met os)) ?_
  intro W base args ds gs before hval hW _ _ hL _
  exact contract H enc W base args ds gs before hval hW hL

theorem said : Rows.LoopsSaid :=
  OpenClaim.holds_of_wide 11 Tryz.f11 rfl rfl rfl rfl rfl rfl rfl ⟨rfl, rfl, rfl, rfl, rfl⟩ rfl rfl rfl rfl rfl (by kernel_rfl) Tryz.func11 closed
    (of_decide_eq_true (by kernel_rfl)) (by unfold Func.isWrapper; first | (rw [if_pos (by decide +kernel)]; kernel_rfl) | (rw [if_neg (by decide +kernel)]; exact ⟨rfl, rfl⟩))
    (fun os started H enc _ => lifted os started H enc)

theorem plain (f : FuncId) (fn : Func) (hf : Tryz.pinned.checked.prog.funcNamed "stoker/stokerkeep.Loops" = some f) (hfn : Tryz.pinned.checked.prog.funcs[f]? = some fn) :
    false = Tryz.pinned.checked.prog.looks [] ∧ ∀ (j : Nat) t, fn.params[j]? = some t → Tryz.pinned.checked.prog.wantsStandIn t = false := by
  obtain rfl : f = 11 := Option.some.inj ((show Tryz.prog.funcNamed "stoker/stokerkeep.Loops" = some 11 by kernel_rfl).symm.trans hf) |>.symm
  obtain rfl : fn = Tryz.f11 := (Option.some.inj (Tryz.func11.symm.trans hfn)).symm
  refine ⟨by kernel_rfl, fun j t ht => ?_⟩
  rw [Tryz.params11] at ht
  have hm := Array.mem_of_getElem? ht
  simp only [List.mem_toArray, List.mem_cons, List.mem_nil_iff, or_false] at hm
  rcases hm with rfl | rfl
  · exact (show Tryz.prog.wantsStandIn 3 = false by kernel_rfl)
  · exact (show Tryz.prog.wantsStandIn 3 = false by kernel_rfl)

/-- The statement. -/
theorem card : Rows.LoopsCardSaid :=
  Claim7.holds_tied_plain_at .later [] _ _ _ _ said (fun _ h => by cases h) (by kernel_rfl) (fun _ h => by cases h) loops_row_tie rfl ⟨rfl, rfl⟩ (by kernel_rfl) rfl plain (by kernel_rfl)
end Go.Proofs.YtdeplgkhmebalaaGreatDoor.cLoops
namespace Go.Proofs.YtdeplgkhmebalaaGreatDoor
theorem loops_card : Rows.LoopsCardSaid := cLoops.card
end Go.Proofs.YtdeplgkhmebalaaGreatDoor
