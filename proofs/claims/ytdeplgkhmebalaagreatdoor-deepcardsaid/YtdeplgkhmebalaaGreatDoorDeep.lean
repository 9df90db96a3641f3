/-
  For every input the function Deep of the package stokerkeep returns true and its argument reads as before: the program, at this commit, gives products up to the argument by a function that calls itself, and the trap of too many calls where sixteen calls in one another are not enough; the table look.rows is as the program's text lays it (the tied card).
-/
import Derived.Test.YtdeplgkhmebalaaGreatDoorP32
import Derived.Test.YtdeplgkhmebalaaGreatDoorCards
import Derived.Test.YtdeplgkhmebalaaGreatDoorTie
import Derived.Test.YtdeplgkhmebalaaGreatDoorP33
import Derived.Test.YtdeplgkhmebalaaGreatDoorFcDeep

namespace Go.Proofs.YtdeplgkhmebalaaGreatDoor
open Go.RowKit

theorem deep_flatOk : FlatOk (flatOf deepBytes) := flatOk_of (by kernel_rfl)
theorem deep_len : deepBytes.length ≤ 1000000 := by decide +kernel
theorem deep_pages : (flatOf deepBytes).pages = 0 := by decide +kernel
theorem deep_gl : (flatOf deepBytes).globals.map (fun (n : Nat) => ((n : Nat) : Int)) = [5] := by decide +kernel
def deepRef (n : Nat) : Bool := decide (refusesM (flatOf deepBytes) 0 [((n : Nat) : Int)] 100000 = 0) && decide (refusesM (flatOf deepBytes) 0 [((n : Nat) : Int)] 5000 = 0)
theorem deep_refs : (List.range 40).all deepRef = true := by kernel_rfl
theorem deep_got {n : Nat} (hn : n < 40) : ∃ s, deepGot n = some (if n < 16 then 0 else 6, if n < 16 then (fact n : Int) else 0, if n < 16 then 9 * n + 4 else 128, s) ∧ s.mem.length ≤ 1000000 ∧ s.gl.length ≤ 1000000 ∧ s.keys.length ≤ 1000 :=
  isGot_spec (List.all_eq_true.1 deep_runs n (by simpa using hn))

theorem deep_ref {n : Nat} (hn : n < 40) : refusesM (flatOf deepBytes) ((0 : Nat) : Int) [((n : Nat) : Int)] ((100000 : Nat) : Int) = 0 ∧ refusesM (flatOf deepBytes) ((0 : Nat) : Int) [((n : Nat) : Int)] ((5000 : Nat) : Int) = 0 := by
  have := List.all_eq_true.1 deep_refs n (by simpa using hn)
  simp only [deepRef, Bool.and_eq_true, decide_eq_true_eq] at this
  exact this
theorem fact_le {n : Nat} (h : n ≤ 15) : fact n ≤ 1307674368000 := by
  have : (List.range 16).all (fun n => decide (fact n ≤ 1307674368000)) = true := by decide +kernel
  simpa using List.all_eq_true.1 this n (by simp; omega)

set_option maxRecDepth 100000 in
set_option maxHeartbeats 4000000 in
theorem deep_any {w : World} (hR : RowsOk w) (c : Int) (hc1 : -9223372036854775808 ≤ c) (hc2 : c < 9223372036854775808) :
    Calls Tryz.prog 8 #[.int .i64 c] w fun r w' => r = .returned (.bool true) ∧ Kp no w w' := by
  have hn : pickM c 40 < 40 := Nat.mod_lt _ (by decide)
  have hpk := pickK_any w c 40 hc1 hc2 (by decide) (by decide)
  generalize pickM c 40 = n at *
  have HPk := hide hpk
  have HR := hide hR
  clear hpk hR hc1 hc2
  go_enter Tryz.func8, Tryz.ntmps8
  go_wp2_with fail
  refine HPk.out.mono ?_
  rintro r w1 ⟨rfl, rfl⟩
  go_wp2_with fail
  refine (oneK_any _ 126).mono ?_
  rintro r w2 ⟨⟨v2, rfl, h2⟩, k2⟩
  obtain ⟨a2, c2, hv2, -⟩ := h2.at.shape
  subst hv2
  have H2 := hide h2
  have K2 := hide k2
  clear h2 k2
  go_wp2_with fail
  refine (oneK_any _ 126).mono ?_
  rintro r w3 ⟨⟨v3, rfl, h3⟩, k3⟩
  obtain ⟨a3, c3, hv3, -⟩ := h3.at.shape
  subst hv3
  have H3 := hide h3
  have K3 := hide k3
  clear h3 k3
  go_wp2_with fail
  have hF := FnsAt.made1 (fn := deepFn) (x2 := .slice none 0 0) (H2.out.at.kq (K3.out.alloc _)) (H3.out.at.kq ((Kp.refl no w3).alloc _)) (RowAt.nil _ 1) (NB.made w3 deepFn.code (by simp [deepFn, maxLen])).at 27
  rw [show (w3.alloc (.cells (bcs deepFn.code).toArray 5)).heap.size = w3.heap.size + 1 by simp] at hF
  have hM := module_keep (pages := 0) hF (by simp) (by simp) deep_len
  refine hM.mono ?_
  rintro r w4 ⟨⟨v4, rfl, h4⟩, k4⟩
  obtain ⟨a4, c4, hv4, -⟩ := h4.at.shape
  subst hv4
  have k14 : Kp no w1 w4 := (K2.out.trans K3.out).trans ((((Kp.refl no w3).alloc _).alloc _).trans k4)
  have hS := started_keep h4.at h4.lt (HR.out.kp k14) deep_len (flatOf_ok deep_ok) deep_flatOk.pg deep_flatOk.gl
  have HS := hide hS
  have K14 := hide k14
  clear hF hM h4 k4 k14 hS H2 H3 K2 K3
  go_wp2_with fail
  refine HS.out.mono ?_
  rintro r w5 ⟨⟨ib, tb, rfl, hin⟩, k5⟩
  have HIn := hide hin
  have K5 := hide (K14.out.trans k5)
  have hibl := hin.ib
  have htbl := hin.tb
  have hil : ib < w5.heap.size ∧ tb < w5.heap.size := by
    obtain ⟨ro, mb, mv, gv, p, i1, i2, -⟩ := hin.at'
    exact ⟨lt_of_blk i1.blk, lt_of_blk i2.blk⟩
  have h45 := K14.out.size
  obtain ⟨s1, hgot, hsm⟩ := deep_got hn
  have hrf := deep_ref hn
  have HGot := hide hgot
  have HSm := hide hsm
  have HRf := hide hrf
  clear hin k5 HS K14 hgot hsm hrf
  by_cases h16 : n < 16
  · go_wp2
    go_loopw [6, 7] (fun vv kv wr => ∃ (k : Nat), k ≤ n ∧ kv = .int .i64 ((k + 1 : Nat) : Int) ∧ vv = .int .u64 ((fact k : Nat) : Int) ∧ wr = w5) (fun _ kv _ => n + 1 - (intOf kv).toNat)
    case atStart => exact ⟨0, by omega, rfl, rfl, rfl⟩
    case round =>
      obtain ⟨k, hk, rfl, rfl, rfl⟩ := hrel
      by_cases hkn : k < n
      · have hfl := fact_le (n := k + 1) (by omega)
        have hfs : fact (k + 1) = fact k * (k + 1) := rfl
        obtain ⟨g, hg⟩ : ∃ g, fact (k + 1) = g := ⟨_, rfl⟩
        obtain ⟨g0, hg0⟩ : ∃ g, fact k = g := ⟨_, rfl⟩
        have HG := hide hg
        rw [hg, hg0] at hfs
        rw [hg] at hfl
        rw [hg0]
        clear hg hg0
        have hwm : IntKind.u64.wrap ((g0 : Int) * ((k + 1 : Nat) : Int)) = (g : Int) := by rw [IntKind.wrap_u64, ← Int.natCast_mul, ← hfs]; omega
        have hwm2 : IntKind.u64.wrap ((g0 : Int) * ((k : Int) + 1)) = (g : Int) := by rw [← hwm]; norm_cast
        have hwk : IntKind.u64.wrap ((k + 1 : Nat) : Int) = ((k + 1 : Nat) : Int) := by rw [IntKind.wrap_u64]; omega
        have HFs := hide hfs
        clear hfs
        go_wp2
        go_roundw
        case rel => exact ⟨k + 1, by omega, by simp, by rw [HG.out], trivial⟩
        case measure => simp [intOf]; omega
      · obtain rfl : k = n := by omega
        have hwc : IntKind.u64.wrap (k : Int) = (k : Int) := by rw [IntKind.wrap_u64]; omega
        have hw9 : IntKind.i64.wrap (9 * (k : Int)) = 9 * (k : Int) := by rw [IntKind.wrap_i64]; omega
        have hw4 : IntKind.i64.wrap (9 * (k : Int) + 4) = ((9 * k + 4 : Nat) : Int) := by rw [IntKind.wrap_i64]; omega
        obtain ⟨u, hu⟩ : ∃ u, 9 * k + 4 = u := ⟨_, rfl⟩
        have hgot := HGot.out
        rw [if_pos h16, if_pos h16, if_pos h16, hu] at hgot
        rw [hu] at hw4
        have hv := ValsAt.made wr [(k : Int)]
        have hgi := gives_keep (n := 0) (K := 2000) (HIn.out.quiet ((Kp.refl no wr).alloc (.cells (valCells [(k : Int)]).toArray 38))) deep_flatOk hv (by simp) (fun b hb => by have hb : some _ = some b := hb; simp only [Option.some.injEq] at hb; omega) HRf.out.1 (by omega) (by
          unfold deepGot at hgot
          rw [if_pos h16, ← deep_gl] at hgot
          exact hgot) HSm.out
        have HGi := hide hgi
        clear hgi hv hgot hu
        generalize fact k = g at *
        go_wp2_with fail
        refine HGi.out.mono ?_
        rintro r w6 ⟨rfl, -, k6⟩
        have K6 := hide k6
        clear k6
        go_wp2
        go_ret
        refine ⟨rfl, (K5.out.alloc _).comp K6.out (fun _ _ h => h) (fun b hb h => ?_)⟩
        rcases h with h | h <;> omega
  · have hwc : IntKind.u64.wrap (n : Int) = (n : Int) := by rw [IntKind.wrap_u64]; omega
    have hv := ValsAt.made w5 [(n : Int)]
    have htr := traps_keep (n := 0) (fuel := 5000) (K := 2000) (t := 6) (u := 128) (HIn.out.quiet ((Kp.refl no w5).alloc (.cells (valCells [(n : Int)]).toArray 38))) deep_flatOk hv (by simp) (fun b hb => by have hb : some _ = some b := hb; simp only [Option.some.injEq] at hb; omega) HRf.out.2 (by omega) (by omega) (by
      have := HGot.out
      unfold deepGot at this
      rw [if_neg h16, if_neg h16, if_neg h16, if_neg h16] at this
      rw [← deep_gl] at this
      exact this) HSm.out
    have HTr := hide htr
    clear htr hv
    go_wp2_with fail
    refine HTr.out.mono ?_
    rintro r w6 ⟨rfl, -, k6⟩
    have K6 := hide k6
    clear k6
    go_wp2
    go_ret
    refine ⟨rfl, (K5.out.alloc _).comp K6.out (fun _ _ h => h) (fun b hb h => ?_)⟩
    rcases h with h | h <;> omega
end Go.Proofs.YtdeplgkhmebalaaGreatDoor

namespace Go.Proofs.YtdeplgkhmebalaaGreatDoor.cDeep
open Go.ChangeShapes Go.WideShapes Go.ChangeAt Go.RowKit

theorem own : ownKnob Tryz.prog.godebug = none := by kernel_rfl

set_option maxRecDepth 100000 in
theorem contract (H : Type) (enc : TypeId × Value → H) (W : World) (base : Nat) (args : Array Value) (ds gs : List (DataW H)) (before : List MemPlace)
    (hval : ∀ (j : Nat) t v, Tryz.f8.params[j]? = some t → args[j]? = some v → Value.okWide Tryz.prog W .any base t v)
    (hW : DataW.Whole enc Tryz.prog Tryz.f8.params.toList Rows.deepSpec.vars false W args.toList ds gs before) (hL : laidMetH Tryz.prog Rows.deepRow.laid W) :
    Calls Tryz.prog 8 args W fun e W' => ∃ v, e = .returned v ∧ Rows.deepSpec.post enc Tryz.prog Tryz.f8 false true false false W args v W' := by
  have hW' := hW
  obtain ⟨p, q, hA0, hV, rfl, hfz, hnd⟩ := hW
  have hA : DataW.TrodAll enc Tryz.prog W 0 (fun _ => true) true Tryz.f8.params.toList args.toList ds p := hA0
  rw [Tryz.params8] at hA hval
  obtain ⟨v0, vs0, d0, ds0, p0, q0, hargs0, rfl, rfl, h0, r0⟩ := trodAll_cons hA
  obtain ⟨rfl, rfl, rfl⟩ := trodAll_nil r0
  obtain rfl : args = #[v0] := by clear hL hval hW' hA0; cases args; simp_all
  obtain ⟨rfl, rfl⟩ := trodVars_none hV
  obtain ⟨a0, rfl, rfl, rfl, w0⟩ := open_int Tryz.underlying3 (hval 0 3 v0 rfl rfl) h0
  clear hA0
  simp only [List.append_nil] at hW'
  have walk := deep_any (rows_of_laid (by kernel_rfl) (.tail _ (.head _)) hL) a0 (wf_i64 w0).1 (wf_i64 w0).2
  refine walk.mono fun e W' ⟨he, hk⟩ => ?_
  subst he
  exact ⟨_, rfl, _, _, _, [], [], [], hW', trodAll_cons_mk (shut_bool Tryz.underlying4 _) trodAll_mk0, (trodAll_cons_mk (shut_int Tryz.underlying3 w0) trodAll_mk0), rfl, kept_of hk _, fun h => by cases h⟩

theorem laid_met (os : Os) : laidMetH Tryz.prog Rows.deepRow.laid ((World.laidAll Tryz.prog os Rows.deepRow.laid).forCall (fun _ _ => 0) ⟨#[], #[.int .i64 0], []⟩).memory := by
  rw [MakeChecks.laidMetH_plain _ _ _ (by kernel_rfl)]
  exact laidMet_laidAll _ (by kernel_rfl) (by kernel_rfl)
theorem shaped (os : Os) : ((World.laidAll Tryz.prog os Rows.deepRow.laid).forCall (fun _ _ => 0) ⟨#[], #[.int .i64 0], []⟩).Shaped Tryz.checked.prog := World.shaped_of_ZipB (by kernel_rfl) (by kernel_rfl)

set_option maxRecDepth 100000 in
theorem lifted (os : Os) (started : os.Started) (H : Type) (enc : TypeId × Value → H) :
    ReturnsInHanded {} Tryz.checked os 8 .any (fun w args => (Rows.deepSpec.pre enc Tryz.prog Tryz.f8 Rows.deepRow.domain false w args ∧ laidMetH Tryz.prog Rows.deepRow.laid w) ∧ sizedMet enc Tryz.prog Tryz.f8 (OpenSpec.ofChange Rows.deepSpec) false w args)
      (Rows.deepSpec.post enc Tryz.prog Tryz.f8 false true false false) := by
  refine returnsInHanded_of_change_and (C := Tryz.checked) (X := fun w _ => laidMetH Tryz.prog Rows.deepRow.laid w) (fun _ _ _ hh h => h.of_heap hh) own started (by kernel_rfl) Tryz.func8
    (ChangeSpec.witness_shaped (enc := enc) (C := Tryz.checked) (os := os) (X := fun w _ => laidMetH Tryz.prog Rows.deepRow.laid w) false (World.laidAll Tryz.prog os Rows.deepRow.laid) #[.int .i64 0] 8 (World.laidAll_os _ _ _)
      (shaped os) (by kernel_rfl) (by kernel_rfl) (by kernel_rfl) (laid_met os)) ?_
  intro W base args ds gs before hval hW _ _ hL _
  exact contract H enc W base args ds gs before hval hW hL

theorem said : Rows.DeepSaid :=
  OpenClaim.holds_of_wide 8 Tryz.f8 rfl rfl rfl rfl rfl rfl rfl ⟨rfl, rfl, rfl, rfl, rfl⟩ rfl rfl rfl rfl rfl (by kernel_rfl) Tryz.func8 closed
    (of_decide_eq_true (by kernel_rfl)) (by unfold Func.isWrapper; first | (rw [if_pos (by decide +kernel)]; kernel_rfl) | (rw [if_neg (by decide +kernel)]; exact ⟨rfl, rfl⟩))
    (fun os started H enc _ => lifted os started H enc)

theorem plain (f : FuncId) (fn : Func) (hf : Tryz.pinned.checked.prog.funcNamed "stoker/stokerkeep.Deep" = some f) (hfn : Tryz.pinned.checked.prog.funcs[f]? = some fn) :
    false = Tryz.pinned.checked.prog.looks [] ∧ ∀ (j : Nat) t, fn.params[j]? = some t → Tryz.pinned.checked.prog.wantsStandIn t = false := by
  obtain rfl : f = 8 := Option.some.inj ((show Tryz.prog.funcNamed "stoker/stokerkeep.Deep" = some 8 by kernel_rfl).symm.trans hf) |>.symm
  obtain rfl : fn = Tryz.f8 := (Option.some.inj (Tryz.func8.symm.trans hfn)).symm
  refine ⟨by kernel_rfl, fun j t ht => ?_⟩
  rw [Tryz.params8] at ht
  have hm := Array.mem_of_getElem? ht
  simp only [List.mem_toArray, List.mem_cons, List.mem_nil_iff, or_false] at hm
  rcases hm with rfl
  · exact (show Tryz.prog.wantsStandIn 3 = false by kernel_rfl)

/-- The statement. -/
theorem card : Rows.DeepCardSaid :=
  Claim7.holds_tied_plain_at .later [] _ _ _ _ said (fun _ h => by cases h) (by kernel_rfl) (fun _ h => by cases h) deep_row_tie rfl ⟨rfl, rfl⟩ (by kernel_rfl) rfl plain (by kernel_rfl)
end Go.Proofs.YtdeplgkhmebalaaGreatDoor.cDeep
namespace Go.Proofs.YtdeplgkhmebalaaGreatDoor
theorem deep_card : Rows.DeepCardSaid := cDeep.card
end Go.Proofs.YtdeplgkhmebalaaGreatDoor
