/-
  For every input the function Tables of the package stokerkeep returns true and its arguments read as before: the program, at this commit, goes by a table of branches where the number says, by the last label where there is none, and drops what lies below the value; the table look.rows is as the program's text lays it (the tied card).
-/
import Derived.Test.YtdeplgkhmebalaaGreatDoorTablesA
import Derived.Test.YtdeplgkhmebalaaGreatDoorCards
import Derived.Test.YtdeplgkhmebalaaGreatDoorTie
import Derived.Test.YtdeplgkhmebalaaGreatDoorP33
import Derived.Test.YtdeplgkhmebalaaGreatDoorFcTables

namespace Go.Proofs.YtdeplgkhmebalaaGreatDoor
open Go.RowKit

theorem range_flat {α : Type} (g : Nat → List α) (m k : Nat) (h : ∀ j, (g j).length = m) : ((List.range k).flatMap g).length = k * m := by
  induction k with
  | zero => simp
  | succ k ih => rw [List.range_succ, List.flatMap_append, List.length_append, ih]; simp [h, Nat.succ_mul]
theorem tabA_succ (k : Nat) : tabA (k + 1) = tabA k ++ [2, 127] := by simp [tabA, tabBlocks, List.range_succ]
theorem tabB_succ (n k : Nat) : tabB n (k + 1) = tabB n k ++ [UInt8.ofNat k] := by simp [tabB, tabLabels, List.range_succ]
theorem tabC_succ (n k : Nat) : tabC n (k + 1) = tabC n k ++ [11, 65, UInt8.ofNat k, 106, 15] := by simp [tabC, tabEnds, List.range_succ]
theorem tabA_len (k : Nat) : (tabA k).length = 2 + k * 2 := by
  unfold tabA tabBlocks
  rw [List.length_append, range_flat (fun _ => [(2 : UInt8), 127]) 2 k (fun _ => rfl)]
  simp
theorem tabB_len (n k : Nat) : (tabB n k).length = 12 + n * 2 + k := by
  unfold tabB tabLabels
  rw [List.length_append, List.length_append, tabA_len, range_flat (fun j => [UInt8.ofNat j]) 1 k (fun _ => rfl)]
  simp
  omega
theorem tabC_len (n k : Nat) : (tabC n k).length = 13 + n * 3 + k * 5 := by
  unfold tabC tabEnds
  rw [List.length_append, tabB_len, range_flat (fun j => [11, 65, UInt8.ofNat j, 106, 15]) 5 k (fun _ => rfl)]
  omega

set_option maxRecDepth 100000 in
set_option maxHeartbeats 4000000 in
theorem tables_any {w : World} (hR : RowsOk w) (c0 n0 : Int) (hc1 : 0 ≤ c0) (hc2 : c0 < 18446744073709551616) (hn1 : -9223372036854775808 ≤ n0) (hn2 : n0 < 9223372036854775808) :
    Calls Tryz.prog 9 #[.int .u64 c0, .int .i64 n0] w fun r w' => r = .returned (.bool true) ∧ Kp no w w' := by
  obtain ⟨i0, hi0, hz0, hz1, hz2⟩ := info_parts info_su8
  obtain ⟨c, hc⟩ : ∃ c : Nat, (c : Int) = c0 % 4294967296 := ⟨(c0 % 4294967296).toNat, by omega⟩
  have hcl : c < 4294967296 := by omega
  have hcw : IntKind.u64.wrap (Int.tmod c0 4294967296) = (c : Int) := by rw [Int.tmod_eq_emod_of_nonneg hc1, IntKind.wrap_u64]; omega
  have hcw2 : IntKind.u64.wrap (c0 % 4294967296) = (c : Int) := by rw [IntKind.wrap_u64]; omega
  have hcw3 : c0 % 4294967296 = (c : Int) := hc.symm
  have hn : pickM n0 12 < 12 := Nat.mod_lt _ (by decide)
  have hpk := pickK_any w n0 12 hn1 hn2 (by decide) (by decide)
  generalize pickM n0 12 = n at *
  have HPk := hide hpk
  have HR := hide hR
  have hl2 : (tabA 0).length = 2 := rfl
  clear hpk hR hn1 hn2 hc hl2
  go_enter Tryz.func9, Tryz.ntmps9
  go_wp2_with fail
  refine HPk.out.mono ?_
  rintro r w1 ⟨rfl, hw⟩
  rw [hw]
  clear hw w1
  go_wp2
  go_loopw [5, 6] (fun lv kv wr => ∃ (k : Nat), k ≤ n + 1 ∧ kv = .int .i64 k ∧ NB w wr lv (tabA k) ∧ Kp no w wr) (fun _ kv _ => n + 1 - (intOf kv).toNat)
  case atStart => exact ⟨0, by omega, rfl, NB.made w [65, 9] (by simp [maxLen]), (Kp.refl _ _).alloc _⟩
  case round =>
    obtain ⟨k, hk, rfl, hown, hkp⟩ := hrel
    obtain ⟨adl, capl, hvl⟩ := own_shape hown
    subst hvl
    have HO := hide hown
    have HK := hide hkp
    have hszr := hkp.size
    clear hown hkp
    by_cases hkn : k ≤ n
    · have hsu : tabA (k + 1) = tabA k ++ [2, 127] := by exact tabA_succ k
      have hle : (tabA k).length ≤ 1000 := by rw [tabA_len]; omega
      have hkb : (UInt8.ofNat k).toNat = k := by rw [UInt8.toNat_ofNat']; omega
      have HSu := hide hsu
      clear hsu
      obtain ⟨P, hP⟩ : ∃ P, tabA k = P := ⟨_, rfl⟩
      rw [hP] at HSu hle HO ⊢
      clear hP
      go_wp2_with (at_builtin; refine wpList_append_row _ rfl _ _ 25 rfl w.heap.size 5 i0 (.int .u8 0) 1 1 Tryz.underlying25 hi0 hz0 hz1 hz2 rfl (by decide) _ _ _ rfl (HO.out.alloc _) _ 2 _ rfl (RowAt.ofBlock (heap_alloc_new _ _) 2 1 rfl) ?c1h ?c1a ?c1b ?c1c ?_)
      case c1h => repeat' (first | rfl | apply And.intro)
      case c1a => unfold maxLen; omega
      case c1b => omega
      case c1c => simp; omega
      intro v3 w3 hown3 hgrow3
      obtain ⟨ad3, cap3, rfl⟩ := own_shape hown3
      have HK3 := hide ((HK.out.alloc _).grown hgrow3 (fun b hb => .inr (own_new HO.out b hb)))
      have HO3 : Hid (NB w w3 (.slice ad3 (P.length + 2) cap3) (tabA (k + 1))) := by
        refine hide ?_
        rw [HSu.out]
        unfold NB
        rw [bcsApp, List.length_append]
        refine Eq.mp ?_ hown3
        first | (congr 3; done) | (congr 2; simp [bcs, hkb]; done) | (congr 2; simp [bcs, hkb]; omega)
      clear hown3 hgrow3
      go_wp2
      go_roundw
      case rel => exact ⟨k + 1, by omega, by go_num, HO3.out, HK3.out⟩
      case measure => simp [intOf]; omega
    · obtain rfl : k = n + 1 := by omega
      clear hkn
      have hsu : tabB n 0 = tabA (n + 1) ++ [65, 8, 65, 7, 32, 0, 14, UInt8.ofNat n] := by simp [tabB, tabLabels]
      have hle : (tabA (n + 1)).length ≤ 1000 := by rw [tabA_len]; omega
      have hkb : (UInt8.ofNat n).toNat = n := by rw [UInt8.toNat_ofNat']; omega
      have HSu := hide hsu
      clear hsu
      obtain ⟨P, hP⟩ : ∃ P, tabA (n + 1) = P := ⟨_, rfl⟩
      rw [hP] at HSu hle HO ⊢
      clear hP
      go_wp2_with (at_builtin; refine wpList_append_row _ rfl _ _ 25 rfl w.heap.size 5 i0 (.int .u8 0) 1 1 Tryz.underlying25 hi0 hz0 hz1 hz2 rfl (by decide) _ _ _ rfl (HO.out.alloc _) _ 8 _ rfl (RowAt.ofBlock (heap_alloc_new _ _) 8 1 rfl) ?c4h ?c4a ?c4b ?c4c ?_)
      case c4h => repeat' (first | rfl | apply And.intro)
      case c4a => unfold maxLen; omega
      case c4b => omega
      case c4c => simp; omega
      intro v3 w3 hown3 hgrow3
      obtain ⟨ad3, cap3, rfl⟩ := own_shape hown3
      have HK3 := hide ((HK.out.alloc _).grown hgrow3 (fun b hb => .inr (own_new HO.out b hb)))
      have HO3 : Hid (NB w w3 (.slice ad3 (P.length + 8) cap3) (tabB n 0)) := by
        refine hide ?_
        rw [HSu.out]
        unfold NB
        rw [bcsApp, List.length_append]
        refine Eq.mp ?_ hown3
        first | (congr 3; done) | (congr 2; simp [bcs, hkb]; done) | (congr 2; simp [bcs, hkb]; omega)
      clear hown3 hgrow3
      go_wp2
      go_loopw [5, 7] (fun lv kv wr => ∃ (k : Nat), k ≤ n + 1 ∧ kv = .int .i64 k ∧ NB w wr lv (tabB n k) ∧ Kp no w wr) (fun _ kv _ => n + 1 - (intOf kv).toNat)
      case atStart => exact ⟨0, by omega, rfl, HO3.out, HK3.out⟩
      case round =>
        clear HO3 HK3 HO HK HSu
        obtain ⟨k, hk, rfl, hown, hkp⟩ := hrel
        obtain ⟨adl, capl, hvl⟩ := own_shape hown
        subst hvl
        have HO := hide hown
        have HK := hide hkp
        have hszr := hkp.size
        clear hown hkp
        by_cases hkn : k ≤ n
        · have hsu : tabB n (k + 1) = tabB n k ++ [UInt8.ofNat k] := by exact tabB_succ n k
          have hle : (tabB n k).length ≤ 1000 := by rw [tabB_len]; omega
          have hkb : (UInt8.ofNat k).toNat = k := by rw [UInt8.toNat_ofNat']; omega
          have HSu := hide hsu
          clear hsu
          obtain ⟨P, hP⟩ : ∃ P, tabB n k = P := ⟨_, rfl⟩
          rw [hP] at HSu hle HO ⊢
          clear hP
          go_wp2_with (at_builtin; refine wpList_append_row _ rfl _ _ 25 rfl w.heap.size 5 i0 (.int .u8 0) 1 1 Tryz.underlying25 hi0 hz0 hz1 hz2 rfl (by decide) _ _ _ rfl (HO.out.alloc _) _ 1 _ rfl (RowAt.ofBlock (heap_alloc_new _ _) 1 1 rfl) ?c2h ?c2a ?c2b ?c2c ?_)
          case c2h => repeat' (first | rfl | apply And.intro)
          case c2a => unfold maxLen; omega
          case c2b => omega
          case c2c => simp; omega
          intro v3 w3 hown3 hgrow3
          obtain ⟨ad3, cap3, rfl⟩ := own_shape hown3
          have HK3 := hide ((HK.out.alloc _).grown hgrow3 (fun b hb => .inr (own_new HO.out b hb)))
          have HO3 : Hid (NB w w3 (.slice ad3 (P.length + 1) cap3) (tabB n (k + 1))) := by
            refine hide ?_
            rw [HSu.out]
            unfold NB
            rw [bcsApp, List.length_append]
            refine Eq.mp ?_ hown3
            first | (congr 3; done) | (congr 2; simp [bcs, hkb]; done) | (congr 2; simp [bcs, hkb]; omega)
          clear hown3 hgrow3
          go_wp2
          go_roundw
          case rel => exact ⟨k + 1, by omega, by go_num, HO3.out, HK3.out⟩
          case measure => simp [intOf]; omega
        · obtain rfl : k = n + 1 := by omega
          clear hkn
          rw [show ((n + 1 : Nat) : Int) = (n : Int) + 1 by omega]
          go_wp2
          go_loopw [5, 8] (fun lv kv wr => ∃ (k : Nat), k ≤ n + 1 ∧ kv = .int .i64 k ∧ NB w wr lv (tabC n k) ∧ Kp no w wr) (fun _ kv _ => n + 1 - (intOf kv).toNat)
          case atStart => exact ⟨0, by omega, rfl, HO.out.as (by simp [tabC, tabEnds]), HK.out⟩
          case round =>
            clear HO HK
            obtain ⟨k, hk, rfl, hown, hkp⟩ := hrel
            obtain ⟨adl, capl, hvl⟩ := own_shape hown
            subst hvl
            have HO := hide hown
            have HK := hide hkp
            have hszr := hkp.size
            clear hown hkp
            by_cases hkn : k ≤ n
            · have hsu : tabC n (k + 1) = tabC n k ++ [11, 65, UInt8.ofNat k, 106, 15] := by exact tabC_succ n k
              have hle : (tabC n k).length ≤ 1000 := by rw [tabC_len]; omega
              have hkb : (UInt8.ofNat k).toNat = k := by rw [UInt8.toNat_ofNat']; omega
              have HSu := hide hsu
              clear hsu
              obtain ⟨P, hP⟩ : ∃ P, tabC n k = P := ⟨_, rfl⟩
              rw [hP] at HSu hle HO ⊢
              clear hP
              go_wp2_with (at_builtin; refine wpList_append_row _ rfl _ _ 25 rfl w.heap.size 5 i0 (.int .u8 0) 1 1 Tryz.underlying25 hi0 hz0 hz1 hz2 rfl (by decide) _ _ _ rfl (HO.out.alloc _) _ 5 _ rfl (RowAt.ofBlock (heap_alloc_new _ _) 5 1 rfl) ?c3h ?c3a ?c3b ?c3c ?_)
              case c3h => repeat' (first | rfl | apply And.intro)
              case c3a => unfold maxLen; omega
              case c3b => omega
              case c3c => simp; omega
              intro v3 w3 hown3 hgrow3
              obtain ⟨ad3, cap3, rfl⟩ := own_shape hown3
              have HK3 := hide ((HK.out.alloc _).grown hgrow3 (fun b hb => .inr (own_new HO.out b hb)))
              have HO3 : Hid (NB w w3 (.slice ad3 (P.length + 5) cap3) (tabC n (k + 1))) := by
                refine hide ?_
                rw [HSu.out]
                unfold NB
                rw [bcsApp, List.length_append]
                refine Eq.mp ?_ hown3
                first | (congr 3; done) | (congr 2; simp [bcs, hkb]; done) | (congr 2; simp [bcs, hkb]; omega)
              clear hown3 hgrow3
              go_wp2
              go_roundw
              case rel => exact ⟨k + 1, by omega, by go_num, HO3.out, HK3.out⟩
              case measure => simp [intOf]; omega
            · obtain rfl : k = n + 1 := by omega
              clear hkn
              rw [show ((n + 1 : Nat) : Int) = (n : Int) + 1 by omega]
              have ht := tab_okay hn
              obtain ⟨s1, hgot, hsm⟩ := tab_got (c := c) hn
              have hrf := tab_ref hn hcl
              have HT := hide ht
              have HGot := hide hgot
              have HSm := hide hsm
              have HRf := hide hrf
              clear ht hgot hsm hrf
              have hcode : (tabFn n).code = tabC n (n + 1) := rfl
              have HCo := hide hcode
              clear hcode
              go_wp2_with fail
              refine (oneK_any _ 127).mono ?_
              rintro r w2 ⟨⟨v2, rfl, h2⟩, k2⟩
              obtain ⟨a2, c2, hv2, -⟩ := h2.at.shape
              subst hv2
              have H2 := hide h2
              have K2 := hide k2
              clear h2 k2
              go_wp2_with fail
              refine (oneK_any _ 127).mono ?_
              rintro r w3 ⟨⟨v3, rfl, h3⟩, k3⟩
              obtain ⟨a3, c3, hv3, -⟩ := h3.at.shape
              subst hv3
              have H3 := hide h3
              have K3 := hide k3
              clear h3 k3
              go_wp2_with fail
              have hF := FnsAt.made1 (fn := tabFn n) (x2 := .slice none 0 0) (H2.out.at.kq K3.out) H3.out.at (RowAt.nil _ 1) ((HO.out.kp (K2.out.trans K3.out)).at) 27
              have hM := module_keep (pages := 0) hF (by simp) (by simp) HT.out.len
              refine hM.mono ?_
              rintro r w4 ⟨⟨v4, rfl, h4⟩, k4⟩
              obtain ⟨a4, c4, hv4, -⟩ := h4.at.shape
              subst hv4
              have k14 : Kp no w w4 := (HK.out.trans (K2.out.trans K3.out)).trans (((Kp.refl no w3).alloc _).trans k4)
              have hS := started_keep h4.at h4.lt (HR.out.kp k14) HT.out.len HT.out.load HT.out.ok.pg HT.out.ok.gl
              have HS := hide hS
              have K14 := hide k14
              clear hF hM h4 k4 k14 hS H2 H3 K2 K3 HO HK
              go_wp2_with fail
              refine HS.out.mono ?_
              rintro r w5 ⟨⟨ib, tb, rfl, hin⟩, k5⟩
              have HIn := hide hin
              have K5 := hide (K14.out.trans k5)
              have hibl := hin.ib
              have htbl := hin.tb
              have hil : ib < w5.heap.size ∧ tb < w5.heap.size := by
                obtain ⟨ro, mb, mv, gv, p, i1, i2, -⟩ := hin.at'
                exact ⟨lt_of_blk i1.blk, lt_of_blk i2.blk⟩
              have h45 := K14.out.size
              clear hin k5 HS K14
              have hv := ValsAt.made w5 [(c : Int)]
              have hgi := gives_keep (n := 0) (K := 400) (HIn.out.quiet ((Kp.refl no w5).alloc (.cells (valCells [(c : Int)]).toArray 38))) HT.out.ok hv (by simp) (fun b hb => by have hb : some _ = some b := hb; simp only [Option.some.injEq] at hb; omega) HRf.out (by omega) (by
                have := HGot.out
                unfold tabGot at this
                rw [← HT.out.gl] at this
                exact this) HSm.out
              have HGi := hide hgi
              clear hgi hv
              have hwn : IntKind.u64.wrap (n : Int) = (n : Int) := by rw [IntKind.wrap_u64]; omega
              obtain ⟨m, hm⟩ : ∃ m, min c n = m := ⟨_, rfl⟩
              obtain ⟨u, hu⟩ : ∃ u, n + 9 = u := ⟨_, rfl⟩
              rw [hm, hu] at HGi
              have hw7 : IntKind.u64.wrap (7 + (m : Int)) = 7 + (m : Int) := by rw [IntKind.wrap_u64]; omega
              have hwu : IntKind.i64.wrap (1 + (n : Int) + 1 + 4 + 3) = (u : Int) := by rw [IntKind.wrap_i64]; omega
              by_cases hcn : c < n
              · obtain rfl : m = c := by omega
                go_wp2_with fail
                refine HGi.out.mono ?_
                rintro r w6 ⟨rfl, -, k6⟩
                have K6 := hide k6
                clear k6
                go_wp2
                go_ret
                refine ⟨rfl, (K5.out.alloc _).comp K6.out (fun _ _ h => h) (fun b hb h => ?_)⟩
                rcases h with h | h <;> omega
              · obtain rfl : m = n := by omega
                go_wp2_with fail
                refine HGi.out.mono ?_
                rintro r w6 ⟨rfl, -, k6⟩
                have K6 := hide k6
                clear k6
                go_wp2
                go_ret
                refine ⟨rfl, (K5.out.alloc _).comp K6.out (fun _ _ h => h) (fun b hb h => ?_)⟩
                rcases h with h | h <;> omega
end Go.Proofs.YtdeplgkhmebalaaGreatDoor

namespace Go.Proofs.YtdeplgkhmebalaaGreatDoor.cTables
open Go.ChangeShapes Go.WideShapes Go.ChangeAt Go.RowKit

theorem own : ownKnob Tryz.prog.godebug = none := by kernel_rfl

set_option maxRecDepth 100000 in
theorem contract (H : Type) (enc : TypeId × Value → H) (W : World) (base : Nat) (args : Array Value) (ds gs : List (DataW H)) (before : List MemPlace)
    (hval : ∀ (j : Nat) t v, Tryz.f9.params[j]? = some t → args[j]? = some v → Value.okWide Tryz.prog W .any base t v)
    (hW : DataW.Whole enc Tryz.prog Tryz.f9.params.toList Rows.tablesSpec.vars false W args.toList ds gs before) (hL : laidMetH Tryz.prog Rows.tablesRow.laid W) :
    Calls Tryz.prog 9 args W fun e W' => ∃ v, e = .returned v ∧ Rows.tablesSpec.post enc Tryz.prog Tryz.f9 false true false false W args v W' := by
  have hW' := hW
  obtain ⟨p, q, hA0, hV, rfl, hfz, hnd⟩ := hW
  have hA : DataW.TrodAll enc Tryz.prog W 0 (fun _ => true) true Tryz.f9.params.toList args.toList ds p := hA0
  rw [Tryz.params9] at hA hval
  obtain ⟨v0, vs0, d0, ds0, p0, q0, hargs0, rfl, rfl, h0, r0⟩ := trodAll_cons hA
  obtain ⟨v1, vs1, d1, ds1, p1, q1, hargs1, rfl, rfl, h1, r1⟩ := trodAll_cons r0
  obtain ⟨rfl, rfl, rfl⟩ := trodAll_nil r1
  obtain rfl : args = #[v0, v1] := by clear hL hval hW' hA0; cases args; simp_all
  obtain ⟨rfl, rfl⟩ := trodVars_none hV
  obtain ⟨a0, rfl, rfl, rfl, w0⟩ := open_int Tryz.underlying38 (hval 0 38 v0 rfl rfl) h0
  obtain ⟨a1, rfl, rfl, rfl, w1⟩ := open_int Tryz.underlying3 (hval 1 3 v1 rfl rfl) h1
  clear hA0
  simp only [List.append_nil] at hW'
  have walk := tables_any (rows_of_laid (by kernel_rfl) (.tail _ (.head _)) hL) a0 a1 (wf_u64 w0).1 (wf_u64 w0).2 (wf_i64 w1).1 (wf_i64 w1).2
  refine walk.mono fun e W' ⟨he, hk⟩ => ?_
  subst he
  exact ⟨_, rfl, _, _, _, [], [], [], hW', trodAll_cons_mk (shut_bool Tryz.underlying4 _) trodAll_mk0, (trodAll_cons_mk (shut_int Tryz.underlying38 w0) (trodAll_cons_mk (shut_int Tryz.underlying3 w1) trodAll_mk0)), rfl, kept_of hk _, fun h => by cases h⟩

theorem laid_met (os : Os) : laidMetH Tryz.prog Rows.tablesRow.laid ((World.laidAll Tryz.prog os Rows.tablesRow.laid).forCall (fun _ _ => 0) ⟨#[], #[.int .u64 0, .int .i64 0], []⟩).memory := by
  rw [MakeChecks.laidMetH_plain _ _ _ (by kernel_rfl)]
  exact laidMet_laidAll _ (by kernel_rfl) (by kernel_rfl)
theorem shaped (os : Os) : ((World.laidAll Tryz.prog os Rows.tablesRow.laid).forCall (fun _ _ => 0) ⟨#[], #[.int .u64 0, .int .i64 0], []⟩).Shaped Tryz.checked.prog := World.shaped_of_ZipB (by kernel_rfl) (by kernel_rfl)

set_option maxRecDepth 100000 in
theorem lifted (os : Os) (started : os.Started) (H : Type) (enc : TypeId × Value → H) :
    ReturnsInHanded {} Tryz.checked os 9 .any (fun w args => (Rows.tablesSpec.pre enc Tryz.prog Tryz.f9 Rows.tablesRow.domain false w args ∧ laidMetH Tryz.prog Rows.tablesRow.laid w) ∧ sizedMet enc Tryz.prog Tryz.f9 (OpenSpec.ofChange Rows.tablesSpec) false w args)
      (Rows.tablesSpec.post enc Tryz.prog Tryz.f9 false true false false) := by
  refine returnsInHanded_of_change_and (C := Tryz.checked) (X := fun w _ => laidMetH Tryz.prog Rows.tablesRow.laid w) (fun _ _ _ hh h => h.of_heap hh) own started (by kernel_rfl) Tryz.func9
    (ChangeSpec.witness_shaped (enc := enc) (C := Tryz.checked) (os := os) (X := fun w _ => laidMetH Tryz.prog Rows.tablesRow.laid w) false (World.laidAll Tryz.prog os Rows.tablesRow.laid) #[.int .u64 0, .int .i64 0] 8 (World.laidAll_os _ _ _)
      (shaped os) (by kernel_rfl) (by kernel_rfl) (by kernel_rfl) (laid_met os)) ?_
  intro W base args ds gs before hval hW _ _ hL _
  exact contract H enc W base args ds gs before hval hW hL

theorem said : Rows.TablesSaid :=
  OpenClaim.holds_of_wide 9 Tryz.f9 rfl rfl rfl rfl rfl rfl rfl ⟨rfl, rfl, rfl, rfl, rfl⟩ rfl rfl rfl rfl rfl (by kernel_rfl) Tryz.func9 closed
    (of_decide_eq_true (by kernel_rfl)) (by unfold Func.isWrapper; first | (rw [if_pos (by decide +kernel)]; kernel_rfl) | (rw [if_neg (by decide +kernel)]; exact ⟨rfl, rfl⟩))
    (fun os started H enc _ => lifted os started H enc)

theorem plain (f : FuncId) (fn : Func) (hf : Tryz.pinned.checked.prog.funcNamed "stoker/stokerkeep.Tables" = some f) (hfn : Tryz.pinned.checked.prog.funcs[f]? = some fn) :
    false = Tryz.pinned.checked.prog.looks [] ∧ ∀ (j : Nat) t, fn.params[j]? = some t → Tryz.pinned.checked.prog.wantsStandIn t = false := by
  obtain rfl : f = 9 := Option.some.inj ((show Tryz.prog.funcNamed "stoker/stokerkeep.Tables" = some 9 by kernel_rfl).symm.trans hf) |>.symm
  obtain rfl : fn = Tryz.f9 := (Option.some.inj (Tryz.func9.symm.trans hfn)).symm
  refine ⟨by kernel_rfl, fun j t ht => ?_⟩
  rw [Tryz.params9] at ht
  have hm := Array.mem_of_getElem? ht
  simp only [List.mem_toArray, List.mem_cons, List.mem_nil_iff, or_false] at hm
  rcases hm with rfl | rfl
  · exact (show Tryz.prog.wantsStandIn 38 = false by kernel_rfl)
  · exact (show Tryz.prog.wantsStandIn 3 = false by kernel_rfl)

/-- The statement. -/
theorem card : Rows.TablesCardSaid :=
  Claim7.holds_tied_plain_at .later [] _ _ _ _ said (fun _ h => by cases h) (by kernel_rfl) (fun _ h => by cases h) tables_row_tie rfl ⟨rfl, rfl⟩ (by kernel_rfl) rfl plain (by kernel_rfl)
end Go.Proofs.YtdeplgkhmebalaaGreatDoor.cTables
namespace Go.Proofs.YtdeplgkhmebalaaGreatDoor
theorem tables_card : Rows.TablesCardSaid := cTables.card
end Go.Proofs.YtdeplgkhmebalaaGreatDoor
