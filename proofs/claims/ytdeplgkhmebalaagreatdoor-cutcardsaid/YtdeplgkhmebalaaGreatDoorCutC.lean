/- A module that is cut off is none: the statement's own walk. -/
import Derived.Test.YtdeplgkhmebalaaGreatDoorCutB
import Derived.Test.YtdeplgkhmebalaaGreatDoorP33
import Derived.Deep.DeepCutAuto

namespace Go.Proofs.YtdeplgkhmebalaaGreatDoor
open Go.RowKit

theorem FnsAt.made2 {W : World} {f0 f1 : FnS} {x0 x1 x2 x3 x4 x5 x6 x7 : Value} (h0 : FnIn W f0 x0 x1 x2 x3) (h1 : FnIn W f1 x4 x5 x6 x7) (t : TypeId) :
    FnsAt (W.alloc (.cells #[x0, x1, x2, x3, x4, x5, x6, x7] t)) (.slice (some ⟨W.heap.size, 0, none⟩) 2 2) [f0, f1] := by
  have k : Kp no W (W.alloc (.cells #[x0, x1, x2, x3, x4, x5, x6, x7] t)) := (Kp.refl _ _).alloc _
  refine ⟨[x0, x1, x2, x3, x4, x5, x6, x7], RowAt.ofBlock (heap_alloc_new W (.cells #[x0, x1, x2, x3, x4, x5, x6, x7] t)) 2 4 rfl, fun j hj => ?_⟩
  match j, hj with
  | 0, _ => exact ⟨x0, x1, x2, x3, rfl, rfl, rfl, rfl, h0.kq k⟩
  | 1, _ => exact ⟨x4, x5, x6, x7, rfl, rfl, rfl, rfl, h1.kq k⟩
  | j + 2, h => exact absurd h (by simp)

set_option maxRecDepth 100000 in
set_option maxHeartbeats 4000000 in
theorem cutK_any {w : World} (hR : RowsOk w) (n t0 : Int) (h1 : -9223372036854775808 ≤ n) (h2 : n < 9223372036854775808) (h3 : -9223372036854775808 ≤ t0) (h4 : t0 < 9223372036854775808) :
    Calls Tryz.prog 5 #[.int .i64 n, .int .i64 t0] w fun r w' => r = .returned (.bool true) ∧ Kp no w w' := by
  obtain ⟨-, hLl⟩ := sof_B n h1 h2
  have hmod := cut_mod h1 h2
  have hmlen : (moduleB 2 [loFn, cutFn n]).length = 64 + (sB n).length := by
    rw [hmod, List.length_append, cut_len]
    simp [cutRest]
    omega
  obtain ⟨L, hL⟩ : ∃ L, (sB n).length = L := ⟨_, rfl⟩
  have hcl : (66 :: sB n).length = L + 1 := by simp [hL]
  rw [hL] at hmlen hLl
  have HMod := hide hmod
  have HMl := hide hmlen
  have HLe := hide hL
  have HR := hide hR
  clear hmod hmlen hR hL
  go_enter Tryz.func5, Tryz.ntmps5
  go_wp2_with fail
  refine (sums_keep w).mono ?_
  rintro r w1 ⟨⟨x0, x1, x2, x3, rfl, b0, b1, b2, b3⟩, k1⟩
  obtain ⟨ad0, cp0, hx0, -⟩ := b0.shape
  obtain ⟨ad1, cp1, hx1, -⟩ := b1.shape
  obtain ⟨ad2, cp2, hx2, -⟩ := b2.shape
  obtain ⟨ad3, cp3, hx3, -⟩ := b3.shape
  subst hx0 hx1 hx2 hx3
  have B0 := hide b0
  have B1 := hide b1
  have B2 := hide b2
  have B3 := hide b3
  have K1 := hide k1
  clear b0 b1 b2 b3 k1
  go_wp2_with fail
  refine (oneK_any _ 126).mono ?_
  rintro r w2 ⟨⟨v2, rfl, h2'⟩, k2⟩
  obtain ⟨a2, c2, hv2, -⟩ := h2'.at.shape
  subst hv2
  have H2 := hide h2'
  have K2 := hide k2
  clear h2' k2
  go_wp2_with fail
  refine (sK_any _ n h1 h2).mono ?_
  rintro r w3 ⟨⟨v3, rfl, h3'⟩, k3⟩
  obtain ⟨a3, c3, hv3, -⟩ := h3'.at.shape
  subst hv3
  have H66 := hide ((NB.made w2 [66] (by simp [maxLen])).at.kq k3)
  have hj := join_2 (W := w3) H66.out h3'.at (by rw [List.length_append]; have := HLe.out; simp; omega)
  have HJ := hide hj
  have K3 := hide (((Kp.refl no w2).alloc (.cells (bcs [66]).toArray 5)).trans k3)
  clear hj h3' k3
  go_wp2_with fail
  refine HJ.out.mono ?_
  rintro r w4 ⟨⟨v4, rfl, h4'⟩, k4⟩
  obtain ⟨a4, c4, hv4, -⟩ := h4'.at.shape
  have hl4 : ([66] ++ sB n).length = L + 1 := by have := HLe.out; simp; omega
  rw [hl4] at hv4
  subst hv4
  have H4 := hide h4'
  have K4 := hide k4
  have hb5 := k4.blk (K3.out.blk (K2.out.blk (heap_alloc_new w1 (.cells #[.slice ad0 loFn.params.length cp0, .slice ad1 loFn.results.length cp1, .slice ad2 loFn.locals.length cp2, .slice ad3 loFn.code.length cp3] 27)) (fun h => h)) (fun h => h)) (fun h => h)
  have hc5 := fun obj => (cells_of (heap_alloc_old (o := obj) hb5)).1
  have HB5 := hide hb5
  clear h4' k4 hb5 hl4
  have kq : Kp no w1 (w4.alloc (.cells #[.slice none 0 0, .slice a2 1 c2, .slice none 0 0, .slice a4 (L + 1) c4] 27)) := (((Kp.refl no w1).alloc _).trans (K2.out.trans (K3.out.trans K4.out))).alloc _
  have kr : Kp no w2 (w4.alloc (.cells #[.slice none 0 0, .slice a2 1 c2, .slice none 0 0, .slice a4 (L + 1) c4] 27)) := (K3.out.trans K4.out).alloc _
  have ks : Kp no w4 (w4.alloc (.cells #[.slice none 0 0, .slice a2 1 c2, .slice none 0 0, .slice a4 (L + 1) c4] 27)) := (Kp.refl _ _).alloc _
  have hF := FnsAt.made2 (f0 := loFn) (f1 := cutFn n) ⟨B0.out.kq kq, B1.out.kq kq, B2.out.kq kq, B3.out.kq kq⟩ ⟨RowAt.nil _ 1, H2.out.at.kq kr, RowAt.nil _ 1, H4.out.at.kq ks⟩ 27
  rw [show (w4.alloc (.cells #[.slice none 0 0, .slice a2 1 c2, .slice none 0 0, .slice a4 (L + 1) c4] 27)).heap.size = w4.heap.size + 1 by simp] at hF
  have hM := module_keep (pages := 2) hF (by simp) (by omega) (by rw [HMl.out]; omega)
  have HM := hide hM
  have HB6 := hide (heap_alloc_new w4 (.cells #[.slice none 0 0, .slice a2 1 c2, .slice none 0 0, .slice a4 (L + 1) c4] 27))
  have KQ := hide (K1.out.trans (kq.alloc (.cells #[.slice ad0 loFn.params.length cp0, .slice ad1 loFn.results.length cp1, .slice ad2 loFn.locals.length cp2, .slice ad3 loFn.code.length cp3, .slice none 0 0, .slice a2 1 c2, .slice none 0 0, .slice a4 (L + 1) c4] 27)))
  clear hF hM kq kr ks
  go_wp2_with fail
  refine HM.out.mono ?_
  rintro r w5 ⟨⟨v5, rfl, h5'⟩, k5⟩
  obtain ⟨a5, c5, hv5, -⟩ := h5'.at.shape
  rw [HMl.out] at hv5
  subst hv5
  have hb6 := k5.blk (heap_alloc_old HB6.out) (fun h => h)
  have hb5 := k5.blk (heap_alloc_old (heap_alloc_old HB5.out)) (fun h => h)
  have hc6 := (cells_of hb6).1
  have hc5' := (cells_of hb5).1
  have K5 := hide (KQ.out.trans k5)
  have hbytes := h5'.at
  rw [HMod.out] at hbytes
  have hS := cut_started h1 h2 hbytes h5'.lt (HR.out.kp K5.out)
  have HBy := hide hbytes
  have HLt := hide h5'.lt
  have HS := hide hS
  clear hb6 hb5 hbytes hS h5' k5 HM HB5 HB6 hc5 KQ
  go_wp2_with fail
  have e8 : (64 : Int) + (L : Int) - ((L : Int) + 1) - 3 = 60 := by omega
  rw [e8]
  have e36 : (loFn.code.length : Int) = 36 := rfl
  have e9 : wrap64 (wrap64 (60 - (loFn.code.length : Int)) - 4) = 20 := by rw [e36]; unfold wrap64; omega
  rw [e9]
  refine HS.out.mono ?_
  rintro r w6 ⟨⟨ib, tb, rfl, hI⟩, k6⟩
  have hg := cut_gives h1 h2 hI
  have HG := hide hg
  have K6 := hide k6
  have hib := hI.ib
  have htb := hI.tb
  clear hg hI k6 HS hc6 hc5' e8 e9 e36
  go_wp2_with fail
  have hun : IntKind.u64.wrap n = (((n % 18446744073709551616).toNat : Nat) : Int) := by rw [IntKind.wrap_u64]; omega
  rw [hun]
  refine HG.out.mono ?_
  rintro r w7 ⟨rfl, k7⟩
  have k57 : Kp no w5 w7 := K6.out.comp k7 (fun _ _ h => h) (fun b hb h => by rcases h with rfl | rfl <;> omega)
  have K7 := hide k57
  have hk : pickM t0 (64 + L) < 64 + L := Nat.mod_lt _ (by omega)
  have hpk := pickK_any w7 t0 (64 + L) h3 h4 (by omega) (by omega)
  generalize pickM t0 (64 + L) = k at *
  have HPk := hide hpk
  clear hpk hun k57 k7 HG K6 hib htb
  go_wp2_with fail
  refine HPk.out.mono ?_
  rintro r w8 ⟨rfl, hw⟩
  rw [hw]
  clear hw w8 HPk
  obtain ⟨p1, hp1⟩ : ∃ p1 : Nat, p1 = if 20 < k ∧ k < 60 then 20 else k := ⟨_, rfl⟩
  have HP1 := hide hp1
  clear hp1
  go_upto_region 12 with fail
  go_cut [64, 65, 66, 67, 68, 69, 70, 71] (fun _ _ _ _ _ _ _ z wx => z = .bool (decide (20 < k) && decide (k < 60)) ∧ w7 = wx)
  case first =>
    by_cases h20 : 20 < k
    · by_cases h60 : k < 60
      · go_wp2_with fail
        go_meet
        exact ⟨by simp [h20, h60]; omega, rfl⟩
      · go_wp2_with fail
        go_meet
        exact ⟨by simp [h20, h60]; omega, rfl⟩
    · go_wp2_with fail
      go_meet
      exact ⟨by simp [h20], rfl⟩
  case rest =>
  obtain ⟨rfl, rfl⟩ := hcut
  go_upto_if 71 with fail
  go_cut [72, 15] (fun _ z wx => z = .int .i64 (p1 : Int) ∧ w7 = wx)
  case first =>
    by_cases hb : 20 < k ∧ k < 60
    · have hb' : (decide (20 < k) && decide (k < 60)) = true := by simp [hb]
      go_wp2_with fail
      go_meet
      exact ⟨by rw [HP1.out, if_pos hb]; rfl, rfl⟩
    · have hb' : (decide (20 < k) && decide (k < 60)) = false := by
        rw [Bool.eq_false_iff]; intro e; simp only [Bool.and_eq_true, decide_eq_true_eq] at e; exact hb e
      go_wp2_with fail
      go_meet
      exact ⟨by rw [HP1.out, if_neg hb], rfl⟩
  case rest =>
  obtain ⟨rfl, rfl⟩ := hcut
  go_upto_if 75 with fail
  go_cut [76, 15] (fun _ z wx => z = .int .i64 (cutPlace k : Int) ∧ w7 = wx)
  case first =>
    by_cases hb : 60 < k
    · go_wp2_with fail
      go_meet
      exact ⟨by unfold cutPlace; rw [if_pos hb]; rfl, rfl⟩
    · go_wp2_with fail
      go_meet
      exact ⟨by unfold cutPlace; rw [if_neg hb, HP1.out], rfl⟩
  case rest =>
  obtain ⟨rfl, rfl⟩ := hcut
  have hD : (cutHead ++ cutRest n []).length = 64 + L := by rw [← HMod.out]; exact HMl.out
  have hby := HBy.out.kq K7.out
  obtain ⟨a, o, cap, hv, hcap, -⟩ := BytesAt.get hby (k := 0) (by omega)
  simp only [Value.slice.injEq] at hv
  obtain ⟨rfl, -, rfl⟩ := hv
  rw [hD] at hcap
  have hlt : a < w7.heap.size := Nat.lt_of_lt_of_le (HLt.out a rfl) K7.out.size
  have hrows : RowsOk w7 := HR.out.kp (K5.out.trans K7.out)
  have hm1 : BytesAt w7 (.slice (some ⟨a, o, none⟩) k c5) ((cutHead ++ cutRest n []).take k) := by simpa using hby.mid 0 k (by omega) (by omega)
  have hra := refused_keep (e := 2) (at' := cutPlace k) hm1 (fun b hb => by cases hb; exact hlt) hrows (by rw [List.length_take]; omega) (cut_prefix h1 h2 (by have := HLe.out; omega))
  have HRa := hide hra
  have HBy7 := hide hby
  have HRo := hide hrows
  clear hra hby hrows hm1 HBy HLt
  go_wp2_with fail
  refine HRa.out.mono ?_
  rintro r w9 ⟨rfl, k9⟩
  have hz : (w9.alloc (.cells #[.int .u8 0] 5)).heap.size = w9.heap.size + 1 := by simp
  have hmade : NB w9 (w9.alloc (.cells #[.int .u8 0] 5)) (.slice (some ⟨w9.heap.size, 0, none⟩) 1 1) [0] := NB.made w9 [0] (by simp [maxLen])
  have k9' := k9.trans ((Kp.refl no w9).alloc (.cells #[.int .u8 0] 5))
  have hj := join_2 (W := w9.alloc (.cells #[.int .u8 0] 5)) (HBy7.out.kq k9') hmade.at (by rw [List.length_append, hD]; simp; omega)
  rw [hz] at hj
  have HJ2 := hide hj
  have K9 := hide k9'
  have K9a := hide k9
  clear hj k9 k9' HRa hz hmade
  go_wp2_with fail
  refine HJ2.out.mono ?_
  rintro r w10 ⟨⟨v10, rfl, h10⟩, k10⟩
  obtain ⟨a10, c10, hv10, -⟩ := h10.at.shape
  have hl10 : (cutHead ++ cutRest n [] ++ [0]).length = 65 + L := by rw [List.length_append, hD]; simp; omega
  rw [hl10] at hv10
  subst hv10
  have hb10 := h10.at
  rw [show cutHead ++ cutRest n [] ++ [0] = cutHead ++ cutRest n [0] by simp [cutRest]] at hb10 hl10
  have hrb := refused_keep (e := 2) (at' := 64 + L) hb10 h10.lt (HRo.out.kp (K9.out.trans k10)) (by rw [hl10]; omega) (by rw [cut_load h1 h2 [0] (by simp), if_neg (by simp), HLe.out]; rfl)
  rw [show ((64 + L : Nat) : Int) = 64 + (L : Int) by omega] at hrb
  have HRb := hide hrb
  have K10 := hide (K9.out.trans k10)
  clear hrb h10 hb10 k10 HJ2 K9 K9a hl10
  go_wp2_with fail
  refine HRb.out.mono ?_
  rintro r w11 ⟨rfl, k11⟩
  have hz : (w11.alloc (.cells #[.int .u8 83, .int .u8 84, .int .u8 75, .int .u8 2] 5 (4, 5))).heap.size = w11.heap.size + 1 := by simp
  have hmade : BytesAt (w11.alloc (.cells #[.int .u8 83, .int .u8 84, .int .u8 75, .int .u8 2] 5 (4, 5))) (.slice (some ⟨w11.heap.size, 0, none⟩) 4 4) [83, 84, 75, 2] := by
    refine ⟨rfl, .inr ⟨w11.heap.size, 0, 4, rfl, Nat.le_refl _, fun j x hj => ?_⟩⟩
    rw [Nat.zero_add, World.cell?_alloc_mark]
    simpa using hj
  have hcv := Lib.run_convert_bytes_const (P := Tryz.prog) w11 25 5 #[.int .u8 83, .int .u8 84, .int .u8 75, .int .u8 2] 4 4 Tryz.underlying25 Tryz.underlying5
  have k11' := (K10.out.trans k11).trans ((Kp.refl no w11).alloc (.cells #[.int .u8 83, .int .u8 84, .int .u8 75, .int .u8 2] 5 (4, 5)))
  have hm4 := (HBy7.out.kq k11').mid 4 (64 + L) (by omega) (by omega)
  have hl4 : (((cutHead ++ cutRest n []).take (64 + L)).drop 4).length = 60 + L := by rw [List.length_drop, List.length_take, hD]; omega
  have hj := join_2 (W := w11.alloc (.cells #[.int .u8 83, .int .u8 84, .int .u8 75, .int .u8 2] 5 (4, 5))) hmade hm4 (by rw [List.length_append, hl4]; simp; omega)
  rw [hz] at hj
  have HJ3 := hide hj
  have K11 := hide k11'
  have HL4 := hide hl4
  clear hj k11 k11' HRb hz hmade hm4 hl4 K10
  go_wp2_with fail
  refine HJ3.out.mono ?_
  rintro r w12 ⟨⟨v12, rfl, h12⟩, k12⟩
  obtain ⟨a12, c12, hv12, -⟩ := h12.at.shape
  have hl12 : ([83, 84, 75, 2] ++ ((cutHead ++ cutRest n []).take (64 + L)).drop 4).length = 64 + L := by rw [List.length_append, HL4.out]; simp; omega
  rw [hl12] at hv12
  subst hv12
  have hrc := refused_keep (e := 2) (at' := 3) h12.at h12.lt (HRo.out.kp (K11.out.trans k12)) (by rw [hl12]; omega) (cut_two _ (by rw [HL4.out]; omega))
  have HRc := hide hrc
  have K12 := hide (K11.out.trans k12)
  clear hrc h12 k12 HJ3 K11 hl12 hcv
  go_wp2_with fail
  refine HRc.out.mono ?_
  rintro r w13 ⟨rfl, k13⟩
  have K13 := hide (K5.out.trans (K7.out.trans (K12.out.trans k13)))
  clear k13 HRc
  go_wp2
  go_ret
  exact ⟨rfl, K13.out⟩
end Go.Proofs.YtdeplgkhmebalaaGreatDoor
