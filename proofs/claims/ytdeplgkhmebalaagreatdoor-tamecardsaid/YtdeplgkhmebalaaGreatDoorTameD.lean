/- The run of a module's code: a byte with its sign; bits that are counted. -/
import Derived.Test.YtdeplgkhmebalaaGreatDoorP26
import Derived.Test.YtdeplgkhmebalaaGreatDoorTameA
import Derived.Test.YtdeplgkhmebalaaGreatDoorP27

namespace Go.Proofs.YtdeplgkhmebalaaGreatDoor
open Go.RowKit
def sgnV (v : Int) : Int := cutR false (IntKind.u64.wrap (IntKind.i8.wrap v))
def getSgnR (s : Mc) (num : Nat) : Option (Nat × Mc) :=
  if addrOk s num = false then none
  else if s.mem.length < (topR s).toNat + num + 1 then some (4, popR s)
  else some (0, putR (popR s) (sgnV (leTo s ((topR s).toNat + num) 1)))
section
variable {E : MEnv} {w : World} {s : Mc}
set_option maxRecDepth 100000 in
set_option maxHeartbeats 2000000 in
theorem getSgn_any (h : MSt E w s) (hs : s.stack.length ≤ 1000000000) {x : Ins} (hop : x.op = 44) {t : Nat} {s' : Mc} (hm : getSgnR s x.num = some (t, s')) :
    Calls Tryz.prog 166 #[ptrTo E.mb, insAgg x, .int .u64 1] w fun r w' => r = .returned (.int .i64 t) ∧ MSt E w' s' ∧ Kp (upm E) w w' := by
  obtain ⟨z, hzz⟩ : ∃ z : Nat, z = 1 := ⟨_, rfl⟩
  have hz0 : 0 < z := by omega
  have hz : z ≤ 8 := by omega
  rw [show (Value.int IntKind.u64 1) = .int .u64 ((z : Nat) : Int) by rw [hzz]; rfl]
  unfold getSgnR at hm
  rw [← hzz] at hm
  clear hzz
  split at hm
  · cases hm
  rename_i hok
  simp only [addrOk, Bool.not_eq_false, Bool.and_eq_true, decide_eq_true_eq] at hok
  obtain ⟨⟨⟨⟨hs0, ha0⟩, ha1⟩, hb1⟩, hml⟩ := hok
  obtain ⟨a, hat⟩ : ∃ a : Nat, topR s = (a : Int) := ⟨(topR s).toNat, by omega⟩
  have hro := h.roLo
  have hbx := h.box (insObj x)
  have hta : Calls Tryz.prog 73 #[ptrTo E.mb] (w.alloc (insObj x)).drew fun r w' => r = .returned (.int .u64 (topR s)) ∧ MSt (E.plus (fun b => b = w.heap.size)) w' (popR s) ∧ Kp (upm (E.plus (fun b => b = w.heap.size))) (w.alloc (insObj x)).drew w' := takeR_any (hbx.quiet ((Kp.refl no _).drew)) hs0 hs
  have hbo : ((w.alloc (insObj x)).drew).heap[w.heap.size]? = some (insObj x) := heap_alloc_new _ _
  rw [hat] at hm hta
  rw [show ((a : Int)).toNat = a by omega] at hm
  have hop' : ((x.op.toNat : Int) == 44) = true := by rw [hop]; rfl
  have hct : ∀ n W, Calls Tryz.prog 174 #[.int .u64 32, .int .u64 n] W fun r w' => r = .returned (.int .u64 (cutR false n)) ∧ w' = W := fun n W => cut_any false n W
  have HCt := hide hct
  clear hct
  have HT := hide hta
  have HBo := hide hbo
  have HM := hide hm
  have HRo := hide hro
  have hak : a < 4294967296 := by omega
  clear h hbx hta hbo hm hro hat ha0 ha1 hop
  go_enter Tryz.func166, Tryz.ntmps166
  go_wp2_with fail
  refine wp_region_S 12 (fun w' => w'.cell? ⟨w.heap.size, 1, none⟩ = some (.int .u64 x.num)) (by kernel_rfl) (n := 12) (listed := #[false, false, false, false, false, false, false, false, false, false, false, false]) rfl (by kernel_rfl) ?hS (fun hS => ?_)
  case hS => exact (cells_of HBo.out).1 1
  refine tk 0 [] rfl (by kernel_rfl) rfl (fun _ _ _ h => h) hS (fun _ h => by (try dsimp only at h); go_simp; all_goals with_reducible rfl) ?_
  simp only [pS]
  refine tk 1 [] rfl (by kernel_rfl) rfl (fun _ _ _ h => h) hS (fun _ h => by (try dsimp only at h); go_simp; all_goals with_reducible rfl) ?_
  simp only [pS]
  refine tk 3 [] rfl (by kernel_rfl) rfl (fun _ _ _ h => h) hS (fun _ h => by (try dsimp only at h); go_simp; all_goals with_reducible rfl) ?_
  simp only [pS]
  refine tk 4 [] rfl (by kernel_rfl) rfl (fun _ _ _ h => h) hS (fun _ h => by (try dsimp only at h); go_simp; all_goals with_reducible rfl) ?_
  simp only [pS]
  refine tk 5 [] rfl (by kernel_rfl) rfl (fun _ _ _ h => h) hS (fun _ h => by (try dsimp only at h); go_simp; all_goals with_reducible rfl) ?_
  simp only [pS]
  refine wpAnyS_one 2 (listed' := #[true, true, true, true, true, true, false, false, false, false, false, false]) rfl (by kernel_rfl) (by kernel_rfl) (fun K hK => ?_)
  refine step_call (by rfl) 73 _ _ (by rfl) enters_take _ (by rfl) HT.out ?_
  rintro e w1 ⟨rfl, h1, k1⟩
  have hb1' := k1.blk HBo.out (fun h => h (.inr rfl))
  refine ⟨_, rfl, hK _ _ ((cells_of hb1').1 1) (fun hS => ?_)⟩
  clear hK K
  simp only [pS]
  obtain ⟨sv, cv, hmo, -⟩ := h1.open
  obtain ⟨mv, gv, hst, ⟨adm, capm, hmv, hcapm⟩, -, hmem, -⟩ := h1.openS
  have hpm : (popR s).mem = s.mem := rfl
  rw [hpm] at hmv hcapm hmem
  subst hmv
  have hmo' : w1.heap[E.mb]? = some (.cells #[ptrTo E.fb, ptrTo E.sb, sv, cv, .int .i64 s.pos, .int .i64 s.fuel] 172) := hmo
  have hst' : w1.heap[E.sb]? = some (.cells #[.slice adm s.mem.length capm, gv, .map (some E.kb)] 125) := hst
  have HF := hide (h1.free HRo.out)
  have K1 := hide (upm_plus ((((Kp.refl no w).alloc (insObj x)).drew.any).trans k1))
  have hpl : (popR s).stack.length ≤ 1000000000 := Nat.le_trans (pop_len s) hs
  have hput := fun v => putR_any HF.out v hpl
  have HPut := hide hput
  obtain ⟨hbc, -⟩ := cells_of hb1'
  by_cases hlt : s.mem.length < a + x.num + z
  · have hm := HM.out
    rw [if_pos hlt] at hm
    simp only [Option.some.injEq, Prod.mk.injEq] at hm
    obtain ⟨rfl, rfl⟩ := hm
    have hre := reach_out hmo' hst' hml hak hb1 hz hlt
    clear hmo hst hmem hmo' hst' h1 k1 HM HT
    refine wpAnyS_one 6 (listed' := #[true, true, true, true, true, true, true, false, false, false, false, false]) rfl (by kernel_rfl) (by kernel_rfl) (fun K hK => ?_)
    refine step_call (by rfl) 200 _ _ (by rfl) enters_reach _ (by rfl) hre ?_
    rintro e w2 ⟨rfl, rfl⟩
    refine ⟨_, rfl, hK _ _ hS (fun hS => ?_)⟩
    clear hK K
    simp only [pS]
    refine tk 7 [] rfl (by kernel_rfl) rfl (fun _ _ _ h => h) hS (fun _ h => by (try dsimp only at h); go_simp; all_goals with_reducible rfl) ?_
    simp only [pS]
    refine tk 8 [] rfl (by kernel_rfl) rfl (fun _ _ _ h => h) hS (fun _ h => by (try dsimp only at h); go_simp; all_goals with_reducible rfl) ?_
    simp only [pS]
    refine tk 9 [] rfl (by kernel_rfl) rfl (fun _ _ _ h => h) hS (fun _ h => by (try dsimp only at h); go_simp; all_goals with_reducible rfl) ?_
    simp only [pS]
    refine tk 10 [] rfl (by kernel_rfl) rfl (fun _ _ _ h => h) hS (fun _ h => by (try dsimp only at h); go_simp; all_goals with_reducible rfl) ?_
    simp only [pS]
    refine tk 11 [] rfl (by kernel_rfl) rfl (fun _ _ _ h => h) hS (fun _ h => by (try dsimp only at h); go_simp; all_goals with_reducible rfl) ?_
    simp only [pS]
    refine wpAnyS_done (by kernel_rfl) ?_ _
    clear hS hre
    go_wp2
    go_ret
    exact ⟨rfl, HF.out, K1.out⟩
  · have hm := HM.out
    rw [if_neg hlt] at hm
    simp only [Option.some.injEq, Prod.mk.injEq] at hm
    obtain ⟨rfl, hs'⟩ := hm
    obtain ⟨-, ⟨hnil, hn0⟩ | ⟨g, cap', cur, hsl, -⟩⟩ := id hmem
    · omega
    cases hsl
    have hre := reach_in hmo' hst' hml hcapm hak hb1 hz0 hz (by omega)
    obtain ⟨p, hp⟩ : ∃ p, a + x.num = p := ⟨_, rfl⟩
    rw [hp] at hre hs' hlt
    have hcell : ∀ k, k < z → w1.cell? ⟨g, p + k, none⟩ = some (.int .u8 (memAt s p k).toNat) := by
      intro k hk
      obtain ⟨a', o', c', he, -, hc⟩ := RowAt.get (RowAt.own hmem) (k := p + k) (x := .int .u8 (memAt s p k).toNat) (by
        have hlt' : p + k < s.mem.length := by omega
        simp [byteCells', memAt, List.getD, hlt'])
      cases he
      rw [Nat.zero_add] at hc
      exact hc
    have HCe := hide hcell
    have HS' := hide hs'
    have hpl2 : p ≤ 1000000 := by omega
    clear hmo hst hmem hmo' hst' h1 k1 HM HT hcell hs' hp
    refine wpAnyS_one 6 (listed' := #[true, true, true, true, true, true, true, false, false, false, false, false]) rfl (by kernel_rfl) (by kernel_rfl) (fun K hK => ?_)
    refine step_call (by rfl) 200 _ _ (by rfl) enters_reach _ (by rfl) hre ?_
    rintro e w2 ⟨⟨c2, rfl, hc2⟩, rfl⟩
    refine ⟨_, rfl, hK _ _ hS (fun hS => ?_)⟩
    clear hK K
    simp only [pS]
    refine tk 7 [] rfl (by kernel_rfl) rfl (fun _ _ _ h => h) hS (fun _ h => by (try dsimp only at h); go_simp; all_goals with_reducible rfl) ?_
    simp only [pS]
    refine tk 8 [] rfl (by kernel_rfl) rfl (fun _ _ _ h => h) hS (fun _ h => by (try dsimp only at h); go_simp; all_goals with_reducible rfl) ?_
    simp only [pS]
    refine tk 9 [] rfl (by kernel_rfl) rfl (fun _ _ _ h => h) hS (fun _ h => by (try dsimp only at h); go_simp; all_goals with_reducible rfl) ?_
    simp only [pS]
    refine tk 10 [] rfl (by kernel_rfl) rfl (fun _ _ _ h => h) hS (fun _ h => by (try dsimp only at h); go_simp; all_goals with_reducible rfl) ?_
    simp only [pS]
    refine tk 11 [] rfl (by kernel_rfl) rfl (fun _ _ _ h => h) hS (fun _ h => by (try dsimp only at h); go_simp; all_goals with_reducible rfl) ?_
    simp only [pS]
    refine wpAnyS_done (by kernel_rfl) ?_ _
    clear hS hre
    go_wp2
    go_loopw [9, 26] (fun vv kv wr => ∃ k : Nat, k ≤ z ∧ kv = .int .i64 k ∧ vv = .int .u64 (leTo s p k) ∧ wr = w2) (fun _ kv _ => z - (intOf kv).toNat)
    case atStart => exact ⟨0, by omega, rfl, rfl, rfl⟩
    case round =>
      obtain ⟨k, hk, rfl, rfl, rfl⟩ := hrel
      by_cases hkz : k < z
      · have hc := HCe.out k hkz
        have hst := le_step (memAt s p k) (leTo s p k) k (leTo_lt s p k)
        have hlt2 : leTo s p (k + 1) = leTo s p k ||| (memAt s p k).toNat * 2 ^ (8 * k) % 18446744073709551616 := rfl
        rw [← hlt2] at hst
        obtain ⟨cb, hcb⟩ : ∃ cb, memAt s p k = cb := ⟨_, rfl⟩
        rw [hcb] at hc hst
        obtain ⟨v1, hv1⟩ : ∃ v1, leTo s p k = v1 := ⟨_, rfl⟩
        obtain ⟨v2, hv2⟩ : ∃ v2, leTo s p (k + 1) = v2 := ⟨_, rfl⟩
        rw [hv1, hv2] at hst
        rw [hv1]
        have HV2 := hide hv2
        have HSt := hide hst
        have hw8 : IntKind.i64.wrap (8 * (k : Int)) = 8 * (k : Int) := by rw [IntKind.wrap_i64]; omega
        have hwc : IntKind.u64.wrap (cb.toNat : Int) = (cb.toNat : Int) := by have := cb.toNat_lt; rw [IntKind.wrap_u64]; omega
        clear hcb hv1 hv2 hst hlt2
        go_wp2
        go_roundw
        case rel => exact ⟨k + 1, by omega, by go_num, by rw [HSt.out, HV2.out], trivial⟩
        case measure => simp [intOf]; omega
      · obtain rfl : k = z := by omega
        go_wp2_with fail
        refine (HCt.out _ _).mono ?_
        rintro r w3 ⟨rfl, rfl⟩
        go_wp2_with fail
        refine (HPut.out _).mono ?_
        rintro r w3 ⟨rfl, h3, k3⟩
        have H3 := hide h3
        have K3 := hide k3
        clear h3 k3
        go_wp2
        go_ret
        rw [← HS'.out]
        exact ⟨rfl, H3.out, K1.out.trans K3.out⟩
end
def countB (wd : Bool) (k : Nat) (s : Mc) : Option (Nat × Mc) :=
  if s.stack.length = 0 ∨ topR s < 0 ∨ 18446744073709551616 ≤ topR s then none else some (0, putR (popR s) (IntKind.u64.wrap (countR wd k (topR s))))
def stepT (f : Flat) (s : Mc) (x : Ins) : Option (Nat × Mc) :=
  if x.op = 44 then getSgnR s x.num
  else if 103 ≤ x.op.toNat ∧ x.op.toNat ≤ 105 then countB false (x.op.toNat - 103) s
  else if 121 ≤ x.op.toNat ∧ x.op.toNat ≤ 123 then countB true (x.op.toNat - 121) s
  else stepR f s x
section
variable {E : MEnv} {w : World} {s : Mc}
def TabE (E : MEnv) (w : World) : Prop := TabW w ∧ E.lo 2
theorem TabE.kp {E : MEnv} {w w' : World} (h : TabE E w) (k : Kp (upm E) w w') : TabE E w' := ⟨h.1.kp k (fun hn => hn h.2), h.2⟩
theorem getSgn_plus {P : Nat → Prop} (h : MSt (E.plus P) w s) (hs : s.stack.length ≤ 1000000000) {x : Ins} (hop : x.op = 44) {t : Nat} {s' : Mc} (hm : getSgnR s x.num = some (t, s')) :
    Calls Tryz.prog 166 #[ptrTo E.mb, insAgg x, .int .u64 1] w fun r w' => r = .returned (.int .i64 t) ∧ MSt (E.plus P) w' s' ∧ Kp (upm (E.plus P)) w w' := getSgn_any h hs hop hm
set_option maxRecDepth 100000 in
set_option maxHeartbeats 2000000 in
theorem memory44_any (h : MSt E w s) (hs : s.stack.length ≤ 1000000000) {x : Ins} (hop : x.op = 44) {t : Nat} {s' : Mc} (hm : getSgnR s x.num = some (t, s')) :
    Calls Tryz.prog 133 #[ptrTo E.mb, insAgg x] w fun r w' => r = .returned (.int .i64 t) ∧ MSt E w' s' ∧ Kp (upm E) w w' := by
  have hro := h.roLo
  have hbx := h.box (insObj x)
  have kA : Kp (upm E) w (w.alloc (insObj x)) := (Kp.refl _ w).alloc _
  obtain ⟨op, num, goal, height, keep⟩ := x
  simp only at hop
  subst hop
  have HRo := hide hro
  have KA := hide kA
  have hc := getSgn_plus (x := ⟨44, num, goal, height, keep⟩) hbx hs rfl hm
  have HC := hide hc
  clear h hbx hm hc hro kA
  go_enter Tryz.func133, Tryz.ntmps133
  go_wp2_with fail
  refine HC.out.mono ?_
  rintro r w1 ⟨rfl, h1, k1⟩
  have H1 := hide (h1.free HRo.out)
  have K1 := hide (KA.out.trans (upm_plus k1))
  clear h1 k1 HC
  go_wp2
  go_ret
  exact ⟨rfl, H1.out, K1.out⟩
set_option maxRecDepth 100000 in
set_option maxHeartbeats 4000000 in
theorem reckon_count (h : MSt E w s) (hs : s.stack.length ≤ 1000000000) (hT : TabE E w) (wd : Bool) (k : Nat) (hk : k < 3) {t : Nat} {s' : Mc} (hm : countB wd k s = some (t, s')) :
    Calls Tryz.prog 137 #[ptrTo E.mb, .int .u8 ((if wd then 121 else 103) + k : Nat)] w fun r w' => r = .returned (.int .i64 t) ∧ MSt E w' s' ∧ Kp (upm E) w w' := by
  unfold countB at hm
  split at hm
  · cases hm
  rename_i hc
  cases hm
  have t1 := takeR_any h (by omega) hs
  have p1 := fun b W (hW : MSt E W (popR s)) => putR_any hW b (Nat.le_trans (pop_len s) hs)
  have c1 : ∀ W, Kp (upm E) w W → Calls Tryz.prog 172 #[wV wd, .int .u8 k, .int .u64 (topR s)] W fun r w' => r = .returned (.int .u64 (IntKind.u64.wrap (countR wd k (topR s)))) ∧ Kp no W w' := fun W kW => wcount_any wd k hk (topR s) W (by omega) (by omega) (hT.kp kW).1
  generalize IntKind.u64.wrap (countR wd k (topR s)) = R at *
  generalize topR s = a at *
  have T1 := hide t1
  have P1 := hide p1
  have C1 := hide c1
  clear h t1 p1 c1 hc hT
  cases wd
  · rcases (by omega : k = 0 ∨ k = 1 ∨ k = 2) with rfl | rfl | rfl
    all_goals
      go_enter Tryz.func137, Tryz.ntmps137
      go_wp2_with fail
      refine T1.out.mono ?_
      rintro e w1 ⟨rfl, h1, k1⟩
      go_wp2_with fail
      refine (C1.out _ k1).mono ?_
      rintro e w2 ⟨rfl, k2⟩
      go_wp2_with fail
      refine (P1.out _ _ (h1.quiet k2)).mono ?_
      rintro e w3 ⟨rfl, h3, k3⟩
      go_wp2
      go_ret
      exact ⟨rfl, h3, (k1.trans k2.any).trans k3⟩
  · rcases (by omega : k = 0 ∨ k = 1 ∨ k = 2) with rfl | rfl | rfl
    all_goals
      go_enter Tryz.func137, Tryz.ntmps137
      go_wp2_with fail
      refine T1.out.mono ?_
      rintro e w1 ⟨rfl, h1, k1⟩
      go_wp2_with fail
      refine (C1.out _ k1).mono ?_
      rintro e w2 ⟨rfl, k2⟩
      go_wp2_with fail
      refine (P1.out _ _ (h1.quiet k2)).mono ?_
      rintro e w3 ⟨rfl, h3, k3⟩
      go_wp2
      go_ret
      exact ⟨rfl, h3, (k1.trans k2.any).trans k3⟩
end
section
variable {E : MEnv} {w : World} {s : Mc}
set_option maxRecDepth 100000 in
set_option maxHeartbeats 1000000 in
theorem step44_any (h : MSt E w s) (hs : s.stack.length ≤ 1000000000) {x : Ins} (hop : x.op = 44) {t : Nat} {s' : Mc} (hm : getSgnR s x.num = some (t, s')) :
    Calls Tryz.prog 103 #[ptrTo E.mb, insAgg x] w fun r w' => r = .returned (.int .i64 t) ∧ MSt E w' s' ∧ Kp (upm E) w w' := by
  have hro := h.roLo
  have hbx := h.box (insObj x)
  have HRo := hide hro
  have hc : Calls Tryz.prog 133 #[ptrTo E.mb, insAgg x] (w.alloc (insObj x)) fun r w' => r = .returned (.int .i64 t) ∧ MSt (E.plus (fun b => b = w.heap.size)) w' s' ∧ Kp (upm (E.plus (fun b => b = w.heap.size))) (w.alloc (insObj x)) w' := memory44_any hbx hs hop hm
  have HC := hide hc
  obtain ⟨op, num, goal, height, keep⟩ := x
  simp only at HC hop
  subst hop
  clear h hbx hc hm hro
  go_enter Tryz.func103, Tryz.ntmps103
  go_wp2_with fail
  refine HC.out.mono ?_
  rintro e w1 ⟨rfl, h1, k1⟩
  go_wp2
  go_ret
  exact ⟨rfl, h1.free HRo.out, ((Kp.refl _ _).alloc _).trans (upm_plus k1)⟩
theorem TabE.plus {P : Nat → Prop} (h : TabE E w) : TabE (E.plus P) w := ⟨h.1, .inl h.2⟩
set_option maxRecDepth 100000 in
set_option maxHeartbeats 4000000 in
theorem stepC_any (h : MSt E w s) (hTab : TabE E w) (hs : s.stack.length ≤ 1000000000) {x : Ins} (wd : Bool) (k : Nat) (hk : k < 3) (hop : x.op.toNat = (if wd then 121 else 103) + k) {t : Nat} {s' : Mc} (hm : countB wd k s = some (t, s')) :
    Calls Tryz.prog 103 #[ptrTo E.mb, insAgg x] w fun r w' => r = .returned (.int .i64 t) ∧ MSt E w' s' ∧ Kp (upm E) w w' := by
  have hro := h.roLo
  have hbx := h.box (insObj x)
  have HRo := hide hro
  have hT2 : TabE E (w.alloc (insObj x)) := hTab.kp ((Kp.refl _ w).alloc _)
  have hc : Calls Tryz.prog 137 #[ptrTo E.mb, .int .u8 ((if wd then 121 else 103) + k : Nat)] (w.alloc (insObj x)) fun r w' => r = .returned (.int .i64 t) ∧ MSt (E.plus (fun b => b = w.heap.size)) w' s' ∧ Kp (upm (E.plus (fun b => b = w.heap.size))) (w.alloc (insObj x)) w' := reckon_count hbx hs hT2.plus wd k hk hm
  rw [← hop] at hc
  have HC := hide hc
  have hb1 : 103 ≤ x.op.toNat := by rw [hop]; split <;> omega
  have hb2 : x.op.toNat ≤ 123 := by rw [hop]; split <;> omega
  have n26 : ((x.op.toNat : Int) == 26) = false := by simp only [beq_eq_false_iff_ne]; omega
  have n27 : ((x.op.toNat : Int) == 27) = false := by simp only [beq_eq_false_iff_ne]; omega
  have n224 : ((x.op.toNat : Int) == 224) = false := by simp only [beq_eq_false_iff_ne]; omega
  have n225 : ((x.op.toNat : Int) == 225) = false := by simp only [beq_eq_false_iff_ne]; omega
  have n16 : ¬ ((x.op.toNat : Int) ≤ 16) := by omega
  have n36 : ¬ ((x.op.toNat : Int) ≤ 36) := by omega
  have n64 : ¬ ((x.op.toNat : Int) ≤ 64) := by omega
  have n66 : ¬ ((x.op.toNat : Int) ≤ 66) := by omega
  obtain ⟨op, num, goal, height, keep⟩ := x
  simp only at HC n26 n27 n224 n225 n16 n36 n64 n66
  clear h hbx hc hm hro hop hb1 hb2 hTab hT2 hk
  go_enter Tryz.func103, Tryz.ntmps103
  go_wp2_with fail
  refine HC.out.mono ?_
  rintro e w1 ⟨rfl, h1, k1⟩
  go_wp2
  go_ret
  exact ⟨rfl, h1.free HRo.out, ((Kp.refl _ _).alloc _).trans (upm_plus k1)⟩
theorem stepT_any (h : MSt E w s) (hTab : TabE E w) (hc1 : s.calls.length ≤ 16) (hs : s.stack.length ≤ 1000000000) (hgl : s.gl.length ≤ 1000000) (hok : E.f.Ok) {x : Ins} (hnum : x.op = 16 → x.num < 1000000) {t : Nat} {s' : Mc} (hm : stepT E.f s x = some (t, s')) :
    Calls Tryz.prog 103 #[ptrTo E.mb, insAgg x] w fun r w' => r = .returned (.int .i64 t) ∧ MSt E w' s' ∧ Kp (upm E) w w' := by
  unfold stepT at hm
  split at hm
  · rename_i hop; exact step44_any h hs hop hm
  split at hm
  · rename_i hop; exact stepC_any h hTab hs false (x.op.toNat - 103) (by omega) (by rw [if_neg (by decide)]; omega) hm
  split at hm
  · rename_i hop; exact stepC_any h hTab hs true (x.op.toNat - 121) (by omega) (by rw [if_pos rfl]; omega) hm
  · exact step_any' h hc1 hs hgl hok hnum hm
theorem getSgn_ok {N num t : Nat} {s' : Mc} (h : s.Ok N) (hm : getSgnR s num = some (t, s')) : s'.Ok (N + 1000) := by
  unfold getSgnR at hm
  split at hm
  · cases hm
  split at hm
  · cases hm; exact h.pop.le (by omega)
  · cases hm; exact (h.pop.put _).le (by omega)
theorem count_ok {N k t : Nat} {wd : Bool} {s' : Mc} (h : s.Ok N) (hm : countB wd k s = some (t, s')) : s'.Ok (N + 1000) := by
  unfold countB at hm
  split at hm
  · cases hm
  · cases hm; exact (h.pop.put _).le (by omega)
theorem stepT_ok {f : Flat} {N : Nat} (h : s.Ok N) {x : Ins} {t : Nat} {s' : Mc} (hm : stepT f s x = some (t, s')) : s'.Ok (N + 1000) := by
  unfold stepT at hm
  split at hm
  · exact getSgn_ok h hm
  split at hm
  · exact count_ok h hm
  split at hm
  · exact count_ok h hm
  · exact step_ok h hm (memory_ok h) (getKey_ok h) (setKey_ok h)
end
end Go.Proofs.YtdeplgkhmebalaaGreatDoor
