/- Numbers of a width: the tables. -/
import Derived.Test.YtdeplgkhmebalaaGreatDoorP07
import Derived.Laws.EntriesVeiled

namespace Go.Proofs.YtdeplgkhmebalaaGreatDoor
open Go.RowKit
set_option maxHeartbeats 800000 in
theorem wroundL_any (wd : Bool) (a b : Int) (c : Nat) (hc : byR wd b = c) (hcw : c ≤ wN wd) (w0 : World) : Calls Tryz.prog 252 #[wV wd, .int .u64 a, .int .u64 b] w0 fun r w' => r = .returned (.tuple #[.int .u64 (roundR wd a c), .int .i64 0]) ∧ w' = w0 := by
  have h0 := fun W => wby_any wd b W
  rw [hc] at h0
  have h3 := fun W => wround_any wd a c hcw W
  generalize roundR wd a c = R at *
  generalize wV wd = v at *
  have H0 := hide h0
  have H3 := hide h3
  clear h0 h3 hc
  go_enter Tryz.func252, Tryz.ntmps252
  go_wp2_with fail
  refine (H0.out _).mono ?_
  rintro e w1 ⟨rfl, rfl⟩
  go_wp2_with fail
  refine (H3.out _).mono ?_
  rintro e w1 ⟨rfl, rfl⟩
  go_wp2
  go_ret2
  exact ⟨rfl, rfl⟩
set_option maxHeartbeats 800000 in
theorem wroundR_any (wd : Bool) (a b : Int) (c : Nat) (hc : byR wd b = c) (hcw : c ≤ wN wd) (w0 : World) : Calls Tryz.prog 253 #[wV wd, .int .u64 a, .int .u64 b] w0 fun r w' => r = .returned (.tuple #[.int .u64 (roundR wd a (wN wd - c)), .int .i64 0]) ∧ w' = w0 := by
  have h0 := fun W => wby_any wd b W
  rw [hc] at h0
  have h3 := fun W => wround_any wd a (wN wd - c) (by omega) W
  generalize roundR wd a (wN wd - c) = R at *
  have hw : wV wd = .int .u64 (wN wd) := by cases wd <;> rfl
  rw [hw] at h0 h3 ⊢
  have h64 : wN wd ≤ 64 := by cases wd <;> decide
  have hwr : IntKind.u64.wrap (((wN wd : Nat) : Int) - (c : Int)) = ((wN wd - c : Nat) : Int) := by
    rw [IntKind.wrap_u64]; omega
  have H0 := hide h0
  have H3 := hide h3
  clear h0 h3 hc hw
  obtain ⟨d, hdd⟩ : ∃ d, d = wN wd - c := ⟨_, rfl⟩
  rw [← hdd] at hwr H3
  clear hdd
  generalize wN wd = n at *
  go_enter Tryz.func253, Tryz.ntmps253
  go_wp2_with fail
  refine (H0.out _).mono ?_
  rintro e w1 ⟨rfl, rfl⟩
  go_wp2_with fail
  refine (H3.out _).mono ?_
  rintro e w1 ⟨rfl, rfl⟩
  go_wp2
  go_ret2
  exact ⟨rfl, rfl⟩
def compareR (wd : Bool) (k : Nat) (a b : Int) : Bool :=
  match k with
  | 0 => a == b
  | 1 => a != b
  | 2 => decide (signR wd a < signR wd b)
  | 3 => decide (a < b)
  | 4 => decide (signR wd b < signR wd a)
  | 5 => decide (b < a)
  | 6 => decide (signR wd a ≤ signR wd b)
  | 7 => decide (a ≤ b)
  | 8 => decide (signR wd b ≤ signR wd a)
  | _ => decide (b ≤ a)
def cmpF (k : Nat) : Nat := match k with
  | 0 => 226
  | 1 => 227
  | 2 => 228
  | 3 => 229
  | 4 => 230
  | 5 => 231
  | 6 => 232
  | 7 => 233
  | 8 => 234
  | _ => 235
theorem cmpF_any (wd : Bool) (k : Nat) (hk : k < 10) (a b : Int) (w0 : World) : Calls Tryz.prog (cmpF k) #[wV wd, .int .u64 a, .int .u64 b] w0 fun r w' => r = .returned (.bool (compareR wd k a b)) ∧ w' = w0 := by
  match k, hk with
  | 0, _ => exact wsame_any _ a b w0
  | 1, _ => exact wother_any _ a b w0
  | 2, _ => exact wlessSigned_any wd a b w0
  | 3, _ => exact wless_any _ a b w0
  | 4, _ => exact wgreaterSigned_any wd a b w0
  | 5, _ => exact wgreater_any _ a b w0
  | 6, _ => exact watMostSigned_any wd a b w0
  | 7, _ => exact watMost_any _ a b w0
  | 8, _ => exact watLeastSigned_any wd a b w0
  | 9, _ => exact watLeast_any _ a b w0
set_option maxRecDepth 100000 in
set_option maxHeartbeats 2000000 in
theorem wcompare_any (wd : Bool) (k : Nat) (hk : k < 10) (a b : Int) (w0 : World) : Calls Tryz.prog 201 #[wV wd, .int .u8 k, .int .u64 a, .int .u64 b] w0 fun r w' => r = .returned (.bool (compareR wd k a b)) ∧ Kp no w0 w' := by
  have h1 := fun W => cmpF_any wd k hk a b W
  generalize compareR wd k a b = R at *
  generalize wV wd = v at *
  have H1 := hide h1
  clear h1
  go_enter Tryz.func201, Tryz.ntmps201
  go_upto_region 2 with fail
  rcases (by omega : k = 0 ∨ k = 1 ∨ k = 2 ∨ k = 3 ∨ k = 4 ∨ k = 5 ∨ k = 6 ∨ k = 7 ∨ k = 8 ∨ k = 9) with rfl | rfl | rfl | rfl | rfl | rfl | rfl | rfl | rfl | rfl
  all_goals
    go_wp2_with fail
    refine (H1.out _).mono ?_
    rintro e w1 ⟨rfl, rfl⟩
    go_wp2
    go_ret
    exact ⟨rfl, (Kp.refl _ _).alloc _⟩
def combineR (wd : Bool) (k : Nat) (a b : Int) : Option (Int × Nat) :=
  match k with
  | 0 => some (cutR wd (IntKind.u64.wrap (a + b)), 0)
  | 1 => some (cutR wd (IntKind.u64.wrap (a - b)), 0)
  | 2 => some (cutR wd (IntKind.u64.wrap (a * b)), 0)
  | 3 => if b = 0 then some (0, 2) else if signR wd b = 0 then none else if a = leastR wd ∧ signR wd b = -1 then some (0, 3) else some (cutR wd (IntKind.u64.wrap (wrap64 ((signR wd a).tdiv (signR wd b)))), 0)
  | 4 => if b = 0 then some (0, 2) else some (IntKind.u64.wrap (a.tdiv b), 0)
  | 5 => if b = 0 then some (0, 2) else if signR wd b = 0 then none else some (cutR wd (IntKind.u64.wrap ((signR wd a).tmod (signR wd b))), 0)
  | 6 => if b = 0 then some (0, 2) else some (a.tmod b, 0)
  | 7 => some (bits BinOp.and IntKind.u64 a b, 0)
  | 8 => some (bits BinOp.or IntKind.u64 a b, 0)
  | 9 => some (bits BinOp.xor IntKind.u64 a b, 0)
  | 10 => if b < 0 then none else some (cutR wd (IntKind.u64.wrap (a * 2 ^ (byR wd b).toNat)), 0)
  | 11 => if b < 0 then none else some (cutR wd (IntKind.u64.wrap (signR wd a / 2 ^ (byR wd b).toNat)), 0)
  | 12 => if b < 0 then none else some (a / 2 ^ (byR wd b).toNat, 0)
  | 13 => if b < 0 then none else some (roundR wd a (byR wd b).toNat, 0)
  | 14 => if b < 0 then none else some (roundR wd a (wN wd - (byR wd b).toNat), 0)
  | _ => none
def combF (k : Nat) : Nat := match k with
  | 0 => 239
  | 1 => 240
  | 2 => 241
  | 3 => 242
  | 4 => 243
  | 5 => 244
  | 6 => 245
  | 7 => 246
  | 8 => 247
  | 9 => 248
  | 10 => 249
  | 11 => 250
  | 12 => 251
  | 13 => 252
  | _ => 253
theorem byR_nat {wd : Bool} {b : Int} (h : ¬ b < 0) : byR wd b = ((byR wd b).toNat : Int) ∧ (byR wd b).toNat < wN wd := by
  have h0 : 0 ≤ b := by omega
  unfold byR wN
  rw [Int.tmod_eq_emod_of_nonneg h0]
  cases wd
  · simp only [Bool.false_eq_true, if_false]; omega
  · simp only [if_true]; omega
theorem wN_le (wd : Bool) : wN wd ≤ 64 := by cases wd <;> decide
theorem combF_any (wd : Bool) (k : Nat) (hk : k < 15) (a b : Int) (w0 : World) {v : Int} {t : Nat} (hm : combineR wd k a b = some (v, t)) : Calls Tryz.prog (combF k) #[wV wd, .int .u64 a, .int .u64 b] w0 fun r w' => r = .returned (.tuple #[.int .u64 v, .int .i64 t]) ∧ w' = w0 := by
  have h64 := wN_le wd
  match k, hk with
  | 0, _ => cases hm; exact wsum_any wd a b w0
  | 1, _ => cases hm; exact wdifference_any wd a b w0
  | 2, _ => cases hm; exact wproduct_any wd a b w0
  | 3, _ =>
    simp only [combineR] at hm
    split at hm
    · rename_i h; cases hm; subst h; exact wquotientS_zero _ a w0
    · rename_i h
      split at hm
      · cases hm
      · rename_i hs
        split at hm
        · rename_i ho; cases hm; rw [ho.1]; exact wquotientS_over wd b h ho.2 w0
        · rename_i ho; cases hm; exact wquotientS_any wd a b h hs ho w0
  | 4, _ =>
    simp only [combineR] at hm
    split at hm
    · rename_i h; cases hm; subst h; exact wquotient_zero _ a w0
    · rename_i h; cases hm; exact wquotient_any _ a b h w0
  | 5, _ =>
    simp only [combineR] at hm
    split at hm
    · rename_i h; cases hm; subst h; exact wrestS_zero _ a w0
    · rename_i h
      split at hm
      · cases hm
      · rename_i hs; cases hm; exact wrestS_any wd a b h hs w0
  | 6, _ =>
    simp only [combineR] at hm
    split at hm
    · rename_i h; cases hm; subst h; exact wrest_zero _ a w0
    · rename_i h; cases hm; exact wrest_any _ a b h w0
  | 7, _ => cases hm; exact wand_any _ a b w0
  | 8, _ => cases hm; exact wor_any _ a b w0
  | 9, _ => cases hm; exact wxor_any _ a b w0
  | 10, _ =>
    simp only [combineR] at hm
    split at hm
    · cases hm
    · rename_i h; cases hm; exact wleft_any wd a b _ (byR_nat h).1 (by have := (byR_nat (wd := wd) h).2; omega) w0
  | 11, _ =>
    simp only [combineR] at hm
    split at hm
    · cases hm
    · rename_i h; cases hm; exact wrightS_any wd a b _ (byR_nat h).1 (by have := (byR_nat (wd := wd) h).2; omega) w0
  | 12, _ =>
    simp only [combineR] at hm
    split at hm
    · cases hm
    · rename_i h; cases hm; exact wright_any wd a b _ (byR_nat h).1 (by have := (byR_nat (wd := wd) h).2; omega) w0
  | 13, _ =>
    simp only [combineR] at hm
    split at hm
    · cases hm
    · rename_i h; cases hm; exact wroundL_any wd a b _ (byR_nat h).1 (Nat.le_of_lt (byR_nat h).2) w0
  | 14, _ =>
    simp only [combineR] at hm
    split at hm
    · cases hm
    · rename_i h; cases hm; exact wroundR_any wd a b _ (byR_nat h).1 (Nat.le_of_lt (byR_nat h).2) w0
set_option maxRecDepth 100000 in
set_option maxHeartbeats 2000000 in
theorem wcombine_any (wd : Bool) (k : Nat) (hk : k < 15) (a b : Int) (w0 : World) {x : Int} {t : Nat} (hm : combineR wd k a b = some (x, t)) : Calls Tryz.prog 205 #[wV wd, .int .u8 k, .int .u64 a, .int .u64 b] w0 fun r w' => r = .returned (.tuple #[.int .u64 x, .int .i64 t]) ∧ Kp no w0 w' := by
  have h1 := fun W => combF_any wd k hk a b W hm
  generalize wV wd = v at *
  have H1 := hide h1
  clear h1 hm
  go_enter Tryz.func205, Tryz.ntmps205
  go_upto_region 2 with fail
  rcases (by omega : k = 0 ∨ k = 1 ∨ k = 2 ∨ k = 3 ∨ k = 4 ∨ k = 5 ∨ k = 6 ∨ k = 7 ∨ k = 8 ∨ k = 9 ∨ k = 10 ∨ k = 11 ∨ k = 12 ∨ k = 13 ∨ k = 14) with rfl | rfl | rfl | rfl | rfl | rfl | rfl | rfl | rfl | rfl | rfl | rfl | rfl | rfl | rfl
  all_goals
    go_wp2_with fail
    refine (H1.out _).mono ?_
    rintro e w1 ⟨rfl, rfl⟩
    go_wp2
    go_ret2
    exact ⟨rfl, (Kp.refl _ _).alloc _⟩
end Go.Proofs.YtdeplgkhmebalaaGreatDoor
