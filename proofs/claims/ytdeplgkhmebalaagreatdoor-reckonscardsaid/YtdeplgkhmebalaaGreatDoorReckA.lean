/- What is reckoned: numbers cut, signed, masked. -/
import Derived.Test.YtdeplgkhmebalaaGreatDoorP09
import Derived.Laws.Bits64
import Derived.Laws.Bits64b
import Derived.Test.YtdeplgkhmebalaaGreatDoorP10
import Derived.Test.YtdeplgkhmebalaaGreatDoorP26

namespace Go.Proofs.YtdeplgkhmebalaaGreatDoor
open Go.RowKit

def top (wd : Bool) : Nat := if wd then 18446744073709551616 else 4294967296
def sgn (wd : Bool) (a : Nat) : Int := if 2 * a < top wd then (a : Int) else (a : Int) - (top wd : Int)
theorem signR_eq (wd : Bool) {a : Nat} (ha : a < top wd) : signR wd (a : Int) = sgn wd a := by
  cases wd
  · simp only [top, Bool.false_eq_true, if_false] at ha
    unfold signR sgn top
    simp only [Bool.false_eq_true, if_false]
    rw [IntKind.wrap_u64]
    unfold wrap64
    split <;> omega
  · simp only [top, if_true] at ha
    unfold signR sgn top
    simp only [if_true]
    rw [IntKind.wrap_u64]
    unfold wrap64
    split <;> omega
theorem cutR_eq (wd : Bool) {v : Nat} (_hv : v < 18446744073709551616) : cutR wd (v : Int) = ((v % top wd : Nat) : Int) := by
  cases wd
  · unfold cutR top
    simp only [Bool.false_eq_true, if_false]
    rw [IntKind.wrap_u64]
    omega
  · unfold cutR top
    simp only [if_true]
    rw [IntKind.wrap_u64]
    omega
theorem mask_eq (wd : Bool) {v : Nat} (hv : v < 18446744073709551616) : bits BinOp.and IntKind.u64 (v : Int) (((top wd - 1 : Nat)) : Int) = ((v % top wd : Nat) : Int) := by
  cases wd
  · rw [bits_and_u64_nat v (top false - 1) hv (by decide)]
    congr 1
    show v &&& (2 ^ 32 - 1) = v % 2 ^ 32
    exact Nat.and_two_pow_sub_one_eq_mod v 32
  · rw [bits_and_u64_nat v (top true - 1) hv (by decide)]
    congr 1
    show v &&& (2 ^ 64 - 1) = v % 2 ^ 64
    exact Nat.and_two_pow_sub_one_eq_mod v 64
theorem mask_wide {z : Int} (h0 : 0 ≤ z) (h1 : z < 18446744073709551616) : bits BinOp.and IntKind.u64 z 18446744073709551615 = cutR true z := by
  obtain ⟨n, rfl⟩ : ∃ n : Nat, z = n := ⟨z.toNat, by omega⟩
  exact (mask_eq true (by omega)).trans (cutR_eq true (by omega)).symm
theorem mask_narrow {z : Int} (h0 : 0 ≤ z) (h1 : z < 18446744073709551616) : bits BinOp.and IntKind.u64 z 4294967295 = cutR false z := by
  obtain ⟨n, rfl⟩ : ∃ n : Nat, z = n := ⟨z.toNat, by omega⟩
  exact (mask_eq false (by omega)).trans (cutR_eq false (by omega)).symm
theorem cutR_id (wd : Bool) {n : Nat} (h : n < top wd) : cutR wd (n : Int) = (n : Int) := by
  have h' : n < 18446744073709551616 := by
    cases wd
    · simp only [top, Bool.false_eq_true, if_false] at h
      omega
    · simpa only [top, if_true] using h
  rw [cutR_eq wd h', Nat.mod_eq_of_lt h]
theorem u64_rng (z : Int) : 0 ≤ IntKind.u64.wrap z ∧ IntKind.u64.wrap z < 18446744073709551616 := by
  rw [IntKind.wrap_u64]
  omega
end Go.Proofs.YtdeplgkhmebalaaGreatDoor

namespace Go.Proofs.YtdeplgkhmebalaaGreatDoor
open Go.RowKit
/-- What the law's reckoning gives is what the program's does. -/
def Rk (wd : Bool) (k : Nat) (a b : Int) (r : Ending) : Prop := ∃ v t, combineR wd k a b = some (v, t) ∧ r = .returned (.tuple #[.int .u64 v, .int .i64 ((t : Nat) : Int)])

set_option maxRecDepth 100000 in
set_option maxHeartbeats 1000000 in
theorem res0_true (w : World) (a b : Nat) (_ha : a < top true) (_hb : b < top true) : Calls Tryz.prog 26 #[.int .i64 0, .int .u64 a, .int .u64 b, .bool false] w fun r w' => Rk true 0 a b r ∧ w' = w := by
  clear _ha _hb
  go_enter Tryz.func26, Tryz.ntmps26
  go_wp2
  go_ret2
  refine ⟨⟨_, 0, ?_, rfl⟩, rfl⟩
  rw [mask_wide (u64_rng _).1 (u64_rng _).2]
  rfl

set_option maxRecDepth 100000 in
set_option maxHeartbeats 1000000 in
theorem res1_true (w : World) (a b : Nat) (_ha : a < top true) (_hb : b < top true) : Calls Tryz.prog 26 #[.int .i64 1, .int .u64 a, .int .u64 b, .bool false] w fun r w' => Rk true 1 a b r ∧ w' = w := by
  clear _ha _hb
  go_enter Tryz.func26, Tryz.ntmps26
  go_wp2
  go_ret2
  refine ⟨⟨_, 0, ?_, rfl⟩, rfl⟩
  rw [mask_wide (u64_rng _).1 (u64_rng _).2]
  rfl

set_option maxRecDepth 100000 in
set_option maxHeartbeats 1000000 in
theorem res2_true (w : World) (a b : Nat) (_ha : a < top true) (_hb : b < top true) : Calls Tryz.prog 26 #[.int .i64 2, .int .u64 a, .int .u64 b, .bool false] w fun r w' => Rk true 2 a b r ∧ w' = w := by
  clear _ha _hb
  go_enter Tryz.func26, Tryz.ntmps26
  go_wp2
  go_ret2
  refine ⟨⟨_, 0, ?_, rfl⟩, rfl⟩
  rw [mask_wide (u64_rng _).1 (u64_rng _).2]
  rfl

set_option maxRecDepth 100000 in
set_option maxHeartbeats 1000000 in
theorem res0_false (w : World) (a b : Nat) (_ha : a < top false) (_hb : b < top false) : Calls Tryz.prog 26 #[.int .i64 0, .int .u64 a, .int .u64 b, .bool true] w fun r w' => Rk false 0 a b r ∧ w' = w := by
  clear _ha _hb
  go_enter Tryz.func26, Tryz.ntmps26
  go_wp2
  go_ret2
  refine ⟨⟨_, 0, ?_, rfl⟩, rfl⟩
  rw [mask_narrow (u64_rng _).1 (u64_rng _).2]
  rfl

set_option maxRecDepth 100000 in
set_option maxHeartbeats 1000000 in
theorem res1_false (w : World) (a b : Nat) (_ha : a < top false) (_hb : b < top false) : Calls Tryz.prog 26 #[.int .i64 1, .int .u64 a, .int .u64 b, .bool true] w fun r w' => Rk false 1 a b r ∧ w' = w := by
  clear _ha _hb
  go_enter Tryz.func26, Tryz.ntmps26
  go_wp2
  go_ret2
  refine ⟨⟨_, 0, ?_, rfl⟩, rfl⟩
  rw [mask_narrow (u64_rng _).1 (u64_rng _).2]
  rfl

set_option maxRecDepth 100000 in
set_option maxHeartbeats 1000000 in
theorem res2_false (w : World) (a b : Nat) (_ha : a < top false) (_hb : b < top false) : Calls Tryz.prog 26 #[.int .i64 2, .int .u64 a, .int .u64 b, .bool true] w fun r w' => Rk false 2 a b r ∧ w' = w := by
  clear _ha _hb
  go_enter Tryz.func26, Tryz.ntmps26
  go_wp2
  go_ret2
  refine ⟨⟨_, 0, ?_, rfl⟩, rfl⟩
  rw [mask_narrow (u64_rng _).1 (u64_rng _).2]
  rfl
end Go.Proofs.YtdeplgkhmebalaaGreatDoor

namespace Go.Proofs.YtdeplgkhmebalaaGreatDoor
open Go.RowKit
theorem top_le (wd : Bool) : top wd ≤ 18446744073709551616 := by cases wd <;> simp [top]
theorem sgn_rng (wd : Bool) {a : Nat} (ha : a < top wd) : -9223372036854775808 ≤ sgn wd a ∧ sgn wd a < 9223372036854775808 := by
  cases wd
  · simp only [top, Bool.false_eq_true, if_false] at ha
    unfold sgn top
    simp only [Bool.false_eq_true, if_false]
    split <;> omega
  · simp only [top, if_true] at ha
    unfold sgn top
    simp only [if_true]
    split <;> omega
theorem sgn_zero (wd : Bool) {a : Nat} (ha : a < top wd) : sgn wd a = 0 ↔ a = 0 := by
  cases wd
  · simp only [top, Bool.false_eq_true, if_false] at ha
    unfold sgn top
    simp only [Bool.false_eq_true, if_false]
    split <;> omega
  · simp only [top, if_true] at ha
    unfold sgn top
    simp only [if_true]
    split <;> omega
theorem sgn_least (wd : Bool) {a : Nat} (ha : a < top wd) : (a : Int) = leastR wd ↔ sgn wd a = if wd then -9223372036854775808 else -2147483648 := by
  cases wd
  · simp only [top, Bool.false_eq_true, if_false] at ha
    unfold sgn top leastR
    simp only [Bool.false_eq_true, if_false]
    split <;> omega
  · simp only [top, if_true] at ha
    unfold sgn top leastR
    simp only [if_true]
    split <;> omega
theorem conv_wide {a : Nat} (ha : a < top true) : IntKind.i64.wrap (a : Int) = sgn true a := by
  simp only [top, if_true] at ha
  unfold sgn top
  simp only [if_true]
  rw [IntKind.wrap_i64]
  split <;> omega
theorem conv_n1 {a : Nat} (ha : a < top false) : IntKind.u32.wrap (a : Int) = (a : Int) := by
  simp only [top, Bool.false_eq_true, if_false] at ha
  rw [IntKind.wrap_u32]
  omega
theorem conv_n2 {a : Nat} (ha : a < top false) : IntKind.i32.wrap (a : Int) = sgn false a := by
  simp only [top, Bool.false_eq_true, if_false] at ha
  unfold sgn top
  simp only [Bool.false_eq_true, if_false]
  rw [IntKind.wrap_i32]
  split <;> omega
theorem conv_n3 {X : Int} (h1 : -9223372036854775808 ≤ X) (h2 : X < 9223372036854775808) : IntKind.i64.wrap X = X := by
  rw [IntKind.wrap_i64]
  omega

set_option maxRecDepth 100000 in
set_option maxHeartbeats 1000000 in
theorem res3_true (w : World) (a b : Nat) (ha : a < top true) (hb : b < top true) : Calls Tryz.prog 26 #[.int .i64 3, .int .u64 a, .int .u64 b, .bool false] w fun r w' => Rk true 3 a b r ∧ w' = w := by
  have hX := sgn_rng true ha
  have hY := sgn_rng true hb
  have hsa := signR_eq true ha
  have hsb := signR_eq true hb
  have hz := sgn_zero true hb
  have hle := sgn_least true ha
  have hxw := conv_wide ha
  have hyw := conv_wide hb
  generalize sgn true a = X at *
  generalize sgn true b = Y at *
  obtain ⟨hX1, hX2⟩ := hX
  obtain ⟨hY1, hY2⟩ := hY
  have HSa := hide hsa
  have HSb := hide hsb
  have HZ := hide hz
  have HLe := hide hle
  have HA := hide ha
  have HB := hide hb
  clear hsa hsb hz hle ha hb
  by_cases hb0 : b = 0
  · subst hb0
    go_enter Tryz.func26, Tryz.ntmps26
    go_wp2
    go_ret2
    exact ⟨⟨0, 2, rfl, rfl⟩, rfl⟩
  have hY0 : Y ≠ 0 := fun e => hb0 (HZ.out.1 e)
  by_cases hl : X = -9223372036854775808 ∧ Y = -1
  · obtain ⟨hl1, hl2⟩ := hl
    subst hl1 hl2
    go_enter Tryz.func26, Tryz.ntmps26
    go_wp2
    go_ret2
    refine ⟨⟨0, 3, ?_, rfl⟩, rfl⟩
    unfold combineR
    simp only [HSa.out, HSb.out]
    rw [if_neg (by omega), if_neg (by omega), if_pos ⟨HLe.out.2 (by simp), trivial⟩]
  have hcm : combineR true 3 a b = some (cutR true (IntKind.u64.wrap (wrap64 (X.tdiv Y))), 0) := by
    unfold combineR
    simp only [HSa.out, HSb.out]
    rw [if_neg (by omega), if_neg hY0, if_neg (fun h => hl ⟨by have := HLe.out.1 h.1; simpa using this, h.2⟩)]
  have hwd : IntKind.i64.wrap (X.tdiv Y) = wrap64 (X.tdiv Y) := by rw [IntKind.wrap_i64]; unfold wrap64; rfl
  have HCm := hide hcm
  clear hcm
  obtain ⟨Q, hQ⟩ : ∃ Q, wrap64 (X.tdiv Y) = Q := ⟨_, rfl⟩
  rw [hQ] at HCm hwd
  have HQ := hide hQ
  clear hQ
  by_cases hl1 : X = -9223372036854775808
  · have hl2 : Y ≠ -1 := fun e => hl ⟨hl1, e⟩
    clear hl
    subst hl1
    go_enter Tryz.func26, Tryz.ntmps26
    go_wp2
    go_ret2
    refine ⟨⟨_, 0, ?_, rfl⟩, rfl⟩
    rw [HCm.out, mask_wide (u64_rng _).1 (u64_rng _).2]
    rw [← Int.neg_tdiv, HQ.out]
  · clear hl
    go_enter Tryz.func26, Tryz.ntmps26
    go_wp2
    go_ret2
    refine ⟨⟨_, 0, ?_, rfl⟩, rfl⟩
    rw [HCm.out, mask_wide (u64_rng _).1 (u64_rng _).2]

set_option maxRecDepth 100000 in
set_option maxHeartbeats 1000000 in
theorem res5_true (w : World) (a b : Nat) (ha : a < top true) (hb : b < top true) : Calls Tryz.prog 26 #[.int .i64 5, .int .u64 a, .int .u64 b, .bool false] w fun r w' => Rk true 5 a b r ∧ w' = w := by
  have hX := sgn_rng true ha
  have hY := sgn_rng true hb
  have hsa := signR_eq true ha
  have hsb := signR_eq true hb
  have hz := sgn_zero true hb
  have hle := sgn_least true ha
  have hxw := conv_wide ha
  have hyw := conv_wide hb
  generalize sgn true a = X at *
  generalize sgn true b = Y at *
  obtain ⟨hX1, hX2⟩ := hX
  obtain ⟨hY1, hY2⟩ := hY
  have HSa := hide hsa
  have HSb := hide hsb
  have HZ := hide hz
  have HLe := hide hle
  have HA := hide ha
  have HB := hide hb
  clear hsa hsb hz hle ha hb
  by_cases hb0 : b = 0
  · subst hb0
    go_enter Tryz.func26, Tryz.ntmps26
    go_wp2
    go_ret2
    exact ⟨⟨0, 2, rfl, rfl⟩, rfl⟩
  have hY0 : Y ≠ 0 := fun e => hb0 (HZ.out.1 e)
  have hcm : combineR true 5 a b = some (cutR true (IntKind.u64.wrap (X.tmod Y)), 0) := by
    unfold combineR
    simp only [HSa.out, HSb.out]
    rw [if_neg (by omega), if_neg hY0]
  have HCm := hide hcm
  clear hcm
  by_cases hl : Y = -1
  · subst hl
    go_enter Tryz.func26, Tryz.ntmps26
    go_wp2
    go_ret2
    refine ⟨⟨_, 0, ?_, rfl⟩, rfl⟩
    rw [HCm.out, mask_wide (by omega) (by omega)]
    simp [Int.tmod_neg, IntKind.wrap_u64]
  · 
    go_enter Tryz.func26, Tryz.ntmps26
    go_wp2
    go_ret2
    refine ⟨⟨_, 0, ?_, rfl⟩, rfl⟩
    rw [HCm.out, mask_wide (u64_rng _).1 (u64_rng _).2]

set_option maxRecDepth 100000 in
set_option maxHeartbeats 1000000 in
theorem res3_false (w : World) (a b : Nat) (ha : a < top false) (hb : b < top false) : Calls Tryz.prog 26 #[.int .i64 3, .int .u64 a, .int .u64 b, .bool true] w fun r w' => Rk false 3 a b r ∧ w' = w := by
  have hX := sgn_rng false ha
  have hY := sgn_rng false hb
  have hsa := signR_eq false ha
  have hsb := signR_eq false hb
  have hz := sgn_zero false hb
  have hle := sgn_least false ha
  have hxw := conv_n1 ha
  have hyw := conv_n1 hb
  have hxw2 := conv_n2 ha
  have hyw2 := conv_n2 hb
  generalize sgn false a = X at *
  generalize sgn false b = Y at *
  have hxw3 := conv_n3 hX.1 hX.2
  have hyw3 := conv_n3 hY.1 hY.2
  obtain ⟨hX1, hX2⟩ := hX
  obtain ⟨hY1, hY2⟩ := hY
  have HSa := hide hsa
  have HSb := hide hsb
  have HZ := hide hz
  have HLe := hide hle
  have HA := hide ha
  have HB := hide hb
  clear hsa hsb hz hle ha hb
  by_cases hb0 : b = 0
  · subst hb0
    go_enter Tryz.func26, Tryz.ntmps26
    go_wp2
    go_ret2
    exact ⟨⟨0, 2, rfl, rfl⟩, rfl⟩
  have hY0 : Y ≠ 0 := fun e => hb0 (HZ.out.1 e)
  by_cases hl : X = -2147483648 ∧ Y = -1
  · obtain ⟨hl1, hl2⟩ := hl
    subst hl1 hl2
    go_enter Tryz.func26, Tryz.ntmps26
    go_wp2
    go_ret2
    refine ⟨⟨0, 3, ?_, rfl⟩, rfl⟩
    unfold combineR
    simp only [HSa.out, HSb.out]
    rw [if_neg (by omega), if_neg (by omega), if_pos ⟨HLe.out.2 (by simp), trivial⟩]
  have hcm : combineR false 3 a b = some (cutR false (IntKind.u64.wrap (wrap64 (X.tdiv Y))), 0) := by
    unfold combineR
    simp only [HSa.out, HSb.out]
    rw [if_neg (by omega), if_neg hY0, if_neg (fun h => hl ⟨by have := HLe.out.1 h.1; simpa using this, h.2⟩)]
  have hwd : IntKind.i64.wrap (X.tdiv Y) = wrap64 (X.tdiv Y) := by rw [IntKind.wrap_i64]; unfold wrap64; rfl
  have HCm := hide hcm
  clear hcm
  obtain ⟨Q, hQ⟩ : ∃ Q, wrap64 (X.tdiv Y) = Q := ⟨_, rfl⟩
  rw [hQ] at HCm hwd
  have HQ := hide hQ
  clear hQ
  by_cases hl1 : X = -2147483648
  · have hl2 : Y ≠ -1 := fun e => hl ⟨hl1, e⟩
    clear hl
    subst hl1
    go_enter Tryz.func26, Tryz.ntmps26
    go_wp2
    go_ret2
    refine ⟨⟨_, 0, ?_, rfl⟩, rfl⟩
    rw [HCm.out, mask_narrow (u64_rng _).1 (u64_rng _).2]
    rw [← Int.neg_tdiv, HQ.out]
  · clear hl
    go_enter Tryz.func26, Tryz.ntmps26
    go_wp2
    go_ret2
    refine ⟨⟨_, 0, ?_, rfl⟩, rfl⟩
    rw [HCm.out, mask_narrow (u64_rng _).1 (u64_rng _).2]

set_option maxRecDepth 100000 in
set_option maxHeartbeats 1000000 in
theorem res5_false (w : World) (a b : Nat) (ha : a < top false) (hb : b < top false) : Calls Tryz.prog 26 #[.int .i64 5, .int .u64 a, .int .u64 b, .bool true] w fun r w' => Rk false 5 a b r ∧ w' = w := by
  have hX := sgn_rng false ha
  have hY := sgn_rng false hb
  have hsa := signR_eq false ha
  have hsb := signR_eq false hb
  have hz := sgn_zero false hb
  have hle := sgn_least false ha
  have hxw := conv_n1 ha
  have hyw := conv_n1 hb
  have hxw2 := conv_n2 ha
  have hyw2 := conv_n2 hb
  generalize sgn false a = X at *
  generalize sgn false b = Y at *
  have hxw3 := conv_n3 hX.1 hX.2
  have hyw3 := conv_n3 hY.1 hY.2
  obtain ⟨hX1, hX2⟩ := hX
  obtain ⟨hY1, hY2⟩ := hY
  have HSa := hide hsa
  have HSb := hide hsb
  have HZ := hide hz
  have HLe := hide hle
  have HA := hide ha
  have HB := hide hb
  clear hsa hsb hz hle ha hb
  by_cases hb0 : b = 0
  · subst hb0
    go_enter Tryz.func26, Tryz.ntmps26
    go_wp2
    go_ret2
    exact ⟨⟨0, 2, rfl, rfl⟩, rfl⟩
  have hY0 : Y ≠ 0 := fun e => hb0 (HZ.out.1 e)
  have hcm : combineR false 5 a b = some (cutR false (IntKind.u64.wrap (X.tmod Y)), 0) := by
    unfold combineR
    simp only [HSa.out, HSb.out]
    rw [if_neg (by omega), if_neg hY0]
  have HCm := hide hcm
  clear hcm
  by_cases hl : Y = -1
  · subst hl
    go_enter Tryz.func26, Tryz.ntmps26
    go_wp2
    go_ret2
    refine ⟨⟨_, 0, ?_, rfl⟩, rfl⟩
    rw [HCm.out, mask_narrow (by omega) (by omega)]
    simp [Int.tmod_neg, IntKind.wrap_u64]
  · 
    go_enter Tryz.func26, Tryz.ntmps26
    go_wp2
    go_ret2
    refine ⟨⟨_, 0, ?_, rfl⟩, rfl⟩
    rw [HCm.out, mask_narrow (u64_rng _).1 (u64_rng _).2]
end Go.Proofs.YtdeplgkhmebalaaGreatDoor

namespace Go.Proofs.YtdeplgkhmebalaaGreatDoor
open Go.RowKit
theorem top_pow (wd : Bool) : top wd = 2 ^ wN wd := by cases wd <;> rfl
theorem u64_id {n : Nat} (h : n < 18446744073709551616) : IntKind.u64.wrap (n : Int) = (n : Int) := by
  rw [IntKind.wrap_u64]
  omega
theorem or_rng (x y : Int) : 0 ≤ bits BinOp.or IntKind.u64 x y ∧ bits BinOp.or IntKind.u64 x y < 18446744073709551616 := by
  have h1 := bits_lo_u64 BinOp.or x y
  have h2 := bits_hi_u64 BinOp.or x y
  omega
theorem or_comm64 {x y : Int} (hx : 0 ≤ x) (hx2 : x < 18446744073709551616) (hy : 0 ≤ y) (hy2 : y < 18446744073709551616) : bits BinOp.or IntKind.u64 x y = bits BinOp.or IntKind.u64 y x := by
  obtain ⟨n, rfl⟩ : ∃ n : Nat, x = n := ⟨x.toNat, by omega⟩
  obtain ⟨m, rfl⟩ : ∃ m : Nat, y = m := ⟨y.toNat, by omega⟩
  rw [bits_or_u64_nat n m (by omega) (by omega), bits_or_u64_nat m n (by omega) (by omega), Nat.or_comm]
theorem pow_div (a c : Nat) : (a : Int) / 2 ^ c = ((a / 2 ^ c : Nat) : Int) := by
  rw [Int.natCast_ediv]
  simp
theorem mask_id_wide {n : Nat} (h : n < top true) : bits BinOp.and IntKind.u64 (n : Int) 18446744073709551615 = (n : Int) := by
  have h' : n < 18446744073709551616 := Nat.lt_of_lt_of_le h (top_le _)
  rw [mask_wide (by omega) (by omega), cutR_id true h]
theorem mask_id_narrow {n : Nat} (h : n < top false) : bits BinOp.and IntKind.u64 (n : Int) 4294967295 = (n : Int) := by
  have h' : n < 18446744073709551616 := Nat.lt_of_lt_of_le h (top_le _)
  rw [mask_narrow (by omega) (by omega), cutR_id false h]

set_option maxRecDepth 100000 in
set_option maxHeartbeats 1000000 in
theorem res4_true (w : World) (a b : Nat) (ha : a < top true) (hb : b < top true) : Calls Tryz.prog 26 #[.int .i64 4, .int .u64 a, .int .u64 b, .bool false] w fun r w' => Rk true 4 a b r ∧ w' = w := by
  have ha' : a < 18446744073709551616 := Nat.lt_of_lt_of_le ha (top_le _)
  have hb' : b < 18446744073709551616 := Nat.lt_of_lt_of_le hb (top_le _)
  have HA := hide ha
  have HB := hide hb
  clear ha hb
  by_cases hb0 : b = 0
  · subst hb0
    go_enter Tryz.func26, Tryz.ntmps26
    go_wp2
    go_ret2
    exact ⟨⟨0, 2, rfl, rfl⟩, rfl⟩
  · have hq : Int.tdiv (a : Int) (b : Int) = ((a / b : Nat) : Int) := by rw [Int.tdiv_eq_ediv_of_nonneg (by omega)]; rfl
    have hql : a / b < top true := Nat.lt_of_le_of_lt (Nat.div_le_self _ _) HA.out
    have hql' : a / b < 18446744073709551616 := Nat.lt_of_lt_of_le hql (top_le _)
    have hcm : combineR true 4 a b = some (((a / b : Nat) : Int), 0) := by
      unfold combineR
      simp only
      rw [if_neg (by omega), hq, u64_id hql']
    have hq2 : (a : Int) / (b : Int) = ((a / b : Nat) : Int) := rfl
    have hmk := mask_id_wide hql
    have HCm := hide hcm
    have HMk := hide hmk
    clear hcm hmk
    generalize a / b = q at *
    go_enter Tryz.func26, Tryz.ntmps26
    go_wp2
    go_ret2
    refine ⟨⟨_, 0, ?_, rfl⟩, rfl⟩
    rw [HCm.out, HMk.out]

set_option maxRecDepth 100000 in
set_option maxHeartbeats 1000000 in
theorem res6_true (w : World) (a b : Nat) (ha : a < top true) (hb : b < top true) : Calls Tryz.prog 26 #[.int .i64 6, .int .u64 a, .int .u64 b, .bool false] w fun r w' => Rk true 6 a b r ∧ w' = w := by
  have ha' : a < 18446744073709551616 := Nat.lt_of_lt_of_le ha (top_le _)
  have hb' : b < 18446744073709551616 := Nat.lt_of_lt_of_le hb (top_le _)
  have HA := hide ha
  have HB := hide hb
  clear ha hb
  by_cases hb0 : b = 0
  · subst hb0
    go_enter Tryz.func26, Tryz.ntmps26
    go_wp2
    go_ret2
    exact ⟨⟨0, 2, rfl, rfl⟩, rfl⟩
  · have hq : Int.tmod (a : Int) (b : Int) = ((a % b : Nat) : Int) := by rw [Int.tmod_eq_emod_of_nonneg (by omega)]; rfl
    have hql : a % b < top true := Nat.lt_of_le_of_lt (Nat.mod_le _ _) HA.out
    have hql' : a % b < 18446744073709551616 := Nat.lt_of_lt_of_le hql (top_le _)
    have hcm : combineR true 6 a b = some (((a % b : Nat) : Int), 0) := by
      unfold combineR
      simp only
      rw [if_neg (by omega), hq]
    have hq2 : (a : Int) % (b : Int) = ((a % b : Nat) : Int) := rfl
    have hmk := mask_id_wide hql
    have HCm := hide hcm
    have HMk := hide hmk
    clear hcm hmk
    generalize a % b = q at *
    go_enter Tryz.func26, Tryz.ntmps26
    go_wp2
    go_ret2
    refine ⟨⟨_, 0, ?_, rfl⟩, rfl⟩
    rw [HCm.out, HMk.out]

set_option maxRecDepth 100000 in
set_option maxHeartbeats 1000000 in
theorem res7_true (w : World) (a b : Nat) (ha : a < top true) (hb : b < top true) : Calls Tryz.prog 26 #[.int .i64 7, .int .u64 a, .int .u64 b, .bool false] w fun r w' => Rk true 7 a b r ∧ w' = w := by
  have ha' : a < 18446744073709551616 := Nat.lt_of_lt_of_le ha (top_le _)
  have hb' : b < 18446744073709551616 := Nat.lt_of_lt_of_le hb (top_le _)
  have HA := hide ha
  have HB := hide hb
  clear ha hb
  have hq : bits BinOp.and IntKind.u64 (a : Int) (b : Int) = ((a &&& b : Nat) : Int) := bits_and_u64_nat a b ha' hb'
  have hql : a &&& b < top true := by rw [top_pow]; exact Nat.and_lt_two_pow _ (by rw [← top_pow]; exact HB.out)
  have hcm : combineR true 7 a b = some (((a &&& b : Nat) : Int), 0) := by
    unfold combineR
    simp only
    rw [hq]
  have hmk := mask_id_wide hql
  have HCm := hide hcm
  have HMk := hide hmk
  clear hcm hmk hql
  generalize a &&& b = q at *
  go_enter Tryz.func26, Tryz.ntmps26
  go_wp2
  go_ret2
  refine ⟨⟨_, 0, ?_, rfl⟩, rfl⟩
  rw [HCm.out, HMk.out]

set_option maxRecDepth 100000 in
set_option maxHeartbeats 1000000 in
theorem res8_true (w : World) (a b : Nat) (ha : a < top true) (hb : b < top true) : Calls Tryz.prog 26 #[.int .i64 8, .int .u64 a, .int .u64 b, .bool false] w fun r w' => Rk true 8 a b r ∧ w' = w := by
  have ha' : a < 18446744073709551616 := Nat.lt_of_lt_of_le ha (top_le _)
  have hb' : b < 18446744073709551616 := Nat.lt_of_lt_of_le hb (top_le _)
  have HA := hide ha
  have HB := hide hb
  clear ha hb
  have hq : bits BinOp.or IntKind.u64 (a : Int) (b : Int) = ((a ||| b : Nat) : Int) := bits_or_u64_nat a b ha' hb'
  have hql : a ||| b < top true := by rw [top_pow]; exact Nat.or_lt_two_pow (by rw [← top_pow]; exact HA.out) (by rw [← top_pow]; exact HB.out)
  have hcm : combineR true 8 a b = some (((a ||| b : Nat) : Int), 0) := by
    unfold combineR
    simp only
    rw [hq]
  have hmk := mask_id_wide hql
  have HCm := hide hcm
  have HMk := hide hmk
  clear hcm hmk hql
  generalize a ||| b = q at *
  go_enter Tryz.func26, Tryz.ntmps26
  go_wp2
  go_ret2
  refine ⟨⟨_, 0, ?_, rfl⟩, rfl⟩
  rw [HCm.out, HMk.out]

set_option maxRecDepth 100000 in
set_option maxHeartbeats 1000000 in
theorem res9_true (w : World) (a b : Nat) (ha : a < top true) (hb : b < top true) : Calls Tryz.prog 26 #[.int .i64 9, .int .u64 a, .int .u64 b, .bool false] w fun r w' => Rk true 9 a b r ∧ w' = w := by
  have ha' : a < 18446744073709551616 := Nat.lt_of_lt_of_le ha (top_le _)
  have hb' : b < 18446744073709551616 := Nat.lt_of_lt_of_le hb (top_le _)
  have HA := hide ha
  have HB := hide hb
  clear ha hb
  have hq : bits BinOp.xor IntKind.u64 (a : Int) (b : Int) = ((a ^^^ b : Nat) : Int) := bits_xor_u64_nat a b ha' hb'
  have hql : a ^^^ b < top true := by rw [top_pow]; exact Nat.xor_lt_two_pow (by rw [← top_pow]; exact HA.out) (by rw [← top_pow]; exact HB.out)
  have hcm : combineR true 9 a b = some (((a ^^^ b : Nat) : Int), 0) := by
    unfold combineR
    simp only
    rw [hq]
  have hmk := mask_id_wide hql
  have HCm := hide hcm
  have HMk := hide hmk
  clear hcm hmk hql
  generalize a ^^^ b = q at *
  go_enter Tryz.func26, Tryz.ntmps26
  go_wp2
  go_ret2
  refine ⟨⟨_, 0, ?_, rfl⟩, rfl⟩
  rw [HCm.out, HMk.out]

set_option maxRecDepth 100000 in
set_option maxHeartbeats 1000000 in
theorem res10_true (w : World) (a b : Nat) (ha : a < top true) (hb : b < top true) : Calls Tryz.prog 26 #[.int .i64 10, .int .u64 a, .int .u64 b, .bool false] w fun r w' => Rk true 10 a b r ∧ w' = w := by
  have ha' : a < 18446744073709551616 := Nat.lt_of_lt_of_le ha (top_le _)
  have hb' : b < 18446744073709551616 := Nat.lt_of_lt_of_le hb (top_le _)
  have HA := hide ha
  have HB := hide hb
  clear ha hb
  have hm : (b : Int) % 64 = ((b % 64 : Nat) : Int) := rfl
  have hm2 : Int.tmod (b : Int) 64 = ((b % 64 : Nat) : Int) := by rw [Int.tmod_eq_emod_of_nonneg (by omega)]; rfl
  have hml : b % 64 < 64 := Nat.mod_lt _ (by decide)
  have hby : (byR true (b : Int)).toNat = b % 64 := by
    show (Int.tmod (b : Int) 64).toNat = b % 64
    rw [hm2]
    rfl
  generalize b % 64 = c at *
  have hcm : combineR true 10 a b = some (cutR true (IntKind.u64.wrap ((a : Int) * 2 ^ c)), 0) := by
    unfold combineR
    simp only
    rw [if_neg (by omega), hby]
  have HCm := hide hcm
  clear hcm hby
  go_enter Tryz.func26, Tryz.ntmps26
  go_wp2
  go_ret2
  refine ⟨⟨_, 0, ?_, rfl⟩, rfl⟩
  rw [HCm.out, mask_wide (u64_rng _).1 (u64_rng _).2]

set_option maxRecDepth 100000 in
set_option maxHeartbeats 1000000 in
theorem res11_true (w : World) (a b : Nat) (ha : a < top true) (hb : b < top true) : Calls Tryz.prog 26 #[.int .i64 11, .int .u64 a, .int .u64 b, .bool false] w fun r w' => Rk true 11 a b r ∧ w' = w := by
  have ha' : a < 18446744073709551616 := Nat.lt_of_lt_of_le ha (top_le _)
  have hb' : b < 18446744073709551616 := Nat.lt_of_lt_of_le hb (top_le _)
  have HA := hide ha
  have HB := hide hb
  clear ha hb
  have hX := sgn_rng true HA.out
  have hsa := signR_eq true HA.out
  have hxw := conv_wide HA.out
  have hyw := conv_wide HB.out
  generalize sgn true a = X at *
  generalize sgn true b = Y at *
  obtain ⟨hX1, hX2⟩ := hX
  have hm : (b : Int) % 64 = ((b % 64 : Nat) : Int) := rfl
  have hm2 : Int.tmod (b : Int) 64 = ((b % 64 : Nat) : Int) := by rw [Int.tmod_eq_emod_of_nonneg (by omega)]; rfl
  have hml : b % 64 < 64 := Nat.mod_lt _ (by decide)
  have hby : (byR true (b : Int)).toNat = b % 64 := by
    show (Int.tmod (b : Int) 64).toNat = b % 64
    rw [hm2]
    rfl
  generalize b % 64 = c at *
  have hcm : combineR true 11 a b = some (cutR true (IntKind.u64.wrap (X / 2 ^ c)), 0) := by
    unfold combineR
    simp only
    rw [if_neg (by omega), hby, hsa]
  have HCm := hide hcm
  clear hcm hby hsa
  go_enter Tryz.func26, Tryz.ntmps26
  go_wp2
  go_ret2
  refine ⟨⟨_, 0, ?_, rfl⟩, rfl⟩
  rw [HCm.out, mask_wide (u64_rng _).1 (u64_rng _).2]

set_option maxRecDepth 100000 in
set_option maxHeartbeats 1000000 in
theorem res12_true (w : World) (a b : Nat) (ha : a < top true) (hb : b < top true) : Calls Tryz.prog 26 #[.int .i64 12, .int .u64 a, .int .u64 b, .bool false] w fun r w' => Rk true 12 a b r ∧ w' = w := by
  have ha' : a < 18446744073709551616 := Nat.lt_of_lt_of_le ha (top_le _)
  have hb' : b < 18446744073709551616 := Nat.lt_of_lt_of_le hb (top_le _)
  have HA := hide ha
  have HB := hide hb
  clear ha hb
  have hm : (b : Int) % 64 = ((b % 64 : Nat) : Int) := rfl
  have hm2 : Int.tmod (b : Int) 64 = ((b % 64 : Nat) : Int) := by rw [Int.tmod_eq_emod_of_nonneg (by omega)]; rfl
  have hml : b % 64 < 64 := Nat.mod_lt _ (by decide)
  have hby : (byR true (b : Int)).toNat = b % 64 := by
    show (Int.tmod (b : Int) 64).toNat = b % 64
    rw [hm2]
    rfl
  generalize b % 64 = c at *
  have hcm : combineR true 12 a b = some (((a / 2 ^ c : Nat) : Int), 0) := by
    unfold combineR
    simp only
    rw [if_neg (by omega), hby, pow_div]
  have HCm := hide hcm
  clear hcm hby
  go_enter Tryz.func26, Tryz.ntmps26
  go_wp2
  go_ret2
  refine ⟨⟨_, 0, ?_, rfl⟩, rfl⟩
  rw [HCm.out, pow_div, mask_id_wide (Nat.lt_of_le_of_lt (Nat.div_le_self _ _) HA.out)]

set_option maxRecDepth 100000 in
set_option maxHeartbeats 1000000 in
theorem res13_true (w : World) (a b : Nat) (ha : a < top true) (hb : b < top true) : Calls Tryz.prog 26 #[.int .i64 13, .int .u64 a, .int .u64 b, .bool false] w fun r w' => Rk true 13 a b r ∧ Kp no w w' := by
  have ha' : a < 18446744073709551616 := Nat.lt_of_lt_of_le ha (top_le _)
  have hb' : b < 18446744073709551616 := Nat.lt_of_lt_of_le hb (top_le _)
  have HA := hide ha
  have HB := hide hb
  clear ha hb
  have hm : (b : Int) % 64 = ((b % 64 : Nat) : Int) := rfl
  have hm2 : Int.tmod (b : Int) 64 = ((b % 64 : Nat) : Int) := by rw [Int.tmod_eq_emod_of_nonneg (by omega)]; rfl
  have hml : b % 64 < 64 := Nat.mod_lt _ (by decide)
  have hby : (byR true (b : Int)).toNat = b % 64 := by
    show (Int.tmod (b : Int) 64).toNat = b % 64
    rw [hm2]
    rfl
  generalize b % 64 = c at *
  obtain ⟨d, hd⟩ : ∃ d, 64 - c = d := ⟨_, rfl⟩
  have hwn : wN true - c = d := hd
  have hwn2 : wN true - d = c := by show 64 - d = c; omega
  have hdl : d ≤ 64 := by omega
  have hwr : IntKind.u64.wrap (64 - (c : Int)) = (d : Int) := by rw [IntKind.wrap_u64]; omega
  have hdv : 0 ≤ (a : Int) / 2 ^ c ∧ (a : Int) / 2 ^ c < 18446744073709551616 := by
    rw [pow_div]
    have hle : a / 2 ^ c ≤ a := Nat.div_le_self _ _
    obtain ⟨z, hz⟩ : ∃ z, a / 2 ^ c = z := ⟨_, rfl⟩
    rw [hz] at hle ⊢
    omega
  have hcm : combineR true 13 a b = some (cutR true (bits BinOp.or IntKind.u64 (IntKind.u64.wrap ((a : Int) * 2 ^ c)) ((a : Int) / 2 ^ d)), 0) := by
    unfold combineR
    simp only
    rw [if_neg (by omega), hby]
    unfold roundR
    rw [hwn]
  have HCm := hide hcm
  clear hcm hby hwn hwn2 hdv hd
  go_enter Tryz.func26, Tryz.ntmps26
  go_wp2
  go_quiet (fail)
  go_wp2
  go_ret2
  refine ⟨⟨_, 0, ?_, rfl⟩, (Kp.refl _ _).drewN _⟩
  rw [HCm.out, mask_wide (or_rng _ _).1 (or_rng _ _).2]

set_option maxRecDepth 100000 in
set_option maxHeartbeats 1000000 in
theorem res14_true (w : World) (a b : Nat) (ha : a < top true) (hb : b < top true) : Calls Tryz.prog 26 #[.int .i64 14, .int .u64 a, .int .u64 b, .bool false] w fun r w' => Rk true 14 a b r ∧ Kp no w w' := by
  have ha' : a < 18446744073709551616 := Nat.lt_of_lt_of_le ha (top_le _)
  have hb' : b < 18446744073709551616 := Nat.lt_of_lt_of_le hb (top_le _)
  have HA := hide ha
  have HB := hide hb
  clear ha hb
  have hm : (b : Int) % 64 = ((b % 64 : Nat) : Int) := rfl
  have hm2 : Int.tmod (b : Int) 64 = ((b % 64 : Nat) : Int) := by rw [Int.tmod_eq_emod_of_nonneg (by omega)]; rfl
  have hml : b % 64 < 64 := Nat.mod_lt _ (by decide)
  have hby : (byR true (b : Int)).toNat = b % 64 := by
    show (Int.tmod (b : Int) 64).toNat = b % 64
    rw [hm2]
    rfl
  generalize b % 64 = c at *
  obtain ⟨d, hd⟩ : ∃ d, 64 - c = d := ⟨_, rfl⟩
  have hwn : wN true - c = d := hd
  have hwn2 : wN true - d = c := by show 64 - d = c; omega
  have hdl : d ≤ 64 := by omega
  have hwr : IntKind.u64.wrap (64 - (c : Int)) = (d : Int) := by rw [IntKind.wrap_u64]; omega
  have hdv : 0 ≤ (a : Int) / 2 ^ c ∧ (a : Int) / 2 ^ c < 18446744073709551616 := by
    rw [pow_div]
    have hle : a / 2 ^ c ≤ a := Nat.div_le_self _ _
    obtain ⟨z, hz⟩ : ∃ z, a / 2 ^ c = z := ⟨_, rfl⟩
    rw [hz] at hle ⊢
    omega
  have hcm : combineR true 14 a b = some (cutR true (bits BinOp.or IntKind.u64 ((a : Int) / 2 ^ c) (IntKind.u64.wrap ((a : Int) * 2 ^ d))), 0) := by
    unfold combineR
    simp only
    rw [if_neg (by omega), hby]
    unfold roundR
    rw [hwn, hwn2, or_comm64 (u64_rng _).1 (u64_rng _).2 hdv.1 hdv.2]
  have HCm := hide hcm
  clear hcm hby hwn hwn2 hdv hd
  go_enter Tryz.func26, Tryz.ntmps26
  go_wp2
  go_quiet (fail)
  go_wp2
  go_ret2
  refine ⟨⟨_, 0, ?_, rfl⟩, (Kp.refl _ _).drewN _⟩
  rw [HCm.out, mask_wide (or_rng _ _).1 (or_rng _ _).2]

set_option maxRecDepth 100000 in
set_option maxHeartbeats 1000000 in
theorem res4_false (w : World) (a b : Nat) (ha : a < top false) (hb : b < top false) : Calls Tryz.prog 26 #[.int .i64 4, .int .u64 a, .int .u64 b, .bool true] w fun r w' => Rk false 4 a b r ∧ w' = w := by
  have ha' : a < 18446744073709551616 := Nat.lt_of_lt_of_le ha (top_le _)
  have hb' : b < 18446744073709551616 := Nat.lt_of_lt_of_le hb (top_le _)
  have HA := hide ha
  have HB := hide hb
  clear ha hb
  by_cases hb0 : b = 0
  · subst hb0
    go_enter Tryz.func26, Tryz.ntmps26
    go_wp2
    go_ret2
    exact ⟨⟨0, 2, rfl, rfl⟩, rfl⟩
  · have hq : Int.tdiv (a : Int) (b : Int) = ((a / b : Nat) : Int) := by rw [Int.tdiv_eq_ediv_of_nonneg (by omega)]; rfl
    have hql : a / b < top false := Nat.lt_of_le_of_lt (Nat.div_le_self _ _) HA.out
    have hql' : a / b < 18446744073709551616 := Nat.lt_of_lt_of_le hql (top_le _)
    have hcm : combineR false 4 a b = some (((a / b : Nat) : Int), 0) := by
      unfold combineR
      simp only
      rw [if_neg (by omega), hq, u64_id hql']
    have hq2 : (a : Int) / (b : Int) = ((a / b : Nat) : Int) := rfl
    have hmk := mask_id_narrow hql
    have HCm := hide hcm
    have HMk := hide hmk
    clear hcm hmk
    generalize a / b = q at *
    go_enter Tryz.func26, Tryz.ntmps26
    go_wp2
    go_ret2
    refine ⟨⟨_, 0, ?_, rfl⟩, rfl⟩
    rw [HCm.out, HMk.out]

set_option maxRecDepth 100000 in
set_option maxHeartbeats 1000000 in
theorem res6_false (w : World) (a b : Nat) (ha : a < top false) (hb : b < top false) : Calls Tryz.prog 26 #[.int .i64 6, .int .u64 a, .int .u64 b, .bool true] w fun r w' => Rk false 6 a b r ∧ w' = w := by
  have ha' : a < 18446744073709551616 := Nat.lt_of_lt_of_le ha (top_le _)
  have hb' : b < 18446744073709551616 := Nat.lt_of_lt_of_le hb (top_le _)
  have HA := hide ha
  have HB := hide hb
  clear ha hb
  by_cases hb0 : b = 0
  · subst hb0
    go_enter Tryz.func26, Tryz.ntmps26
    go_wp2
    go_ret2
    exact ⟨⟨0, 2, rfl, rfl⟩, rfl⟩
  · have hq : Int.tmod (a : Int) (b : Int) = ((a % b : Nat) : Int) := by rw [Int.tmod_eq_emod_of_nonneg (by omega)]; rfl
    have hql : a % b < top false := Nat.lt_of_le_of_lt (Nat.mod_le _ _) HA.out
    have hql' : a % b < 18446744073709551616 := Nat.lt_of_lt_of_le hql (top_le _)
    have hcm : combineR false 6 a b = some (((a % b : Nat) : Int), 0) := by
      unfold combineR
      simp only
      rw [if_neg (by omega), hq]
    have hq2 : (a : Int) % (b : Int) = ((a % b : Nat) : Int) := rfl
    have hmk := mask_id_narrow hql
    have HCm := hide hcm
    have HMk := hide hmk
    clear hcm hmk
    generalize a % b = q at *
    go_enter Tryz.func26, Tryz.ntmps26
    go_wp2
    go_ret2
    refine ⟨⟨_, 0, ?_, rfl⟩, rfl⟩
    rw [HCm.out, HMk.out]

set_option maxRecDepth 100000 in
set_option maxHeartbeats 1000000 in
theorem res7_false (w : World) (a b : Nat) (ha : a < top false) (hb : b < top false) : Calls Tryz.prog 26 #[.int .i64 7, .int .u64 a, .int .u64 b, .bool true] w fun r w' => Rk false 7 a b r ∧ w' = w := by
  have ha' : a < 18446744073709551616 := Nat.lt_of_lt_of_le ha (top_le _)
  have hb' : b < 18446744073709551616 := Nat.lt_of_lt_of_le hb (top_le _)
  have HA := hide ha
  have HB := hide hb
  clear ha hb
  have hq : bits BinOp.and IntKind.u64 (a : Int) (b : Int) = ((a &&& b : Nat) : Int) := bits_and_u64_nat a b ha' hb'
  have hql : a &&& b < top false := by rw [top_pow]; exact Nat.and_lt_two_pow _ (by rw [← top_pow]; exact HB.out)
  have hcm : combineR false 7 a b = some (((a &&& b : Nat) : Int), 0) := by
    unfold combineR
    simp only
    rw [hq]
  have hmk := mask_id_narrow hql
  have HCm := hide hcm
  have HMk := hide hmk
  clear hcm hmk hql
  generalize a &&& b = q at *
  go_enter Tryz.func26, Tryz.ntmps26
  go_wp2
  go_ret2
  refine ⟨⟨_, 0, ?_, rfl⟩, rfl⟩
  rw [HCm.out, HMk.out]

set_option maxRecDepth 100000 in
set_option maxHeartbeats 1000000 in
theorem res8_false (w : World) (a b : Nat) (ha : a < top false) (hb : b < top false) : Calls Tryz.prog 26 #[.int .i64 8, .int .u64 a, .int .u64 b, .bool true] w fun r w' => Rk false 8 a b r ∧ w' = w := by
  have ha' : a < 18446744073709551616 := Nat.lt_of_lt_of_le ha (top_le _)
  have hb' : b < 18446744073709551616 := Nat.lt_of_lt_of_le hb (top_le _)
  have HA := hide ha
  have HB := hide hb
  clear ha hb
  have hq : bits BinOp.or IntKind.u64 (a : Int) (b : Int) = ((a ||| b : Nat) : Int) := bits_or_u64_nat a b ha' hb'
  have hql : a ||| b < top false := by rw [top_pow]; exact Nat.or_lt_two_pow (by rw [← top_pow]; exact HA.out) (by rw [← top_pow]; exact HB.out)
  have hcm : combineR false 8 a b = some (((a ||| b : Nat) : Int), 0) := by
    unfold combineR
    simp only
    rw [hq]
  have hmk := mask_id_narrow hql
  have HCm := hide hcm
  have HMk := hide hmk
  clear hcm hmk hql
  generalize a ||| b = q at *
  go_enter Tryz.func26, Tryz.ntmps26
  go_wp2
  go_ret2
  refine ⟨⟨_, 0, ?_, rfl⟩, rfl⟩
  rw [HCm.out, HMk.out]

set_option maxRecDepth 100000 in
set_option maxHeartbeats 1000000 in
theorem res9_false (w : World) (a b : Nat) (ha : a < top false) (hb : b < top false) : Calls Tryz.prog 26 #[.int .i64 9, .int .u64 a, .int .u64 b, .bool true] w fun r w' => Rk false 9 a b r ∧ w' = w := by
  have ha' : a < 18446744073709551616 := Nat.lt_of_lt_of_le ha (top_le _)
  have hb' : b < 18446744073709551616 := Nat.lt_of_lt_of_le hb (top_le _)
  have HA := hide ha
  have HB := hide hb
  clear ha hb
  have hq : bits BinOp.xor IntKind.u64 (a : Int) (b : Int) = ((a ^^^ b : Nat) : Int) := bits_xor_u64_nat a b ha' hb'
  have hql : a ^^^ b < top false := by rw [top_pow]; exact Nat.xor_lt_two_pow (by rw [← top_pow]; exact HA.out) (by rw [← top_pow]; exact HB.out)
  have hcm : combineR false 9 a b = some (((a ^^^ b : Nat) : Int), 0) := by
    unfold combineR
    simp only
    rw [hq]
  have hmk := mask_id_narrow hql
  have HCm := hide hcm
  have HMk := hide hmk
  clear hcm hmk hql
  generalize a ^^^ b = q at *
  go_enter Tryz.func26, Tryz.ntmps26
  go_wp2
  go_ret2
  refine ⟨⟨_, 0, ?_, rfl⟩, rfl⟩
  rw [HCm.out, HMk.out]

set_option maxRecDepth 100000 in
set_option maxHeartbeats 1000000 in
theorem res10_false (w : World) (a b : Nat) (ha : a < top false) (hb : b < top false) : Calls Tryz.prog 26 #[.int .i64 10, .int .u64 a, .int .u64 b, .bool true] w fun r w' => Rk false 10 a b r ∧ w' = w := by
  have ha' : a < 18446744073709551616 := Nat.lt_of_lt_of_le ha (top_le _)
  have hb' : b < 18446744073709551616 := Nat.lt_of_lt_of_le hb (top_le _)
  have HA := hide ha
  have HB := hide hb
  clear ha hb
  have hm : (b : Int) % 32 = ((b % 32 : Nat) : Int) := rfl
  have hm2 : Int.tmod (b : Int) 32 = ((b % 32 : Nat) : Int) := by rw [Int.tmod_eq_emod_of_nonneg (by omega)]; rfl
  have hml : b % 32 < 32 := Nat.mod_lt _ (by decide)
  have hby : (byR false (b : Int)).toNat = b % 32 := by
    show (Int.tmod (b : Int) 32).toNat = b % 32
    rw [hm2]
    rfl
  generalize b % 32 = c at *
  have hcm : combineR false 10 a b = some (cutR false (IntKind.u64.wrap ((a : Int) * 2 ^ c)), 0) := by
    unfold combineR
    simp only
    rw [if_neg (by omega), hby]
  have HCm := hide hcm
  clear hcm hby
  go_enter Tryz.func26, Tryz.ntmps26
  go_wp2
  go_ret2
  refine ⟨⟨_, 0, ?_, rfl⟩, rfl⟩
  rw [HCm.out, mask_narrow (u64_rng _).1 (u64_rng _).2]

set_option maxRecDepth 100000 in
set_option maxHeartbeats 1000000 in
theorem res11_false (w : World) (a b : Nat) (ha : a < top false) (hb : b < top false) : Calls Tryz.prog 26 #[.int .i64 11, .int .u64 a, .int .u64 b, .bool true] w fun r w' => Rk false 11 a b r ∧ w' = w := by
  have ha' : a < 18446744073709551616 := Nat.lt_of_lt_of_le ha (top_le _)
  have hb' : b < 18446744073709551616 := Nat.lt_of_lt_of_le hb (top_le _)
  have HA := hide ha
  have HB := hide hb
  clear ha hb
  have hX := sgn_rng false HA.out
  have hsa := signR_eq false HA.out
  have hxw := conv_n1 HA.out
  have hyw := conv_n1 HB.out
  have hxw2 := conv_n2 HA.out
  have hyw2 := conv_n2 HB.out
  generalize sgn false a = X at *
  generalize sgn false b = Y at *
  have hxw3 := conv_n3 hX.1 hX.2
  obtain ⟨hX1, hX2⟩ := hX
  have hm : (b : Int) % 32 = ((b % 32 : Nat) : Int) := rfl
  have hm2 : Int.tmod (b : Int) 32 = ((b % 32 : Nat) : Int) := by rw [Int.tmod_eq_emod_of_nonneg (by omega)]; rfl
  have hml : b % 32 < 32 := Nat.mod_lt _ (by decide)
  have hby : (byR false (b : Int)).toNat = b % 32 := by
    show (Int.tmod (b : Int) 32).toNat = b % 32
    rw [hm2]
    rfl
  generalize b % 32 = c at *
  have hcm : combineR false 11 a b = some (cutR false (IntKind.u64.wrap (X / 2 ^ c)), 0) := by
    unfold combineR
    simp only
    rw [if_neg (by omega), hby, hsa]
  have HCm := hide hcm
  clear hcm hby hsa
  go_enter Tryz.func26, Tryz.ntmps26
  go_wp2
  go_ret2
  refine ⟨⟨_, 0, ?_, rfl⟩, rfl⟩
  rw [HCm.out, mask_narrow (u64_rng _).1 (u64_rng _).2]

set_option maxRecDepth 100000 in
set_option maxHeartbeats 1000000 in
theorem res12_false (w : World) (a b : Nat) (ha : a < top false) (hb : b < top false) : Calls Tryz.prog 26 #[.int .i64 12, .int .u64 a, .int .u64 b, .bool true] w fun r w' => Rk false 12 a b r ∧ w' = w := by
  have ha' : a < 18446744073709551616 := Nat.lt_of_lt_of_le ha (top_le _)
  have hb' : b < 18446744073709551616 := Nat.lt_of_lt_of_le hb (top_le _)
  have HA := hide ha
  have HB := hide hb
  clear ha hb
  have hm : (b : Int) % 32 = ((b % 32 : Nat) : Int) := rfl
  have hm2 : Int.tmod (b : Int) 32 = ((b % 32 : Nat) : Int) := by rw [Int.tmod_eq_emod_of_nonneg (by omega)]; rfl
  have hml : b % 32 < 32 := Nat.mod_lt _ (by decide)
  have hby : (byR false (b : Int)).toNat = b % 32 := by
    show (Int.tmod (b : Int) 32).toNat = b % 32
    rw [hm2]
    rfl
  generalize b % 32 = c at *
  have hcm : combineR false 12 a b = some (((a / 2 ^ c : Nat) : Int), 0) := by
    unfold combineR
    simp only
    rw [if_neg (by omega), hby, pow_div]
  have HCm := hide hcm
  clear hcm hby
  go_enter Tryz.func26, Tryz.ntmps26
  go_wp2
  go_ret2
  refine ⟨⟨_, 0, ?_, rfl⟩, rfl⟩
  rw [HCm.out, pow_div, mask_id_narrow (Nat.lt_of_le_of_lt (Nat.div_le_self _ _) HA.out)]

set_option maxRecDepth 100000 in
set_option maxHeartbeats 1000000 in
theorem res13_false (w : World) (a b : Nat) (ha : a < top false) (hb : b < top false) : Calls Tryz.prog 26 #[.int .i64 13, .int .u64 a, .int .u64 b, .bool true] w fun r w' => Rk false 13 a b r ∧ Kp no w w' := by
  have ha' : a < 18446744073709551616 := Nat.lt_of_lt_of_le ha (top_le _)
  have hb' : b < 18446744073709551616 := Nat.lt_of_lt_of_le hb (top_le _)
  have HA := hide ha
  have HB := hide hb
  clear ha hb
  have hm : (b : Int) % 32 = ((b % 32 : Nat) : Int) := rfl
  have hm2 : Int.tmod (b : Int) 32 = ((b % 32 : Nat) : Int) := by rw [Int.tmod_eq_emod_of_nonneg (by omega)]; rfl
  have hml : b % 32 < 32 := Nat.mod_lt _ (by decide)
  have hby : (byR false (b : Int)).toNat = b % 32 := by
    show (Int.tmod (b : Int) 32).toNat = b % 32
    rw [hm2]
    rfl
  generalize b % 32 = c at *
  obtain ⟨d, hd⟩ : ∃ d, 32 - c = d := ⟨_, rfl⟩
  have hwn : wN false - c = d := hd
  have hwn2 : wN false - d = c := by show 32 - d = c; omega
  have hdl : d ≤ 32 := by omega
  have hwr : IntKind.u64.wrap (32 - (c : Int)) = (d : Int) := by rw [IntKind.wrap_u64]; omega
  have hdv : 0 ≤ (a : Int) / 2 ^ c ∧ (a : Int) / 2 ^ c < 18446744073709551616 := by
    rw [pow_div]
    have hle : a / 2 ^ c ≤ a := Nat.div_le_self _ _
    obtain ⟨z, hz⟩ : ∃ z, a / 2 ^ c = z := ⟨_, rfl⟩
    rw [hz] at hle ⊢
    omega
  have hcm : combineR false 13 a b = some (cutR false (bits BinOp.or IntKind.u64 (IntKind.u64.wrap ((a : Int) * 2 ^ c)) ((a : Int) / 2 ^ d)), 0) := by
    unfold combineR
    simp only
    rw [if_neg (by omega), hby]
    unfold roundR
    rw [hwn]
  have HCm := hide hcm
  clear hcm hby hwn hwn2 hdv hd
  go_enter Tryz.func26, Tryz.ntmps26
  go_wp2
  go_quiet (fail)
  go_wp2
  go_ret2
  refine ⟨⟨_, 0, ?_, rfl⟩, (Kp.refl _ _).drewN _⟩
  rw [HCm.out, mask_narrow (or_rng _ _).1 (or_rng _ _).2]

set_option maxRecDepth 100000 in
set_option maxHeartbeats 1000000 in
theorem res14_false (w : World) (a b : Nat) (ha : a < top false) (hb : b < top false) : Calls Tryz.prog 26 #[.int .i64 14, .int .u64 a, .int .u64 b, .bool true] w fun r w' => Rk false 14 a b r ∧ Kp no w w' := by
  have ha' : a < 18446744073709551616 := Nat.lt_of_lt_of_le ha (top_le _)
  have hb' : b < 18446744073709551616 := Nat.lt_of_lt_of_le hb (top_le _)
  have HA := hide ha
  have HB := hide hb
  clear ha hb
  have hm : (b : Int) % 32 = ((b % 32 : Nat) : Int) := rfl
  have hm2 : Int.tmod (b : Int) 32 = ((b % 32 : Nat) : Int) := by rw [Int.tmod_eq_emod_of_nonneg (by omega)]; rfl
  have hml : b % 32 < 32 := Nat.mod_lt _ (by decide)
  have hby : (byR false (b : Int)).toNat = b % 32 := by
    show (Int.tmod (b : Int) 32).toNat = b % 32
    rw [hm2]
    rfl
  generalize b % 32 = c at *
  obtain ⟨d, hd⟩ : ∃ d, 32 - c = d := ⟨_, rfl⟩
  have hwn : wN false - c = d := hd
  have hwn2 : wN false - d = c := by show 32 - d = c; omega
  have hdl : d ≤ 32 := by omega
  have hwr : IntKind.u64.wrap (32 - (c : Int)) = (d : Int) := by rw [IntKind.wrap_u64]; omega
  have hdv : 0 ≤ (a : Int) / 2 ^ c ∧ (a : Int) / 2 ^ c < 18446744073709551616 := by
    rw [pow_div]
    have hle : a / 2 ^ c ≤ a := Nat.div_le_self _ _
    obtain ⟨z, hz⟩ : ∃ z, a / 2 ^ c = z := ⟨_, rfl⟩
    rw [hz] at hle ⊢
    omega
  have hcm : combineR false 14 a b = some (cutR false (bits BinOp.or IntKind.u64 ((a : Int) / 2 ^ c) (IntKind.u64.wrap ((a : Int) * 2 ^ d))), 0) := by
    unfold combineR
    simp only
    rw [if_neg (by omega), hby]
    unfold roundR
    rw [hwn, hwn2, or_comm64 (u64_rng _).1 (u64_rng _).2 hdv.1 hdv.2]
  have HCm := hide hcm
  clear hcm hby hwn hwn2 hdv hd
  go_enter Tryz.func26, Tryz.ntmps26
  go_wp2
  go_quiet (fail)
  go_wp2
  go_ret2
  refine ⟨⟨_, 0, ?_, rfl⟩, (Kp.refl _ _).drewN _⟩
  rw [HCm.out, mask_narrow (or_rng _ _).1 (or_rng _ _).2]
end Go.Proofs.YtdeplgkhmebalaaGreatDoor

namespace Go.Proofs.YtdeplgkhmebalaaGreatDoor
open Go.RowKit
theorem result_any (w : World) (wd : Bool) (k : Nat) (hk : k < 15) (a b : Nat) (ha : a < top wd) (hb : b < top wd) : Calls Tryz.prog 26 #[.int .i64 k, .int .u64 a, .int .u64 b, .bool (!wd)] w fun r w' => Rk wd k a b r ∧ Kp no w w' := by
  match wd, k, hk, ha, hb with
  | true, 0, _, ha, hb => exact (res0_true w a b ha hb).mono fun _ _ ⟨h1, h2⟩ => ⟨h1, by rw [h2]; exact Kp.refl _ _⟩
  | true, 1, _, ha, hb => exact (res1_true w a b ha hb).mono fun _ _ ⟨h1, h2⟩ => ⟨h1, by rw [h2]; exact Kp.refl _ _⟩
  | true, 2, _, ha, hb => exact (res2_true w a b ha hb).mono fun _ _ ⟨h1, h2⟩ => ⟨h1, by rw [h2]; exact Kp.refl _ _⟩
  | true, 3, _, ha, hb => exact (res3_true w a b ha hb).mono fun _ _ ⟨h1, h2⟩ => ⟨h1, by rw [h2]; exact Kp.refl _ _⟩
  | true, 4, _, ha, hb => exact (res4_true w a b ha hb).mono fun _ _ ⟨h1, h2⟩ => ⟨h1, by rw [h2]; exact Kp.refl _ _⟩
  | true, 5, _, ha, hb => exact (res5_true w a b ha hb).mono fun _ _ ⟨h1, h2⟩ => ⟨h1, by rw [h2]; exact Kp.refl _ _⟩
  | true, 6, _, ha, hb => exact (res6_true w a b ha hb).mono fun _ _ ⟨h1, h2⟩ => ⟨h1, by rw [h2]; exact Kp.refl _ _⟩
  | true, 7, _, ha, hb => exact (res7_true w a b ha hb).mono fun _ _ ⟨h1, h2⟩ => ⟨h1, by rw [h2]; exact Kp.refl _ _⟩
  | true, 8, _, ha, hb => exact (res8_true w a b ha hb).mono fun _ _ ⟨h1, h2⟩ => ⟨h1, by rw [h2]; exact Kp.refl _ _⟩
  | true, 9, _, ha, hb => exact (res9_true w a b ha hb).mono fun _ _ ⟨h1, h2⟩ => ⟨h1, by rw [h2]; exact Kp.refl _ _⟩
  | true, 10, _, ha, hb => exact (res10_true w a b ha hb).mono fun _ _ ⟨h1, h2⟩ => ⟨h1, by rw [h2]; exact Kp.refl _ _⟩
  | true, 11, _, ha, hb => exact (res11_true w a b ha hb).mono fun _ _ ⟨h1, h2⟩ => ⟨h1, by rw [h2]; exact Kp.refl _ _⟩
  | true, 12, _, ha, hb => exact (res12_true w a b ha hb).mono fun _ _ ⟨h1, h2⟩ => ⟨h1, by rw [h2]; exact Kp.refl _ _⟩
  | true, 13, _, ha, hb => exact res13_true w a b ha hb
  | true, 14, _, ha, hb => exact res14_true w a b ha hb
  | false, 0, _, ha, hb => exact (res0_false w a b ha hb).mono fun _ _ ⟨h1, h2⟩ => ⟨h1, by rw [h2]; exact Kp.refl _ _⟩
  | false, 1, _, ha, hb => exact (res1_false w a b ha hb).mono fun _ _ ⟨h1, h2⟩ => ⟨h1, by rw [h2]; exact Kp.refl _ _⟩
  | false, 2, _, ha, hb => exact (res2_false w a b ha hb).mono fun _ _ ⟨h1, h2⟩ => ⟨h1, by rw [h2]; exact Kp.refl _ _⟩
  | false, 3, _, ha, hb => exact (res3_false w a b ha hb).mono fun _ _ ⟨h1, h2⟩ => ⟨h1, by rw [h2]; exact Kp.refl _ _⟩
  | false, 4, _, ha, hb => exact (res4_false w a b ha hb).mono fun _ _ ⟨h1, h2⟩ => ⟨h1, by rw [h2]; exact Kp.refl _ _⟩
  | false, 5, _, ha, hb => exact (res5_false w a b ha hb).mono fun _ _ ⟨h1, h2⟩ => ⟨h1, by rw [h2]; exact Kp.refl _ _⟩
  | false, 6, _, ha, hb => exact (res6_false w a b ha hb).mono fun _ _ ⟨h1, h2⟩ => ⟨h1, by rw [h2]; exact Kp.refl _ _⟩
  | false, 7, _, ha, hb => exact (res7_false w a b ha hb).mono fun _ _ ⟨h1, h2⟩ => ⟨h1, by rw [h2]; exact Kp.refl _ _⟩
  | false, 8, _, ha, hb => exact (res8_false w a b ha hb).mono fun _ _ ⟨h1, h2⟩ => ⟨h1, by rw [h2]; exact Kp.refl _ _⟩
  | false, 9, _, ha, hb => exact (res9_false w a b ha hb).mono fun _ _ ⟨h1, h2⟩ => ⟨h1, by rw [h2]; exact Kp.refl _ _⟩
  | false, 10, _, ha, hb => exact (res10_false w a b ha hb).mono fun _ _ ⟨h1, h2⟩ => ⟨h1, by rw [h2]; exact Kp.refl _ _⟩
  | false, 11, _, ha, hb => exact (res11_false w a b ha hb).mono fun _ _ ⟨h1, h2⟩ => ⟨h1, by rw [h2]; exact Kp.refl _ _⟩
  | false, 12, _, ha, hb => exact (res12_false w a b ha hb).mono fun _ _ ⟨h1, h2⟩ => ⟨h1, by rw [h2]; exact Kp.refl _ _⟩
  | false, 13, _, ha, hb => exact res13_false w a b ha hb
  | false, 14, _, ha, hb => exact res14_false w a b ha hb
  | _, n + 15, h, _, _ => exact absurd h (by omega)
set_option maxRecDepth 100000 in
set_option maxHeartbeats 1000000 in
theorem less_any (w : World) (wd : Bool) (a b : Nat) (ha : a < top wd) (hb : b < top wd) : Calls Tryz.prog 28 #[.int .u64 a, .int .u64 b, .bool (!wd), .bool true] w fun r w' => r = .returned (.bool (decide (sgn wd a < sgn wd b))) ∧ Kp no w w' := by
  cases wd
  · have hxw := conv_n1 ha
    have hyw := conv_n1 hb
    have hxw2 := conv_n2 ha
    have hyw2 := conv_n2 hb
    generalize sgn false a = X at *
    generalize sgn false b = Y at *
    clear ha hb
    by_cases h : X < Y
    · go_enter Tryz.func28, Tryz.ntmps28
      go_wp2
      go_ret
      exact ⟨by simp [h], Kp.refl _ _⟩
    · go_enter Tryz.func28, Tryz.ntmps28
      go_wp2
      go_ret
      exact ⟨by simp [h], Kp.refl _ _⟩
  · have hxw := conv_wide ha
    have hyw := conv_wide hb
    generalize sgn true a = X at *
    generalize sgn true b = Y at *
    clear ha hb
    by_cases h : X < Y
    · go_enter Tryz.func28, Tryz.ntmps28
      go_wp2
      go_ret
      exact ⟨by simp [h], Kp.refl _ _⟩
    · go_enter Tryz.func28, Tryz.ntmps28
      go_wp2
      go_ret
      exact ⟨by simp [h], Kp.refl _ _⟩
theorem bit_any (w : World) (q : Bool) : Calls Tryz.prog 29 #[.bool q] w fun r w' => r = .returned (.int .u64 (truth q)) ∧ w' = w := by
  cases q
  · go_enter Tryz.func29, Tryz.ntmps29
    go_wp2
    go_ret
    exact ⟨rfl, rfl⟩
  · go_enter Tryz.func29, Tryz.ntmps29
    go_wp2
    go_ret
    exact ⟨rfl, rfl⟩
end Go.Proofs.YtdeplgkhmebalaaGreatDoor
