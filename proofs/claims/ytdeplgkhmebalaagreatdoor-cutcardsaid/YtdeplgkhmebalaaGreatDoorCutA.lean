/- A module cut off: a signed number, written. -/
import Derived.Test.YtdeplgkhmebalaaGreatDoorP11
import Derived.Test.YtdeplgkhmebalaaGreatDoorP04

namespace Go.Proofs.YtdeplgkhmebalaaGreatDoor
open Go.RowKit

def sLow (m : Int) : UInt8 := UInt8.ofNat (m % 128).toNat
def sMore (m : Int) : UInt8 := UInt8.ofNat ((m % 128).toNat + 128)
def sF : Nat → Int → List UInt8
  | 0, m => [sLow m]
  | k + 1, m => if -64 ≤ m ∧ m ≤ 63 then [sLow m] else sMore m :: sF k (m / 128)
def sB (n : Int) : List UInt8 := sF 9 n

theorem and127 (m : Int) (_h1 : -9223372036854775808 ≤ m) (_h2 : m < 9223372036854775808) : bits BinOp.and IntKind.i64 m 127 = m % 128 := by
  have ha : (BitVec.ofInt 64 m).toNat = (m % 18446744073709551616).toNat := by
    rw [BitVec.toNat_ofInt]
    rfl
  have hb : (BitVec.ofInt 64 127).toNat = 127 := by decide
  show IntKind.i64.wrap ((BitVec.ofInt 64 m &&& BitVec.ofInt 64 127).toNat : Int) = _
  rw [BitVec.toNat_and, ha, hb, show (127 : Nat) = 2 ^ 7 - 1 from rfl, Nat.and_two_pow_sub_one_eq_mod, IntKind.wrap_i64]
  omega

set_option maxRecDepth 100000 in
set_option maxHeartbeats 1000000 in
theorem sK_any (w : World) (n : Int) (hn1 : -9223372036854775808 ≤ n) (hn2 : n < 9223372036854775808) :
    Calls Tryz.prog 19 #[.int .i64 n] w fun r w' => (∃ v, r = .returned v ∧ NB w w' v (sB n)) ∧ Kp no w w' := by
  obtain ⟨i0, hi0, hz0, hz1, hz2⟩ := info_parts info_su8
  have hp : -(64 * 128 ^ 9 : Int) ≤ n ∧ n < 64 * 128 ^ 9 := by omega
  have HP := hide hp
  clear hp
  go_enter Tryz.func19, Tryz.ntmps19
  go_wp2
  go_loopg [0, 3] 9 (fun k nv lv wr => ∃ (m : Int) (l : List UInt8), nv = .int .i64 m ∧ -9223372036854775808 ≤ m ∧ m < 9223372036854775808 ∧ (-(64 * 128 ^ k : Int) ≤ m ∧ m < 64 * 128 ^ k) ∧ l.length + k ≤ 9 ∧ NB w wr lv l ∧ Kp no w wr ∧ l ++ sF k m = sB n)
  case atStart => exact ⟨n, [], rfl, hn1, hn2, HP.out, by simp, ⟨rfl, .inl ⟨rfl, rfl⟩⟩, Kp.refl _ _, rfl⟩
  case round =>
    obtain ⟨m, l, rfl, hm1, hm2, hmk, hlk, hown, hkp, hl⟩ := hrel
    obtain ⟨adl, capl, rfl⟩ := own_shape hown
    have hand := and127 m hm1 hm2
    have HO := hide hown
    have HK := hide hkp
    have HL := hide hl
    have hszr := hkp.size
    have hml : 0 ≤ m % 128 ∧ m % 128 < 128 := by omega
    obtain ⟨q, hq⟩ : ∃ q : Nat, m % 128 = (q : Int) := ⟨(m % 128).toNat, by omega⟩
    have hlow : sLow m = UInt8.ofNat q := by unfold sLow; rw [hq]; rfl
    have hmore : sMore m = UInt8.ofNat (q + 128) := by unfold sMore; rw [hq]; rfl
    have hql : q < 128 := by omega
    rw [hq] at hand
    have HLow := hide hlow
    have HMore := hide hmore
    clear hown hkp hl hml hq hlow hmore
    by_cases h64 : -64 ≤ m ∧ m ≤ 63
    · have hwc : IntKind.u8.wrap (q : Int) = ((UInt8.ofNat q).toNat : Int) := by rw [IntKind.wrap_u8, UInt8.toNat_ofNat']; omega
      obtain ⟨h64a, h64b⟩ := h64
      go_wp2_with (at_builtin; refine wpList_append_row _ rfl _ _ 25 rfl w.heap.size 5 i0 (.int .u8 0) 1 1 Tryz.underlying25 hi0 hz0 hz1 hz2 rfl (by decide) _ _ _ rfl (HO.out.alloc _) _ 1 [.int .u8 (UInt8.ofNat q).toNat] rfl (RowAt.new _ _ _) (one_oneCell rfl) ?c3 ?c4 ?c5 ?_)
      case c3 => unfold maxLen; omega
      case c4 => omega
      case c5 => simp; omega
      intro v3 w3 hown3 hgrow3
      have HO3 := hide hown3
      have HK3 := hide ((HK.out.alloc _).grown hgrow3 (fun b hb => .inr (own_new HO.out b hb)))
      clear hown3 hgrow3
      go_wp2
      go_ret
      refine ⟨⟨v3, rfl, ?_⟩, HK3.out⟩
      rw [← HL.out]
      have e : sF gk m = [UInt8.ofNat q] := by
        rw [← HLow.out]
        cases gk with
        | zero => rfl
        | succ k => rw [sF, if_pos ⟨h64a, h64b⟩]
      unfold NB
      rw [e, bcsApp, List.length_append]
      exact HO3.out
    · cases gk with
      | zero => exfalso; simp at hmk; omega
      | succ k =>
        have hl := HL.out
        rw [sF, if_neg h64, HMore.out] at hl
        have HL2 := hide hl
        have hwc : IntKind.u8.wrap (q : Int) = (q : Int) := by rw [IntKind.wrap_u8]; omega
        have hwb : IntKind.u8.wrap ((q : Int) + 128) = ((UInt8.ofNat (q + 128)).toNat : Int) := by rw [IntKind.wrap_u8, UInt8.toNat_ofNat']; omega
        have hmk' : -(64 * 128 ^ k : Int) ≤ m / 128 ∧ m / 128 < 64 * 128 ^ k := by
          rw [Int.pow_succ] at hmk
          generalize (128 : Int) ^ k = P at *
          omega
        have HMk := hide hmk'
        clear hl hmk hmk'
        have hor : m < -64 ∨ 63 < m := by omega
        rcases hor with hneg | hpos
        · go_wp2_with (at_builtin; refine wpList_append_row _ rfl _ _ 25 rfl w.heap.size 5 i0 (.int .u8 0) 1 1 Tryz.underlying25 hi0 hz0 hz1 hz2 rfl (by decide) _ _ _ rfl (HO.out.alloc _) _ 1 [.int .u8 (UInt8.ofNat (q + 128)).toNat] rfl (RowAt.new _ _ _) (one_oneCell rfl) ?dna ?dnb ?dnc ?_)
          case dna => unfold maxLen; omega
          case dnb => omega
          case dnc => simp; omega
          intro v3 w3 hown3 hgrow3
          obtain ⟨ad3, cap3, rfl⟩ := own_shape hown3
          have HK3 := hide ((HK.out.alloc _).grown hgrow3 (fun b hb => .inr (own_new HO.out b hb)))
          have HO3 : Hid (NB w w3 (.slice ad3 (l.length + 1) cap3) (l ++ [UInt8.ofNat (q + 128)])) := by
            refine hide ?_
            unfold NB
            rw [bcsApp, List.length_append]
            exact hown3
          clear hown3 hgrow3
          go_wp2
          go_roundg k
          case rel => exact ⟨m / 128, l ++ [UInt8.ofNat (q + 128)], by simp, by omega, by omega, HMk.out, by simp; omega, HO3.out, HK3.out, by rw [List.append_assoc]; exact HL2.out⟩
          case measure => omega
        · go_wp2_with (at_builtin; refine wpList_append_row _ rfl _ _ 25 rfl w.heap.size 5 i0 (.int .u8 0) 1 1 Tryz.underlying25 hi0 hz0 hz1 hz2 rfl (by decide) _ _ _ rfl (HO.out.alloc _) _ 1 [.int .u8 (UInt8.ofNat (q + 128)).toNat] rfl (RowAt.new _ _ _) (one_oneCell rfl) ?dpa ?dpb ?dpc ?_)
          case dpa => unfold maxLen; omega
          case dpb => omega
          case dpc => simp; omega
          intro v3 w3 hown3 hgrow3
          obtain ⟨ad3, cap3, rfl⟩ := own_shape hown3
          have HK3 := hide ((HK.out.alloc _).grown hgrow3 (fun b hb => .inr (own_new HO.out b hb)))
          have HO3 : Hid (NB w w3 (.slice ad3 (l.length + 1) cap3) (l ++ [UInt8.ofNat (q + 128)])) := by
            refine hide ?_
            unfold NB
            rw [bcsApp, List.length_append]
            exact hown3
          clear hown3 hgrow3
          go_wp2
          go_roundg k
          case rel => exact ⟨m / 128, l ++ [UInt8.ofNat (q + 128)], by simp, by omega, by omega, HMk.out, by simp; omega, HO3.out, HK3.out, by rw [List.append_assoc]; exact HL2.out⟩
          case measure => omega
end Go.Proofs.YtdeplgkhmebalaaGreatDoor

namespace Go.Proofs.YtdeplgkhmebalaaGreatDoor
open Go.RowKit

/-- What the groups make, lowest first. -/
def sumTo (l : List UInt8) : Nat → Nat
  | 0 => 0
  | k + 1 => sumTo l k + ((l.getD k 0).toNat % 128) * 2 ^ (7 * k)
theorem sumTo_lt (l : List UInt8) : ∀ k, sumTo l k < 2 ^ (7 * k)
  | 0 => by simp [sumTo]
  | k + 1 => by
    have h := sumTo_lt l k
    have hm : (l.getD k 0).toNat % 128 ≤ 127 := by omega
    rw [sumTo, show 7 * (k + 1) = 7 * k + 7 by omega, Nat.pow_add]
    have : ((l.getD k 0).toNat % 128) * 2 ^ (7 * k) ≤ 127 * 2 ^ (7 * k) := Nat.mul_le_mul_right _ hm
    omega
/-- Bits that don't meet are added. -/
theorem join_sum (l : List UInt8) : ∀ k, k ≤ 9 → joinTo l k = sumTo l k
  | 0, _ => rfl
  | k + 1, hk => by
    have h := sumTo_lt l k
    have hm : (l.getD k 0).toNat % 128 < 128 := Nat.mod_lt _ (by decide)
    have hp : ((l.getD k 0).toNat % 128) * 2 ^ (7 * k) < 18446744073709551616 := by
      have h1 : 2 ^ (7 * k) ≤ 2 ^ 56 := Nat.pow_le_pow_right (by decide) (by omega)
      have h2 : ((l.getD k 0).toNat % 128) * 2 ^ (7 * k) ≤ 127 * 2 ^ 56 := Nat.mul_le_mul (by omega) h1
      omega
    rw [joinTo, sumTo, join_sum l k (by omega), Nat.mod_eq_of_lt hp, Nat.or_comm, Nat.mul_comm, ← Nat.two_pow_add_eq_or_of_lt h, Nat.add_comm]
end Go.Proofs.YtdeplgkhmebalaaGreatDoor

namespace Go.Proofs.YtdeplgkhmebalaaGreatDoor
open Go.RowKit

theorem sum_cons (x : UInt8) (l : List UInt8) : ∀ k, sumTo (x :: l) (k + 1) = x.toNat % 128 + 128 * sumTo l k
  | 0 => by simp [sumTo]
  | k + 1 => by
    rw [sumTo, sum_cons x l k, sumTo, show (x :: l).getD (k + 1) 0 = l.getD k 0 from rfl, show 7 * (k + 1) = 7 * k + 7 by omega, Nat.pow_add]
    have e : (l.getD k 0).toNat % 128 * (2 ^ (7 * k) * 2 ^ 7) = 128 * ((l.getD k 0).toNat % 128 * 2 ^ (7 * k)) := by
      rw [← Nat.mul_assoc, Nat.mul_comm _ (2 ^ 7)]
    rw [e]
    omega
theorem low_nat (m : Int) : ((sLow m).toNat : Int) = m % 128 ∧ (sLow m).toNat < 128 := by
  unfold sLow
  rw [UInt8.toNat_ofNat']
  omega
theorem more_nat (m : Int) : (((sMore m).toNat % 128 : Nat) : Int) = m % 128 ∧ 128 ≤ (sMore m).toNat := by
  unfold sMore
  rw [UInt8.toNat_ofNat']
  omega
/-- A number, and its groups. -/
structure SOf (m : Int) (l : List UInt8) : Prop where
  pos : 0 < l.length
  sum : (sumTo l l.length : Int) = m % 2 ^ (7 * l.length)
  lo : -(2 ^ (7 * l.length - 1) : Int) ≤ m
  hi : m < 2 ^ (7 * l.length - 1)
  more : ∀ j, j + 1 < l.length → 128 ≤ (l.getD j 0).toNat
  last : (l.getD (l.length - 1) 0).toNat < 128
  tight : 2 ≤ l.length → ((l.getD (l.length - 1) 0).toNat = 0 → (l.getD (l.length - 2) 0).toNat % 128 ≥ 64) ∧ ((l.getD (l.length - 1) 0).toNat = 127 → (l.getD (l.length - 2) 0).toNat % 128 < 64)
theorem sof_one {m : Int} (h : -64 ≤ m ∧ m ≤ 63) : SOf m [sLow m] := by
  obtain ⟨h1, h2⟩ := low_nat m
  refine ⟨by simp, ?_, by simp; omega, by simp; omega, fun j hj => absurd hj (by simp), by simpa using h2, fun h => absurd h (by simp)⟩
  simp [sumTo]
  omega
theorem sof_tight {m : Int} {l : List UInt8} {p : Nat} (hm : ¬ (-64 ≤ m ∧ m ≤ 63)) (h : SOf (m / 128) l) (hp : l.length = p + 1) (h1 : (((sMore m).toNat % 128 : Nat) : Int) = m % 128) :
    (((sMore m :: l).getD (p + 2 - 1) 0).toNat = 0 → ((sMore m :: l).getD (p + 2 - 2) 0).toNat % 128 ≥ 64) ∧ (((sMore m :: l).getD (p + 2 - 1) 0).toNat = 127 → ((sMore m :: l).getD (p + 2 - 2) 0).toNat % 128 < 64) := by
  cases p with
  | zero =>
    obtain ⟨x, rfl⟩ := List.length_eq_one_iff.1 hp
    have q1 : ((sumTo [x] 1 : Nat) : Int) = (m / 128) % 128 := h.sum
    have q2 : -64 ≤ m / 128 := h.lo
    have q3 : m / 128 < 64 := h.hi
    have q4 : x.toNat < 128 := h.last
    have q5 : sumTo [x] 1 = x.toNat % 128 := by simp [sumTo]
    rw [q5] at q1
    have e1 : ((sMore m :: [x]).getD (0 + 2 - 1) 0) = x := rfl
    have e2 : ((sMore m :: [x]).getD (0 + 2 - 2) 0) = sMore m := rfl
    rw [e1, e2]
    generalize (sMore m).toNat = y at *
    generalize x.toNat = z at *
    omega
  | succ p =>
    have ht := h.tight (by omega)
    rw [hp] at ht
    have e1 : (sMore m :: l).getD (p + 1 + 2 - 1) 0 = l.getD (p + 1 + 1 - 1) 0 := rfl
    have e2 : (sMore m :: l).getD (p + 1 + 2 - 2) 0 = l.getD (p + 1 + 1 - 2) 0 := rfl
    rw [e1, e2]
    exact ht
theorem sof_cons {m : Int} {l : List UInt8} (hm : ¬ (-64 ≤ m ∧ m ≤ 63)) (h : SOf (m / 128) l) : SOf m (sMore m :: l) := by
  obtain ⟨h1, h2⟩ := more_nat m
  obtain ⟨p, hp⟩ : ∃ p, l.length = p + 1 := ⟨l.length - 1, by have := h.pos; omega⟩
  have hlen : (sMore m :: l).length = p + 2 := by simp [hp]
  have hs := h.sum
  have hlo := h.lo
  have hhi := h.hi
  rw [hp] at hs hlo hhi
  have e1 : (2 : Int) ^ (7 * (p + 2)) = 128 * 2 ^ (7 * (p + 1)) := by rw [show 7 * (p + 2) = 7 * (p + 1) + 7 by omega, Int.pow_add, Int.mul_comm]; rfl
  have e2 : (2 : Int) ^ (7 * (p + 2) - 1) = 128 * 2 ^ (7 * (p + 1) - 1) := by rw [show 7 * (p + 2) - 1 = 7 * (p + 1) - 1 + 7 by omega, Int.pow_add, Int.mul_comm]; rfl
  refine ⟨by simp, ?_, ?_, ?_, ?_, ?_, ?_⟩
  · rw [hlen, sum_cons, e1]
    have hP : (0 : Int) < 2 ^ (7 * (p + 1)) := Int.pow_pos (by decide)
    have hd : m % (128 * 2 ^ (7 * (p + 1))) = m % 128 + 128 * (m / 128 % 2 ^ (7 * (p + 1))) := by
      generalize (2 : Int) ^ (7 * (p + 1)) = P at hP
      have q1 := Int.emod_add_mul_ediv m 128
      have q2 := Int.emod_add_mul_ediv (m / 128) P
      have q3 := Int.emod_nonneg (m / 128) (show P ≠ 0 by omega)
      have q4 := Int.emod_lt_of_pos (m / 128) hP
      have q5 : m = (m % 128 + 128 * (m / 128 % P)) + (128 * P) * (m / 128 / P) := by
        rw [Int.mul_assoc]
        generalize P * (m / 128 / P) = R at *
        omega
      have q6 : 0 ≤ m % 128 + 128 * (m / 128 % P) := by omega
      have q7 : m % 128 + 128 * (m / 128 % P) < 128 * P := by omega
      calc m % (128 * P) = ((m % 128 + 128 * (m / 128 % P)) + (128 * P) * (m / 128 / P)) % (128 * P) := by rw [← q5]
        _ = (m % 128 + 128 * (m / 128 % P)) % (128 * P) := Int.add_mul_emod_self_left _ _ _
        _ = _ := Int.emod_eq_of_lt q6 q7
    rw [hd, ← hs, ← h1]
    push_cast
    omega
  · rw [hlen, e2]
    omega
  · rw [hlen, e2]
    omega
  · intro j hj
    match j with
    | 0 => exact h2
    | j + 1 => exact h.more j (by rw [hlen] at hj; omega)
  · rw [hlen]
    have := h.last
    rw [hp] at this
    exact this
  · intro _
    rw [hlen]
    exact sof_tight hm h hp h1
theorem sof_F : ∀ (k : Nat) (m : Int), -(64 * 128 ^ k : Int) ≤ m → m < 64 * 128 ^ k → SOf m (sF k m) ∧ (sF k m).length ≤ k + 1
  | 0, m, h1, h2 => ⟨sof_one ⟨by simpa using h1, by simp at h2; omega⟩, by simp [sF]⟩
  | k + 1, m, h1, h2 => by
    rw [sF]
    split
    · rename_i h
      exact ⟨sof_one h, by simp⟩
    · rename_i h
      rw [Int.pow_succ] at h1 h2
      generalize hP : (128 : Int) ^ k = P at *
      obtain ⟨q1, q2⟩ := sof_F k (m / 128) (by rw [hP]; omega) (by rw [hP]; omega)
      exact ⟨sof_cons h q1, by simp; exact q2⟩
theorem sof_B (n : Int) (h1 : -9223372036854775808 ≤ n) (h2 : n < 9223372036854775808) : SOf n (sB n) ∧ (sB n).length ≤ 10 := sof_F 9 n (by omega) (by omega)
end Go.Proofs.YtdeplgkhmebalaaGreatDoor

namespace Go.Proofs.YtdeplgkhmebalaaGreatDoor
open Go.RowKit

theorem signed_gen {S A E : Nat} {n : Int} (hE : 0 < E) (h64 : A * E = 9223372036854775808) (hs : (S : Int) = n % (2 * A : Nat)) (lo : -(A : Int) ≤ n) (hi : n < A) : wrap64 ((S * E % 18446744073709551616 : Nat) : Int) / (E : Int) = n := by
  have hA : 0 < A := by rcases Nat.eq_zero_or_pos A with h | h; (subst h; simp at h64); exact h
  have hEi : (E : Int) ≠ 0 := by omega
  have key : wrap64 ((S * E % 18446744073709551616 : Nat) : Int) = n * E := by
    have h64i : (A : Int) * E = 9223372036854775808 := by rw [← Int.natCast_mul, h64]; rfl
    have b1 : n * E < 9223372036854775808 := by rw [← h64i]; exact Int.mul_lt_mul_of_pos_right hi (by omega)
    have b2 : -9223372036854775808 ≤ n * E := by
      have : -(A : Int) * E ≤ n * E := Int.mul_le_mul_of_nonneg_right lo (by omega)
      rw [Int.neg_mul, h64i] at this
      exact this
    by_cases hn : 0 ≤ n
    · have e : (S : Int) = n := by rw [hs]; exact Int.emod_eq_of_lt hn (by push_cast; omega)
      have e2 : ((S * E : Nat) : Int) = n * E := by push_cast; rw [e]
      have b3 : 0 ≤ n * E := Int.mul_nonneg hn (by omega)
      generalize n * (E : Int) = X at *
      generalize S * E = Y at *
      unfold wrap64
      omega
    · have e : (S : Int) = n + 2 * A := by
        rw [hs, ← Int.add_emod_right, Int.emod_eq_of_lt (by push_cast; omega) (by push_cast; omega)]
        push_cast
        rfl
      have e2 : ((S * E : Nat) : Int) = n * E + 18446744073709551616 := by
        push_cast
        rw [e, Int.add_mul, Int.mul_assoc, h64i]
        rfl
      have b3 : n * E < 0 := Int.mul_neg_of_neg_of_pos (by omega) (by omega)
      generalize n * (E : Int) = X at *
      generalize S * E = Y at *
      unfold wrap64
      omega
  rw [key, Int.mul_ediv_cancel _ hEi]
theorem signed_sof {n : Int} {l : List UInt8} (h : SOf n l) (hl : l.length ≤ 9) : signedM l = n := by
  unfold signedM aboveOf
  rw [join_sum l _ hl]
  have hp := h.pos
  have hs := h.sum
  have lo := h.lo
  have hi := h.hi
  generalize hL : l.length = L at *
  have c1 : (2 ^ (7 * L - 1) : Int) = ((2 ^ (7 * L - 1) : Nat) : Int) := by push_cast; rfl
  have c2 : (2 ^ (7 * L) : Int) = ((2 * 2 ^ (7 * L - 1) : Nat) : Int) := by
    rw [show (2 : Nat) * 2 ^ (7 * L - 1) = 2 ^ (7 * L) by rw [← Nat.pow_succ']; congr 1; omega]
    push_cast
    rfl
  have c3 : (2 ^ (64 - 7 * L) : Int) = ((2 ^ (64 - 7 * L) : Nat) : Int) := by push_cast; rfl
  rw [c1] at lo hi
  rw [c2] at hs
  rw [c3]
  exact signed_gen (Nat.two_pow_pos _) (by rw [← Nat.pow_add]; show 2 ^ (7 * L - 1 + (64 - 7 * L)) = 2 ^ 63; congr 1; omega) hs lo hi
end Go.Proofs.YtdeplgkhmebalaaGreatDoor

namespace Go.Proofs.YtdeplgkhmebalaaGreatDoor
open Go.RowKit

theorem ten_sof {n : Int} {l : List UInt8} (h : SOf n l) (hl : l.length = 10) (h1 : -9223372036854775808 ≤ n) (h2 : n < 9223372036854775808) : ((l.getD 9 0).toNat = 0 ∨ (l.getD 9 0).toNat = 127) ∧ signedM l = n := by
  have hs := h.sum
  have hz := h.last
  rw [hl] at hs hz
  have hS := sumTo_lt l 9
  have e10 : sumTo l 10 = sumTo l 9 + ((l.getD 9 0).toNat % 128) * 2 ^ 63 := rfl
  have hj : joinTo l 10 = joinTo l 9 ||| ((l.getD 9 0).toNat % 128) * 2 ^ 63 % 18446744073709551616 := rfl
  rw [join_sum l 9 (by omega)] at hj
  have hz' : (l.getD 9 0).toNat < 128 := hz
  unfold signedM aboveOf
  rw [hl, hj]
  rw [e10] at hs
  generalize (l.getD 9 0).toNat = z at *
  generalize sumTo l 9 = S at *
  have hS' : S < 9223372036854775808 := hS
  have hs' : ((S + z % 128 * 9223372036854775808 : Nat) : Int) = n % 1180591620717411303424 := hs
  by_cases hn : 0 ≤ n
  · have hz0 : z = 0 ∧ (S : Int) = n := by omega
    obtain ⟨rfl, e⟩ := hz0
    refine ⟨.inl rfl, ?_⟩
    show wrap64 (((S ||| 0) * 2 ^ 0 % 18446744073709551616 : Nat) : Int) / 2 ^ 0 = n
    rw [Nat.or_zero]
    unfold wrap64
    omega
  · have hz0 : z = 127 ∧ (S : Int) = n + 9223372036854775808 := by omega
    obtain ⟨rfl, e⟩ := hz0
    refine ⟨.inr rfl, ?_⟩
    show wrap64 (((S ||| 9223372036854775808) * 2 ^ 0 % 18446744073709551616 : Nat) : Int) / 2 ^ 0 = n
    have ho : S ||| 9223372036854775808 = 9223372036854775808 + S := by
      rw [Nat.or_comm]
      have := Nat.two_pow_add_eq_or_of_lt (i := 63) (b := S) hS' 1
      simpa using this.symm
    rw [ho]
    unfold wrap64
    omega
set_option maxRecDepth 100000 in
theorem andSign_iff : ∀ x : Fin 256, andSign (UInt8.ofNat x.val) = decide (x.val % 128 < 64) := by decide +kernel
theorem andSign_nat (x : UInt8) : andSign x = decide (x.toNat % 128 < 64) := by
  have := andSign_iff ⟨x.toNat, x.toNat_lt⟩
  simpa using this
theorem padded_sof {n : Int} {l : List UInt8} (h : SOf n l) : paddedSignedM l = false := by
  unfold paddedSignedM
  by_cases h2 : 2 ≤ l.length
  · obtain ⟨t1, t2⟩ := h.tight h2
    rw [andSign_nat]
    generalize l.getD (l.length - 1) 0 = x at *
    generalize l.getD (l.length - 2) 0 = y at *
    by_cases hx0 : x = 0
    · subst hx0
      have := t1 rfl
      simp
      omega
    · by_cases hx1 : x = 127
      · subst hx1
        have := t2 rfl
        simp
        omega
      · simp [hx0, hx1]
  · simp [h2]
theorem beyond_sof {n : Int} {l : List UInt8} (h : SOf n l) (hl : l.length ≤ 10) (h1 : -9223372036854775808 ≤ n) (h2 : n < 9223372036854775808) : beyondM l = false := by
  unfold beyondM
  by_cases h10 : l.length = 10
  · rcases (ten_sof h h10 h1 h2).1 with e | e
    · have : l.getD 9 0 = 0 := UInt8.toNat_inj.1 e
      simp only [this]
      simp
    · have : l.getD 9 0 = 127 := UInt8.toNat_inj.1 e
      simp only [this]
      simp
  · have : ¬ 10 ≤ l.length := by omega
    simp [this]
theorem signed_B {n : Int} (h1 : -9223372036854775808 ≤ n) (h2 : n < 9223372036854775808) : signedM (sB n) = n := by
  obtain ⟨h, hl⟩ := sof_B n h1 h2
  by_cases h10 : (sB n).length = 10
  · exact (ten_sof h h10 h1 h2).2
  · exact signed_sof h (by omega)
end Go.Proofs.YtdeplgkhmebalaaGreatDoor

namespace Go.Proofs.YtdeplgkhmebalaaGreatDoor
open Go.RowKit

theorem grp_at {D l : List UInt8} {i0 : Nat} {start : Int} (hD : ∀ j, j < l.length → D.getD (i0 + j) 0 = l.getD j 0) (hlen : i0 + l.length ≤ D.length) (hm : ∀ j, j + 1 < l.length → 128 ≤ (l.getD j 0).toNat) (hz : (l.getD (l.length - 1) 0).toNat < 128) :
    ∀ (d j r : Nat), j + d + 1 = l.length → d + 1 ≤ r → grpGo D start r (i0 + j) = .ok (i0 + l.length)
  | 0, j, r + 1, h1, _ => by
    rw [grpGo, if_pos (by omega), hD j (by omega), show j = l.length - 1 by omega, if_pos hz]
    congr 1
    omega
  | d + 1, j, r + 1, h1, h2 => by
    rw [grpGo, if_pos (by omega), hD j (by omega), if_neg (by have := hm j (by omega); omega), show i0 + j + 1 = i0 + (j + 1) by omega]
    exact grp_at hD hlen hm hz d (j + 1) r (by omega) (by omega)
  | d, j, 0, _, h2 => absurd h2 (by omega)
theorem groups_at {n : Int} {pre l tail : List UInt8} (h : SOf n l) (hl : l.length ≤ 10) : groupsM (pre ++ (l ++ tail)) 10 pre.length = .ok (l, pre.length + l.length) := by
  have hD : ∀ j, j < l.length → (pre ++ (l ++ tail)).getD (pre.length + j) 0 = l.getD j 0 := fun j hj => by
    simp [List.getD_eq_getElem?_getD, List.getElem?_append_right, List.getElem?_append_left hj]
  have hp := h.pos
  have hg := grp_at (D := pre ++ (l ++ tail)) (i0 := pre.length) (start := (pre.length : Int)) hD (by simp) h.more h.last (l.length - 1) 0 10 (by omega) (by omega)
  rw [Nat.add_zero] at hg
  unfold groupsM
  rw [hg]
  have e : ((pre ++ (l ++ tail)).take (pre.length + l.length)).drop pre.length = l := by
    rw [List.drop_take, List.drop_left, show pre.length + l.length - pre.length = l.length by omega, List.take_left]
  simp only [e]
theorem S64_at {n : Int} (pre tail : List UInt8) (h1 : -9223372036854775808 ≤ n) (h2 : n < 9223372036854775808) : S64M (pre ++ (sB n ++ tail)) pre.length = .ok (n, pre.length + (sB n).length) := by
  obtain ⟨h, hl⟩ := sof_B n h1 h2
  unfold S64M
  rw [groups_at h hl]
  simp only [beyond_sof h hl h1 h2, padded_sof h, signed_B h1 h2]
  simp
end Go.Proofs.YtdeplgkhmebalaaGreatDoor
