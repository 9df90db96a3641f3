/- The run of a module's code: what counts bits. -/
import Derived.Test.YtdeplgkhmebalaaGreatDoorP09
import Derived.Lib.BitFns
import Derived.Lib.TrailingZeros
import Derived.Laws.Bits64b
import Derived.Deep.DeepCutAuto

namespace Go.Proofs.YtdeplgkhmebalaaGreatDoor
open Go.RowKit
theorem len8_at (i : Int) (h : i.toNat < Lib.len8tab.size) (h0 : 0 ≤ i) (h1 : i ≤ 255) : ((Lib.len8tab[i.toNat]'h).toNat : Int) = (Lib.bitLen i.toNat : Int) := by
  rw [← Lib.len8_of i h0 h1]
  unfold Lib.len8
  simp only [ByteArray.getElem?_lt' _ _ h, Option.getD_some]
theorem len_fin (k : Int) (b m : Nat) (hb : b ≤ 8) (hk0 : 0 ≤ k) (hk : k ≤ 64) (hm : (m : Int) = k + b) : wrap64 (k + wrap64 (b : Int)) = (m : Int) := by unfold wrap64; omega
theorem len_fin0 (b : Nat) (hb : b ≤ 8) : wrap64 (wrap64 (b : Int)) = (b : Int) := by unfold wrap64; omega
theorem len_fin1 (b : Nat) (hb : b ≤ 8) : wrap64 (b : Int) = (b : Int) := by unfold wrap64; omega
set_option maxHeartbeats 4000000 in
set_option maxRecDepth 100000 in
theorem len64_any (x : Int) (w : World) (h0 : 0 ≤ x) (h1 : x < 18446744073709551616) :
    Calls Tryz.prog 156 #[.int .u64 x] w fun e w' => e = .returned (.int .i64 (Lib.bitLen x.toNat)) ∧ w' = w := by
  have hsz : (Lib.len8tab.size : Int) = 256 := by rw [Lib.len8tab_size]; rfl
  go_enter Tryz.func156, Tryz.ntmps156
  go_wp2
  all_goals first
    | (exfalso; omega)
    | (go_ret; refine ⟨congrArg Ending.returned (congrArg (Value.int IntKind.i64) ?_), rfl⟩)
  all_goals first
    | (rw [len8_at (x / 4294967296 / 65536 / 256) (by omega) (by omega) (by omega)]
       have e : (x / 4294967296 / 65536 / 256).toNat = x.toNat / 72057594037927936 := by omega
       have l := Lib.bitLen_le8' (x / 4294967296 / 65536 / 256) (by omega) (by omega)
       have s := Lib.bitLen_shift56 x.toNat (by omega) (by omega)
       rw [e] at l ⊢
       exact len_fin 56 _ _ l (by decide) (by decide) (by omega))
    | (rw [len8_at (x / 4294967296 / 65536) (by omega) (by omega) (by omega)]
       have e : (x / 4294967296 / 65536).toNat = x.toNat / 281474976710656 := by omega
       have l := Lib.bitLen_le8' (x / 4294967296 / 65536) (by omega) (by omega)
       have s := Lib.bitLen_shift48 x.toNat (by omega) (by omega)
       rw [e] at l ⊢
       exact len_fin 48 _ _ l (by decide) (by decide) (by omega))
    | (rw [len8_at (x / 4294967296 / 256) (by omega) (by omega) (by omega)]
       have e : (x / 4294967296 / 256).toNat = x.toNat / 1099511627776 := by omega
       have l := Lib.bitLen_le8' (x / 4294967296 / 256) (by omega) (by omega)
       have s := Lib.bitLen_shift40 x.toNat (by omega) (by omega)
       rw [e] at l ⊢
       exact len_fin 40 _ _ l (by decide) (by decide) (by omega))
    | (rw [len8_at (x / 4294967296) (by omega) (by omega) (by omega)]
       have e : (x / 4294967296).toNat = x.toNat / 4294967296 := by omega
       have l := Lib.bitLen_le8' (x / 4294967296) (by omega) (by omega)
       have s := Lib.bitLen_shift32 x.toNat (by omega) (by omega)
       rw [e] at l ⊢
       exact len_fin 32 _ _ l (by decide) (by decide) (by omega))
    | (rw [len8_at (x / 65536 / 256) (by omega) (by omega) (by omega)]
       have e : (x / 65536 / 256).toNat = x.toNat / 16777216 := by omega
       have l := Lib.bitLen_le8' (x / 65536 / 256) (by omega) (by omega)
       have s := Lib.bitLen_shift24 x.toNat (by omega) (by omega)
       rw [e] at l ⊢
       exact len_fin 24 _ _ l (by decide) (by decide) (by omega))
    | (rw [len8_at (x / 65536) (by omega) (by omega) (by omega)]
       have e : (x / 65536).toNat = x.toNat / 65536 := by omega
       have l := Lib.bitLen_le8' (x / 65536) (by omega) (by omega)
       have s := Lib.bitLen_shift16 x.toNat (by omega) (by omega)
       rw [e] at l ⊢
       exact len_fin 16 _ _ l (by decide) (by decide) (by omega))
    | (rw [len8_at (x / 256) (by omega) (by omega) (by omega)]
       have e : (x / 256).toNat = x.toNat / 256 := by omega
       have l := Lib.bitLen_le8' (x / 256) (by omega) (by omega)
       have s := Lib.bitLen_shift8 x.toNat (by omega) (by omega)
       rw [e] at l ⊢
       exact len_fin 8 _ _ l (by decide) (by decide) (by omega))
    | (rw [len8_at (x) (by omega) (by omega) (by omega)]
       have e : (x).toNat = x.toNat := by omega
       have l := Lib.bitLen_le8' (x) (by omega) (by omega)
       rw [e] at l ⊢
       first
         | exact len_fin 0 _ _ l (by decide) (by decide) (by omega)
         | exact len_fin0 _ l
         | exact len_fin1 _ l)
theorem bitLen_64 (x : Int) (h1 : x < 18446744073709551616) : Lib.bitLen x.toNat ≤ 64 := Lib.bitLen_le x.toNat 64 (by omega) (by omega)
set_option maxRecDepth 100000 in
theorem lead64_any (x : Int) (w : World) (h0 : 0 ≤ x) (h1 : x < 18446744073709551616) :
    Calls Tryz.prog 236 #[.int .u64 x] w fun e w' => e = .returned (.int .i64 (64 - (Lib.bitLen x.toNat : Int))) ∧ w' = w := by
  have hl := len64_any x w h0 h1
  have hb := bitLen_64 x h1
  generalize Lib.bitLen x.toNat = n at *
  have hw : IntKind.i64.wrap (64 - (n : Int)) = 64 - (n : Int) := by rw [IntKind.wrap_i64]; omega
  have HL := hide hl
  clear hl
  go_enter Tryz.func236, Tryz.ntmps236
  go_wp2_with fail
  refine HL.out.mono ?_
  rintro r w' ⟨rfl, rfl⟩
  go_wp2
  go_ret
  exact ⟨by simp, rfl⟩
def TabW (w : World) : Prop := ∀ j, j < 64 → w.cell? ⟨2, j, none⟩ = some (.int .u8 (Lib.deBruijn64tab.getD j 0))
theorem TabW.kp {S : Nat → Prop} {w w' : World} (h : TabW w) (k : Kp S w w') (hs : ¬ S 2) : TabW w' := fun j hj => k.cell (h j hj) hs
theorem tz64_key' (x a : Nat) (hx : x < 18446744073709551616) (_hx0 : x ≠ 0) (hlow : x &&& (18446744073709551616 - x) = a) :
    IntKind.u64.wrap (bits BinOp.and IntKind.u64 (x : Int) (IntKind.u64.wrap (-(x : Int))) * 285870213051353865) / 288230376151711744 = ((a * 285870213051353865 % 18446744073709551616 / 288230376151711744 : Nat) : Int) := by
  have e1 : IntKind.u64.wrap (-(x : Int)) = ((18446744073709551616 - x : Nat) : Int) := by rw [IntKind.wrap_u64]; omega
  rw [e1, bits_and_u64_nat x _ hx (by omega), hlow, IntKind.wrap_u64]
  omega
set_option maxRecDepth 100000 in
theorem tz0_any (w : World) : Calls Tryz.prog 237 #[.int .u64 0] w fun e w' => e = .returned (.int .i64 64) ∧ w' = w := by
  go_enter Tryz.func237, Tryz.ntmps237
  go_wp2
  go_ret
  exact ⟨rfl, rfl⟩
set_option maxHeartbeats 1000000 in
set_option maxRecDepth 100000 in
theorem tzc_any (x k idx : Nat) (w : World) (hx0 : ((x : Int) == 0) = false)
    (key : IntKind.u64.wrap (bits BinOp.and IntKind.u64 (x : Int) (IntKind.u64.wrap (-(x : Int))) * 285870213051353865) / 288230376151711744 = (idx : Int))
    (hi : idx < 64) (hk : k < 64) (hcell : w.cell? ⟨2, idx, none⟩ = some (.int .u8 k)) :
    Calls Tryz.prog 237 #[.int .u64 x] w fun e w' => e = .returned (.int .i64 k) ∧ w' = w := by
  go_enter Tryz.func237, Tryz.ntmps237
  go_wp2_with (simp only [key])
  go_ret
  exact ⟨rfl, rfl⟩
theorem trail64_any (x : Int) (w : World) (h0 : 0 ≤ x) (h1 : x < 18446744073709551616) (hT : TabW w) :
    Calls Tryz.prog 237 #[.int .u64 x] w fun e w' => e = .returned (.int .i64 (Lib.ctz 64 x.toNat)) ∧ w' = w := by
  obtain ⟨n, rfl⟩ : ∃ n : Nat, x = (n : Int) := ⟨x.toNat, by omega⟩
  by_cases hx0 : n = 0
  · subst hx0
    exact tz0_any w
  · obtain ⟨hlow, hk⟩ := Lib.lowest_bit 64 n hx0 (by omega)
    obtain ⟨hi, htab⟩ := Lib.deBruijn64_at _ hk
    rw [Int.toNat_natCast]
    refine tzc_any n _ _ w (by simp; omega) (tz64_key' n _ (by omega) hx0 hlow) hi hk ?_
    rw [hT _ hi, htab]
theorem ctz_le (x : Int) (h1 : x < 18446744073709551616) : Lib.ctz 64 x.toNat ≤ 64 := by
  by_cases hx0 : x.toNat = 0
  · rw [hx0]; exact Nat.le_refl _
  · exact Nat.le_of_lt (Lib.lowest_bit 64 x.toNat hx0 (by omega)).2
def one1 (x : Int) : Int := IntKind.u64.wrap (bits BinOp.and IntKind.u64 (x / 2) 6148914691236517205 + bits BinOp.and IntKind.u64 x 6148914691236517205)
def one2 (x : Int) : Int := IntKind.u64.wrap (bits BinOp.and IntKind.u64 (x / 4) 3689348814741910323 + bits BinOp.and IntKind.u64 x 3689348814741910323)
def one3 (x : Int) : Int := bits BinOp.and IntKind.u64 (IntKind.u64.wrap (x / 16 + x)) 1085102592571150095
def one4 (x : Int) : Int := IntKind.u64.wrap (x + x / 256)
def one5 (x : Int) : Int := IntKind.u64.wrap (x + x / 65536)
def one6 (x : Int) : Int := IntKind.u64.wrap (x + x / 4294967296)
def onesR (x : Int) : Int := bits BinOp.and IntKind.i64 (wrap64 (one6 (one5 (one4 (one3 (one2 (one1 x))))))) 127
theorem onesR_le (x : Int) : 0 ≤ onesR x ∧ onesR x ≤ 127 := by
  unfold onesR
  generalize wrap64 (one6 (one5 (one4 (one3 (one2 (one1 x)))))) = a
  have h : bits BinOp.and IntKind.i64 a 127 = IntKind.i64.wrap ((BitVec.ofInt 64 a &&& BitVec.ofInt 64 127).toNat : Int) := rfl
  have h2 : (BitVec.ofInt 64 a &&& BitVec.ofInt 64 127).toNat ≤ 127 := by rw [BitVec.toNat_and]; exact Nat.and_le_right
  rw [h, IntKind.wrap_i64]
  omega
set_option maxHeartbeats 2000000 in
set_option maxRecDepth 100000 in
theorem ones64_any (x : Int) (w : World) : Calls Tryz.prog 238 #[.int .u64 x] w fun e w' => e = .returned (.int .i64 (onesR x)) ∧ w' = w := by
  obtain ⟨x1, e1⟩ : ∃ y, y = one1 x := ⟨_, rfl⟩
  obtain ⟨x2, e2⟩ : ∃ y, y = one2 x1 := ⟨_, rfl⟩
  obtain ⟨x3, e3⟩ : ∃ y, y = one3 x2 := ⟨_, rfl⟩
  obtain ⟨x4, e4⟩ : ∃ y, y = one4 x3 := ⟨_, rfl⟩
  obtain ⟨x5, e5⟩ : ∃ y, y = one5 x4 := ⟨_, rfl⟩
  obtain ⟨x6, e6⟩ : ∃ y, y = one6 x5 := ⟨_, rfl⟩
  have hR : onesR x = bits BinOp.and IntKind.i64 (wrap64 x6) 127 := by rw [e6, e5, e4, e3, e2, e1]; rfl
  generalize onesR x = R at *
  have E1 := hide e1
  have E2 := hide e2
  have E3 := hide e3
  have E4 := hide e4
  have E5 := hide e5
  have E6 := hide e6
  have HRr := hide hR
  clear e1 e2 e3 e4 e5 e6 hR
  go_enter Tryz.func238, Tryz.ntmps238
  go_upto_region 1 with fail
  go_cut [0, 3, 4, 5, 6, 7, 8] (fun z _ _ _ _ _ _ wx => z = .int .u64 x1 ∧ w = wx)
  case first =>
    go_wp2_with fail
    go_meet
    exact ⟨by rw [E1.out]; rfl, rfl⟩
  case rest =>
  obtain ⟨rfl, rfl⟩ := hcut
  go_upto_region 2 with fail
  go_cut [0, 9, 10, 11, 12, 13, 14] (fun z _ _ _ _ _ _ wx => z = .int .u64 x2 ∧ w = wx)
  case first =>
    go_wp2_with fail
    go_meet
    exact ⟨by rw [E2.out]; rfl, rfl⟩
  case rest =>
  obtain ⟨rfl, rfl⟩ := hcut
  go_upto_region 3 with fail
  go_cut [0, 15, 16, 17, 18, 19] (fun z _ _ _ _ _ wx => z = .int .u64 x3 ∧ w = wx)
  case first =>
    go_wp2_with fail
    go_meet
    exact ⟨by rw [E3.out]; rfl, rfl⟩
  case rest =>
  obtain ⟨rfl, rfl⟩ := hcut
  go_upto_region 4 with fail
  go_cut [0, 20, 21, 22, 23] (fun z _ _ _ _ wx => z = .int .u64 x4 ∧ w = wx)
  case first =>
    go_wp2_with fail
    go_meet
    exact ⟨by rw [E4.out]; rfl, rfl⟩
  case rest =>
  obtain ⟨rfl, rfl⟩ := hcut
  go_upto_region 5 with fail
  go_cut [0, 24, 25, 26, 27] (fun z _ _ _ _ wx => z = .int .u64 x5 ∧ w = wx)
  case first =>
    go_wp2_with fail
    go_meet
    exact ⟨by rw [E5.out]; rfl, rfl⟩
  case rest =>
  obtain ⟨rfl, rfl⟩ := hcut
  go_upto_region 6 with fail
  go_cut [0, 28, 29, 30, 31] (fun z _ _ _ _ wx => z = .int .u64 x6 ∧ w = wx)
  case first =>
    go_wp2_with fail
    go_meet
    exact ⟨by rw [E6.out]; rfl, rfl⟩
  case rest =>
  obtain ⟨rfl, rfl⟩ := hcut
  go_wp2
  go_ret
  exact ⟨by rw [HRr.out]; rfl, rfl⟩
def countR (wd : Bool) (k : Nat) (a : Int) : Int :=
  if k = 0 then 64 - (Lib.bitLen a.toNat : Int) - (64 - (wN wd : Int))
  else if k = 1 then min (Lib.ctz 64 a.toNat : Int) (wN wd : Int)
  else onesR a
theorem countR_0 (wd : Bool) (a : Int) : countR wd 0 a = 64 - (Lib.bitLen a.toNat : Int) - (64 - (wN wd : Int)) := by unfold countR; rw [if_pos rfl]
theorem countR_1 (wd : Bool) (a : Int) : countR wd 1 a = min (Lib.ctz 64 a.toNat : Int) (wN wd : Int) := by unfold countR; rw [if_neg (by decide), if_pos rfl]
theorem countR_2 (wd : Bool) (a : Int) : countR wd 2 a = onesR a := by unfold countR; rw [if_neg (by decide), if_neg (by decide)]
set_option maxRecDepth 100000 in
theorem wabove_any (wd : Bool) (a : Int) (w : World) (h0 : 0 ≤ a) (h1 : a < 18446744073709551616) :
    Calls Tryz.prog 202 #[wV wd, .int .u64 a] w fun e w' => e = .returned (.int .i64 (countR wd 0 a)) ∧ w' = w := by
  have hl := lead64_any a w h0 h1
  have hb := bitLen_64 a h1
  have hR := countR_0 wd a
  generalize countR wd 0 a = R at *
  generalize Lib.bitLen a.toNat = n at *
  have HL := hide hl
  clear hl
  cases wd
  · have hw : IntKind.i64.wrap (64 - (n : Int) - 32) = 64 - (n : Int) - 32 := by rw [IntKind.wrap_i64]; omega
    have hR' : R = 64 - (n : Int) - 32 := hR
    subst hR'
    clear hR
    unfold wV
    go_enter Tryz.func202, Tryz.ntmps202
    go_wp2_with fail
    refine HL.out.mono ?_
    rintro r w' ⟨rfl, rfl⟩
    go_wp2
    go_ret
    exact ⟨by simp, rfl⟩
  · have hw : IntKind.i64.wrap (64 - (n : Int) - 0) = 64 - (n : Int) := by rw [IntKind.wrap_i64]; omega
    have hR' : R = 64 - (n : Int) := hR.trans (by show 64 - (n : Int) - (64 - 64) = _; omega)
    subst hR'
    clear hR
    unfold wV
    go_enter Tryz.func202, Tryz.ntmps202
    go_wp2_with fail
    refine HL.out.mono ?_
    rintro r w' ⟨rfl, rfl⟩
    go_wp2
    go_ret
    exact ⟨by simp, rfl⟩
set_option maxRecDepth 100000 in
theorem wbelow_any (wd : Bool) (a : Int) (w : World) (h0 : 0 ≤ a) (h1 : a < 18446744073709551616) (hT : TabW w) :
    Calls Tryz.prog 203 #[wV wd, .int .u64 a] w fun e w' => e = .returned (.int .i64 (countR wd 1 a)) ∧ w' = w := by
  have hl := trail64_any a w h0 h1 hT
  have hb := ctz_le a h1
  have hR := countR_1 wd a
  generalize countR wd 1 a = R at *
  generalize Lib.ctz 64 a.toNat = n at *
  have HL := hide hl
  clear hl
  cases wd
  · have hR' : R = min (n : Int) 32 := hR
    subst hR'
    clear hR
    unfold wV
    go_enter Tryz.func203, Tryz.ntmps203
    go_wp2_with fail
    refine HL.out.mono ?_
    rintro r w' ⟨rfl, rfl⟩
    go_wp2
    all_goals
      go_ret
      exact ⟨by simp <;> omega, rfl⟩
  · have hR' : R = min (n : Int) 64 := hR
    subst hR'
    clear hR
    unfold wV
    go_enter Tryz.func203, Tryz.ntmps203
    go_wp2_with fail
    refine HL.out.mono ?_
    rintro r w' ⟨rfl, rfl⟩
    go_wp2
    all_goals
      go_ret
      exact ⟨by simp <;> omega, rfl⟩
set_option maxRecDepth 100000 in
theorem wones_any (wd : Bool) (a : Int) (w : World) :
    Calls Tryz.prog 204 #[wV wd, .int .u64 a] w fun e w' => e = .returned (.int .i64 (countR wd 2 a)) ∧ w' = w := by
  have hl := ones64_any a w
  rw [countR_2]
  generalize onesR a = n at hl ⊢
  generalize wV wd = v
  have HL := hide hl
  clear hl
  go_enter Tryz.func204, Tryz.ntmps204
  go_wp2_with fail
  refine HL.out.mono ?_
  rintro r w' ⟨rfl, rfl⟩
  go_wp2
  go_ret
  exact ⟨by simp, rfl⟩
def cntF (k : Nat) : Nat := match k with
  | 0 => 202
  | 1 => 203
  | _ => 204
theorem cntF_any (wd : Bool) (k : Nat) (hk : k < 3) (a : Int) (w0 : World) (h0 : 0 ≤ a) (h1 : a < 18446744073709551616) (hT : TabW w0) : Calls Tryz.prog (cntF k) #[wV wd, .int .u64 a] w0 fun r w' => r = .returned (.int .i64 (countR wd k a)) ∧ w' = w0 := by
  match k, hk with
  | 0, _ => exact wabove_any wd a w0 h0 h1
  | 1, _ => exact wbelow_any wd a w0 h0 h1 hT
  | 2, _ => exact wones_any wd a w0
set_option maxRecDepth 100000 in
set_option maxHeartbeats 2000000 in
theorem wcount_any (wd : Bool) (k : Nat) (hk : k < 3) (a : Int) (w0 : World) (h0 : 0 ≤ a) (h1 : a < 18446744073709551616) (hT : TabW w0) : Calls Tryz.prog 172 #[wV wd, .int .u8 k, .int .u64 a] w0 fun r w' => r = .returned (.int .u64 (IntKind.u64.wrap (countR wd k a))) ∧ Kp no w0 w' := by
  have hc := fun W (kW : Kp no w0 W) => cntF_any wd k hk a W h0 h1 (hT.kp kW (fun h => h))
  generalize countR wd k a = R at *
  generalize wV wd = v at *
  have H1 := hide hc
  clear hc hT
  go_enter Tryz.func172, Tryz.ntmps172
  go_upto_region 2 with fail
  rcases (by omega : k = 0 ∨ k = 1 ∨ k = 2) with rfl | rfl | rfl
  all_goals
    go_wp2_with fail
    refine (H1.out _ ((Kp.refl no w0).alloc _)).mono ?_
    rintro e w1 ⟨rfl, rfl⟩
    go_wp2
    go_ret
    exact ⟨by simp, (Kp.refl _ _).alloc _⟩
end Go.Proofs.YtdeplgkhmebalaaGreatDoor
