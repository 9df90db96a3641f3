/- What is stored is there: the runs. -/
import Derived.Test.YtdeplgkhmebalaaGreatDoorCellsA
import Derived.Test.YtdeplgkhmebalaaGreatDoorP32

namespace Go.Proofs.YtdeplgkhmebalaaGreatDoor
open Go.RowKit

theorem stTo_get (m : List UInt8) (p v j : Nat) : ∀ k, p + k ≤ m.length → (stTo m p v k).getD j 0 = if p ≤ j ∧ j < p + k then UInt8.ofNat (v / 2 ^ (8 * (j - p))) else m.getD j 0
  | 0, _ => by rw [stTo, if_neg (by omega)]
  | k + 1, h => by
    have ih := stTo_get m p v j k (by omega)
    have hl := stTo_len m p v k
    rw [stTo, List.getD_eq_getElem?_getD, List.getElem?_set]
    by_cases hj : p + k = j
    · subst hj
      rw [if_pos rfl, if_pos (by omega), if_pos (by omega), Nat.add_sub_cancel_left]
      rfl
    · rw [if_neg hj, ← List.getD_eq_getElem?_getD, ih]
      by_cases h1 : p ≤ j ∧ j < p + k
      · rw [if_pos h1, if_pos (by omega)]
      · rw [if_neg h1, if_neg (by omega)]
theorem or_step (v k : Nat) (hk : k < 8) : v % 2 ^ (8 * k) ||| (UInt8.ofNat (v / 2 ^ (8 * k))).toNat * 2 ^ (8 * k) % 18446744073709551616 = v % 2 ^ (8 * (k + 1)) := by
  have hlt : v % 2 ^ (8 * k) < 2 ^ (8 * k) := Nat.mod_lt _ (Nat.two_pow_pos _)
  have h8 : (UInt8.ofNat (v / 2 ^ (8 * k))).toNat = v / 2 ^ (8 * k) % 256 := by rw [UInt8.toNat_ofNat']
  rw [h8]
  have hb : v / 2 ^ (8 * k) % 256 < 256 := Nat.mod_lt _ (by decide)
  have hpw : 2 ^ (8 * (k + 1)) = 2 ^ (8 * k) * 256 := by rw [Nat.mul_add, Nat.pow_add]
  have hle : 2 ^ (8 * (k + 1)) ≤ 2 ^ 64 := Nat.pow_le_pow_right (by decide) (by omega)
  have hlt2 : v / 2 ^ (8 * k) % 256 * 2 ^ (8 * k) < 18446744073709551616 := by
    have : v / 2 ^ (8 * k) % 256 * 2 ^ (8 * k) < 256 * 2 ^ (8 * k) := Nat.mul_lt_mul_of_pos_right hb (Nat.two_pow_pos _)
    have h64 : (2 : Nat) ^ 64 = 18446744073709551616 := by decide
    rw [hpw, h64] at hle
    omega
  rw [Nat.mod_eq_of_lt hlt2, Nat.or_comm, Nat.mul_comm, ← Nat.two_pow_add_eq_or_of_lt hlt, hpw, Nat.mod_mul]
  omega
theorem leTo_stored (s : Mc) (m : List UInt8) (p v : Nat) (hs : s.mem = stTo m p v 8) (hp : p + 8 ≤ m.length) : ∀ k, k ≤ 8 → leTo s p k = v % 2 ^ (8 * k)
  | 0, _ => by simp [leTo, Nat.mod_one]
  | k + 1, h => by
    have hg : memAt s p k = UInt8.ofNat (v / 2 ^ (8 * k)) := by
      unfold memAt
      rw [hs, stTo_get m p v (p + k) 8 hp, if_pos (by omega), Nat.add_sub_cancel_left]
    rw [leTo, leTo_stored s m p v hs hp k (by omega), hg, or_step v k (by omega)]
theorem leTo_last (s : Mc) (m : List UInt8) (p v : Nat) (hs : s.mem = stTo m p v 8) (hp : p + 8 ≤ m.length) (hv : v < 18446744073709551616) : leTo s (p + 7) 1 = v / 2 ^ 56 := by
  have hg : memAt s (p + 7) 0 = UInt8.ofNat (v / 2 ^ 56) := by
    unfold memAt
    rw [hs, stTo_get m p v (p + 7 + 0) 8 hp, if_pos (by omega)]
    congr 3
    omega
  have h8 : (UInt8.ofNat (v / 2 ^ 56)).toNat = v / 2 ^ 56 := by
    rw [UInt8.toNat_ofNat']
    omega
  rw [leTo, leTo, hg, h8]
  simp only [Nat.mul_zero, Nat.pow_zero, Nat.mul_one, Nat.zero_or]
  omega

theorem run_one {f : Flat} {s : Mc} {n F : Nat} {x : Ins} (hc : s.calls.length ≠ 0) (hp : s.pos < f.code.length) (hx : f.code.getD s.pos ins0 = x) (hb : burnsR x.op = true) (hf : s.fuel = F + 1) :
    runR f (n + 1) s = afterR (stepR f { s with pos := s.pos + 1, fuel := F } x) (runR f n) := by
  rw [runR, if_neg hc, if_pos hp, hx, if_pos hb, if_neg (by omega), hf, Nat.add_sub_cancel]

section
variable (p o a F : Nat) (mem : List UInt8) (gl : List Int) (keys : List (Int × Int))
set_option maxRecDepth 100000 in
theorem ce_s1 (v : Nat) : stepsR (cellF p o) 2 (enterR (cellF p o) ⟨[((a : Nat) : Int), ((v : Nat) : Int)], [], 0, F + 3, mem, gl, keys⟩ 0) = some ⟨[((a : Nat) : Int), ((v : Nat) : Int), ((a : Nat) : Int), ((v : Nat) : Int)], [(0, 2, 0)], 2, F + 1, mem, gl, keys⟩ := by kernel_rfl
set_option maxRecDepth 100000 in
theorem ce_s3 (v : Nat) : runR (cellF p o) 5 ⟨[((a : Nat) : Int), ((v : Nat) : Int)], [(0, 2, 0)], 3, F, mem, gl, keys⟩ = some (0, ⟨[], [], 0, F, mem, gl, keys⟩) := by kernel_rfl
set_option maxRecDepth 100000 in
theorem ce_l1 : stepsR (cellF p o) 1 (enterR (cellF p o) ⟨[((a : Nat) : Int)], [], 0, F + 2, mem, gl, keys⟩ 1) = some ⟨[((a : Nat) : Int), ((a : Nat) : Int)], [(0, 1, 0)], 5, F + 1, mem, gl, keys⟩ := by kernel_rfl
set_option maxRecDepth 100000 in
theorem ce_l3 (r : Int) : runR (cellF p o) 5 ⟨[((a : Nat) : Int), r], [(0, 1, 0)], 6, F, mem, gl, keys⟩ = some (0, ⟨[r], [], 0, F, mem, gl, keys⟩) := by kernel_rfl
set_option maxRecDepth 100000 in
theorem ce_b1 : stepsR (cellF p o) 1 (enterR (cellF p o) ⟨[((a : Nat) : Int)], [], 0, F + 2, mem, gl, keys⟩ 2) = some ⟨[((a : Nat) : Int), ((a : Nat) : Int)], [(0, 1, 0)], 8, F + 1, mem, gl, keys⟩ := by kernel_rfl
set_option maxRecDepth 100000 in
theorem ce_b3 (r : Int) : runR (cellF p o) 5 ⟨[((a : Nat) : Int), r], [(0, 1, 0)], 9, F, mem, gl, keys⟩ = some (0, ⟨[r], [], 0, F, mem, gl, keys⟩) := by kernel_rfl
set_option maxRecDepth 100000 in
theorem ce_g1 : stepsR (cellF p o) 1 (enterR (cellF p o) ⟨[((a : Nat) : Int)], [], 0, F + 2, mem, gl, keys⟩ 3) = some ⟨[((a : Nat) : Int), ((a : Nat) : Int)], [(0, 1, 0)], 11, F + 1, mem, gl, keys⟩ := by kernel_rfl
set_option maxRecDepth 100000 in
theorem ce_g3 (r : Int) : runR (cellF p o) 5 ⟨[((a : Nat) : Int), r], [(0, 1, 0)], 12, F, mem, gl, keys⟩ = some (0, ⟨[r], [], 0, F, mem, gl, keys⟩) := by kernel_rfl
set_option maxRecDepth 100000 in
theorem ce_p3 (r : Int) : runR (cellF p o) 5 ⟨[r], [(0, 0, 0)], 14, F, mem, gl, keys⟩ = some (0, ⟨[r], [], 0, F, mem, gl, keys⟩) := by kernel_rfl
theorem ce_set (f : Flat) (s : Mc) : stepR f s ⟨55, o, 0, 0, 0⟩ = setMemR s o 8 := by kernel_rfl
theorem ce_get (f : Flat) (s : Mc) : stepR f s ⟨41, o, 0, 0, 0⟩ = getMemR s o 8 := by kernel_rfl
theorem ce_byte (f : Flat) (s : Mc) : stepR f s ⟨45, o, 0, 0, 0⟩ = getMemR s o 1 := by kernel_rfl
theorem ce_grow (f : Flat) (s : Mc) : stepR f s ⟨64, 0, 0, 0, 0⟩ = (growR s).map (fun s' => (0, s')) := by kernel_rfl
theorem ce_size (f : Flat) (s : Mc) : stepR f s ⟨63, 0, 0, 0, 0⟩ = (if s.mem.length ≤ 1000000 then some (0, putR s ((s.mem.length / 64 : Nat) : Int)) else none) := by kernel_rfl
end

section
variable {p o a v F : Nat} {mem : List UInt8} {gl : List Int} {keys : List (Int × Int)}
theorem ce_store (ha : a < 4294967296) (ho : o < 4294967296) (hv : v < 18446744073709551616) (hm : mem.length ≤ 1000) (hin : a + o + 8 ≤ mem.length) :
    callR (cellF p o) 0 [((a : Nat) : Int), ((v : Nat) : Int)] (F + 3) mem gl keys 8 = some (0, 0, 3, ⟨[], [], 0, F, stTo mem (a + o) v 8, gl, keys⟩) := by
  unfold callR
  have h1 := steps_run (m := 6) 2 _ _ (ce_s1 p o a F mem gl keys v)
  have h2 : runR (cellF p o) 6 ⟨[((a : Nat) : Int), ((v : Nat) : Int), ((a : Nat) : Int), ((v : Nat) : Int)], [(0, 2, 0)], 2, F + 1, mem, gl, keys⟩ = some (0, ⟨[], [], 0, F, stTo mem (a + o) v 8, gl, keys⟩) := by
    rw [run_one (n := 5) (F := F) (x := ⟨55, o, 0, 0, 0⟩) (by simp) (by simp [cellF, cellCode]) rfl rfl rfl, ce_set]
    unfold setMemR
    have hT : topR ⟨[((a : Nat) : Int), ((v : Nat) : Int), ((a : Nat) : Int), ((v : Nat) : Int)], [(0, 2, 0)], 2 + 1, F, mem, gl, keys⟩ = (v : Int) := rfl
    have hP : popR ⟨[((a : Nat) : Int), ((v : Nat) : Int), ((a : Nat) : Int), ((v : Nat) : Int)], [(0, 2, 0)], 2 + 1, F, mem, gl, keys⟩ = ⟨[((a : Nat) : Int), ((v : Nat) : Int), ((a : Nat) : Int)], [(0, 2, 0)], 3, F, mem, gl, keys⟩ := rfl
    have hT2 : topR ⟨[((a : Nat) : Int), ((v : Nat) : Int), ((a : Nat) : Int)], [(0, 2, 0)], 3, F, mem, gl, keys⟩ = (a : Int) := rfl
    have hP2 : popR ⟨[((a : Nat) : Int), ((v : Nat) : Int), ((a : Nat) : Int)], [(0, 2, 0)], 3, F, mem, gl, keys⟩ = ⟨[((a : Nat) : Int), ((v : Nat) : Int)], [(0, 2, 0)], 3, F, mem, gl, keys⟩ := rfl
    have hA : addrOk ⟨[((a : Nat) : Int), ((v : Nat) : Int), ((a : Nat) : Int)], [(0, 2, 0)], 3, F, mem, gl, keys⟩ o = true := by
      unfold addrOk
      rw [hT2]
      simp
      omega
    simp only [hT, hP, hT2, hP2, hA]
    rw [if_neg (by simp; omega), if_neg (by simp; omega)]
    simp only [afterR, if_pos, Int.toNat_natCast]
    exact ce_s3 p o a F _ gl keys v
  rw [show (8 : Nat) = 2 + 6 from rfl, h1, h2]
  simp
theorem ce_storeT (ha : a < 4294967296) (ho : o < 4294967296) (hv : v < 18446744073709551616) (hm : mem.length ≤ 1000) (hin : mem.length < a + o + 8) :
    callR (cellF p o) 0 [((a : Nat) : Int), ((v : Nat) : Int)] (F + 3) mem gl keys 8 = some (4, 0, 3, ⟨[((a : Nat) : Int), ((v : Nat) : Int)], [(0, 2, 0)], 3, F, mem, gl, keys⟩) := by
  unfold callR
  have h1 := steps_run (m := 6) 2 _ _ (ce_s1 p o a F mem gl keys v)
  have h2 : runR (cellF p o) 6 ⟨[((a : Nat) : Int), ((v : Nat) : Int), ((a : Nat) : Int), ((v : Nat) : Int)], [(0, 2, 0)], 2, F + 1, mem, gl, keys⟩ = some (4, ⟨[((a : Nat) : Int), ((v : Nat) : Int)], [(0, 2, 0)], 3, F, mem, gl, keys⟩) := by
    rw [run_one (n := 5) (F := F) (x := ⟨55, o, 0, 0, 0⟩) (by simp) (by simp [cellF, cellCode]) rfl rfl rfl, ce_set]
    unfold setMemR
    have hT : topR ⟨[((a : Nat) : Int), ((v : Nat) : Int), ((a : Nat) : Int), ((v : Nat) : Int)], [(0, 2, 0)], 2 + 1, F, mem, gl, keys⟩ = (v : Int) := rfl
    have hP : popR ⟨[((a : Nat) : Int), ((v : Nat) : Int), ((a : Nat) : Int), ((v : Nat) : Int)], [(0, 2, 0)], 2 + 1, F, mem, gl, keys⟩ = ⟨[((a : Nat) : Int), ((v : Nat) : Int), ((a : Nat) : Int)], [(0, 2, 0)], 3, F, mem, gl, keys⟩ := rfl
    have hT2 : topR ⟨[((a : Nat) : Int), ((v : Nat) : Int), ((a : Nat) : Int)], [(0, 2, 0)], 3, F, mem, gl, keys⟩ = (a : Int) := rfl
    have hP2 : popR ⟨[((a : Nat) : Int), ((v : Nat) : Int), ((a : Nat) : Int)], [(0, 2, 0)], 3, F, mem, gl, keys⟩ = ⟨[((a : Nat) : Int), ((v : Nat) : Int)], [(0, 2, 0)], 3, F, mem, gl, keys⟩ := rfl
    have hA : addrOk ⟨[((a : Nat) : Int), ((v : Nat) : Int), ((a : Nat) : Int)], [(0, 2, 0)], 3, F, mem, gl, keys⟩ o = true := by
      unfold addrOk
      rw [hT2]
      simp
      omega
    simp only [hT, hP, hT2, hP2, hA]
    rw [if_neg (by simp; omega), if_pos (by simp; omega)]
    simp [afterR]
  rw [show (8 : Nat) = 2 + 6 from rfl, h1, h2]
  simp

theorem ce_get1 {k : Nat} {z : Nat} {n : Nat} (ha : a < 4294967296) (ho : o < 4294967296) (hm : mem.length ≤ 1000) (hin : a + o + z ≤ mem.length) :
    getMemR ⟨[((a : Nat) : Int), ((a : Nat) : Int)], [(0, 1, 0)], k, F, mem, gl, keys⟩ o z = some (0, ⟨[((a : Nat) : Int), ((leTo ⟨[], [], n, 0, mem, gl, keys⟩ (a + o) z : Nat) : Int)], [(0, 1, 0)], k, F, mem, gl, keys⟩) := by
  unfold getMemR
  have hT2 : topR ⟨[((a : Nat) : Int), ((a : Nat) : Int)], [(0, 1, 0)], k, F, mem, gl, keys⟩ = (a : Int) := rfl
  have hP2 : popR ⟨[((a : Nat) : Int), ((a : Nat) : Int)], [(0, 1, 0)], k, F, mem, gl, keys⟩ = ⟨[((a : Nat) : Int)], [(0, 1, 0)], k, F, mem, gl, keys⟩ := rfl
  have hA : addrOk ⟨[((a : Nat) : Int), ((a : Nat) : Int)], [(0, 1, 0)], k, F, mem, gl, keys⟩ o = true := by
    unfold addrOk
    rw [hT2]
    simp
    omega
  have hL : ∀ z, leTo ⟨[((a : Nat) : Int), ((a : Nat) : Int)], [(0, 1, 0)], k, F, mem, gl, keys⟩ (a + o) z = leTo ⟨[], [], n, 0, mem, gl, keys⟩ (a + o) z := by
    intro z
    induction z with
    | zero => rfl
    | succ z ih => rw [leTo, leTo, ih]; rfl
  simp only [hT2, hP2, hA]
  rw [if_neg (by simp), if_neg (by simp; omega)]
  simp only [Int.toNat_natCast, hL]
  rfl
theorem ce_get1T {k : Nat} {z : Nat} (ha : a < 4294967296) (ho : o < 4294967296) (hm : mem.length ≤ 1000) (hin : mem.length < a + o + z) :
    getMemR ⟨[((a : Nat) : Int), ((a : Nat) : Int)], [(0, 1, 0)], k, F, mem, gl, keys⟩ o z = some (4, ⟨[((a : Nat) : Int)], [(0, 1, 0)], k, F, mem, gl, keys⟩) := by
  unfold getMemR
  have hT2 : topR ⟨[((a : Nat) : Int), ((a : Nat) : Int)], [(0, 1, 0)], k, F, mem, gl, keys⟩ = (a : Int) := rfl
  have hP2 : popR ⟨[((a : Nat) : Int), ((a : Nat) : Int)], [(0, 1, 0)], k, F, mem, gl, keys⟩ = ⟨[((a : Nat) : Int)], [(0, 1, 0)], k, F, mem, gl, keys⟩ := rfl
  have hA : addrOk ⟨[((a : Nat) : Int), ((a : Nat) : Int)], [(0, 1, 0)], k, F, mem, gl, keys⟩ o = true := by
    unfold addrOk
    rw [hT2]
    simp
    omega
  simp only [hT2, hP2, hA]
  rw [if_neg (by simp), if_pos (by simp; omega)]
theorem after_trap {t : Nat} {s : Mc} {g : Mc → Option (Nat × Mc)} : afterR (some (t + 1, s)) g = some (t + 1, s) := by simp [afterR]
theorem after_go {s : Mc} {g : Mc → Option (Nat × Mc)} : afterR (some (0, s)) g = g s := by simp [afterR]
theorem call_trap {f : Flat} {n K t u : Nat} {args : List Int} {fuel : Nat} {s : Mc} (h : runR f K (enterR f ⟨args, [], 0, fuel, mem, gl, keys⟩ n) = some (t + 1, s)) (hf : s.fuel + u = fuel) (hl : s.stack.length ≤ 1000000) : callR f n args fuel mem gl keys K = some (t + 1, 0, u, s) := by
  unfold callR
  rw [h]
  simp only
  rw [if_pos ⟨by omega, hl⟩, if_neg (fun h => by cases h.1), show fuel - s.fuel = u by omega]
theorem call_gives {f : Flat} {n K u : Nat} {r : Int} {args : List Int} {fuel : Nat} {s : Mc} (h : runR f K (enterR f ⟨args, [], 0, fuel, mem, gl, keys⟩ n) = some (0, s)) (hf : s.fuel + u = fuel) (hl : s.stack = [r]) : callR f n args fuel mem gl keys K = some (0, r, u, s) := by
  unfold callR
  rw [h]
  simp only
  rw [if_pos ⟨by omega, by rw [hl]; simp⟩, if_pos ⟨trivial, by rw [hl]; simp⟩, show fuel - s.fuel = u by omega, topR, hl]
  rfl
theorem ce_loadA : runR (cellF p o) 6 ⟨[((a : Nat) : Int), ((a : Nat) : Int)], [(0, 1, 0)], 5, F + 1, mem, gl, keys⟩ = afterR (stepR (cellF p o) ⟨[((a : Nat) : Int), ((a : Nat) : Int)], [(0, 1, 0)], 6, F, mem, gl, keys⟩ ⟨41, o, 0, 0, 0⟩) (runR (cellF p o) 5) := by
  rw [run_one (n := 5) (F := F) (x := ⟨41, o, 0, 0, 0⟩) (by simp) (by simp [cellF, cellCode]) rfl rfl rfl]
theorem ce_loadB (ha : a < 4294967296) (ho : o < 4294967296) (hm : mem.length ≤ 1000) (hin : a + o + 8 ≤ mem.length) : stepR (cellF p o) ⟨[((a : Nat) : Int), ((a : Nat) : Int)], [(0, 1, 0)], 6, F, mem, gl, keys⟩ ⟨41, o, 0, 0, 0⟩ = some (0, ⟨[((a : Nat) : Int), ((leTo ⟨[], [], 0, 0, mem, gl, keys⟩ (a + o) 8 : Nat) : Int)], [(0, 1, 0)], 6, F, mem, gl, keys⟩) := by
  rw [ce_get, ce_get1 (n := 0) ha ho hm hin]
theorem ce_load (ha : a < 4294967296) (ho : o < 4294967296) (hm : mem.length ≤ 1000) (hin : a + o + 8 ≤ mem.length) :
    callR (cellF p o) 1 [((a : Nat) : Int)] (F + 2) mem gl keys 7 = some (0, ((leTo ⟨[], [], 0, 0, mem, gl, keys⟩ (a + o) 8 : Nat) : Int), 2, ⟨[((leTo ⟨[], [], 0, 0, mem, gl, keys⟩ (a + o) 8 : Nat) : Int)], [], 0, F, mem, gl, keys⟩) :=
  call_gives ((steps_run (m := 6) 1 _ _ (ce_l1 p o a F mem gl keys)).trans ((ce_loadA.trans (congrArg (fun z => afterR z (runR (cellF p o) 5)) (ce_loadB ha ho hm hin))).trans (after_go.trans (ce_l3 p o a F mem gl keys _)))) rfl rfl
theorem ce_loadTB (ha : a < 4294967296) (ho : o < 4294967296) (hm : mem.length ≤ 1000) (hin : mem.length < a + o + 8) : stepR (cellF p o) ⟨[((a : Nat) : Int), ((a : Nat) : Int)], [(0, 1, 0)], 6, F, mem, gl, keys⟩ ⟨41, o, 0, 0, 0⟩ = some (4, ⟨[((a : Nat) : Int)], [(0, 1, 0)], 6, F, mem, gl, keys⟩) := by
  rw [ce_get, ce_get1T ha ho hm hin]
theorem ce_loadT (ha : a < 4294967296) (ho : o < 4294967296) (hm : mem.length ≤ 1000) (hin : mem.length < a + o + 8) :
    callR (cellF p o) 1 [((a : Nat) : Int)] (F + 2) mem gl keys 7 = some (4, 0, 2, ⟨[((a : Nat) : Int)], [(0, 1, 0)], 6, F, mem, gl, keys⟩) :=
  call_trap ((steps_run (m := 6) 1 _ _ (ce_l1 p o a F mem gl keys)).trans ((ce_loadA.trans (congrArg (fun z => afterR z (runR (cellF p o) 5)) (ce_loadTB ha ho hm hin))).trans after_trap)) rfl (by simp)
theorem ce_lastA : runR (cellF p o) 6 ⟨[((a : Nat) : Int), ((a : Nat) : Int)], [(0, 1, 0)], 8, F + 1, mem, gl, keys⟩ = afterR (stepR (cellF p o) ⟨[((a : Nat) : Int), ((a : Nat) : Int)], [(0, 1, 0)], 9, F, mem, gl, keys⟩ ⟨45, o, 0, 0, 0⟩) (runR (cellF p o) 5) := by
  rw [run_one (n := 5) (F := F) (x := ⟨45, o, 0, 0, 0⟩) (by simp) (by simp [cellF, cellCode]) rfl rfl rfl]
theorem ce_lastB (ha : a < 4294967296) (ho : o < 4294967296) (hm : mem.length ≤ 1000) (hin : a + o + 1 ≤ mem.length) : stepR (cellF p o) ⟨[((a : Nat) : Int), ((a : Nat) : Int)], [(0, 1, 0)], 9, F, mem, gl, keys⟩ ⟨45, o, 0, 0, 0⟩ = some (0, ⟨[((a : Nat) : Int), ((leTo ⟨[], [], 0, 0, mem, gl, keys⟩ (a + o) 1 : Nat) : Int)], [(0, 1, 0)], 9, F, mem, gl, keys⟩) := by
  rw [ce_byte, ce_get1 (n := 0) ha ho hm hin]
theorem ce_last (ha : a < 4294967296) (ho : o < 4294967296) (hm : mem.length ≤ 1000) (hin : a + o + 1 ≤ mem.length) :
    callR (cellF p o) 2 [((a : Nat) : Int)] (F + 2) mem gl keys 7 = some (0, ((leTo ⟨[], [], 0, 0, mem, gl, keys⟩ (a + o) 1 : Nat) : Int), 2, ⟨[((leTo ⟨[], [], 0, 0, mem, gl, keys⟩ (a + o) 1 : Nat) : Int)], [], 0, F, mem, gl, keys⟩) :=
  call_gives ((steps_run (m := 6) 1 _ _ (ce_b1 p o a F mem gl keys)).trans ((ce_lastA.trans (congrArg (fun z => afterR z (runR (cellF p o) 5)) (ce_lastB ha ho hm hin))).trans (after_go.trans (ce_b3 p o a F mem gl keys _)))) rfl rfl
theorem ce_lastTB (ha : a < 4294967296) (ho : o < 4294967296) (hm : mem.length ≤ 1000) (hin : mem.length < a + o + 1) : stepR (cellF p o) ⟨[((a : Nat) : Int), ((a : Nat) : Int)], [(0, 1, 0)], 9, F, mem, gl, keys⟩ ⟨45, o, 0, 0, 0⟩ = some (4, ⟨[((a : Nat) : Int)], [(0, 1, 0)], 9, F, mem, gl, keys⟩) := by
  rw [ce_byte, ce_get1T ha ho hm hin]
theorem ce_lastT (ha : a < 4294967296) (ho : o < 4294967296) (hm : mem.length ≤ 1000) (hin : mem.length < a + o + 1) :
    callR (cellF p o) 2 [((a : Nat) : Int)] (F + 2) mem gl keys 7 = some (4, 0, 2, ⟨[((a : Nat) : Int)], [(0, 1, 0)], 9, F, mem, gl, keys⟩) :=
  call_trap ((steps_run (m := 6) 1 _ _ (ce_b1 p o a F mem gl keys)).trans ((ce_lastA.trans (congrArg (fun z => afterR z (runR (cellF p o) 5)) (ce_lastTB ha ho hm hin))).trans after_trap)) rfl (by simp)
theorem ce_growN (ha : a < 4294967296) (hm : mem.length = 64 * p) (hp : p ≤ 4) (hg : 4 < p + a) :
    callR (cellF p o) 3 [((a : Nat) : Int)] (F + 2) mem gl keys 7 = some (0, 4294967295, 2, ⟨[4294967295], [], 0, F, mem, gl, keys⟩) := by
  unfold callR
  have hT2 : topR ⟨[((a : Nat) : Int), ((a : Nat) : Int)], [(0, 1, 0)], 11 + 1, F, mem, gl, keys⟩ = (a : Int) := rfl
  have hgr : growR ⟨[((a : Nat) : Int), ((a : Nat) : Int)], [(0, 1, 0)], 11 + 1, F, mem, gl, keys⟩ = some ⟨[((a : Nat) : Int), 4294967295], [(0, 1, 0)], 12, F, mem, gl, keys⟩ := by
    unfold growR
    rw [hT2, if_neg (by simp; omega), if_pos (by simp; omega)]
    rfl
  rw [show (7 : Nat) = 1 + 6 from rfl, steps_run (m := 6) 1 _ _ (ce_g1 p o a F mem gl keys), run_one (n := 5) (F := F) (x := ⟨64, 0, 0, 0, 0⟩) (by simp) (by simp [cellF, cellCode]) rfl rfl rfl, ce_grow, hgr]
  simp only [afterR, if_pos, Option.map]
  rw [ce_g3]
  simp [topR]
theorem ce_growY (hm : mem.length = 64 * p) (hg : p + a ≤ 4) :
    callR (cellF p o) 3 [((a : Nat) : Int)] (F + 2) mem gl keys 7 = some (0, ((p : Nat) : Int), 2, ⟨[((p : Nat) : Int)], [], 0, F, mem ++ List.replicate (a * 64) 0, gl, keys⟩) := by
  unfold callR
  have hT2 : topR ⟨[((a : Nat) : Int), ((a : Nat) : Int)], [(0, 1, 0)], 11 + 1, F, mem, gl, keys⟩ = (a : Int) := rfl
  have hgr : growR ⟨[((a : Nat) : Int), ((a : Nat) : Int)], [(0, 1, 0)], 11 + 1, F, mem, gl, keys⟩ = some ⟨[((a : Nat) : Int), ((p : Nat) : Int)], [(0, 1, 0)], 12, F, mem ++ List.replicate (a * 64) 0, gl, keys⟩ := by
    unfold growR
    rw [hT2, if_neg (by simp; omega), if_neg (by simp; omega)]
    simp only [Int.toNat_natCast]
    rw [show mem.length / 64 = p by omega]
    rfl
  rw [show (7 : Nat) = 1 + 6 from rfl, steps_run (m := 6) 1 _ _ (ce_g1 p o a F mem gl keys), run_one (n := 5) (F := F) (x := ⟨64, 0, 0, 0, 0⟩) (by simp) (by simp [cellF, cellCode]) rfl rfl rfl, ce_grow, hgr]
  simp only [afterR, if_pos, Option.map]
  rw [ce_g3]
  simp [topR]
theorem ce_pages {q : Nat} (hm : mem.length = 64 * q) (hq : q ≤ 4) :
    callR (cellF p o) 4 [] (F + 1) mem gl keys 6 = some (0, ((q : Nat) : Int), 1, ⟨[((q : Nat) : Int)], [], 0, F, mem, gl, keys⟩) := by
  unfold callR
  have he : enterR (cellF p o) ⟨[], [], 0, F + 1, mem, gl, keys⟩ 4 = ⟨[], [(0, 0, 0)], 13, F + 1, mem, gl, keys⟩ := rfl
  rw [he, run_one (n := 5) (F := F) (x := ⟨63, 0, 0, 0, 0⟩) (by simp) (by simp [cellF, cellCode]) rfl rfl rfl, ce_size]
  simp only
  rw [if_pos (by omega), show mem.length / 64 = q by omega]
  simp only [afterR, if_pos]
  rw [show putR ⟨[], [(0, 0, 0)], 13 + 1, F, mem, gl, keys⟩ ((q : Nat) : Int) = ⟨[((q : Nat) : Int)], [(0, 0, 0)], 14, F, mem, gl, keys⟩ from rfl, ce_p3]
  simp [topR]
end
end Go.Proofs.YtdeplgkhmebalaaGreatDoor

namespace Go.Proofs.YtdeplgkhmebalaaGreatDoor
open Go.RowKit
/-- The four lists of a function. -/
def FnIn (W : World) (f : FnS) (a b c d : Value) : Prop := BytesAt W a f.params ∧ BytesAt W b f.results ∧ BytesAt W c f.locals ∧ BytesAt W d f.code
theorem FnIn.kq {w w' : World} {f : FnS} {a b c d : Value} (h : FnIn w f a b c d) (k : Kp no w w') : FnIn w' f a b c d := ⟨h.1.kq k, h.2.1.kq k, h.2.2.1.kq k, h.2.2.2.kq k⟩
theorem FnsAt.made5 {W : World} {f0 f1 f2 f3 f4 : FnS} {x0 x1 x2 x3 x4 x5 x6 x7 x8 x9 x10 x11 x12 x13 x14 x15 x16 x17 x18 x19 : Value} (h0 : FnIn W f0 x0 x1 x2 x3) (h1 : FnIn W f1 x4 x5 x6 x7) (h2 : FnIn W f2 x8 x9 x10 x11) (h3 : FnIn W f3 x12 x13 x14 x15) (h4 : FnIn W f4 x16 x17 x18 x19) (t : TypeId) :
    FnsAt (W.alloc (.cells #[x0, x1, x2, x3, x4, x5, x6, x7, x8, x9, x10, x11, x12, x13, x14, x15, x16, x17, x18, x19] t)) (.slice (some ⟨W.heap.size, 0, none⟩) 5 5) [f0, f1, f2, f3, f4] := by
  have k : Kp no W (W.alloc (.cells #[x0, x1, x2, x3, x4, x5, x6, x7, x8, x9, x10, x11, x12, x13, x14, x15, x16, x17, x18, x19] t)) := (Kp.refl _ _).alloc _
  refine ⟨[x0, x1, x2, x3, x4, x5, x6, x7, x8, x9, x10, x11, x12, x13, x14, x15, x16, x17, x18, x19], RowAt.ofBlock (heap_alloc_new W (.cells #[x0, x1, x2, x3, x4, x5, x6, x7, x8, x9, x10, x11, x12, x13, x14, x15, x16, x17, x18, x19] t)) 5 4 rfl, fun j hj => ?_⟩
  match j, hj with
  | 0, _ => exact ⟨x0, x1, x2, x3, rfl, rfl, rfl, rfl, h0.kq k⟩
  | 1, _ => exact ⟨x4, x5, x6, x7, rfl, rfl, rfl, rfl, h1.kq k⟩
  | 2, _ => exact ⟨x8, x9, x10, x11, rfl, rfl, rfl, rfl, h2.kq k⟩
  | 3, _ => exact ⟨x12, x13, x14, x15, rfl, rfl, rfl, rfl, h3.kq k⟩
  | 4, _ => exact ⟨x16, x17, x18, x19, rfl, rfl, rfl, rfl, h4.kq k⟩
  | j + 5, h => exact absurd h (by simp)

/-- A list written out, and one behind it. -/
theorem join_lit {w : World} {x1 : Value} {l0 l1 : List UInt8} (h1 : BytesAt w x1 l1) (h0 : l0.length ≤ 100) (ht : l1.length ≤ 100) {n m : Nat} (hn : w.heap.size = n) (hm : l0.length = m) :
    Calls Tryz.prog 18 #[.slice (some ⟨n + 1, 0, none⟩) 2 2] ((w.alloc (.cells (bcs l0).toArray 5)).alloc (.cells #[.slice (some ⟨n, 0, none⟩) m m, x1] 25)) fun r w' => (∃ v, r = .returned v ∧ NB w w' v (l0 ++ l1)) ∧ Kp no w w' := by
  subst hn hm
  have hj := join_2 (W := w.alloc (.cells (bcs l0).toArray 5)) (NB.made w l0 (by simp [maxLen]; omega)).at (h1.kq ((Kp.refl no w).alloc _)) (by simp; omega)
  rw [show (w.alloc (.cells (bcs l0).toArray 5)).heap.size = w.heap.size + 1 by simp] at hj
  refine Calls.mono hj ?_
  rintro r w' ⟨⟨v, rfl, h⟩, k⟩
  exact ⟨⟨v, rfl, NB.newer h (by simp)⟩, ((Kp.refl no w).alloc _).trans k⟩
theorem uF_len : ∀ (k n : Nat), (uF k n).length ≤ k + 1
  | 0, n => by simp [uF]
  | k + 1, n => by
    unfold uF
    split
    · simp
    · have := uF_len k (n / 128)
      simp
      omega
theorem uB_len (o : Nat) : (uB o).length ≤ 100 := Nat.le_trans (uF_len 10 o) (by omega)

set_option maxRecDepth 100000 in
set_option maxHeartbeats 2000000 in
theorem cellsK_any (w : World) (p o : Nat) (hp : p < 5) (ho : o < 4294967296) (hl : (cellBytes p o).length ≤ 1000) :
    Calls Tryz.prog 32 #[.int .i64 p, .int .i64 o] w fun r w' => (∃ v, r = .returned v ∧ NB w w' v (cellBytes p o)) ∧ Kp no w w' := by
  have hu := uK_any w o (by omega)
  have hul := uB_len o
  have HL := hide hl
  clear hl
  go_enter Tryz.func32, Tryz.ntmps32
  go_wp2_with fail
  refine hu.mono ?_
  rintro r w1 ⟨⟨v1, rfl, h1⟩, k1⟩
  obtain ⟨a1, c1, hv1, -⟩ := h1.at.shape
  subst hv1
  have H1 := hide h1
  have K1 := hide k1
  clear h1 k1 hu
  have HU := hide hul
  clear hul
  go_wp2_with fail
  have hj := join_lit (w := (w1.alloc (.cells (bcs [127, 126]).toArray 5))) (n := w1.heap.size + 1) (m := 5) (l0 := [32, 0, 32, 1, 55]) (H1.out.at.kq ((Kp.refl no w1).alloc _)) (by simp) HU.out (by simp) rfl
  refine hj.mono ?_
  rintro r w2 ⟨⟨v2, rfl, h2⟩, k2⟩
  obtain ⟨a2, c2, hv2, -⟩ := h2.at.shape
  subst hv2
  have H2 := hide h2
  have HP := hide ((NB.made w1 [127, 126] (by simp [maxLen])).at.kq k2)
  have K2 := hide (((Kp.refl no w1).alloc (.cells (bcs [127, 126]).toArray 5)).trans k2)
  clear h2 k2 hj
  go_wp2_with fail
  refine (oneK_any _ 127).mono ?_
  rintro r w3 ⟨⟨v3, rfl, h3⟩, k3⟩
  obtain ⟨a3, c3, hv3, -⟩ := h3.at.shape
  subst hv3
  have H3 := hide h3
  have K3 := hide k3
  clear h3 k3
  go_wp2_with fail
  refine (oneK_any _ 126).mono ?_
  rintro r w4 ⟨⟨v4, rfl, h4⟩, k4⟩
  obtain ⟨a4, c4, hv4, -⟩ := h4.at.shape
  subst hv4
  have H4 := hide h4
  have K4 := hide k4
  clear h4 k4
  go_wp2_with fail
  have hj := join_lit (w := w4) (n := w4.heap.size) (m := 3) (l0 := [32, 0, 41]) (((H1.out.at.kq K2.out).kq K3.out).kq K4.out) (by simp) HU.out (by simp) rfl
  refine hj.mono ?_
  rintro r w5 ⟨⟨v5, rfl, h5⟩, k5⟩
  obtain ⟨a5, c5, hv5, -⟩ := h5.at.shape
  subst hv5
  have H5 := hide h5
  have K5 := hide k5
  clear h5 k5 hj
  go_wp2_with fail
  refine (oneK_any _ 127).mono ?_
  rintro r w6 ⟨⟨v6, rfl, h6⟩, k6⟩
  obtain ⟨a6, c6, hv6, -⟩ := h6.at.shape
  subst hv6
  have H6 := hide h6
  have K6 := hide k6
  clear h6 k6
  go_wp2_with fail
  refine (oneK_any _ 127).mono ?_
  rintro r w7 ⟨⟨v7, rfl, h7⟩, k7⟩
  obtain ⟨a7, c7, hv7, -⟩ := h7.at.shape
  subst hv7
  have H7 := hide h7
  have K7 := hide k7
  clear h7 k7
  go_wp2_with fail
  have hj := join_lit (w := w7) (n := w7.heap.size) (m := 3) (l0 := [32, 0, 45]) ((((((H1.out.at.kq K2.out).kq K3.out).kq K4.out).kq K5.out).kq K6.out).kq K7.out) (by simp) HU.out (by simp) rfl
  refine hj.mono ?_
  rintro r w8 ⟨⟨v8, rfl, h8⟩, k8⟩
  obtain ⟨a8, c8, hv8, -⟩ := h8.at.shape
  subst hv8
  have H8 := hide h8
  have K8 := hide k8
  clear h8 k8 hj
  go_wp2_with fail
  refine (oneK_any _ 127).mono ?_
  rintro r w9 ⟨⟨v9, rfl, h9⟩, k9⟩
  obtain ⟨a9, c9, hv9, -⟩ := h9.at.shape
  subst hv9
  have H9 := hide h9
  have K9 := hide k9
  clear h9 k9
  go_wp2_with fail
  refine (oneK_any _ 127).mono ?_
  rintro r w10 ⟨⟨v10, rfl, h10⟩, k10⟩
  obtain ⟨a10, c10, hv10, -⟩ := h10.at.shape
  subst hv10
  have H10 := hide h10
  have K10 := hide k10
  clear h10 k10
  go_wp2_with fail
  refine (oneK_any _ 127).mono ?_
  rintro r w11 ⟨⟨v11, rfl, h11⟩, k11⟩
  obtain ⟨a11, c11, hv11, -⟩ := h11.at.shape
  subst hv11
  have H11 := hide h11
  have HG := hide ((NB.made w10 [32, 0, 64] (by simp [maxLen])).at.kq k11)
  have K11 := hide (((Kp.refl no w10).alloc (.cells (bcs [32, 0, 64]).toArray 5)).trans k11)
  clear h11 k11
  go_wp2_with fail
  have kz : Kp no w11 (w11.alloc (.cells (bcs [63]).toArray 5)) := (Kp.refl no w11).alloc _
  have hF := FnsAt.made5 (W := w11.alloc (.cells (bcs [63]).toArray 5)) (f0 := ⟨[127, 126], [], [], [0x20, 0, 0x20, 1, 0x37] ++ uB o⟩) (f1 := ⟨[127], [126], [], [0x20, 0, 0x29] ++ uB o⟩) (f2 := ⟨[127], [127], [], [0x20, 0, 0x2d] ++ uB o⟩) (f3 := ⟨[127], [127], [], [0x20, 0, 0x40]⟩) (f4 := ⟨[], [127], [], [0x3f]⟩)
    ⟨((((((((((HP.out.kq K3.out).kq K4.out).kq K5.out).kq K6.out).kq K7.out).kq K8.out).kq K9.out).kq K10.out).kq K11.out).kq kz), RowAt.nil _ 1, RowAt.nil _ 1, ((((((((((H2.out.at.kq K3.out).kq K4.out).kq K5.out).kq K6.out).kq K7.out).kq K8.out).kq K9.out).kq K10.out).kq K11.out).kq kz)⟩
    ⟨(((((((((H3.out.at.kq K4.out).kq K5.out).kq K6.out).kq K7.out).kq K8.out).kq K9.out).kq K10.out).kq K11.out).kq kz), ((((((((H4.out.at.kq K5.out).kq K6.out).kq K7.out).kq K8.out).kq K9.out).kq K10.out).kq K11.out).kq kz), RowAt.nil _ 1, (((((((H5.out.at.kq K6.out).kq K7.out).kq K8.out).kq K9.out).kq K10.out).kq K11.out).kq kz)⟩
    ⟨((((((H6.out.at.kq K7.out).kq K8.out).kq K9.out).kq K10.out).kq K11.out).kq kz), (((((H7.out.at.kq K8.out).kq K9.out).kq K10.out).kq K11.out).kq kz), RowAt.nil _ 1, ((((H8.out.at.kq K9.out).kq K10.out).kq K11.out).kq kz)⟩
    ⟨(((H9.out.at.kq K10.out).kq K11.out).kq kz), ((H10.out.at.kq K11.out).kq kz), RowAt.nil _ 1, (HG.out.kq kz)⟩
    ⟨RowAt.nil _ 1, (H11.out.at.kq kz), RowAt.nil _ 1, (NB.made w11 [63] (by simp [maxLen])).at⟩ 27
  rw [show (w11.alloc (.cells (bcs [63]).toArray 5)).heap.size = w11.heap.size + 1 by simp] at hF
  have hM := module_keep (pages := p) hF (by simp) (by omega) (Nat.le_trans HL.out (by omega))
  refine hM.mono ?_
  rintro r w12 ⟨⟨v12, rfl, h12⟩, k12⟩
  have KE := hide (K1.out.trans (K2.out.trans (K3.out.trans (K4.out.trans (K5.out.trans (K6.out.trans (K7.out.trans (K8.out.trans (K9.out.trans (K10.out.trans (K11.out.trans ((kz.alloc _).trans k12))))))))))))
  have hsz := KE.out.size
  have H12 := hide h12
  obtain ⟨a12, c12, hv12, -⟩ := h12.at.shape
  subst hv12
  clear hF hM h12 k12 kz
  go_wp2
  go_ret
  refine ⟨⟨_, rfl, NB.newer H12.out ?_⟩, KE.out⟩
  have g1 := K1.out.size
  have g2 := K2.out.size
  have g3 := K3.out.size
  have g4 := K4.out.size
  have g5 := K5.out.size
  have g6 := K6.out.size
  have g7 := K7.out.size
  have g8 := K8.out.size
  have g9 := K9.out.size
  have g10 := K10.out.size
  have g11 := K11.out.size
  simp
  omega
end Go.Proofs.YtdeplgkhmebalaaGreatDoor
