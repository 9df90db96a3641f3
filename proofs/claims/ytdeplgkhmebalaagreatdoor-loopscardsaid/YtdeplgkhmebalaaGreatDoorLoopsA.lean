/- A loop: its run, with a letter for how often. -/
import Derived.Test.YtdeplgkhmebalaaGreatDoorP32

namespace Go.Proofs.YtdeplgkhmebalaaGreatDoor
open Go.RowKit

/-- So many instructions, none of them a trap. -/
def stepsR (f : Flat) : Nat → Mc → Option Mc
  | 0, s => some s
  | k + 1, s =>
    if s.calls.length = 0 then none
    else if s.pos < f.code.length then
      (if burnsR (f.code.getD s.pos ins0).op then
        (if s.fuel = 0 then none
        else match stepR f { s with pos := s.pos + 1, fuel := s.fuel - 1 } (f.code.getD s.pos ins0) with
          | some (0, s') => stepsR f k s'
          | _ => none)
      else match stepR f { s with pos := s.pos + 1 } (f.code.getD s.pos ins0) with
          | some (0, s') => stepsR f k s'
          | _ => none)
    else none
theorem steps_run {f : Flat} {m : Nat} : ∀ (k : Nat) (s s' : Mc), stepsR f k s = some s' → runR f (k + m) s = runR f m s'
  | 0, s, s', h => by cases h; rw [Nat.zero_add]
  | k + 1, s, s', h => by
    rw [show k + 1 + m = (k + m) + 1 by omega, runR]
    rw [stepsR] at h
    split at h
    · cases h
    · rename_i hc
      rw [if_neg hc]
      split at h
      · rename_i hp
        rw [if_pos hp]
        split at h
        · rename_i hb
          rw [if_pos hb]
          split at h
          · cases h
          · rename_i hf
            rw [if_neg hf]
            split at h
            · rename_i s1 hs
              rw [hs, afterR, if_pos rfl]
              exact steps_run k s1 s' h
            · cases h
        · rename_i hb
          rw [if_neg hb]
          split at h
          · rename_i s1 hs
            rw [hs, afterR, if_pos rfl]
            exact steps_run k s1 s' h
          · cases h
      · cases h

def loFn : FnS := ⟨[127], [127], [127], [0x23, 0, 0x42, 1, 0x7c, 0x24, 0, 0x02, 0x40, 0x03, 0x40, 0x20, 0, 0x45, 0x0d, 1, 0x20, 1, 0x20, 0, 0x6a, 0x21, 1, 0x20, 0, 0x41, 1, 0x6b, 0x21, 0, 0x0c, 0, 0x0b, 0x0b, 0x20, 1]⟩
def loBytes : List UInt8 := moduleB 1 [loFn]
def loF : Flat := flatOf loBytes
theorem lo_ok : isOk (loadM loBytes) = true := by kernel_rfl
def loSt (j acc : Int) (fuel : Nat) (mem : List UInt8) (g : Int) : Mc := ⟨[j, acc], [(0, 2, 0)], 6, fuel, mem, [g], []⟩
set_option maxRecDepth 100000 in
theorem lo_begin (n F : Nat) (mem : List UInt8) (g : Nat) : stepsR loF 6 (enterR loF ⟨[((n : Nat) : Int)], [], 0, F + 6, mem, [((g : Nat) : Int)], []⟩ 0) = some (loSt n 0 F mem (cutR true (IntKind.u64.wrap (((g : Nat) : Int) + 1)))) := by kernel_rfl
set_option maxRecDepth 100000 in
theorem lo_round (j acc F : Nat) (mem : List UInt8) (g : Int) : stepsR loF 12 (loSt ((j + 1 : Nat) : Int) acc (F + 12) mem g) = some (loSt (cutR false (IntKind.u64.wrap (((j + 1 : Nat) : Int) - 1))) (cutR false (IntKind.u64.wrap ((acc : Int) + ((j + 1 : Nat) : Int)))) F mem g) := by kernel_rfl
set_option maxRecDepth 100000 in
theorem lo_end (acc F : Nat) (mem : List UInt8) (g : Int) : runR loF 20 (loSt ((0 : Nat) : Int) acc (F + 4) mem g) = some (0, ⟨[(acc : Int)], [], 0, F, mem, [g], []⟩) := by kernel_rfl
def isCut (m : Option (Nat × Mc)) (k : Nat) : Bool := match m with
  | some (5, s) => decide (s.fuel = 0) && decide (s.stack.length ≤ 1000) && decide (s.gl.length ≤ 1000) && decide (s.keys.length ≤ 1000) && decide (s.mem.length = k)
  | _ => false
def zeros64 : List UInt8 := List.replicate 64 0
set_option maxRecDepth 100000 in
theorem lo_cut0 (j acc : Nat) (g : Int) : isCut (runR loF 20 (loSt ((j + 1 : Nat) : Int) acc 0 zeros64 g)) 64 = true := by kernel_rfl
set_option maxRecDepth 100000 in
theorem lo_cut1 (j acc : Nat) (g : Int) : isCut (runR loF 20 (loSt ((j + 1 : Nat) : Int) acc 1 zeros64 g)) 64 = true := by kernel_rfl
set_option maxRecDepth 100000 in
theorem lo_cut2 (j acc : Nat) (g : Int) : isCut (runR loF 20 (loSt ((j + 1 : Nat) : Int) acc 2 zeros64 g)) 64 = true := by kernel_rfl
set_option maxRecDepth 100000 in
theorem lo_cut3 (j acc : Nat) (g : Int) : isCut (runR loF 20 (loSt ((j + 1 : Nat) : Int) acc 3 zeros64 g)) 64 = true := by kernel_rfl
set_option maxRecDepth 100000 in
theorem lo_cut4 (j acc : Nat) (g : Int) : isCut (runR loF 20 (loSt ((j + 1 : Nat) : Int) acc 4 zeros64 g)) 64 = true := by kernel_rfl
set_option maxRecDepth 100000 in
theorem lo_cut5 (j acc : Nat) (g : Int) : isCut (runR loF 20 (loSt ((j + 1 : Nat) : Int) acc 5 zeros64 g)) 64 = true := by kernel_rfl
set_option maxRecDepth 100000 in
theorem lo_cut6 (j acc : Nat) (g : Int) : isCut (runR loF 20 (loSt ((j + 1 : Nat) : Int) acc 6 zeros64 g)) 64 = true := by kernel_rfl
set_option maxRecDepth 100000 in
theorem lo_cut7 (j acc : Nat) (g : Int) : isCut (runR loF 20 (loSt ((j + 1 : Nat) : Int) acc 7 zeros64 g)) 64 = true := by kernel_rfl
set_option maxRecDepth 100000 in
theorem lo_cut8 (j acc : Nat) (g : Int) : isCut (runR loF 20 (loSt ((j + 1 : Nat) : Int) acc 8 zeros64 g)) 64 = true := by kernel_rfl
set_option maxRecDepth 100000 in
theorem lo_cut9 (j acc : Nat) (g : Int) : isCut (runR loF 20 (loSt ((j + 1 : Nat) : Int) acc 9 zeros64 g)) 64 = true := by kernel_rfl
set_option maxRecDepth 100000 in
theorem lo_cut10 (j acc : Nat) (g : Int) : isCut (runR loF 20 (loSt ((j + 1 : Nat) : Int) acc 10 zeros64 g)) 64 = true := by kernel_rfl
set_option maxRecDepth 100000 in
theorem lo_cut11 (j acc : Nat) (g : Int) : isCut (runR loF 20 (loSt ((j + 1 : Nat) : Int) acc 11 zeros64 g)) 64 = true := by kernel_rfl
set_option maxRecDepth 100000 in
theorem lo_cutE0 (acc : Nat) (g : Int) : isCut (runR loF 20 (loSt ((0 : Nat) : Int) acc 0 zeros64 g)) 64 = true := by kernel_rfl
set_option maxRecDepth 100000 in
theorem lo_cutE1 (acc : Nat) (g : Int) : isCut (runR loF 20 (loSt ((0 : Nat) : Int) acc 1 zeros64 g)) 64 = true := by kernel_rfl
set_option maxRecDepth 100000 in
theorem lo_cutE2 (acc : Nat) (g : Int) : isCut (runR loF 20 (loSt ((0 : Nat) : Int) acc 2 zeros64 g)) 64 = true := by kernel_rfl
set_option maxRecDepth 100000 in
theorem lo_cutE3 (acc : Nat) (g : Int) : isCut (runR loF 20 (loSt ((0 : Nat) : Int) acc 3 zeros64 g)) 64 = true := by kernel_rfl
set_option maxRecDepth 100000 in
theorem lo_cutB0 (n : Nat) (g : Nat) : isCut (runR loF 20 (enterR loF ⟨[((n : Nat) : Int)], [], 0, 0, zeros64, [((g : Nat) : Int)], []⟩ 0)) 64 = true := by kernel_rfl
set_option maxRecDepth 100000 in
theorem lo_cutB1 (n : Nat) (g : Nat) : isCut (runR loF 20 (enterR loF ⟨[((n : Nat) : Int)], [], 0, 1, zeros64, [((g : Nat) : Int)], []⟩ 0)) 64 = true := by kernel_rfl
set_option maxRecDepth 100000 in
theorem lo_cutB2 (n : Nat) (g : Nat) : isCut (runR loF 20 (enterR loF ⟨[((n : Nat) : Int)], [], 0, 2, zeros64, [((g : Nat) : Int)], []⟩ 0)) 64 = true := by kernel_rfl
set_option maxRecDepth 100000 in
theorem lo_cutB3 (n : Nat) (g : Nat) : isCut (runR loF 20 (enterR loF ⟨[((n : Nat) : Int)], [], 0, 3, zeros64, [((g : Nat) : Int)], []⟩ 0)) 64 = true := by kernel_rfl
set_option maxRecDepth 100000 in
theorem lo_cutB4 (n : Nat) (g : Nat) : isCut (runR loF 20 (enterR loF ⟨[((n : Nat) : Int)], [], 0, 4, zeros64, [((g : Nat) : Int)], []⟩ 0)) 64 = true := by kernel_rfl
set_option maxRecDepth 100000 in
theorem lo_cutB5 (n : Nat) (g : Nat) : isCut (runR loF 20 (enterR loF ⟨[((n : Nat) : Int)], [], 0, 5, zeros64, [((g : Nat) : Int)], []⟩ 0)) 64 = true := by kernel_rfl
end Go.Proofs.YtdeplgkhmebalaaGreatDoor

namespace Go.Proofs.YtdeplgkhmebalaaGreatDoor
open Go.RowKit

theorem cut32 {x : Int} (h0 : 0 ≤ x) (h1 : x < 4294967296) : cutR false (IntKind.u64.wrap x) = x := by
  unfold cutR
  rw [if_neg (by simp), IntKind.wrap_u64, IntKind.wrap_u64]
  omega
def accN : Nat → Nat → Nat → Nat
  | acc, _, 0 => acc
  | acc, n, q + 1 => accN (acc + n) (n - 1) q
theorem lo_loop {mem : List UInt8} {g : Int} {m F : Nat} : ∀ (q n acc : Nat), q ≤ n → acc + n * q < 4294967296 → runR loF (12 * q + m) (loSt n acc (F + 12 * q) mem g) = runR loF m (loSt ((n - q : Nat) : Int) (accN acc n q) F mem g)
  | 0, n, acc, _, _ => by simp [accN]
  | q + 1, n, acc, hq, hb => by
    obtain ⟨n', rfl⟩ : ∃ n', n = n' + 1 := ⟨n - 1, by omega⟩
    have hx : (n' + 1) * (q + 1) = n' * q + n' + q + 1 := by rw [Nat.add_mul, Nat.mul_add]; omega
    rw [hx] at hb
    have h1 : ((n' + 1 : Nat) : Int) - 1 = (n' : Int) := by omega
    have h2 : (acc : Int) + ((n' + 1 : Nat) : Int) = ((acc + (n' + 1) : Nat) : Int) := by omega
    have h3 := steps_run (m := 12 * q + m) 12 _ _ (lo_round n' acc (F + 12 * q) mem g)
    rw [h1, h2, cut32 (by omega) (by omega), cut32 (by omega) (by omega)] at h3
    rw [show 12 * (q + 1) + m = 12 + (12 * q + m) by omega, show F + 12 * (q + 1) = F + 12 * q + 12 by omega, h3, lo_loop q n' (acc + (n' + 1)) (by omega) (by omega)]
    rw [show n' + 1 - (q + 1) = n' - q by omega, accN, Nat.add_sub_cancel]
theorem accN_all : ∀ (n acc : Nat), accN acc n n = acc + n * (n + 1) / 2
  | 0, acc => by simp [accN]
  | n + 1, acc => by
    rw [accN, Nat.add_sub_cancel, accN_all n]
    have hx : (n + 1) * (n + 1 + 1) = n * (n + 1) + 2 * (n + 1) := by rw [Nat.mul_comm (n + 1) (n + 1 + 1), ← Nat.add_mul, Nat.add_assoc]
    rw [hx]
    omega
theorem tri_lt {n : Nat} (hn : n < 700) : n * (n + 1) / 2 < 250000 ∧ n * n < 490000 ∧ n * (n + 1) < 500000 := by
  have h1 : n * n ≤ 699 * 699 := Nat.mul_le_mul (by omega) (by omega)
  have h2 : n * (n + 1) = n * n + n := by rw [Nat.mul_add, Nat.mul_one]
  omega

/-- A call with fuel enough. -/
theorem lo_full {n F g : Nat} (hn : n < 700) (mem : List UInt8) : ∃ K s, K ≤ 20000 ∧ callR loF 0 [((n : Nat) : Int)] (F + (12 * n + 10)) mem [((g : Nat) : Int)] [] K = some (0, ((n * (n + 1) / 2 : Nat) : Int), 12 * n + 10, s) ∧ s.mem = mem ∧ s.gl = [cutR true (IntKind.u64.wrap (((g : Nat) : Int) + 1))] ∧ s.keys = [] := by
  obtain ⟨ht, hsq, -⟩ := tri_lt hn
  refine ⟨6 + (12 * n + 20), ⟨[((n * (n + 1) / 2 : Nat) : Int)], [], 0, F, mem, [cutR true (IntKind.u64.wrap (((g : Nat) : Int) + 1))], []⟩, by omega, ?_, rfl, rfl, rfl⟩
  unfold callR
  have h0 := steps_run (m := 12 * n + 20) 6 _ _ (lo_begin n (F + 4 + 12 * n) mem g)
  rw [show F + 4 + 12 * n + 6 = F + (12 * n + 10) by omega] at h0
  have h1 := lo_loop (mem := mem) (g := cutR true (IntKind.u64.wrap (((g : Nat) : Int) + 1))) (m := 20) (F := F + 4) n n 0 (Nat.le_refl _) (by omega)
  rw [Nat.sub_self, accN_all, Nat.zero_add, lo_end] at h1
  rw [h0]
  have h1' : runR loF (12 * n + 20) (loSt n 0 (F + 4 + 12 * n) mem (cutR true (IntKind.u64.wrap (((g : Nat) : Int) + 1)))) = some (0, ⟨[((n * (n + 1) / 2 : Nat) : Int)], [], 0, F, mem, [cutR true (IntKind.u64.wrap (((g : Nat) : Int) + 1))], []⟩) := h1
  rw [h1']
  simp only
  rw [if_pos (by constructor <;> simp)]
  simp [topR]
theorem isCut_spec {m : Option (Nat × Mc)} {k : Nat} (h : isCut m k = true) : ∃ s, m = some (5, s) ∧ s.fuel = 0 ∧ s.stack.length ≤ 1000 ∧ s.gl.length ≤ 1000 ∧ s.keys.length ≤ 1000 ∧ s.mem.length = k := by
  unfold isCut at h
  split at h
  · simp only [Bool.and_eq_true, decide_eq_true_eq] at h
    exact ⟨_, rfl, h.1.1.1.1, h.1.1.1.2, h.1.1.2, h.1.2, h.2⟩
  · cases h
theorem lo_cut : ∀ r, r < 12 → ∀ (j acc : Nat) (g : Int), isCut (runR loF 20 (loSt ((j + 1 : Nat) : Int) acc r zeros64 g)) 64 = true
  | 0, _, j, acc, g => lo_cut0 j acc g
  | 1, _, j, acc, g => lo_cut1 j acc g
  | 2, _, j, acc, g => lo_cut2 j acc g
  | 3, _, j, acc, g => lo_cut3 j acc g
  | 4, _, j, acc, g => lo_cut4 j acc g
  | 5, _, j, acc, g => lo_cut5 j acc g
  | 6, _, j, acc, g => lo_cut6 j acc g
  | 7, _, j, acc, g => lo_cut7 j acc g
  | 8, _, j, acc, g => lo_cut8 j acc g
  | 9, _, j, acc, g => lo_cut9 j acc g
  | 10, _, j, acc, g => lo_cut10 j acc g
  | 11, _, j, acc, g => lo_cut11 j acc g
  | r + 12, h, _, _, _ => absurd h (by omega)
theorem lo_cutE : ∀ r, r < 4 → ∀ (acc : Nat) (g : Int), isCut (runR loF 20 (loSt ((0 : Nat) : Int) acc r zeros64 g)) 64 = true
  | 0, _, acc, g => lo_cutE0 acc g
  | 1, _, acc, g => lo_cutE1 acc g
  | 2, _, acc, g => lo_cutE2 acc g
  | 3, _, acc, g => lo_cutE3 acc g
  | r + 4, h, _, _ => absurd h (by omega)
theorem lo_cutB : ∀ r, r < 6 → ∀ (n g : Nat), isCut (runR loF 20 (enterR loF ⟨[((n : Nat) : Int)], [], 0, r, zeros64, [((g : Nat) : Int)], []⟩ 0)) 64 = true
  | 0, _, n, g => lo_cutB0 n g
  | 1, _, n, g => lo_cutB1 n g
  | 2, _, n, g => lo_cutB2 n g
  | 3, _, n, g => lo_cutB3 n g
  | 4, _, n, g => lo_cutB4 n g
  | 5, _, n, g => lo_cutB5 n g
  | r + 6, h, _, _ => absurd h (by omega)
/-- A call with too little. -/
theorem lo_less {n f g : Nat} (hn : n < 700) (hf : f < 12 * n + 10) : ∃ K s, K ≤ 20000 ∧ callR loF 0 [((n : Nat) : Int)] f zeros64 [((g : Nat) : Int)] [] K = some (5, 0, f, s) ∧ s.mem.length ≤ 1000000 ∧ s.gl.length ≤ 1000000 ∧ s.keys.length ≤ 1000 := by
  obtain ⟨-, hsq, -⟩ := tri_lt hn
  have fin : ∀ K, K ≤ 20000 → isCut (runR loF K (enterR loF ⟨[((n : Nat) : Int)], [], 0, f, zeros64, [((g : Nat) : Int)], []⟩ 0)) 64 = true → ∃ K s, K ≤ 20000 ∧ callR loF 0 [((n : Nat) : Int)] f zeros64 [((g : Nat) : Int)] [] K = some (5, 0, f, s) ∧ s.mem.length ≤ 1000000 ∧ s.gl.length ≤ 1000000 ∧ s.keys.length ≤ 1000 := by
    intro K hK h
    obtain ⟨s, hs, h1, h2, h3, h4, h5⟩ := isCut_spec h
    refine ⟨K, s, hK, ?_, by omega, by omega, h4⟩
    unfold callR
    rw [hs]
    simp only
    rw [if_pos ⟨by omega, by omega⟩, h1]
    simp
  by_cases h6 : f < 6
  · exact fin 20 (by omega) (lo_cutB f h6 n g)
  · obtain ⟨q, r, hr, hfq⟩ : ∃ q r, r < 12 ∧ f = r + 12 * q + 6 := ⟨(f - 6) / 12, (f - 6) % 12, Nat.mod_lt _ (by decide), by omega⟩
    subst hfq
    have hqn : q ≤ n := by omega
    refine fin (6 + (12 * q + 20)) (by omega) ?_
    rw [steps_run (m := 12 * q + 20) 6 _ _ (lo_begin n (r + 12 * q) zeros64 g)]
    have h1 := lo_loop (mem := zeros64) (g := cutR true (IntKind.u64.wrap (((g : Nat) : Int) + 1))) (m := 20) (F := r) q n 0 hqn (by have : n * q ≤ n * n := Nat.mul_le_mul (Nat.le_refl _) hqn; omega)
    have h1' : runR loF (12 * q + 20) (loSt n 0 (r + 12 * q) zeros64 (cutR true (IntKind.u64.wrap (((g : Nat) : Int) + 1)))) = runR loF 20 (loSt ((n - q : Nat) : Int) (accN 0 n q) r zeros64 (cutR true (IntKind.u64.wrap (((g : Nat) : Int) + 1)))) := h1
    rw [h1']
    rcases Nat.lt_or_ge q n with hq | hq
    · rw [show n - q = (n - q - 1) + 1 by omega]
      exact lo_cut r hr _ _ _
    · obtain rfl : q = n := by omega
      rw [Nat.sub_self]
      exact lo_cutE r (by omega) _ _
structure LoOk : Prop where
  load : loadM loBytes = .ok loF
  ok : FlatOk loF
  len : loBytes.length ≤ 1000000
  gl : loF.globals.map (fun (n : Nat) => ((n : Nat) : Int)) = [5]
  mem : List.replicate (loF.pages * 64) (0 : UInt8) = zeros64
  nf : loF.funcs.length = 1
  ps : (loF.funcs.getD 0 fn0).typ.1 = [127]
theorem lo_okay : LoOk := by
  have h : (isOk (loadM loBytes) && flatOkB loF && decide (loBytes.length ≤ 1000) && decide (loF.globals = [5]) && decide (loF.pages = 1) && decide (loF.funcs.length = 1) && decide ((loF.funcs.getD 0 fn0).typ.1 = [127])) = true := by kernel_rfl
  simp only [Bool.and_eq_true, decide_eq_true_eq] at h
  obtain ⟨⟨⟨⟨⟨⟨h1, h2⟩, h3⟩, h4⟩, h5⟩, h6⟩, h7⟩ := h
  exact ⟨flatOf_ok h1, flatOk_of h2, by omega, by rw [h4]; rfl, by rw [h5]; rfl, h6, h7⟩
theorem lo_ref {n : Nat} (hn : n < 700) {f : Nat} (hf : f ≤ 100000) : refusesM loF ((0 : Nat) : Int) [((n : Nat) : Int)] ((f : Nat) : Int) = 0 := by
  have h := lo_okay
  have hfi : fitsM [((n : Nat) : Int)] [127] = true := by
    simp [fitsM, fitsAt]
    omega
  unfold refusesM
  rw [h.nf, if_neg (by simp), show (((0 : Nat) : Int)).toNat = 0 from rfl, h.ps, hfi, if_neg (by simp), if_neg (by omega)]
end Go.Proofs.YtdeplgkhmebalaaGreatDoor
