/- A table of branches: the modules, as they are looked at and run. -/
import Derived.Test.YtdeplgkhmebalaaGreatDoorP32

namespace Go.Proofs.YtdeplgkhmebalaaGreatDoor
open Go.RowKit
def tabBlocks (k : Nat) : List UInt8 := (List.range k).flatMap fun _ => [2, 127]
def tabLabels (k : Nat) : List UInt8 := (List.range k).flatMap fun j => [UInt8.ofNat j]
def tabEnds (k : Nat) : List UInt8 := (List.range k).flatMap fun j => [11, 65, UInt8.ofNat j, 106, 15]
def tabA (k : Nat) : List UInt8 := [65, 9] ++ tabBlocks k
def tabB (n k : Nat) : List UInt8 := tabA (n + 1) ++ [65, 8, 65, 7, 32, 0, 14, UInt8.ofNat n] ++ tabLabels k
def tabC (n k : Nat) : List UInt8 := tabB n (n + 1) ++ tabEnds k
def tabFn (n : Nat) : FnS := ⟨[127], [127], [], tabC n (n + 1)⟩
def tabBytes (n : Nat) : List UInt8 := moduleB 0 [tabFn n]
def tabF (n : Nat) : Flat := flatOf (tabBytes n)
def tabGot (n c : Nat) : Option (Nat × Int × Nat × Mc) := callR (tabF n) 0 [((c : Nat) : Int)] 100000 (List.replicate ((tabF n).pages * 64) 0) [5] [] 400
def tabOk (n : Nat) : Bool := isOk (loadM (tabBytes n)) && flatOkB (tabF n) && decide ((tabBytes n).length ≤ 1000) && decide ((tabF n).globals = [5]) && decide ((tabF n).funcs.length = 1) && decide (((tabF n).funcs.getD 0 fn0).typ.1 = [127])
set_option maxRecDepth 100000 in
theorem tab_ok : (List.range 12).all tabOk = true := by kernel_rfl
def tabSmall (n : Nat) : Bool := (List.range (n + 1)).all fun c => isGot (tabGot n c) 0 (7 + (c : Int)) (n + 9)
set_option maxRecDepth 100000 in
theorem tab_small : (List.range 12).all tabSmall = true := by kernel_rfl
set_option maxRecDepth 100000 in
theorem tab_great0 (d : Nat) : isGot (tabGot 0 (d + 1)) 0 7 9 = true := by kernel_rfl
set_option maxRecDepth 100000 in
theorem tab_great1 (d : Nat) : isGot (tabGot 1 (d + 2)) 0 8 10 = true := by kernel_rfl
set_option maxRecDepth 100000 in
theorem tab_great2 (d : Nat) : isGot (tabGot 2 (d + 3)) 0 9 11 = true := by kernel_rfl
set_option maxRecDepth 100000 in
theorem tab_great3 (d : Nat) : isGot (tabGot 3 (d + 4)) 0 10 12 = true := by kernel_rfl
set_option maxRecDepth 100000 in
theorem tab_great4 (d : Nat) : isGot (tabGot 4 (d + 5)) 0 11 13 = true := by kernel_rfl
set_option maxRecDepth 100000 in
theorem tab_great5 (d : Nat) : isGot (tabGot 5 (d + 6)) 0 12 14 = true := by kernel_rfl
set_option maxRecDepth 100000 in
theorem tab_great6 (d : Nat) : isGot (tabGot 6 (d + 7)) 0 13 15 = true := by kernel_rfl
set_option maxRecDepth 100000 in
theorem tab_great7 (d : Nat) : isGot (tabGot 7 (d + 8)) 0 14 16 = true := by kernel_rfl
set_option maxRecDepth 100000 in
theorem tab_great8 (d : Nat) : isGot (tabGot 8 (d + 9)) 0 15 17 = true := by kernel_rfl
set_option maxRecDepth 100000 in
theorem tab_great9 (d : Nat) : isGot (tabGot 9 (d + 10)) 0 16 18 = true := by kernel_rfl
set_option maxRecDepth 100000 in
theorem tab_great10 (d : Nat) : isGot (tabGot 10 (d + 11)) 0 17 19 = true := by kernel_rfl
set_option maxRecDepth 100000 in
theorem tab_great11 (d : Nat) : isGot (tabGot 11 (d + 12)) 0 18 20 = true := by kernel_rfl
theorem tab_great : ∀ n, n < 12 → ∀ d, isGot (tabGot n (d + (n + 1))) 0 (7 + (n : Int)) (n + 9) = true
  | 0, _, d => tab_great0 d
  | 1, _, d => tab_great1 d
  | 2, _, d => tab_great2 d
  | 3, _, d => tab_great3 d
  | 4, _, d => tab_great4 d
  | 5, _, d => tab_great5 d
  | 6, _, d => tab_great6 d
  | 7, _, d => tab_great7 d
  | 8, _, d => tab_great8 d
  | 9, _, d => tab_great9 d
  | 10, _, d => tab_great10 d
  | 11, _, d => tab_great11 d
  | n + 12, h, _ => absurd h (by omega)
/-- What a call gives, whatever the number. -/
theorem tab_got {n c : Nat} (hn : n < 12) : ∃ s, tabGot n c = some (0, 7 + ((min c n : Nat) : Int), n + 9, s) ∧ s.mem.length ≤ 1000000 ∧ s.gl.length ≤ 1000000 ∧ s.keys.length ≤ 1000 := by
  by_cases hc : c ≤ n
  · rw [Nat.min_eq_left hc]
    have := List.all_eq_true.1 tab_small n (by simpa using hn)
    exact isGot_spec (List.all_eq_true.1 this c (by simp; omega))
  · rw [Nat.min_eq_right (by omega)]
    have := tab_great n hn (c - (n + 1))
    rw [Nat.sub_add_cancel (by omega)] at this
    exact isGot_spec this
structure TabOk (n : Nat) : Prop where
  load : loadM (tabBytes n) = .ok (tabF n)
  ok : FlatOk (tabF n)
  len : (tabBytes n).length ≤ 1000000
  gl : (tabF n).globals.map (fun (n : Nat) => ((n : Nat) : Int)) = [5]
  nf : (tabF n).funcs.length = 1
  ps : ((tabF n).funcs.getD 0 fn0).typ.1 = [127]
theorem tab_okay {n : Nat} (hn : n < 12) : TabOk n := by
  have := List.all_eq_true.1 tab_ok n (by simpa using hn)
  simp only [tabOk, Bool.and_eq_true, decide_eq_true_eq] at this
  obtain ⟨⟨⟨⟨⟨h1, h2⟩, h3⟩, h4⟩, h5⟩, h6⟩ := this
  exact ⟨flatOf_ok h1, flatOk_of h2, by omega, by rw [h4]; rfl, h5, h6⟩
theorem tab_ref {n c : Nat} (hn : n < 12) (hc : c < 4294967296) : refusesM (tabF n) ((0 : Nat) : Int) [((c : Nat) : Int)] ((100000 : Nat) : Int) = 0 := by
  have h := tab_okay hn
  have hf : fitsM [((c : Nat) : Int)] [127] = true := by
    simp [fitsM, fitsAt]
    omega
  unfold refusesM
  rw [h.nf, if_neg (by simp), show (((0 : Nat) : Int)).toNat = 0 from rfl, h.ps, hf]
  simp
end Go.Proofs.YtdeplgkhmebalaaGreatDoor
