/- What is stored is there: the module, as it is looked at. -/
import Derived.Test.YtdeplgkhmebalaaGreatDoorP11
import Derived.Test.YtdeplgkhmebalaaGreatDoorP12

namespace Go.Proofs.YtdeplgkhmebalaaGreatDoor
open Go.RowKit
def cellFns (o : Nat) : List FnS := [⟨[127, 126], [], [], [0x20, 0, 0x20, 1, 0x37] ++ uB o⟩, ⟨[127], [126], [], [0x20, 0, 0x29] ++ uB o⟩, ⟨[127], [127], [], [0x20, 0, 0x2d] ++ uB o⟩, ⟨[127], [127], [], [0x20, 0, 0x40]⟩, ⟨[], [127], [], [0x3f]⟩]
def cellBytes (p o : Nat) : List UInt8 := moduleB p (cellFns o)
def cellFs : List FnM := [⟨([127, 126], []), 2, 0⟩, ⟨([127], [126]), 1, 4⟩, ⟨([127], [127]), 1, 7⟩, ⟨([127], [127]), 1, 10⟩, ⟨([], [127]), 0, 13⟩]
def cellCode (o : Nat) : List Ins := [⟨32, 0, 0, 0, 0⟩, ⟨32, 1, 0, 0, 0⟩, ⟨55, o, 0, 0, 0⟩, ⟨11, 0, 0, 0, 0⟩, ⟨32, 0, 0, 0, 0⟩, ⟨41, o, 0, 0, 0⟩, ⟨11, 0, 0, 0, 0⟩, ⟨32, 0, 0, 0, 0⟩, ⟨45, o, 0, 0, 0⟩, ⟨11, 0, 0, 0, 0⟩, ⟨32, 0, 0, 0, 0⟩, ⟨64, 0, 0, 0, 0⟩, ⟨11, 0, 0, 0, 0⟩, ⟨63, 0, 0, 0, 0⟩, ⟨11, 0, 0, 0, 0⟩]
def cellF (p o : Nat) : Flat := ⟨cellFs, [5], p, cellCode o⟩
def cellTs : List Ty := [([127, 126], []), ([127], [126]), ([127], [127]), ([127], [127]), ([], [127])]
def cellHead : List UInt8 := [83, 84, 75, 1, 5, 2, 127, 126, 0, 1, 127, 1, 126, 1, 127, 1, 127, 1, 127, 1, 127, 0, 1, 127, 5, 0, 1, 2, 3, 4, 1, 126, 1, 5]
def cellTail (o : Nat) : List UInt8 := (cellFns o).flatMap bodyB
theorem cell_bytes (p o : Nat) (hp : p < 5) : cellBytes p o = cellHead ++ ((UInt8.ofNat p) :: cellTail o) := by
  match p, hp with
  | 0, _ => rfl
  | 1, _ => rfl
  | 2, _ => rfl
  | 3, _ => rfl
  | 4, _ => rfl
theorem cell_magic (T : List UInt8) : magicM (cellHead ++ T) 0 = .ok ((), 4) := by kernel_rfl
theorem cell_types (T : List UInt8) : typesM (cellHead ++ T) 4 = .ok (cellTs, 24) := by kernel_rfl
theorem cell_funcs (T : List UInt8) : funcsM (cellHead ++ T) cellTs 24 = .ok (cellTs, 30) := by kernel_rfl
theorem cell_globs (T : List UInt8) : globsM (cellHead ++ T) 30 = .ok ([((126, true), 5)], 34) := by kernel_rfl
theorem cell_pages0 (T : List UInt8) : belowM (cellHead ++ (UInt8.ofNat 0 :: T)) 5 34 = .ok (0, 35) := by kernel_rfl
theorem cell_pages1 (T : List UInt8) : belowM (cellHead ++ (UInt8.ofNat 1 :: T)) 5 34 = .ok (1, 35) := by kernel_rfl
theorem cell_pages2 (T : List UInt8) : belowM (cellHead ++ (UInt8.ofNat 2 :: T)) 5 34 = .ok (2, 35) := by kernel_rfl
theorem cell_pages3 (T : List UInt8) : belowM (cellHead ++ (UInt8.ofNat 3 :: T)) 5 34 = .ok (3, 35) := by kernel_rfl
theorem cell_pages4 (T : List UInt8) : belowM (cellHead ++ (UInt8.ofNat 4 :: T)) 5 34 = .ok (4, 35) := by kernel_rfl
theorem cell_pages : ∀ (p : Nat), p < 5 → ∀ (T : List UInt8), belowM (cellHead ++ (UInt8.ofNat p :: T)) 5 34 = .ok (p, 35)
  | 0, _, T => cell_pages0 T
  | 1, _, T => cell_pages1 T
  | 2, _, T => cell_pages2 T
  | 3, _, T => cell_pages3 T
  | 4, _, T => cell_pages4 T
  | _ + 5, h, _ => absurd h (by omega)
def insIs (a b : Ins) : Bool := decide (a.op = b.op) && decide (a.num = b.num) && decide (a.goal = b.goal) && decide (a.height = b.height) && decide (a.keep = b.keep)
theorem insIs_eq {a b : Ins} (h : insIs a b = true) : a = b := by
  obtain ⟨a1, a2, a3, a4, a5⟩ := a
  obtain ⟨b1, b2, b3, b4, b5⟩ := b
  simp only [insIs, Bool.and_eq_true, decide_eq_true_eq] at h
  obtain ⟨⟨⟨⟨rfl, rfl⟩, rfl⟩, rfl⟩, rfl⟩ := h
  rfl
def codeIs : List Ins → List Ins → Bool
  | [], [] => true
  | a :: l, b :: m => insIs a b && codeIs l m
  | _, _ => false
theorem codeIs_eq : ∀ {l m : List Ins}, codeIs l m = true → l = m
  | [], [], _ => rfl
  | a :: l, b :: m, h => by
    simp only [codeIs, Bool.and_eq_true] at h
    rw [insIs_eq h.1, codeIs_eq h.2]
  | [], _ :: _, h => by cases h
  | _ :: _, [], h => by cases h
def fnIs (a b : FnM) : Bool := decide (a.typ = b.typ) && decide (a.locals = b.locals) && decide (a.entry = b.entry)
theorem fnIs_eq {a b : FnM} (h : fnIs a b = true) : a = b := by
  obtain ⟨a1, a2, a3⟩ := a
  obtain ⟨b1, b2, b3⟩ := b
  simp only [fnIs, Bool.and_eq_true, decide_eq_true_eq] at h
  obtain ⟨⟨rfl, rfl⟩, rfl⟩ := h
  rfl
def fnsIs : List FnM → List FnM → Bool
  | [], [] => true
  | a :: l, b :: m => fnIs a b && fnsIs l m
  | _, _ => false
theorem fnsIs_eq : ∀ {l m : List FnM}, fnsIs l m = true → l = m
  | [], [], _ => rfl
  | a :: l, b :: m, h => by
    simp only [fnsIs, Bool.and_eq_true] at h
    rw [fnIs_eq h.1, fnsIs_eq h.2]
  | [], _ :: _, h => by cases h
  | _ :: _, [], h => by cases h
def cellIs (x : UInt8) (o : Nat) : Bool := match bodiesM (cellHead ++ (x :: cellTail o)) cellTs [(126, true)] cellTs [] 35 with
  | .ok ((fns, code), i) => fnsIs fns cellFs && codeIs code (cellCode o) && decide (i = (cellHead ++ (x :: cellTail o)).length) && decide (i ≤ 1000)
  | .error _ => false
theorem cellIs_spec {p o : Nat} (hp : p < 5) (h : cellIs (UInt8.ofNat p) o = true) : loadM (cellBytes p o) = .ok (cellF p o) ∧ (cellBytes p o).length ≤ 1000 := by
  rw [cell_bytes p o hp]
  unfold cellIs at h
  split at h
  · rename_i fns code i hb
    simp only [Bool.and_eq_true, decide_eq_true_eq] at h
    obtain ⟨⟨⟨h1, h2⟩, h3⟩, h4⟩ := h
    rw [fnsIs_eq h1, codeIs_eq h2] at hb
    refine ⟨?_, by omega⟩
    unfold loadM
    rw [if_neg (by omega), cell_magic]
    simp only
    rw [cell_types]
    simp only
    rw [cell_funcs]
    simp only
    rw [cell_globs]
    simp only
    rw [cell_pages p hp]
    simp only [List.map_cons, List.map_nil]
    rw [hb]
    simp only
    rw [if_neg (by omega)]
    rfl
  · cases h
def cellsAre (x : UInt8) (a n : Nat) (far : Bool) : Bool := (List.range n).all fun k => cellIs x (if far then 4294967295 - (a + k) else a + k)
theorem cellsAre_spec {x : UInt8} {a n : Nat} {far : Bool} (h : cellsAre x a n far = true) {o : Nat} (h1 : a ≤ o) (h2 : o < a + n) : cellIs x (if far then 4294967295 - o else o) = true := by
  unfold cellsAre at h
  have := List.all_eq_true.mp h (o - a) (List.mem_range.mpr (by omega))
  rwa [show a + (o - a) = o by omega] at this
end Go.Proofs.YtdeplgkhmebalaaGreatDoor
