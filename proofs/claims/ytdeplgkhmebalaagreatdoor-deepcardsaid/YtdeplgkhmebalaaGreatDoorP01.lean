/- What a call of the program does to memory, said of blocks: helpers of the proof, no statement. -/
import Derived.WalkKit
import Derived.WalkSpells
import Derived.WalkLawsBesides
import Derived.Deep.QuietTactic
import Derived.BigQuiet
import Derived.BigRegion
import Derived.Deep.DeepCutAuto
import Derived.Deep.CutBlock
import Derived.Deep.LoopGhost
import Derived.Deep.Light
import Derived.Test.YtdeplgkhmebalaaGreatDoorProg
import Derived.Deep.RegionHeld3
import Derived.Deep.AppendLies
import Derived.Deep.DrawnRows
import Derived.BigCall
import Derived.Shelf.Abstract
import Derived.Lib.AppendZerosOnto
import Derived.Laws.CopyOwn
import Derived.Lib.SlBytesConst

namespace Go.Proofs.YtdeplgkhmebalaaGreatDoor
open Go.RowKit

/-- But for the blocks of S and new ones, w' is as w was. -/
structure Kp (S : Nat → Prop) (w w' : World) : Prop where
  os : w'.os = w.os
  tape : w'.tape = w.tape
  output : w'.output = w.output
  size : w.heap.size ≤ w'.heap.size
  block : ∀ k, k < w.heap.size → ¬ S k → w'.heap[k]? = w.heap[k]?

theorem lt_of_blk {w : World} {k : Nat} {o : Obj} (h : w.heap[k]? = some o) : k < w.heap.size := by
  rcases Nat.lt_or_ge k w.heap.size with h1 | h1
  · exact h1
  · rw [Array.getElem?_eq_none h1] at h; cases h

theorem Kp.refl (S : Nat → Prop) (w : World) : Kp S w w := ⟨rfl, rfl, rfl, Nat.le_refl _, fun _ _ _ => rfl⟩
theorem Kp.comp {S S1 S2 : Nat → Prop} {a b c : World} (h1 : Kp S1 a b) (h2 : Kp S2 b c) (H1 : ∀ k, k < a.heap.size → S1 k → S k) (H2 : ∀ k, k < a.heap.size → S2 k → S k) : Kp S a c :=
  ⟨h2.os.trans h1.os, h2.tape.trans h1.tape, h2.output.trans h1.output, Nat.le_trans h1.size h2.size, fun k hk hs =>
    (h2.block k (Nat.lt_of_lt_of_le hk h1.size) (fun h => hs (H2 k hk h))).trans (h1.block k hk (fun h => hs (H1 k hk h)))⟩
theorem Kp.trans {S : Nat → Prop} {a b c : World} (h1 : Kp S a b) (h2 : Kp S b c) : Kp S a c := h1.comp h2 (fun _ _ h => h) (fun _ _ h => h)
theorem Kp.mono {S S' : Nat → Prop} {a b : World} (h : Kp S a b) (H : ∀ k, k < a.heap.size → S k → S' k) : Kp S' a b := ⟨h.os, h.tape, h.output, h.size, fun k hk hs => h.block k hk (fun e => hs (H k hk e))⟩
theorem Kp.drew {S : Nat → Prop} {a b : World} (h : Kp S a b) : Kp S a b.drew := ⟨h.os, h.tape, h.output, h.size, h.block⟩
theorem Kp.drewN {S : Nat → Prop} {a b : World} (h : Kp S a b) (n : Nat) : Kp S a (b.drewN n) := ⟨h.os, h.tape, h.output, h.size, h.block⟩
theorem Kp.setCell {S : Nat → Prop} {a b : World} (h : Kp S a b) {p : Addr} (hp : S p.block ∨ a.heap.size ≤ p.block) (u : Value) : Kp S a (b.setCell p u) :=
  ⟨h.os, h.tape, h.output, by simpa [World.setCell] using h.size, fun k hk hs => (Below.heap_setCell _ _ _ _ (by
    rintro rfl; rcases hp with hp | hp
    · exact hs hp
    · omega)).trans (h.block k hk hs)⟩
theorem Kp.alloc {S : Nat → Prop} {a b : World} (h : Kp S a b) (o : Obj) : Kp S a (b.alloc o) :=
  ⟨h.os, h.tape, h.output, by have := h.size; simp; omega, fun k hk hs => (Below.heap_alloc _ _ _ (Nat.lt_of_lt_of_le hk h.size)).trans (h.block k hk hs)⟩
theorem Kp.grown {S : Nat → Prop} {a b c : World} {row : Option Nat} (h : Kp S a b) (g : b.grownBy c row) (hr : ∀ k, row = some k → S k ∨ a.heap.size ≤ k) : Kp S a c :=
  ⟨g.os.trans h.os, g.tape.trans h.tape, g.output.trans h.output, Nat.le_trans h.size g.size, fun k hk hs => (g.block k (Nat.lt_of_lt_of_le hk h.size) (fun e => by
    rcases hr k e.symm with h1 | h1
    · exact hs h1
    · omega)).trans (h.block k hk hs)⟩
theorem Kp.blk {S : Nat → Prop} {a b : World} (h : Kp S a b) {k : Nat} {o : Obj} (hk : a.heap[k]? = some o) (hs : ¬ S k) : b.heap[k]? = some o := (h.block k (lt_of_blk hk) hs).trans hk
theorem Kp.cell {S : Nat → Prop} {a b : World} (h : Kp S a b) {p : Addr} {v : Value} (hk : a.cell? p = some v) (hs : ¬ S p.block) : b.cell? p = some v := by
  rw [← hk]
  refine World.cell?_of_block (h.block _ ?_ hs)
  rcases Nat.lt_or_ge p.block a.heap.size with h1 | h1
  · exact h1
  · rw [World.cell?, Array.getElem?_eq_none h1] at hk; cases hk
theorem Kp.below {S : Nat → Prop} {a b : World} (h : Kp S a b) {B : Nat} (hB : B ≤ a.heap.size) (H : ∀ k, S k → B ≤ k) : Below B a b :=
  ⟨h.os, h.tape, h.output, h.size, fun k hk => h.block k (Nat.lt_of_lt_of_le hk hB) (fun e => by have := H k e; omega)⟩
theorem Kp.grownBy {a b : World} {r : Nat} (h : Kp (fun k => k = r) a b) : a.grownBy b (some r) :=
  ⟨h.os, h.tape, h.output, h.size, fun k hk hs => h.block k hk (fun e => hs (by rw [e]))⟩
theorem Kp.own {S : Nat → Prop} {a b : World} (h : Kp S a b) {base : Nat} {e : TypeId} {sz : Nat} {v : Value} {n : Nat} {xs : List Value} (ho : a.ownsRow base e sz v n xs) (hs : ∀ k, v.ownBlock = some k → ¬ S k) : b.ownsRow base e sz v n xs := by
  obtain ⟨h1, h2⟩ := ho
  refine ⟨h1, ?_⟩
  rcases h2 with h2 | ⟨g, cap, cur, hv, hg, hh, r⟩
  · exact Or.inl h2
  · exact Or.inr ⟨g, cap, cur, hv, hg, h.blk hh (hs g (by rw [hv]; rfl)), r⟩

theorem hide {p : Prop} (h : p) : Hid p := h

theorem ret_bool {a b : Bool} (h : a = b) : Ending.returned (.bool a) = .returned (.bool b) := by rw [h]

/-- No block. -/
def no : Nat → Prop := fun _ => False
theorem Kp.any {S : Nat → Prop} {a b : World} (h : Kp no a b) : Kp S a b := h.mono (fun _ _ h => h.elim)
theorem Kp.then {S : Nat → Prop} {a b c : World} (h : Kp S a b) (h2 : Kp no b c) : Kp S a c := h.trans h2.any
theorem Kp.allCells {a b : World} (h : Kp no a b) {p : Addr} {v : Value} (hk : a.cell? p = some v) : b.cell? p = some v := h.cell hk (fun h => h)

/-- One block alone. -/
def one (b : Nat) : Nat → Prop := fun k => k = b

/-- A block's cells, by one equation. -/
theorem cells_of {w : World} {b : Nat} {cs : Array Value} {t : TypeId} (h : w.heap[b]? = some (.cells cs t)) : (∀ o, w.cell? ⟨b, o, none⟩ = cs[o]?) ∧ (∀ o, w.frozen? ⟨b, o, none⟩ = false) := by
  refine ⟨fun o => by simp [World.cell?, h], fun o => by simp [World.frozen?, h]⟩
theorem heap_setCell {w : World} {b o : Nat} {cs : Array Value} {t : TypeId} {fr : Nat × Nat} (h : w.heap[b]? = some (.cells cs t fr)) (v : Value) : (w.setCell ⟨b, o, none⟩ v).heap[b]? = some (.cells (cs.setIfInBounds o v) t fr) := by
  simp [World.setCell, Array.getElem?_modify, h]
theorem heap_setCell_ne {w : World} {b k o : Nat} {x : Obj} (hk : k ≠ b) (v : Value) (h : w.heap[k]? = some x) : (w.setCell ⟨b, o, none⟩ v).heap[k]? = some x := by
  rw [Below.heap_setCell _ _ _ _ hk]; exact h
theorem heap_alloc_old {w : World} {k : Nat} {x o : Obj} (h : w.heap[k]? = some x) : (w.alloc o).heap[k]? = some x := by
  rw [Below.heap_alloc _ _ _ (lt_of_blk h)]; exact h
theorem heap_alloc_new (w : World) (o : Obj) : (w.alloc o).heap[w.heap.size]? = some o := by
  show (w.heap.push o)[w.heap.size]? = _
  simp
theorem heap_drewN (w : World) (n : Nat) : (w.drewN n).heap = w.heap := rfl

theorem Kp.set1 {b : Nat} {x y : World} (h : Kp (one b) x y) (o : Nat) (u : Value) : Kp (one b) x (y.setCell ⟨b, o, none⟩ u) := h.setCell (p := ⟨b, o, none⟩) (.inl rfl) u
theorem Kp.setAt {S : Nat → Prop} {b : Nat} {x y : World} (h : Kp S x y) (hs : S b) (o : Nat) (u : Value) : Kp S x (y.setCell ⟨b, o, none⟩ u) := h.setCell (p := ⟨b, o, none⟩) (.inl hs) u
theorem Kp.setNew {S : Nat → Prop} {b : Nat} {x y : World} (h : Kp S x y) (hs : x.heap.size ≤ b) (o : Nat) (u : Value) : Kp S x (y.setCell ⟨b, o, none⟩ u) := h.setCell (p := ⟨b, o, none⟩) (.inr hs) u

theorem own_shape {w : World} {base : Nat} {e : TypeId} {sz : Nat} {v : Value} {n : Nat} {xs : List Value} (h : w.ownsRow base e sz v n xs) : ∃ ad cap, v = .slice ad n cap := by
  obtain ⟨-, ⟨rfl, rfl⟩ | ⟨g, cap, cur, rfl, -⟩⟩ := h
  · exact ⟨none, 0, rfl⟩
  · exact ⟨_, _, rfl⟩

/-- A slice of n elements of sz cells each reads as these cells. -/
def RowAt (w : World) (v : Value) (sz n : Nat) (xs : List Value) : Prop :=
  xs.length = n * sz ∧ ((v = .slice none 0 0 ∧ n = 0) ∨ ∃ a o cap, v = .slice (some ⟨a, o, none⟩) n cap ∧ n ≤ cap ∧ ∀ k x, xs[k]? = some x → w.cell? ⟨a, o + k, none⟩ = some x)

theorem RowAt.get {w : World} {v : Value} {sz n : Nat} {xs : List Value} (h : RowAt w v sz n xs) {k : Nat} {x : Value} (hk : xs[k]? = some x) :
    ∃ a o cap, v = .slice (some ⟨a, o, none⟩) n cap ∧ n ≤ cap ∧ w.cell? ⟨a, o + k, none⟩ = some x := by
  obtain ⟨hl, ⟨rfl, rfl⟩ | ⟨a, o, cap, rfl, hc, hcell⟩⟩ := h
  · rw [Nat.zero_mul, List.length_eq_zero_iff] at hl; subst hl; simp at hk
  · exact ⟨a, o, cap, rfl, hc, hcell k x hk⟩
theorem RowAt.kp {S : Nat → Prop} {w w' : World} {v : Value} {sz n : Nat} {xs : List Value} (h : RowAt w v sz n xs) (k : Kp S w w') (hs : ∀ b, v.ownBlock = some b → ¬ S b) : RowAt w' v sz n xs := by
  obtain ⟨hl, ⟨rfl, rfl⟩ | ⟨a, o, cap, rfl, hc, hcell⟩⟩ := h
  · exact ⟨hl, .inl ⟨rfl, rfl⟩⟩
  · exact ⟨hl, .inr ⟨a, o, cap, rfl, hc, fun j x hj => k.cell (hcell j x hj) (hs a rfl)⟩⟩
theorem RowAt.kp0 {S : Nat → Prop} {w w' : World} {v : Value} {sz n : Nat} {xs : List Value} (h : RowAt w v sz n xs) (k : Kp S w w') (hs : ∀ b, v.ownBlock = some b → b < w.heap.size → ¬ S b) : RowAt w' v sz n xs := by
  obtain ⟨hl, ⟨rfl, rfl⟩ | ⟨a, o, cap, rfl, hc, hcell⟩⟩ := h
  · exact ⟨hl, .inl ⟨rfl, rfl⟩⟩
  · refine ⟨hl, .inr ⟨a, o, cap, rfl, hc, fun j x hj => k.cell (hcell j x hj) (hs a rfl ?_)⟩⟩
    have hx := hcell j x hj
    rcases Nat.lt_or_ge a w.heap.size with h1 | h1
    · exact h1
    · rw [World.cell?, Array.getElem?_eq_none h1] at hx; cases hx
theorem RowAt.nil (w : World) (sz : Nat) : RowAt w (.slice none 0 0) sz 0 [] := ⟨by simp, .inl ⟨rfl, rfl⟩⟩
theorem RowAt.shape {w : World} {v : Value} {sz n : Nat} {xs : List Value} (h : RowAt w v sz n xs) : ∃ ad cap, v = .slice ad n cap ∧ n ≤ cap := by
  obtain ⟨hl, ⟨rfl, rfl⟩ | ⟨a, o, cap, rfl, hc, hcell⟩⟩ := h
  · exact ⟨none, 0, rfl, Nat.le_refl _⟩
  · exact ⟨_, cap, rfl, hc⟩
theorem RowAt.own {w : World} {base : Nat} {e : TypeId} {sz : Nat} {v : Value} {n : Nat} {xs : List Value} (h : w.ownsRow base e sz v n xs) : RowAt w v sz n xs := by
  obtain ⟨hl, ⟨rfl, rfl⟩ | ⟨g, cap, cur, rfl, hg, hh, hc, hm, hs, ht⟩⟩ := h
  · exact ⟨hl, .inl ⟨rfl, rfl⟩⟩
  · refine ⟨hl, .inr ⟨g, 0, cap, rfl, hc, fun k x hk => ?_⟩⟩
    subst ht
    rw [List.getElem?_take] at hk
    split at hk
    · simp [World.cell?, hh]; simpa using hk
    · cases hk
theorem own_new {w : World} {base : Nat} {e : TypeId} {sz : Nat} {v : Value} {n : Nat} {xs : List Value} (h : w.ownsRow base e sz v n xs) : ∀ k, v.ownBlock = some k → base ≤ k := fun k hk => (h.lt k hk).1

/-- A slice of bytes, as a list. -/
def BytesAt (w : World) (v : Value) (l : List UInt8) : Prop := RowAt w v 1 l.length (l.map fun c => .int .u8 c.toNat)
def BoolsAt (w : World) (v : Value) (l : List Bool) : Prop := RowAt w v 1 l.length (l.map Value.bool)

theorem BytesAt.get {w : World} {v : Value} {l : List UInt8} (h : BytesAt w v l) {k : Nat} (hk : k < l.length) :
    ∃ a o cap, v = .slice (some ⟨a, o, none⟩) l.length cap ∧ l.length ≤ cap ∧ w.cell? ⟨a, o + k, none⟩ = some (.int .u8 (l.getD k 0).toNat) :=
  RowAt.get h (by simp [List.getD, List.getElem?_eq_getElem hk])
theorem BoolsAt.get {w : World} {v : Value} {l : List Bool} (h : BoolsAt w v l) {k : Nat} (hk : k < l.length) :
    ∃ a o cap, v = .slice (some ⟨a, o, none⟩) l.length cap ∧ l.length ≤ cap ∧ w.cell? ⟨a, o + k, none⟩ = some (.bool (l.getD k false)) :=
  RowAt.get h (by simp [List.getD, List.getElem?_eq_getElem hk])
theorem BytesAt.cases {w : World} {v : Value} {l : List UInt8} (h : BytesAt w v l) : (v = .slice none 0 0 ∧ l = []) ∨ ∃ a o cap, v = .slice (some ⟨a, o, none⟩) l.length cap ∧ l.length ≤ cap ∧ ∀ k, k < l.length → w.cell? ⟨a, o + k, none⟩ = some (.int .u8 (l.getD k 0).toNat) := by
  obtain ⟨hl, ⟨rfl, hn⟩ | ⟨a, o, cap, rfl, hc, hcell⟩⟩ := h
  · exact .inl ⟨rfl, List.length_eq_zero_iff.1 hn⟩
  · exact .inr ⟨a, o, cap, rfl, hc, fun k hk => hcell k _ (by simp [List.getD, List.getElem?_eq_getElem hk])⟩
theorem BytesAt.mk {w : World} {a o cap : Nat} {l : List UInt8} (hc : l.length ≤ cap) (h : ∀ k, k < l.length → w.cell? ⟨a, o + k, none⟩ = some (.int .u8 (l.getD k 0).toNat)) : BytesAt w (.slice (some ⟨a, o, none⟩) l.length cap) l := by
  refine ⟨by simp, .inr ⟨a, o, cap, rfl, hc, fun k x hk => ?_⟩⟩
  simp only [List.getElem?_map, Option.map_eq_some_iff] at hk
  obtain ⟨c, hc', rfl⟩ := hk
  have hlt : k < l.length := by
    rcases Nat.lt_or_ge k l.length with h1 | h1
    · exact h1
    · rw [List.getElem?_eq_none h1] at hc'; cases hc'
  rw [h k hlt]; simp [List.getD, hc']
theorem BytesAt.nil (w : World) : BytesAt w (.slice none 0 0) [] := RowAt.nil w 1
theorem BytesAt.kp {S : Nat → Prop} {w w' : World} {v : Value} {l : List UInt8} (h : BytesAt w v l) (k : Kp S w w') (hs : ∀ b, v.ownBlock = some b → ¬ S b) : BytesAt w' v l := RowAt.kp h k hs
theorem BoolsAt.kp {S : Nat → Prop} {w w' : World} {v : Value} {l : List Bool} (h : BoolsAt w v l) (k : Kp S w w') (hs : ∀ b, v.ownBlock = some b → ¬ S b) : BoolsAt w' v l := RowAt.kp h k hs

end Go.Proofs.YtdeplgkhmebalaaGreatDoor

namespace Go.Proofs.YtdeplgkhmebalaaGreatDoor
open Go.RowKit

abbrev ptrTo (b : Nat) : Value := .pointer (some ⟨b, 0, none⟩)
abbrev rdObj (dv : Value) (i : Int) : Obj := .cells #[dv, .int .i64 i] 218

/-- A reader at block rb over these bytes (up to its end), at the place i. -/
structure RSt (w : World) (rb : Nat) (dv : Value) (D : List UInt8) (i : Nat) : Prop where
  blk : w.heap[rb]? = some (rdObj dv i)
  bytes : BytesAt w dv D
  sep : ∀ b, dv.ownBlock = some b → b ≠ rb
  len : D.length ≤ 2000
  le : i ≤ D.length

theorem RSt.kp {S : Nat → Prop} {w w' : World} {rb : Nat} {dv : Value} {D : List UInt8} {i : Nat} (h : RSt w rb dv D i) (k : Kp S w w') (hr : ¬ S rb) (hd : ∀ b, dv.ownBlock = some b → b < w.heap.size → ¬ S b) : RSt w' rb dv D i :=
  ⟨k.blk h.blk hr, RowAt.kp0 h.bytes k hd, h.sep, h.len, h.le⟩
theorem RSt.step {w w' : World} {rb : Nat} {dv : Value} {D : List UInt8} {i j : Nat} (h : RSt w rb dv D i) (k : Kp (one rb) w w') (hb : w'.heap[rb]? = some (rdObj dv j)) (hj : j ≤ D.length) : RSt w' rb dv D j :=
  ⟨hb, h.bytes.kp k (fun b hb e => h.sep b hb e), h.sep, h.len, hj⟩

/-- A fault in new memory. -/
def FaultAt (w w' : World) (v : Value) (e : Int × Int) : Prop := ∃ fb, v = ptrTo fb ∧ w.heap.size ≤ fb ∧ w'.heap[fb]? = some (.cells #[.int .i64 e.1, .int .i64 e.2] 132)

set_option maxHeartbeats 400000 in
theorem at_any {w : World} {rb : Nat} {dv : Value} {D : List UInt8} {i : Nat} (h : RSt w rb dv D i) :
    Calls Tryz.prog 108 #[ptrTo rb] w fun r w' => r = .returned (.int .i64 i) ∧ w' = w := by
  obtain ⟨hc, -⟩ := cells_of h.blk
  clear h
  go_enter Tryz.func108, Tryz.ntmps108
  go_wp2
  go_ret
  exact ⟨rfl, rfl⟩

set_option maxHeartbeats 400000 in
theorem left_any {w : World} {rb : Nat} {dv : Value} {D : List UInt8} {i : Nat} (h : RSt w rb dv D i) :
    Calls Tryz.prog 110 #[ptrTo rb] w fun r w' => r = .returned (.int .i64 ((D.length : Int) - i)) ∧ Kp no w w' := by
  obtain ⟨hc, -⟩ := cells_of h.blk
  obtain ⟨ad, cap, rfl, _⟩ := h.bytes.shape
  have hl := h.len
  have hi := h.le
  clear h
  go_enter Tryz.func110, Tryz.ntmps110
  go_wp2
  go_quiet (fail)
  go_wp2
  go_ret
  exact ⟨rfl, (Kp.refl no w).drewN _⟩

set_option maxHeartbeats 400000 in
theorem form_any (w : World) (i : Int) :
    Calls Tryz.prog 111 #[.int .i64 i] w fun r w' => r = .returned (ptrTo w.heap.size) ∧ w' = w.alloc (.cells #[.int .i64 2, .int .i64 i] 132) := by
  go_enter Tryz.func111, Tryz.ntmps111
  go_wp2
  go_ret
  exact ⟨rfl, rfl⟩

def byteM (D : List UInt8) (i : Nat) : Except (Int × Int) (UInt8 × Nat) := if i < D.length then .ok (D.getD i 0, i + 1) else .error (2, i)

/-- What a call of the reader gives: a value and a new place, or a fault. -/
def Gives {α : Type} (w w' : World) (rb : Nat) (dv : Value) (D : List UInt8) (val : α → Value → Prop) (zero : Value) (m : Except (Int × Int) (α × Nat)) (r : Ending) : Prop :=
  match m with
  | .ok (x, j) => ∃ v, r = .returned (.tuple #[v, .pointer none]) ∧ val x v ∧ RSt w' rb dv D j
  | .error e => ∃ fv j, r = .returned (.tuple #[zero, fv]) ∧ FaultAt w w' fv e ∧ RSt w' rb dv D j

set_option maxHeartbeats 400000 in
theorem byte_ok {w : World} {rb : Nat} {dv : Value} {D : List UInt8} {i : Nat} (h : RSt w rb dv D i) (hi : i < D.length) :
    Calls Tryz.prog 138 #[ptrTo rb] w fun r w' => r = .returned (.tuple #[.int .u8 (D.getD i 0).toNat, .pointer none]) ∧ RSt w' rb dv D (i + 1) ∧ Kp (one rb) w w' := by
  obtain ⟨hc, hf⟩ := cells_of h.blk
  obtain ⟨a, o, cap, rfl, hcap, hdc⟩ := h.bytes.get hi
  have hsep : a ≠ rb := h.sep a rfl
  have hl := h.len
  have H := hide h
  generalize D.getD i 0 = c at *
  have hz : ((D.length : Int) - i == 0) = false := by simp; omega
  clear h
  go_enter Tryz.func138, Tryz.ntmps138
  go_wp2_with fail
  refine (left_any H.out).mono ?_
  rintro e w1 ⟨rfl, k1⟩
  have H1 := hide (H.out.kp k1 (fun h => h) (fun _ _ _ h => h))
  obtain ⟨hc1, hf1⟩ := cells_of H1.out.blk
  have hdc1 := k1.allCells hdc
  clear hc hf hdc
  go_wp2
  go_quiet (fail)
  go_wp2
  go_ret2
  refine ⟨rfl, H1.out.step (((Kp.refl (one rb) w1).drewN _).set1 _ _) ?_ (by omega) |>.kp (Kp.refl no _) (fun h => h) (fun _ _ _ h => h), (k1.any.drewN _).set1 _ _⟩
  exact heap_setCell H1.out.blk _

set_option maxHeartbeats 400000 in
theorem byte_end {w : World} {rb : Nat} {dv : Value} {D : List UInt8} {i : Nat} (h : RSt w rb dv D i) (hi : ¬ i < D.length) :
    Calls Tryz.prog 138 #[ptrTo rb] w fun r w' => (∃ fv, r = .returned (.tuple #[.int .u8 0, fv]) ∧ FaultAt w w' fv (2, i) ∧ RSt w' rb dv D i) ∧ Kp (one rb) w w' := by
  have hl := h.len
  have hle := h.le
  have H := hide h
  have hz : ((D.length : Int) - i == 0) = true := by simp; omega
  clear h
  go_enter Tryz.func138, Tryz.ntmps138
  go_wp2_with fail
  refine (left_any H.out).mono ?_
  rintro e w1 ⟨rfl, k1⟩
  have H1 := hide (H.out.kp k1 (fun h => h) (fun _ _ _ h => h))
  obtain ⟨hc1, hf1⟩ := cells_of H1.out.blk
  go_wp2_with fail
  refine (form_any _ _).mono ?_
  rintro e w2 ⟨rfl, rfl⟩
  go_wp2
  go_ret2
  refine ⟨⟨ptrTo w1.heap.size, rfl, ⟨w1.heap.size, rfl, k1.size, heap_alloc_new _ _⟩, H1.out.kp ((Kp.refl no w1).alloc _) (fun h => h) (fun _ _ _ h => h)⟩, k1.any.alloc _⟩

theorem byte_any {w : World} {rb : Nat} {dv : Value} {D : List UInt8} {i : Nat} (h : RSt w rb dv D i) :
    Calls Tryz.prog 138 #[ptrTo rb] w fun r w' => Gives w w' rb dv D (fun c v => v = .int .u8 (UInt8.toNat c)) (.int .u8 0) (byteM D i) r ∧ Kp (one rb) w w' := by
  by_cases hi : i < D.length
  · refine (byte_ok h hi).mono ?_
    rintro r w' ⟨rfl, h', k⟩
    rw [byteM, if_pos hi]
    exact ⟨⟨_, rfl, rfl, h'⟩, k⟩
  · refine (byte_end h hi).mono ?_
    rintro r w' ⟨⟨fv, rfl, hf, h'⟩, k⟩
    rw [byteM, if_neg hi]
    exact ⟨⟨fv, i, rfl, hf, h'⟩, k⟩

end Go.Proofs.YtdeplgkhmebalaaGreatDoor

namespace Go.Proofs.YtdeplgkhmebalaaGreatDoor
open Go.RowKit

theorem grownBy_refl (w : World) (r : Option Nat) : w.grownBy w r := ⟨rfl, rfl, rfl, Nat.le_refl _, fun _ _ _ => rfl⟩

section
variable {P : Program} (w : World)
theorem wp_append_row {o : Oper} {a : Act} {K : Act → World → Prop} {Q : Exit → Act → World → Prop} (s x : Operand) (t : TypeId)
    (ho : o.op = .call { callee := .builtin .append, args := #[s, x], argTypes := #[t, t] })
    (base : Nat) (e : TypeId) (i : TypeInfo) (z : Value) (size bytes : Nat) (ht : P.underlying t = some (.slice e)) (hi : P.info? e = some i) (hz : i.zero = some z)
    (hsize : i.size = size) (hby : i.bytes = bytes) (hzs : z.cells.size = size) (hsz : 0 < size)
    (v : Value) (n : Nat) (xs : List Value) (hs : a.eval s = v) (hown : w.ownsRow base e size v n xs)
    (sv : Value) (m : Nat) (news : List Value) (hx : a.eval x = sv) (hsrc : RowAt w sv size m news) (h1 : ∀ u ∈ news, u.oneCell' = true)
    (h63 : n + m ≤ maxLen) (hbytes : (n + m) * bytes ≤ 140737488355328) (hbase : base ≤ w.heap.size)
    (h : ∀ v' w', w'.ownsRow base e size v' (n + m) (xs ++ news) → w.grownBy w' v.ownBlock → K (a.put o.dst v') w') : o.wp P a w K Q := by
  obtain ⟨hl, ⟨rfl, rfl⟩ | ⟨ad, of, cap, rfl, hc, hcell⟩⟩ := hsrc
  · obtain rfl : news = [] := List.length_eq_zero_iff.1 (by simpa using hl)
    have hr := run_append_owned_none (P := P) w base t o.type e i size ht hi v n xs hown
    unfold Oper.wp execOp
    simp only [ho, resolve, invoke, builtin, Sem.run_bind, Sem.run_pure, Result.andThen_ok, List.map_toArray, List.map_cons, List.map_nil, hs, hx, hr]
    exact h v w (by simpa using hown) (grownBy_refl _ _)
  · exact wp_append_own w s x t ho base e i z size bytes ht hi hz hsize hby hzs hsz v n xs hs hown ⟨ad, of, none⟩ m cap news hx hl (fun j u hj => by rw [Addr.add_lit]; exact hcell j u hj) h1 h63 hbytes hbase (fun v' w' h2 h3 _ => h v' w' h2 h3)

theorem wpList_append_row {ops : Array Oper} {rest : List Oper} {o : Oper} {a : Act} {Q : Exit → Act → World → Prop} (hgd : o.guard = none) (s x : Operand) (t : TypeId)
    (ho : o.op = .call { callee := .builtin .append, args := #[s, x], argTypes := #[t, t] })
    (base : Nat) (e : TypeId) (i : TypeInfo) (z : Value) (size bytes : Nat) (ht : P.underlying t = some (.slice e)) (hi : P.info? e = some i) (hz : i.zero = some z)
    (hsize : i.size = size) (hby : i.bytes = bytes) (hzs : z.cells.size = size) (hsz : 0 < size)
    (v : Value) (n : Nat) (xs : List Value) (hs : a.eval s = v) (hown : w.ownsRow base e size v n xs)
    (sv : Value) (m : Nat) (news : List Value) (hx : a.eval x = sv) (hsrc : RowAt w sv size m news) (h1 : ∀ u ∈ news, u.oneCell' = true)
    (h63 : n + m ≤ maxLen) (hbytes : (n + m) * bytes ≤ 140737488355328) (hbase : base ≤ w.heap.size)
    (h : ∀ v' w', w'.ownsRow base e size v' (n + m) (xs ++ news) → w.grownBy w' v.ownBlock → wpList P ops Q rest (a.put o.dst v') w') : wpList P ops Q (o :: rest) a w :=
  wpList_plain hgd fun _ hK => wp_append_row w s x t ho base e i z size bytes ht hi hz hsize hby hzs hsz v n xs hs hown sv m news hx hsrc h1 h63 hbytes hbase fun v' w' h2 h3 => hK _ _ (h v' w' h2 h3)
end

/-- the one new element of an append, laid in a block of its own -/
theorem RowAt.new (w : World) (x : Value) (t : TypeId) : RowAt (w.alloc (.cells #[x] t)) (.slice (some ⟨w.heap.size, 0, none⟩) 1 1) 1 1 [x] :=
  ⟨rfl, .inr ⟨_, 0, 1, rfl, Nat.le_refl _, fun k u hk => by rw [← Addr.add_lit]; exact cell_one_new w x t k u hk⟩⟩
theorem bytes_oneCell (l : List UInt8) : ∀ u ∈ l.map (fun c => Value.int .u8 c.toNat), u.oneCell' = true := by
  intro u hu
  obtain ⟨c, -, rfl⟩ := List.mem_map.1 hu
  rfl
theorem one_oneCell {x : Value} (h : x.oneCell' = true) : ∀ u ∈ [x], u.oneCell' = true := by
  intro u hu; simp at hu; subst hu; exact h

end Go.Proofs.YtdeplgkhmebalaaGreatDoor

namespace Go.Proofs.YtdeplgkhmebalaaGreatDoor
open Go.RowKit

section
variable {P : Program} (w : World)
theorem run_append_at (t ty : TypeId) (base : Nat) (e : TypeId) (i : TypeInfo) (z : Value) (size bytes : Nat) (ht : P.underlying t = some (.slice e)) (hi : P.info? e = some i) (hz : i.zero = some z)
    (hsize : i.size = size) (hby : i.bytes = bytes) (hzs : z.cells.size = size) (hsz : 0 < size)
    (v : Value) (n : Nat) (xs : List Value) (hown : w.ownsRow base e size v n xs)
    (sv : Value) (m : Nat) (news : List Value) (hsrc : RowAt w sv size m news) (h1 : ∀ u ∈ news, u.oneCell' = true)
    (h63 : n + m ≤ maxLen) (hbytes : (n + m) * bytes ≤ 140737488355328) (hbase : base ≤ w.heap.size) :
    ∃ v' w', (Builtin.append_ #[t, t] ty #[v, sv]).run P w = .ok v' w' ∧ w'.ownsRow base e size v' (n + m) (xs ++ news) ∧ w.grownBy w' v.ownBlock ∧ (v'.ownBlock = v.ownBlock ∨ v'.ownBlock = some w.heap.size) := by
  obtain ⟨hl, ⟨rfl, rfl⟩ | ⟨ad, of, cap, rfl, hc, hcell⟩⟩ := hsrc
  · obtain rfl : news = [] := List.length_eq_zero_iff.1 (by simpa using hl)
    have hr := run_append_owned_none (P := P) w base t ty e i size ht hi v n xs hown
    exact ⟨v, w, hr, by simpa using hown, grownBy_refl _ _, .inl rfl⟩
  · obtain ⟨v', w', hr, h2, h3, -, h5⟩ := run_append_own_at (P := P) w base t ty e i z size bytes ht hi hz hsize hby hzs hsz v n xs hown ⟨ad, of, none⟩ m cap news hl (fun j u hj => by rw [Addr.add_lit]; exact hcell j u hj) h1 h63 hbytes hbase
    exact ⟨v', w', hr, h2, h3, h5⟩
theorem wp_append_at {o : Oper} {a : Act} {K : Act → World → Prop} {Q : Exit → Act → World → Prop} (s x : Operand) (t : TypeId)
    (ho : o.op = .call { callee := .builtin .append, args := #[s, x], argTypes := #[t, t] })
    (base : Nat) (e : TypeId) (i : TypeInfo) (z : Value) (size bytes : Nat) (ht : P.underlying t = some (.slice e)) (hi : P.info? e = some i) (hz : i.zero = some z)
    (hsize : i.size = size) (hby : i.bytes = bytes) (hzs : z.cells.size = size) (hsz : 0 < size)
    (v : Value) (n : Nat) (xs : List Value) (hs : a.eval s = v) (hown : w.ownsRow base e size v n xs)
    (sv : Value) (m : Nat) (news : List Value) (hx : a.eval x = sv) (hsrc : RowAt w sv size m news) (h1 : ∀ u ∈ news, u.oneCell' = true)
    (h63 : n + m ≤ maxLen) (hbytes : (n + m) * bytes ≤ 140737488355328) (hbase : base ≤ w.heap.size)
    (h : ∀ v' w', w'.ownsRow base e size v' (n + m) (xs ++ news) → w.grownBy w' v.ownBlock → (v'.ownBlock = v.ownBlock ∨ v'.ownBlock = some w.heap.size) → K (a.put o.dst v') w') : o.wp P a w K Q := by
  obtain ⟨v', w', hr, h2, h3, h4⟩ := run_append_at (P := P) w t o.type base e i z size bytes ht hi hz hsize hby hzs hsz v n xs hown sv m news hsrc h1 h63 hbytes hbase
  unfold Oper.wp execOp
  simp only [ho, resolve, invoke, builtin, Sem.run_bind, Sem.run_pure, Result.andThen_ok, List.map_toArray, List.map_cons, List.map_nil, hs, hx, hr]
  exact h v' w' h2 h3 h4
theorem wpList_append_at {ops : Array Oper} {rest : List Oper} {o : Oper} {a : Act} {Q : Exit → Act → World → Prop} (hgd : o.guard = none) (s x : Operand) (t : TypeId)
    (ho : o.op = .call { callee := .builtin .append, args := #[s, x], argTypes := #[t, t] })
    (base : Nat) (e : TypeId) (i : TypeInfo) (z : Value) (size bytes : Nat) (ht : P.underlying t = some (.slice e)) (hi : P.info? e = some i) (hz : i.zero = some z)
    (hsize : i.size = size) (hby : i.bytes = bytes) (hzs : z.cells.size = size) (hsz : 0 < size)
    (v : Value) (n : Nat) (xs : List Value) (hs : a.eval s = v) (hown : w.ownsRow base e size v n xs)
    (sv : Value) (m : Nat) (news : List Value) (hx : a.eval x = sv) (hsrc : RowAt w sv size m news) (h1 : ∀ u ∈ news, u.oneCell' = true)
    (h63 : n + m ≤ maxLen) (hbytes : (n + m) * bytes ≤ 140737488355328) (hbase : base ≤ w.heap.size)
    (h : ∀ v' w', w'.ownsRow base e size v' (n + m) (xs ++ news) → w.grownBy w' v.ownBlock → (v'.ownBlock = v.ownBlock ∨ v'.ownBlock = some w.heap.size) → wpList P ops Q rest (a.put o.dst v') w') : wpList P ops Q (o :: rest) a w :=
  wpList_plain hgd fun _ hK => wp_append_at w s x t ho base e i z size bytes ht hi hz hsize hby hzs hsz v n xs hs hown sv m news hx hsrc h1 h63 hbytes hbase fun v' w' h2 h3 h4 => hK _ _ (h v' w' h2 h3 h4)
theorem step_append_at {ops : Array Oper} {o : Oper} {a : Act} {K : Act → World → Prop} {Q : Exit → Act → World → Prop} {E : Prop} (hgd : o.guard = none) (s x : Operand) (t : TypeId)
    (ho : o.op = .call { callee := .builtin .append, args := #[s, x], argTypes := #[t, t] })
    (base : Nat) (e : TypeId) (i : TypeInfo) (z : Value) (size bytes : Nat) (ht : P.underlying t = some (.slice e)) (hi : P.info? e = some i) (hz : i.zero = some z)
    (hsize : i.size = size) (hby : i.bytes = bytes) (hzs : z.cells.size = size) (hsz : 0 < size)
    (v : Value) (n : Nat) (xs : List Value) (hs : a.eval s = v) (hown : w.ownsRow base e size v n xs)
    (sv : Value) (m : Nat) (news : List Value) (hx : a.eval x = sv) (hsrc : RowAt w sv size m news) (h1 : ∀ u ∈ news, u.oneCell' = true)
    (h63 : n + m ≤ maxLen) (hbytes : (n + m) * bytes ≤ 140737488355328) (hbase : base ≤ w.heap.size)
    (h : ∀ v' w', w'.ownsRow base e size v' (n + m) (xs ++ news) → w.grownBy w' v.ownBlock → (v'.ownBlock = v.ownBlock ∨ v'.ownBlock = some w.heap.size) → K (a.put o.dst v') w') :
    if Region.wanted o (yielded ops a.tmps) = true then Oper.wp P o a w K Q else E := by
  have hw : Region.wanted o (yielded ops a.tmps) = true := by simp [Region.wanted, hgd]
  rw [if_pos hw]
  exact wp_append_at w s x t ho base e i z size bytes ht hi hz hsize hby hzs hsz v n xs hs hown sv m news hx hsrc h1 h63 hbytes hbase h
end

theorem step_call {P : Program} {w : World} {ops : Array Oper} {o : Oper} {a : Act} {K : Act → World → Prop} {Q : Exit → Act → World → Prop} {E : Prop} (hgd : o.guard = none) (f : FuncId) (xs : Array Operand) (ats : Array TypeId)
    (ho : o.op = .call { callee := .value (.func f), args := xs, argTypes := ats }) (hen : ∀ args w, (callFunc f args).run P w = .ok (.enter f args) w) (args : Array Value) (hargs : xs.toList.map a.eval = args.toList)
    {R : Ending → World → Prop} (hc : Calls P f args w R) (h : ∀ r w', R r w' → ∃ v, r = .returned v ∧ K (a.put o.dst v) w') :
    if Region.wanted o (yielded ops a.tmps) = true then Oper.wp P o a w K Q else E := by
  have hw : Region.wanted o (yielded ops a.tmps) = true := by simp [Region.wanted, hgd]
  rw [if_pos hw]
  obtain ⟨dst, op, ty, pos, after, guard⟩ := o
  simp only at ho
  subst ho
  unfold Oper.wp
  rw [execOp_call_go, show #[] ++ xs.map a.eval ++ #[] = args from Array.toList_inj.1 (by simpa using hargs), hen, Oper.upon_enter]
  refine hc.mono ?_
  intro r w' hr
  obtain ⟨v, rfl, hk⟩ := h r w' hr
  exact hk

theorem RowAt.ofBlock {w : World} {b : Nat} {cs : Array Value} {t : TypeId} (h : w.heap[b]? = some (.cells cs t)) (n sz : Nat) (hl : cs.size = n * sz) : RowAt w (.slice (some ⟨b, 0, none⟩) n n) sz n cs.toList :=
  ⟨by simpa using hl, .inr ⟨b, 0, n, rfl, Nat.le_refl _, fun k x hk => by rw [(cells_of h).1]; simpa using hk⟩⟩
theorem RowAt.allocAt {w : World} {H : Nat} (hH : w.heap.size = H) (cs : Array Value) (t : TypeId) (n sz : Nat) (hl : cs.size = n * sz) : RowAt (w.alloc (.cells cs t)) (.slice (some ⟨H, 0, none⟩) n n) sz n cs.toList := by
  subst hH
  exact RowAt.ofBlock (heap_alloc_new _ _) n sz hl

end Go.Proofs.YtdeplgkhmebalaaGreatDoor

namespace Go.Proofs.YtdeplgkhmebalaaGreatDoor
open Go.RowKit

section
variable {P : Program} (w : World)
theorem zeroCells_one (z : Value) (n : Nat) : (Builtin.zeroCells #[z] n).toList = List.replicate n z := by
  apply List.ext_getElem?
  intro k
  simp [Builtin.zeroCells, List.getElem?_replicate]
  by_cases h : k < n
  · simp [h, Nat.mod_one]
  · simp [h]

theorem run_append_zeros (base : Nat) (t tn ty e : TypeId) (i : TypeInfo) (z : Value) (bytes : Nat) (kn : IntKind) (ht : P.underlying t = some (.slice e)) (htn : P.underlying tn = some (.int kn)) (hi : P.info? e = some i) (hz : i.zero = some z)
    (hsize : i.size = 1) (hby : i.bytes = bytes) (hz1 : z.cells = #[z]) (hzo : z.oneCell' = true)
    (v : Value) (n : Nat) (xs : List Value) (hown : w.ownsRow base e 1 v n xs) (m : Nat) (h63 : n + m ≤ maxLen) (hbytes : (n + m) * bytes ≤ 140737488355328) (hbase : base ≤ w.heap.size) :
    ∃ v' w', (Builtin.append_ #[t, tn] ty #[v, .int .i64 m]).run P w = .ok v' w' ∧ w'.ownsRow base e 1 v' (n + m) (xs ++ List.replicate m z) ∧ w.grownBy w' v.ownBlock ∧ (v'.ownBlock = v.ownBlock ∨ v'.ownBlock = some w.heap.size) := by
  subst hby
  have hl := hown.1
  have hsmall : n + m ≤ 9223372036854775807 := by simp only [maxLen] at h63; omega
  have hw : IntKind.i64.wrap (m : Int) = m := by rw [IntKind.wrap_i64]; omega
  have hneg : ¬ ((m : Int) < 0) := by omega
  have hmb : m * i.bytes ≤ (n + m) * i.bytes := Nat.mul_le_mul_right _ (by omega)
  have h48 : ¬ (281474976710656 < (m : Int) * (i.bytes : Int)) := by
    rw [← Int.natCast_mul]; omega
  by_cases hm : m = 0
  · subst hm
    have hw0 : IntKind.i64.wrap 0 = 0 := by decide
    refine ⟨v, w, ?_, by simpa using hown, grownBy_refl _ _, .inl rfl⟩
    rcases hown.2 with ⟨rfl, rfl⟩ | ⟨g, cap, cur, rfl, hbg, hg, hnc, hcm, hcs, htake⟩
    · simp [Builtin.append_, run_underlying ht, run_underlying htn, sizeOf, typeInfo, hi, asInt, asIntOf, hw0]
    · simp [Builtin.append_, run_underlying ht, run_underlying htn, sizeOf, typeInfo, hi, asInt, asIntOf, hw0, hnc, storeCells]
  · have grown : ∀ (old : Nat), old < n + m → ∀ (row : Option Nat),
        (w.drew.alloc (.cells (xs.toArray ++ Builtin.zeroCells z.cells m ++ Builtin.zeroCells z.cells (grownCap w (n + m) old e - (n + m))) e)).ownsRow base e 1 (.slice (some ⟨w.heap.size, 0, none⟩) (n + m) (grownCap w (n + m) old e)) (n + m) (xs ++ List.replicate m z) ∧
        w.grownBy (w.drew.alloc (.cells (xs.toArray ++ Builtin.zeroCells z.cells m ++ Builtin.zeroCells z.cells (grownCap w (n + m) old e - (n + m))) e)) row := by
      intro old ho row
      have hge := grownCap_ge w (n + m) old e
      have hcm : grownCap w (n + m) old e ≤ maxLen := grownCap_le_maxLen w (n + m) old e h63
      refine ⟨⟨by rw [List.length_append, List.length_replicate, hl]; omega, .inr ⟨w.heap.size, _, _, rfl, hbase, heap_alloc_new w.drew _, hge, hcm, ?_, ?_⟩⟩, ⟨rfl, rfl, rfl, by simp, fun k hk _ => by exact Below.heap_alloc _ _ _ hk⟩⟩
      · rw [hz1]
        simp only [Array.size_append, List.size_toArray, size_zeroCells, hl]
        simp; omega
      · rw [hz1]
        simp only [Array.toList_append, zeroCells_one]
        rw [List.take_left' (by rw [List.length_append, List.length_replicate, hl]; omega)]
    rcases hown.2 with ⟨rfl, rfl⟩ | ⟨g, cap, cur, rfl, hbg, hg, hnc, hcm, hcs, htake⟩
    · have hx : xs = [] := List.eq_nil_of_length_eq_zero (by simpa using hl)
      subst hx
      have hr := Lib.run_append_grow_zeros (P := P) w t tn ty e i z .i64 kn ht htn hi hz none 0 0 [] (run_firstCells_none w.drew i.size 0 0 0) m (by omega) (by omega) (by omega) (by omega) (by omega) (growslice_fits (by omega) hbytes)
      have hgr := grown 0 (by omega) (Value.ownBlock (.slice none 0 0))
      exact ⟨_, _, hr, hgr.1, hgr.2, .inr rfl⟩
    · by_cases hroom : n + m ≤ cap
      · have hst := run_storeCells_at P g n e (List.replicate m z) 0 cur w hg (by simp; omega) (fun u hu => by rw [List.eq_of_mem_replicate hu]; exact hzo)
        have hrun : (Builtin.append_ #[t, tn] ty #[.slice (some ⟨g, 0, none⟩) n cap, .int .i64 m]).run P w = .ok (.slice (some ⟨g, 0, none⟩) (n + m) cap) (w.setRow g (cur.toList.take n ++ List.replicate m z ++ cur.toList.drop (n + m)).toArray) := by
          simp only [Nat.add_zero, List.length_replicate] at hst
          have hzc : (Builtin.zeroCells z.cells m).toList = List.replicate m z := by rw [hz1]; exact zeroCells_one z m
          simp [Builtin.append_, run_underlying ht, run_underlying htn, sizeOf, typeInfo, zeroValue, hi, hz, asInt, asIntOf, hw, hneg, h48, hsize, hm, hroom, Addr.add_lit, hzc, hst]
        refine ⟨_, _, hrun, ⟨by rw [List.length_append, List.length_replicate, hl]; omega, .inr ⟨g, cap, _, rfl, hbg, setRow_heap w g cur _ e _ hg, hroom, hcm, ?_, ?_⟩⟩, ⟨rfl, rfl, rfl, by simp, fun k _ hk => setRow_other w g k _ (fun e => hk (by simp [Value.ownBlock, e]))⟩, .inl rfl⟩
        · simp only [List.size_toArray, List.length_append, List.length_take, List.length_drop, Array.length_toList, List.length_replicate]
          omega
        · rw [Nat.mul_one] at htake
          rw [htake, Nat.mul_one]
          exact List.take_left' (by rw [List.length_append, List.length_replicate, hl]; omega)
      · have holds : ∀ j u, xs[j]? = some u → w.drew.cell? ((⟨g, 0, none⟩ : Addr).add j) = some u := hown.cells (g := g) rfl
        have hf := run_firstCells_some (P := P) w.drew i.size n ⟨g, 0, none⟩ n cap xs (by rw [hl, hsize]) holds
        have hr := Lib.run_append_grow_zeros (P := P) w t tn ty e i z .i64 kn ht htn hi hz (some ⟨g, 0, none⟩) n cap xs hf m (by omega) (by omega) (by omega) (by omega) (by omega) (growslice_fits (by omega) hbytes)
        have hgr := grown cap (by omega) (Value.ownBlock (.slice (some ⟨g, 0, none⟩) n cap))
        exact ⟨_, _, hr, hgr.1, hgr.2, .inr rfl⟩

theorem step_append_zeros {ops : Array Oper} {o : Oper} {a : Act} {K : Act → World → Prop} {Q : Exit → Act → World → Prop} {E : Prop} (hgd : o.guard = none) (s x : Operand) (t tn : TypeId)
    (ho : o.op = .call { callee := .builtin .append, args := #[s, x], argTypes := #[t, tn] })
    (base : Nat) (e : TypeId) (i : TypeInfo) (z : Value) (bytes : Nat) (kn : IntKind) (ht : P.underlying t = some (.slice e)) (htn : P.underlying tn = some (.int kn)) (hi : P.info? e = some i) (hz : i.zero = some z)
    (hsize : i.size = 1) (hby : i.bytes = bytes) (hz1 : z.cells = #[z]) (hzo : z.oneCell' = true)
    (v : Value) (n : Nat) (xs : List Value) (hs : a.eval s = v) (hown : w.ownsRow base e 1 v n xs) (m : Nat) (hx : a.eval x = .int .i64 m)
    (h63 : n + m ≤ maxLen) (hbytes : (n + m) * bytes ≤ 140737488355328) (hbase : base ≤ w.heap.size)
    (h : ∀ v' w', w'.ownsRow base e 1 v' (n + m) (xs ++ List.replicate m z) → w.grownBy w' v.ownBlock → (v'.ownBlock = v.ownBlock ∨ v'.ownBlock = some w.heap.size) → K (a.put o.dst v') w') :
    if Region.wanted o (yielded ops a.tmps) = true then Oper.wp P o a w K Q else E := by
  have hw : Region.wanted o (yielded ops a.tmps) = true := by simp [Region.wanted, hgd]
  rw [if_pos hw]
  obtain ⟨v', w', hr, h2, h3, h4⟩ := run_append_zeros (P := P) w base t tn o.type e i z bytes kn ht htn hi hz hsize hby hz1 hzo v n xs hown m h63 hbytes hbase
  unfold Oper.wp execOp
  simp only [ho, resolve, invoke, builtin, Sem.run_bind, Sem.run_pure, Result.andThen_ok, List.map_toArray, List.map_cons, List.map_nil, hs, hx, hr]
  exact h v' w' h2 h3 h4
end

end Go.Proofs.YtdeplgkhmebalaaGreatDoor

namespace Go.Proofs.YtdeplgkhmebalaaGreatDoor
open Go.RowKit

theorem info_su8 : (Tryz.prog.info? 5).map (fun i => (i.zero, i.size, i.bytes)) = some (some (.int .u8 0), 1, 1) := by kernel_rfl
theorem info_su64 : (Tryz.prog.info? 38).map (fun i => (i.zero, i.size, i.bytes)) = some (some (.int .u64 0), 1, 8) := by kernel_rfl
theorem size_u8 : (Tryz.prog.info? 5).map (·.size) = some 1 := by kernel_rfl
theorem size_u64 : (Tryz.prog.info? 38).map (·.size) = some 1 := by kernel_rfl

theorem Kp.ofGrown {w w' : World} (g : w.grownBy w' none) : Kp no w w' := (Kp.refl no w).grown g (fun _ e => by cases e)
theorem Kp.ofBelow {w w' : World} (h : Below w.heap.size w w') : Kp no w w' := ⟨h.os, h.tape, h.output, h.size, fun k hk _ => h.block k hk⟩
theorem add_cell {W : World} {a o j : Nat} {x : Value} (h : W.cell? ⟨a, o + j, none⟩ = some x) : W.cell? ((⟨a, o, none⟩ : Addr).add j) = some x := by
  unfold Addr.add
  split
  · rename_i h0; rw [← h, h0]; rfl
  · exact h
theorem splice_all {cur xs : List Value} (h : xs.length = cur.length) : splice cur 0 xs = xs := by
  unfold splice
  rw [Nat.zero_add, List.take_zero, List.drop_eq_nil_of_le (by omega)]
  simp
theorem Kp.toBelow {w w' : World} (h : Kp no w w') : Below w.heap.size w w' := ⟨h.os, h.tape, h.output, h.size, fun k hk => h.block k hk (fun h => h)⟩

set_option maxRecDepth 100000 in
set_option maxHeartbeats 1000000 in
theorem freshB_any {w : World} {v : Value} {n : Nat} {xs : List Value} (h : RowAt w v 1 n xs) (h1 : ∀ u ∈ xs, u.oneCell' = true) (hn : n ≤ 1000000) :
    Calls Tryz.prog 53 #[v] w fun r w' => (r = .returned (.slice (some ⟨w.heap.size, 0, none⟩) n n) ∧ w'.ownsRow w.heap.size 5 1 (.slice (some ⟨w.heap.size, 0, none⟩) n n) n xs) ∧ Kp no w w' := by
  obtain ⟨i0, hi0, hz0, hz1, hz2⟩ := info_parts info_su8
  have hl := h.1
  obtain ⟨ad, cap, hv, hcap⟩ := h.shape
  subst hv
  have hsrc : 0 < xs.length → ∃ a, ad = some a ∧ ∀ W, Kp no w W → ∀ j x, xs[j]? = some x → W.cell? (a.add j) = some x := by
    intro h0
    obtain ⟨-, ⟨he, hn0⟩ | ⟨a, o, c, he, -, hc⟩⟩ := h
    · omega
    · cases he
      exact ⟨_, rfl, fun W k j x hj => k.allCells (add_cell (hc j x hj))⟩
  have HSrc := hide hsrc
  have H1 := hide h1
  have HL := hide hl
  clear h h1 hl hsrc
  go_enter Tryz.func53, Tryz.ntmps53
  go_wp2_with (refine wpList_make_full _ rfl _ _ 25 rfl w.heap.size 5 i0 (.int .u8 0) 1 Tryz.underlying25 hi0 hz0 hz1 _ _ _ _ n rfl rfl rfl rfl ?c1 ?c2 (Nat.le_refl _) ?_)
  case c1 => rw [hz2]; omega
  case c2 => unfold maxLen; omega
  intro w1 hown hgrow
  have k1 := Kp.ofGrown hgrow
  obtain ⟨hol, ⟨he, -⟩ | ⟨g, cp, cur, he, hg, hh, -, hmx, hsz, htk⟩⟩ := hown
  · cases he
  cases he
  have HH := hide hh
  have K1 := hide k1
  have HS := hide hsz
  have HMx := hide hmx
  clear hgrow hol hg hh hsz htk k1 hmx
  go_wp2_with (refine wpList_copy_splice rfl _ _ _ _ rfl 5 Tryz.underlying25 size_u8 _ _ _ _ _ _ rfl rfl w.heap.size 0 cur.toList 5 ?d1 xs ?d2 (fun h0 => ⟨rfl, ?d3⟩) ?d4 H1.out w.heap.size w K1.out.toBelow (Nat.le_refl _) ?_)
  case d1 => rw [Array.toArray_toList]; exact HH.out
  case d2 => have := HL.out; simp; omega
  case d3 => obtain ⟨a, e, f⟩ := HSrc.out h0; exact ⟨a, e, f _ K1.out⟩
  case d4 => have := HL.out; have := HS.out; simp; omega
  intro w2 HG2 hB2
  go_wp2
  go_ret
  refine ⟨⟨rfl, HL.out, .inr ⟨w.heap.size, n, xs.toArray, rfl, Nat.le_refl _, ?_, Nat.le_refl _, HMx.out, by have := HL.out; simpa using this, by have := HL.out; rw [List.take_of_length_le (by simp; omega)]⟩⟩, Kp.ofBelow hB2⟩
  have e := HG2.out
  rw [splice_all (by have := HL.out; have := HS.out; simp; omega)] at e
  exact e

set_option maxRecDepth 100000 in
set_option maxHeartbeats 1000000 in
theorem freshV_any {w : World} {v : Value} {n : Nat} {xs : List Value} (h : RowAt w v 1 n xs) (h1 : ∀ u ∈ xs, u.oneCell' = true) (hn : n ≤ 1000000) :
    Calls Tryz.prog 52 #[v] w fun r w' => (r = .returned (.slice (some ⟨w.heap.size, 0, none⟩) n n) ∧ w'.ownsRow w.heap.size 38 1 (.slice (some ⟨w.heap.size, 0, none⟩) n n) n xs) ∧ Kp no w w' := by
  obtain ⟨i0, hi0, hz0, hz1, hz2⟩ := info_parts info_su64
  have hl := h.1
  obtain ⟨ad, cap, hv, hcap⟩ := h.shape
  subst hv
  have hsrc : 0 < xs.length → ∃ a, ad = some a ∧ ∀ W, Kp no w W → ∀ j x, xs[j]? = some x → W.cell? (a.add j) = some x := by
    intro h0
    obtain ⟨-, ⟨he, hn0⟩ | ⟨a, o, c, he, -, hc⟩⟩ := h
    · omega
    · cases he
      exact ⟨_, rfl, fun W k j x hj => k.allCells (add_cell (hc j x hj))⟩
  have HSrc := hide hsrc
  have H1 := hide h1
  have HL := hide hl
  clear h h1 hl hsrc
  go_enter Tryz.func52, Tryz.ntmps52
  go_wp2_with (refine wpList_make_full _ rfl _ _ 53 rfl w.heap.size 38 i0 (.int .u64 0) 1 Tryz.underlying53 hi0 hz0 hz1 _ _ _ _ n rfl rfl rfl rfl ?c1 ?c2 (Nat.le_refl _) ?_)
  case c1 => rw [hz2]; omega
  case c2 => unfold maxLen; omega
  intro w1 hown hgrow
  have k1 := Kp.ofGrown hgrow
  obtain ⟨hol, ⟨he, -⟩ | ⟨g, cp, cur, he, hg, hh, -, hmx, hsz, htk⟩⟩ := hown
  · cases he
  cases he
  have HH := hide hh
  have K1 := hide k1
  have HS := hide hsz
  have HMx := hide hmx
  clear hgrow hol hg hh hsz htk k1 hmx
  go_wp2_with (refine wpList_copy_splice rfl _ _ _ _ rfl 38 Tryz.underlying53 size_u64 _ _ _ _ _ _ rfl rfl w.heap.size 0 cur.toList 38 ?d1 xs ?d2 (fun h0 => ⟨rfl, ?d3⟩) ?d4 H1.out w.heap.size w K1.out.toBelow (Nat.le_refl _) ?_)
  case d1 => rw [Array.toArray_toList]; exact HH.out
  case d2 => have := HL.out; simp; omega
  case d3 => obtain ⟨a, e, f⟩ := HSrc.out h0; exact ⟨a, e, f _ K1.out⟩
  case d4 => have := HL.out; have := HS.out; simp; omega
  intro w2 HG2 hB2
  go_wp2
  go_ret
  refine ⟨⟨rfl, HL.out, .inr ⟨w.heap.size, n, xs.toArray, rfl, Nat.le_refl _, ?_, Nat.le_refl _, HMx.out, by have := HL.out; simpa using this, by have := HL.out; rw [List.take_of_length_le (by simp; omega)]⟩⟩, Kp.ofBelow hB2⟩
  have e := HG2.out
  rw [splice_all (by have := HL.out; have := HS.out; simp; omega)] at e
  exact e

end Go.Proofs.YtdeplgkhmebalaaGreatDoor

namespace Go.Proofs.YtdeplgkhmebalaaGreatDoor
open Go.RowKit

def bcs (l : List UInt8) : List Value := l.map fun c => .int .u8 c.toNat
/-- A list of bytes in memory that was made since w. -/
def NB (w w' : World) (v : Value) (l : List UInt8) : Prop := w'.ownsRow w.heap.size 5 1 v l.length (bcs l)
theorem NB.at {w w' : World} {v : Value} {l : List UInt8} (h : NB w w' v l) : BytesAt w' v l := RowAt.own h
theorem NB.kp {w w' w'' : World} {v : Value} {l : List UInt8} (h : NB w w' v l) (k : Kp no w' w'') : NB w w'' v l := k.own h (fun _ _ h => h)
theorem NB.lt {w w' : World} {v : Value} {l : List UInt8} (h : NB w w' v l) : ∀ b, v.ownBlock = some b → b < w'.heap.size := fun b hb => (World.ownsRow.lt h b hb).2
theorem bcsLen (l : List UInt8) : (bcs l).length = l.length := by simp [bcs]
theorem bcsApp (l m : List UInt8) : bcs (l ++ m) = bcs l ++ bcs m := by simp [bcs]

def pickM (c : Int) (n : Nat) : Nat := (if c < 0 then (-(c + 1)).toNat else c.toNat) % n

set_option maxRecDepth 100000 in
theorem pickK_any (w : World) (c : Int) (n : Nat) (hc1 : -9223372036854775808 ≤ c) (hc2 : c < 9223372036854775808) (hn0 : 0 < n) (hn : n < 9223372036854775808) :
    Calls Tryz.prog 23 #[.int .i64 c, .int .i64 n] w fun r w' => r = .returned (.int .i64 (pickM c n)) ∧ w' = w := by
  have hP : pickM c n = (if c < 0 then (-(c + 1)).toNat else c.toNat) % n := rfl
  generalize pickM c n = R at *
  by_cases h0 : c < 0
  · rw [if_pos h0] at hP
    obtain ⟨d, hd⟩ : ∃ d : Nat, (d : Int) = -(c + 1) := ⟨(-(c + 1)).toNat, by omega⟩
    rw [← hd] at hP
    have hw : IntKind.i64.wrap (c + 1) = c + 1 := by rw [IntKind.wrap_i64]; omega
    have hw2 : IntKind.i64.wrap (-(c + 1)) = (d : Int) := by rw [IntKind.wrap_i64]; omega
    have hw3 : IntKind.i64.wrap (Int.tmod (d : Int) (n : Int)) = ((d % n : Nat) : Int) := by
      rw [← Int.ofNat_tmod, IntKind.wrap_i64]; have := Nat.mod_lt d hn0; omega
    have hne : ((n : Int) == 0) = false := by simp; omega
    have HP := hide hP
    clear hP hd
    go_enter Tryz.func23, Tryz.ntmps23
    go_wp2
    go_ret
    rw [HP.out]
    simp
  · rw [if_neg h0] at hP
    obtain ⟨d, hd⟩ : ∃ d : Nat, c = (d : Int) := ⟨c.toNat, by omega⟩
    subst hd
    have hw3 : IntKind.i64.wrap (Int.tmod (d : Int) (n : Int)) = ((d % n : Nat) : Int) := by
      rw [← Int.ofNat_tmod, IntKind.wrap_i64]; have := Nat.mod_lt d hn0; omega
    have hne : ((n : Int) == 0) = false := by simp; omega
    have HP := hide hP
    clear hP
    go_enter Tryz.func23, Tryz.ntmps23
    go_wp2
    go_ret
    rw [HP.out]
    simp

def uF : Nat → Nat → List UInt8
  | 0, n => [UInt8.ofNat n]
  | k + 1, n => if n < 128 then [UInt8.ofNat n] else UInt8.ofNat (n % 128 + 128) :: uF k (n / 128)
def uB (n : Nat) : List UInt8 := uF 10 n

set_option maxRecDepth 100000 in
set_option maxHeartbeats 1000000 in
theorem uK_any (w : World) (n : Nat) (hn : n < 9223372036854775808) :
    Calls Tryz.prog 45 #[.int .i64 n] w fun r w' => (∃ v, r = .returned v ∧ NB w w' v (uB n)) ∧ Kp no w w' := by
  obtain ⟨i0, hi0, hz0, hz1, hz2⟩ := info_parts info_su8
  have hp : n < 128 ^ 11 := by omega
  have HP := hide hp
  clear hp
  go_enter Tryz.func45, Tryz.ntmps45
  go_wp2
  go_loopg [0, 3] 10 (fun k nv lv wr => ∃ (m : Nat) (l : List UInt8), nv = .int .i64 m ∧ m < 9223372036854775808 ∧ m < 128 ^ (k + 1) ∧ l.length + k ≤ 10 ∧ NB w wr lv l ∧ Kp no w wr ∧ l ++ uF k m = uB n)
  case atStart => exact ⟨n, [], rfl, hn, HP.out, by simp, ⟨rfl, .inl ⟨rfl, rfl⟩⟩, Kp.refl _ _, rfl⟩
  case round =>
    obtain ⟨m, l, rfl, hm, hmk, hlk, hown, hkp, hl⟩ := hrel
    obtain ⟨adl, capl, rfl⟩ := own_shape hown
    have HO := hide hown
    have HK := hide hkp
    have HL := hide hl
    have hszr := hkp.size
    clear hown hkp hl
    by_cases h128 : m < 128
    · have hwc : IntKind.u8.wrap (m : Int) = ((UInt8.ofNat m).toNat : Int) := by rw [IntKind.wrap_u8, UInt8.toNat_ofNat']; omega
      go_wp2_with (at_builtin; refine wpList_append_row _ rfl _ _ 25 rfl w.heap.size 5 i0 (.int .u8 0) 1 1 Tryz.underlying25 hi0 hz0 hz1 hz2 rfl (by decide) _ _ _ rfl (HO.out.alloc _) _ 1 [.int .u8 (UInt8.ofNat m).toNat] rfl (RowAt.new _ _ _) (one_oneCell rfl) ?c3 ?c4 ?c5 ?_)
      case c3 => unfold maxLen; omega
      case c4 => omega
      case c5 => simp; omega
      intro v3 w3 hown3 hgrow3
      have HO3 := hide hown3
      have HK3 := hide ((HK.out.alloc _).grown hgrow3 (fun b hb => .inr (own_new HO.out b hb)))
      clear hown3 hgrow3
      go_wp2
      go_ret
      refine ⟨⟨v3, rfl, ?_⟩, HK3.out⟩
      rw [← HL.out]
      have e : uF gk m = [UInt8.ofNat m] := by
        cases gk with
        | zero => rfl
        | succ k => rw [uF, if_pos h128]
      unfold NB
      rw [e, bcsApp, List.length_append]
      exact HO3.out
    · cases gk with
      | zero => exfalso; simp at hmk; omega
      | succ k =>
        have hl := HL.out
        rw [uF, if_neg h128] at hl
        have HL2 := hide hl
        have hwa : IntKind.i64.wrap (Int.tmod (m : Int) 128) = ((m % 128 : Nat) : Int) := by
          rw [show Int.tmod (m : Int) 128 = ((m % 128 : Nat) : Int) from (Int.ofNat_tmod m 128).symm, IntKind.wrap_i64]; omega
        have hwb : IntKind.i64.wrap (((m % 128 : Nat) : Int) + 128) = ((m % 128 + 128 : Nat) : Int) := by rw [IntKind.wrap_i64]; omega
        have hwc : IntKind.u8.wrap ((m % 128 + 128 : Nat) : Int) = ((UInt8.ofNat (m % 128 + 128)).toNat : Int) := by rw [IntKind.wrap_u8, UInt8.toNat_ofNat']; omega
        have hwd : IntKind.i64.wrap (Int.tdiv (m : Int) 128) = ((m / 128 : Nat) : Int) := by
          rw [show Int.tdiv (m : Int) 128 = ((m / 128 : Nat) : Int) from (Int.ofNat_tdiv m 128).symm, IntKind.wrap_i64]; omega
        have hmk' : m / 128 < 128 ^ (k + 1) := by
          rw [Nat.div_lt_iff_lt_mul (by decide)]; rw [Nat.pow_succ] at hmk; exact hmk
        have HMk := hide hmk'
        clear hl hmk hmk'
        go_wp2_with (at_builtin; refine wpList_append_row _ rfl _ _ 25 rfl w.heap.size 5 i0 (.int .u8 0) 1 1 Tryz.underlying25 hi0 hz0 hz1 hz2 rfl (by decide) _ _ _ rfl (HO.out.alloc _) _ 1 _ rfl (RowAt.new _ _ _) (one_oneCell rfl) ?c6 ?c7 ?c8 ?_)
        case c6 => unfold maxLen; omega
        case c7 => omega
        case c8 => simp; omega
        intro v3 w3 hown3 hgrow3
        obtain ⟨ad3, cap3, rfl⟩ := own_shape hown3
        have HK3 := hide ((HK.out.alloc _).grown hgrow3 (fun b hb => .inr (own_new HO.out b hb)))
        have HO3 : Hid (NB w w3 (.slice ad3 (l.length + 1) cap3) (l ++ [UInt8.ofNat (m % 128 + 128)])) := by
          refine hide ?_
          unfold NB
          rw [bcsApp, List.length_append]
          refine Eq.mp ?_ hown3
          congr 3
          simp [UInt8.toNat_ofNat']
          omega
        clear hown3 hgrow3
        go_wp2
        go_roundg k
        case rel => exact ⟨m / 128, l ++ [UInt8.ofNat (m % 128 + 128)], by simp, by omega, HMk.out, by simp; omega, HO3.out, HK3.out, by rw [List.append_assoc]; exact HL2.out⟩
        case measure => omega

theorem NB.made (w : World) (cs : List UInt8) (h : cs.length ≤ maxLen) : NB w (w.alloc (.cells (bcs cs).toArray 5)) (.slice (some ⟨w.heap.size, 0, none⟩) cs.length cs.length) cs :=
  ⟨by simp [bcs], .inr ⟨w.heap.size, cs.length, (bcs cs).toArray, rfl, Nat.le_refl _, heap_alloc_new _ _, Nat.le_refl _, h, by simp [bcs], by rw [Nat.mul_one]; exact List.take_of_length_le (by simp [bcs])⟩⟩

theorem oneK_any (w : World) (t : UInt8) : Calls Tryz.prog 17 #[.int .u8 t.toNat] w fun r w' => (∃ v, r = .returned v ∧ NB w w' v [t]) ∧ Kp no w w' := by
  go_enter Tryz.func17, Tryz.ntmps17
  go_wp2
  go_ret
  exact ⟨⟨_, rfl, NB.made w [t] (by simp [maxLen])⟩, (Kp.refl _ _).alloc _⟩
theorem twoK_any (w : World) (t : UInt8) : Calls Tryz.prog 25 #[.int .u8 t.toNat] w fun r w' => (∃ v, r = .returned v ∧ NB w w' v [t, t]) ∧ Kp no w w' := by
  go_enter Tryz.func25, Tryz.ntmps25
  go_wp2
  go_ret
  exact ⟨⟨_, rfl, NB.made w [t, t] (by simp [maxLen])⟩, (Kp.refl _ _).alloc _⟩

/-- A list of lists of bytes. -/
def ListsAt (w : World) (v : Value) (ls : List (List UInt8)) : Prop :=
  ∃ vs, RowAt w v 1 ls.length vs ∧ ∀ k, k < ls.length → ∃ x, vs[k]? = some x ∧ BytesAt w x (ls.getD k [])
theorem ListsAt.kp {w w' : World} {v : Value} {ls : List (List UInt8)} (h : ListsAt w v ls) (k : Kp no w w') : ListsAt w' v ls := by
  obtain ⟨vs, h1, h2⟩ := h
  refine ⟨vs, h1.kp k (fun _ _ h => h), fun j hj => ?_⟩
  obtain ⟨x, h3, h4⟩ := h2 j hj
  exact ⟨x, h3, RowAt.kp h4 k (fun _ _ h => h)⟩
theorem ListsAt.get {w : World} {v : Value} {ls : List (List UInt8)} (h : ListsAt w v ls) {k : Nat} (hk : k < ls.length) :
    ∃ a o cap ad c, v = .slice (some ⟨a, o, none⟩) ls.length cap ∧ ls.length ≤ cap ∧ w.cell? ⟨a, o + k, none⟩ = some (.slice ad (ls.getD k []).length c) ∧ BytesAt w (.slice ad (ls.getD k []).length c) (ls.getD k []) := by
  obtain ⟨vs, h1, h2⟩ := h
  obtain ⟨x, hx, hb⟩ := h2 k hk
  obtain ⟨ad, c, rfl, -⟩ := hb.shape
  obtain ⟨a, o, cap, hv, hc, hcell⟩ := h1.get hx
  exact ⟨a, o, cap, ad, c, hv, hc, hcell, hb⟩
theorem flatten_take {ls : List (List UInt8)} {k : Nat} (hk : k < ls.length) : (ls.take (k + 1)).flatten = (ls.take k).flatten ++ ls.getD k [] := by
  rw [List.take_add_one, List.flatten_append, List.getElem?_eq_getElem hk]
  simp [List.getD, List.getElem?_eq_getElem hk]
theorem flatten_le (ls : List (List UInt8)) (k : Nat) : (ls.take k).flatten.length ≤ ls.flatten.length := by
  conv => rhs; rw [← List.take_append_drop k ls, List.flatten_append, List.length_append]
  omega

set_option maxRecDepth 100000 in
set_option maxHeartbeats 1000000 in
theorem joinK_any {w : World} {v : Value} {ls : List (List UInt8)} (h : ListsAt w v ls) (hl : ls.length ≤ 1000) (ht : ls.flatten.length ≤ 1000000000) :
    Calls Tryz.prog 18 #[v] w fun r w' => (∃ v, r = .returned v ∧ NB w w' v ls.flatten) ∧ Kp no w w' := by
  obtain ⟨i0, hi0, hz0, hz1, hz2⟩ := info_parts info_su8
  obtain ⟨ad, cap, rfl, hcap⟩ : ∃ ad cap, v = .slice ad ls.length cap ∧ ls.length ≤ cap := by
    obtain ⟨vs, h1, -⟩ := h
    exact h1.shape
  have H := hide h
  have HT := hide ht
  clear h ht
  go_enter Tryz.func18, Tryz.ntmps18
  go_wp2
  go_loopw [3, 4] (fun lv kv wr => ∃ (k : Nat), k ≤ ls.length ∧ kv = .int .i64 k ∧ NB w wr lv (ls.take k).flatten ∧ Kp no w wr) (fun _ kv _ => ls.length - (intOf kv).toNat)
  case atStart => exact ⟨0, by omega, rfl, ⟨rfl, .inl ⟨rfl, rfl⟩⟩, Kp.refl _ _⟩
  case round =>
    obtain ⟨k, hk, rfl, hown, hkp⟩ := hrel
    obtain ⟨adl, capl, rfl⟩ := own_shape hown
    have HO := hide hown
    have HK := hide hkp
    have hszr := hkp.size
    clear hown hkp
    by_cases hkn : k < ls.length
    · obtain ⟨a, o, cp, ax, c, he, -, hcell, hb⟩ := (H.out.kp HK.out).get hkn
      cases he
      have hfl := flatten_take hkn
      have hle : (ls.take k).flatten.length + (ls.getD k []).length ≤ 1000000000 := by
        rw [← List.length_append, ← hfl]
        exact Nat.le_trans (flatten_le ls _) HT.out
      generalize hlk : ls.getD k [] = lk at *
      have HFl := hide hfl
      have HB := hide hb
      clear hfl hb hlk
      generalize hP : (ls.take k).flatten = P at *
      clear hP
      go_wp2_with (at_builtin; refine wpList_append_row _ rfl _ _ 25 rfl w.heap.size 5 i0 (.int .u8 0) 1 1 Tryz.underlying25 hi0 hz0 hz1 hz2 rfl (by decide) _ _ _ rfl HO.out _ _ _ rfl HB.out (bytes_oneCell lk) ?c6 ?c7 ?c8 ?_)
      case c6 => unfold maxLen; omega
      case c7 => omega
      case c8 => omega
      intro v3 w3 hown3 hgrow3
      obtain ⟨ad3, cap3, rfl⟩ := own_shape hown3
      have HK3 := hide (HK.out.grown hgrow3 (fun b hb => .inr (own_new HO.out b hb)))
      have HO3 : Hid (NB w w3 (.slice ad3 (P.length + lk.length) cap3) (ls.take (k + 1)).flatten) := by
        refine hide ?_
        rw [HFl.out]
        unfold NB
        rw [bcsApp, List.length_append]
        exact hown3
      clear hown3 hgrow3
      go_wp2
      go_roundw
      case rel => exact ⟨k + 1, by omega, by go_num, HO3.out, HK3.out⟩
      case measure => simp [intOf]; omega
    · obtain rfl : k = ls.length := by omega
      go_wp2
      go_ret
      have e : (ls.take ls.length).flatten = ls.flatten := by rw [List.take_length]
      rw [e] at HO
      rw [List.take_length]
      exact ⟨⟨_, rfl, HO.out⟩, HK.out⟩
end Go.Proofs.YtdeplgkhmebalaaGreatDoor

namespace Go.Proofs.YtdeplgkhmebalaaGreatDoor
open Go.RowKit

section
variable {P : Program} {ops : Array Oper} {Q : Exit → Act → World → Prop} {md : Region.Mode} {S : World → Prop} {L : Nat}

def waits (md : Region.Mode) (ops : Array Oper) (j i : Nat) : Bool :=
  match ops[j]? with
  | some oj => oj.after.any fun e => Region.binds md e && e.on == i
  | none => false
theorem waits_spec {j i : Nat} (h : waits md ops j i = true) : ∃ oj, ops[j]? = some oj ∧ ∃ e ∈ oj.after, Region.binds md e = true ∧ e.on = i := by
  unfold waits at h
  split at h
  · rename_i oj hj
    obtain ⟨e, he, hb⟩ := Array.any_eq_true'.1 h
    simp only [Bool.and_eq_true, beq_iff_eq] at hb
    exact ⟨oj, hj, e, he, hb.1, hb.2⟩
  · cases h

/-- From i on each waits for the one ahead of it, none has come up, and the last of them is L. -/
def leads (md : Region.Mode) (ops : Array Oper) (L : Nat) (listed : Array Bool) : Nat → List Nat → Bool
  | i, [] => waits md ops L i && !listed.getD L true
  | i, j :: p => waits md ops j i && !listed.getD j true && leads md ops L listed j p

theorem not_ready {listed : Array Bool} {i j : Nat} (h : waits md ops j i = true) (hi : listed.getD i false = false) : j ∉ Region.ready md ops listed := by
  intro hr
  obtain ⟨_, o, ho, hall⟩ := mem_ready.1 hr
  obtain ⟨o', ho', e, he, hb, rfl⟩ := waits_spec h
  rw [ho] at ho'; cases ho'
  rw [hall e he hb] at hi; cases hi
theorem getD_tf {listed : Array Bool} {i : Nat} (h : listed.getD i true = false) : listed.getD i false = false := by
  rcases Nat.lt_or_ge i listed.size with h' | h'
  · simp [h'] at h ⊢; exact h
  · simp [Array.getElem?_eq_none h'] at h
theorem leads_step {listed : Array Bool} {k : Nat} (hk : k ∈ Region.ready md ops listed) : ∀ (p : List Nat) (i : Nat), listed.getD i true = false → k ≠ i → leads md ops L listed i p = true → leads md ops L (listed.setIfInBounds k true) i p = true ∧ k ≠ L
  | [], i, hi, hki, h => by
    simp only [leads, Bool.and_eq_true, Bool.not_eq_true'] at h ⊢
    have hkL : k ≠ L := fun e => not_ready h.1 (getD_tf hi) (e ▸ hk)
    exact ⟨⟨h.1, by rw [getD_set_ne true hkL]; exact h.2⟩, hkL⟩
  | j :: p, i, hi, hki, h => by
    simp only [leads, Bool.and_eq_true, Bool.not_eq_true'] at h ⊢
    have hkj : k ≠ j := fun e => not_ready h.1.1 (getD_tf hi) (e ▸ hk)
    have := leads_step hk p j h.1.2 hkj h.2
    exact ⟨⟨⟨h.1.1, by rw [getD_set_ne true hkj]; exact h.1.2⟩, this.1⟩, this.2⟩

theorem leads_not_ready {listed : Array Bool} : ∀ (p : List Nat) (i : Nat), listed.getD i true = false → leads md ops L listed i p = true → L ∉ Region.ready md ops listed ∧ listed.getD L false = false
  | [], i, hi, h => by
    simp only [leads, Bool.and_eq_true, Bool.not_eq_true'] at h
    exact ⟨not_ready h.1 (getD_tf hi), getD_tf h.2⟩
  | j :: p, i, hi, h => by
    simp only [leads, Bool.and_eq_true, Bool.not_eq_true'] at h
    exact leads_not_ready p j h.1.2 h.2

/-- Whatever order is picked from here on; S holds as long as L has not come up. -/
def wpAnyS (P : Program) (md : Region.Mode) (ops : Array Oper) (Q : Exit → Act → World → Prop) (S : World → Prop) (L : Nat) : Nat → Array Bool → Act → World → Prop
  | 0, listed, a, w => Region.ready md ops listed = [] ∧ Q .normal a w
  | fuel + 1, listed, a, w =>
    (Region.ready md ops listed = [] → Q .normal a w) ∧
    ∀ i ∈ Region.ready md ops listed, wpOp P ops Q i (fun a' w' => ((listed.setIfInBounds i true).getD L false = false → S w') ∧ wpAnyS P md ops Q S L fuel (listed.setIfInBounds i true) a' w') a w

theorem wpAny_of_S : ∀ (fuel : Nat) (listed : Array Bool) (a : Act) (w : World), wpAnyS P md ops Q S L fuel listed a w → wpAny P md ops Q fuel listed a w
  | 0, _, _, _, h => h
  | fuel + 1, _, _, _, h => ⟨h.1, fun i hi => wpOp_mono (fun a' w' h' => wpAny_of_S fuel _ a' w' h'.2) (h.2 i hi)⟩

theorem wpAnyS_first {i : Nat} {oi : Oper} {v : Value} (p : List Nat) (hi : ops[i]? = some oi) (hsel : ∀ (j : Nat) (o : Oper) cs b, ops[j]? = some o → o.op ≠ .select cs b)
    (hQ : ∀ c a w, Q (.panic c) (a.put oi.dst v) w → Q (.panic c) a w) :
    ∀ (fuel : Nat) (listed : Array Bool) (a : Act) (w : World),
      (∀ j oj, ops[j]? = some oj → j ≠ i → listed.getD j true = false → (∀ e ∈ oj.after, Region.binds md e = true → e.on ≠ i) → oi.apart ops oj = true) →
      i ∈ Region.ready md ops listed → (listed.size ≤ L ∨ leads md ops L listed i p = true) → YieldsIf P ops S oi v a → S w →
      wpAnyS P md ops Q S L fuel (listed.setIfInBounds i true) (a.put oi.dst v) w → wpAnyS P md ops Q S L (fuel + 1) listed a w := by
  intro fuel
  induction fuel with
  | zero =>
    intro listed a w _ hr _ hy hS H
    refine ⟨fun h => (by rw [h] at hr; cases hr), fun j hj => ?_⟩
    by_cases hji : j = i
    · subst hji; exact hy.wpOp hi hS ⟨fun _ => hS, H⟩
    · have := ready_mono hj hji
      rw [H.1] at this
      cases this
  | succ fuel ih =>
    intro listed a w hfree hr hL hy hS H
    refine ⟨fun h => (by rw [h] at hr; cases hr), fun j hj => ?_⟩
    by_cases hji : j = i
    · subst hji; exact hy.wpOp hi hS ⟨fun _ => hS, H⟩
    · have h1 := H.2 j (ready_mono hj hji)
      obtain ⟨hjun, oj, hoj, hall⟩ := mem_ready.1 hj
      have hnot : ∀ e ∈ oj.after, Region.binds md e = true → e.on ≠ i := fun e he hb heq => by
        have h1 := hall e he hb
        have h0 := (mem_ready.1 hr).1
        rw [heq] at h1
        rcases Nat.lt_or_ge i listed.size with h' | h'
        · simp [h'] at h0 h1; rw [h0] at h1; cases h1
        · simp [Array.getElem?_eq_none h'] at h1
      have h2 := wpOp_putIf hoj (hfree j oj hoj hji hjun hnot) (fun cs b => hsel i oi cs b hi) (fun cs b => hsel j oj cs b hoj) hQ hy h1
      have hfree' : ∀ k ok, ops[k]? = some ok → k ≠ i → (listed.setIfInBounds j true).getD k true = false →
          (∀ e ∈ ok.after, Region.binds md e = true → e.on ≠ i) → oi.apart ops ok = true := fun k ok hk hki hun hno => by
        refine hfree k ok hk hki ?_ hno
        by_cases hjk : j = k
        · subst hjk; exact hjun
        · rw [getD_set_ne true hjk] at hun; exact hun
      have hL' : ((listed.setIfInBounds j true).size ≤ L ∨ leads md ops L (listed.setIfInBounds j true) i p = true) ∧ ((listed.setIfInBounds i true).setIfInBounds j true).getD L false = false := by
        rcases hL with hL | hL
        · exact ⟨.inl (by simpa using hL), by simp [Array.getD_eq_getD_getElem?, Array.getElem?_eq_none (show ((listed.setIfInBounds i true).setIfInBounds j true).size ≤ L by simpa using hL)]⟩
        · have h1 := leads_step hj p i (mem_ready.1 hr).1 hji hL
          have h2 := leads_not_ready p i (mem_ready.1 hr).1 hL
          have hiL : i ≠ L := fun e => h2.1 (e ▸ hr)
          exact ⟨.inr h1.1, by rw [getD_set_ne false h1.2, getD_set_ne false hiL]; exact h2.2⟩
      refine wpOp_mono (fun a' w' h3 => ⟨fun _ => h3.2.1 hL'.2, ih (listed.setIfInBounds j true) a' w' hfree' (ready_mono hr (Ne.symm hji)) hL'.1 h3.1 (h3.2.1 hL'.2) ?_⟩) h2
      rw [Array.setIfInBounds_comm _ _ hji]
      exact h3.2.2

/-- May number i be taken first? -/
def takeB (md : Region.Mode) (l : List Oper) (L : Nat) (listed : Array Bool) (i : Nat) (p : List Nat) : Bool :=
  Region.noSelect l.toArray && Region.free md l.toArray listed i && (Region.ready md l.toArray listed).contains i && (decide (listed.size ≤ L) || leads md l.toArray L listed i p)
theorem drop_get {l rest : List Oper} {i : Nat} {o : Oper} (h : l.drop i = o :: rest) : l.toArray[i]? = some o := by
  have : (l.drop i)[0]? = some o := by rw [h]; rfl
  rw [List.getElem?_drop] at this
  simpa using this

theorem wpAnyS_take {l : List Oper} (i : Nat) (p : List Nat) {oi : Oper} {rest : List Oper} {v : Value} {fuel : Nat} {listed listed' : Array Bool} {a : Act} {w : World} (hi : l.drop i = oi :: rest)
    (hB : takeB md l L listed i p = true) (hl : listed.setIfInBounds i true = listed') (hg : oi.guard = none) (hQ : ∀ c a w, Q (.panic c) (a.put oi.dst v) w → Q (.panic c) a w) (hS : S w) (hy : ∀ w, S w → (execOp a.eval oi).run P w = .ok (.value v) w)
    (h : wpAnyS P md l.toArray Q S L fuel listed' (a.put oi.dst v) w) : wpAnyS P md l.toArray Q S L (fuel + 1) listed a w := by
  subst hl
  simp only [takeB, Bool.and_eq_true, Bool.or_eq_true, decide_eq_true_eq] at hB
  exact wpAnyS_first p (drop_get hi) (Region.noSelect_spec hB.1.1.1) hQ fuel listed a w (Region.free_spec (drop_get hi) hB.1.1.2) (by simpa using hB.1.2) (by simpa using hB.2) (.inl ⟨by simp [Region.wanted, hg], hy⟩) hS h
theorem wpAnyS_skip {l : List Oper} (i : Nat) (p : List Nat) {oi : Oper} {rest : List Oper} {fuel : Nat} {listed listed' : Array Bool} {a : Act} {w : World} (hi : l.drop i = oi :: rest)
    (hB : takeB md l L listed i p = true) (hl : listed.setIfInBounds i true = listed') (hw : Region.wanted oi (yielded l.toArray a.tmps) = false) (hQ : ∀ c a w, Q (.panic c) (a.put oi.dst undef) w → Q (.panic c) a w) (hS : S w)
    (h : wpAnyS P md l.toArray Q S L fuel listed' (a.put oi.dst undef) w) : wpAnyS P md l.toArray Q S L (fuel + 1) listed a w := by
  subst hl
  simp only [takeB, Bool.and_eq_true, Bool.or_eq_true, decide_eq_true_eq] at hB
  exact wpAnyS_first p (drop_get hi) (Region.noSelect_spec hB.1.1.1) hQ fuel listed a w (Region.free_spec (drop_get hi) hB.1.1.2) (by simpa using hB.1.2) (by simpa using hB.2) (.inr ⟨hw, rfl⟩) hS h
/-- Number i is the only one that may come up. -/
theorem wpAnyS_last {l : List Oper} (i : Nat) {o : Oper} {rest : List Oper} {fuel : Nat} {listed listed' : Array Bool} {a : Act} {w : World} (hi : l.drop i = o :: rest) (hr : Region.ready md l.toArray listed = [i]) (hl : listed.setIfInBounds i true = listed')
    (h : ∀ K : Act → World → Prop, (∀ a' w', ((listed'.getD L false = false → S w') ∧ wpAnyS P md l.toArray Q S L fuel listed' a' w') → K a' w') → if Region.wanted o (yielded l.toArray a.tmps) = true then Oper.wp P o a w K Q else K (a.put o.dst undef) w) : wpAnyS P md l.toArray Q S L (fuel + 1) listed a w := by
  subst hl
  refine ⟨fun h0 => (by rw [hr] at h0; cases h0), fun j hj => ?_⟩
  rw [hr, List.mem_singleton] at hj
  subst hj
  have := h (fun a' w' => ((listed.setIfInBounds j true).getD L false = false → S w') ∧ wpAnyS P md l.toArray Q S L fuel (listed.setIfInBounds j true) a' w') (fun a' w' h1 => h1)
  unfold wpOp
  simp only [drop_get hi]
  split
  · rename_i hw; rw [if_pos hw] at this; exact .inl this
  · rename_i hw; rw [if_neg hw] at this; exact this
theorem wpAnyS_one {l : List Oper} (i : Nat) {o : Oper} {rest : List Oper} {fuel : Nat} {listed listed' : Array Bool} {a : Act} {w : World} (hi : l.drop i = o :: rest) (hr : Region.ready md l.toArray listed = [i]) (hl : listed.setIfInBounds i true = listed')
    (h : ∀ K : Act → World → Prop, (∀ a' w', S w' → (S w' → wpAnyS P md l.toArray Q S L fuel listed' a' w') → K a' w') → if Region.wanted o (yielded l.toArray a.tmps) = true then Oper.wp P o a w K Q else K (a.put o.dst undef) w) : wpAnyS P md l.toArray Q S L (fuel + 1) listed a w :=
  wpAnyS_last i hi hr hl (fun K hK => h K (fun a' w' h1 h2 => hK a' w' ⟨fun _ => h1, h2 h1⟩))
/-- .. and L has come up with it. -/
theorem wpAnyS_end {l : List Oper} (i : Nat) {o : Oper} {rest : List Oper} {fuel : Nat} {listed listed' : Array Bool} {a : Act} {w : World} (hi : l.drop i = o :: rest) (hr : Region.ready md l.toArray listed = [i]) (hl : listed.setIfInBounds i true = listed') (hL : listed'.getD L false = true)
    (h : ∀ K : Act → World → Prop, (∀ a' w', wpAnyS P md l.toArray Q S L fuel listed' a' w' → K a' w') → if Region.wanted o (yielded l.toArray a.tmps) = true then Oper.wp P o a w K Q else K (a.put o.dst undef) w) : wpAnyS P md l.toArray Q S L (fuel + 1) listed a w :=
  wpAnyS_last i hi hr hl (fun K hK => h K (fun a' w' h1 => hK a' w' ⟨fun h => (by rw [hL] at h; cases h), h1⟩))
theorem wpAnyS_done {l : List Oper} {listed : Array Bool} {a : Act} {w : World} (hr : Region.ready md l.toArray listed = []) (h : Q .normal a w) : ∀ fuel, wpAnyS P md l.toArray Q S L fuel listed a w
  | 0 => ⟨hr, h⟩
  | _ + 1 => ⟨fun _ => h, by rw [hr]; simp⟩
theorem wp_region_S {id : Nat} {l : List Oper} {a : Act} {w : World} (L : Nat) (S : World → Prop) {n : Nat} {listed : Array Bool} (hm : P.follows .mixedOrders = true) (hn : l.length = n) (hl : Array.replicate n false = listed) (hS : S w.drew)
    (h : S w.drew → wpAnyS P .any l.toArray Q S L n listed a w.drew) : (Code.region id l.toArray true).wp P Q a w := by
  subst hn hl
  exact wp_region_any hm (wpAny_of_S _ _ _ _ (h hS))
end

end Go.Proofs.YtdeplgkhmebalaaGreatDoor

namespace Go.Proofs.YtdeplgkhmebalaaGreatDoor
open Go.RowKit
section
variable {P : Program} {ops : Array Oper} {Q : Exit → Act → World → Prop} {md : Region.Mode} {S : World → Prop} {L : Nat}
theorem wpAnyS_two {l : List Oper} (i j : Nat) {oi oj : Oper} {ri rj : List Oper} {fuel : Nat} {listed l1 l2 : Array Bool} {a : Act} {w : World} (hi : l.drop i = oi :: ri) (hj : l.drop j = oj :: rj) (hr : Region.ready md l.toArray listed = [i, j]) (hl1 : listed.setIfInBounds i true = l1) (hl2 : listed.setIfInBounds j true = l2)
    (h1 : ∀ K : Act → World → Prop, (∀ a' w', S w' → (S w' → wpAnyS P md l.toArray Q S L fuel l1 a' w') → K a' w') → if Region.wanted oi (yielded l.toArray a.tmps) = true then Oper.wp P oi a w K Q else K (a.put oi.dst undef) w)
    (h2 : ∀ K : Act → World → Prop, (∀ a' w', S w' → (S w' → wpAnyS P md l.toArray Q S L fuel l2 a' w') → K a' w') → if Region.wanted oj (yielded l.toArray a.tmps) = true then Oper.wp P oj a w K Q else K (a.put oj.dst undef) w) : wpAnyS P md l.toArray Q S L (fuel + 1) listed a w := by
  subst hl1 hl2
  refine ⟨fun h0 => (by rw [hr] at h0; cases h0), fun k hk => ?_⟩
  rw [hr] at hk
  rcases List.mem_cons.1 hk with hk | hk
  · subst hk
    have := h1 (fun a' w' => ((listed.setIfInBounds k true).getD L false = false → S w') ∧ wpAnyS P md l.toArray Q S L fuel (listed.setIfInBounds k true) a' w') (fun a' w' h1 h2 => ⟨fun _ => h1, h2 h1⟩)
    unfold wpOp
    simp only [drop_get hi]
    split
    · rename_i hw; rw [if_pos hw] at this; exact .inl this
    · rename_i hw; rw [if_neg hw] at this; exact this
  · rw [List.mem_singleton] at hk
    subst hk
    have := h2 (fun a' w' => ((listed.setIfInBounds k true).getD L false = false → S w') ∧ wpAnyS P md l.toArray Q S L fuel (listed.setIfInBounds k true) a' w') (fun a' w' h1 h2 => ⟨fun _ => h1, h2 h1⟩)
    unfold wpOp
    simp only [drop_get hj]
    split
    · rename_i hw; rw [if_pos hw] at this; exact .inl this
    · rename_i hw; rw [if_neg hw] at this; exact this
end
end Go.Proofs.YtdeplgkhmebalaaGreatDoor

namespace Go.Proofs.YtdeplgkhmebalaaGreatDoor
open Go.RowKit

structure FnS where
  params : List UInt8
  results : List UInt8
  locals : List UInt8
  code : List UInt8
def fnS0 : FnS := ⟨[], [], [], []⟩
def tyB (f : FnS) : List UInt8 := uB f.params.length ++ f.params ++ uB f.results.length ++ f.results
def bodyIn (f : FnS) : List UInt8 := uB f.locals.length ++ f.locals ++ f.code ++ [11]
def bodyB (f : FnS) : List UInt8 := uB (bodyIn f).length ++ bodyIn f
def modA (fs : List FnS) (k : Nat) : List UInt8 := [83, 84, 75, 1] ++ uB fs.length ++ (fs.take k).flatMap tyB
def modB (fs : List FnS) (k : Nat) : List UInt8 := modA fs fs.length ++ uB fs.length ++ (List.range k).flatMap uB
def modC (pages : Nat) (fs : List FnS) (k : Nat) : List UInt8 := modB fs fs.length ++ [1, 126, 1, 5] ++ uB pages ++ (fs.take k).flatMap bodyB
def moduleB (pages : Nat) (fs : List FnS) : List UInt8 := modC pages fs fs.length

def FnsAt (w : World) (v : Value) (fs : List FnS) : Prop :=
  ∃ vs, RowAt w v 4 fs.length vs ∧ ∀ k, k < fs.length → ∃ x0 x1 x2 x3, vs[k * 4]? = some x0 ∧ vs[k * 4 + 1]? = some x1 ∧ vs[k * 4 + 2]? = some x2 ∧ vs[k * 4 + 3]? = some x3 ∧
    BytesAt w x0 (fs.getD k fnS0).params ∧ BytesAt w x1 (fs.getD k fnS0).results ∧ BytesAt w x2 (fs.getD k fnS0).locals ∧ BytesAt w x3 (fs.getD k fnS0).code
theorem BytesAt.kq {w w' : World} {v : Value} {l : List UInt8} (h : BytesAt w v l) (k : Kp no w w') : BytesAt w' v l := RowAt.kp h k (fun _ _ h => h)
theorem FnsAt.kp {w w' : World} {v : Value} {fs : List FnS} (h : FnsAt w v fs) (k : Kp no w w') : FnsAt w' v fs := by
  obtain ⟨vs, h1, h2⟩ := h
  refine ⟨vs, h1.kp k (fun _ _ h => h), fun j hj => ?_⟩
  obtain ⟨x0, x1, x2, x3, e0, e1, e2, e3, b0, b1, b2, b3⟩ := h2 j hj
  exact ⟨x0, x1, x2, x3, e0, e1, e2, e3, b0.kq k, b1.kq k, b2.kq k, b3.kq k⟩
theorem FnsAt.get {w : World} {v : Value} {fs : List FnS} (h : FnsAt w v fs) {k : Nat} (hk : k < fs.length) :
    ∃ a o cap a0 c0 a1 c1 a2 c2 a3 c3, v = .slice (some ⟨a, o, none⟩) fs.length cap ∧ fs.length ≤ cap ∧
      w.cell? ⟨a, o + k * 4, none⟩ = some (.slice a0 (fs.getD k fnS0).params.length c0) ∧ w.cell? ⟨a, o + k * 4 + 1, none⟩ = some (.slice a1 (fs.getD k fnS0).results.length c1) ∧
      w.cell? ⟨a, o + k * 4 + 2, none⟩ = some (.slice a2 (fs.getD k fnS0).locals.length c2) ∧ w.cell? ⟨a, o + k * 4 + 3, none⟩ = some (.slice a3 (fs.getD k fnS0).code.length c3) ∧
      BytesAt w (.slice a0 (fs.getD k fnS0).params.length c0) (fs.getD k fnS0).params ∧ BytesAt w (.slice a1 (fs.getD k fnS0).results.length c1) (fs.getD k fnS0).results ∧
      BytesAt w (.slice a2 (fs.getD k fnS0).locals.length c2) (fs.getD k fnS0).locals ∧ BytesAt w (.slice a3 (fs.getD k fnS0).code.length c3) (fs.getD k fnS0).code := by
  obtain ⟨vs, h1, h2⟩ := h
  obtain ⟨x0, x1, x2, x3, e0, e1, e2, e3, b0, b1, b2, b3⟩ := h2 k hk
  obtain ⟨a0, c0, rfl, -⟩ := b0.shape
  obtain ⟨a1, c1, rfl, -⟩ := b1.shape
  obtain ⟨a2, c2, rfl, -⟩ := b2.shape
  obtain ⟨a3, c3, rfl, -⟩ := b3.shape
  obtain ⟨hl, ⟨rfl, hn⟩ | ⟨a, o, cap, rfl, hc, hcell⟩⟩ := h1
  · omega
  exact ⟨a, o, cap, a0, c0, a1, c1, a2, c2, a3, c3, rfl, hc, hcell _ _ e0, hcell _ _ e1, hcell _ _ e2, hcell _ _ e3, b0, b1, b2, b3⟩
theorem FnsAt.shape {w : World} {v : Value} {fs : List FnS} (h : FnsAt w v fs) : ∃ ad cap, v = .slice ad fs.length cap ∧ fs.length ≤ cap := by
  obtain ⟨vs, h1, -⟩ := h
  exact h1.shape

theorem ListsAt.made {W : World} {t : TypeId} (xs : List (Value × List UInt8)) (h : ∀ p ∈ xs, BytesAt W p.1 p.2) : ListsAt (W.alloc (.cells (xs.map (·.1)).toArray t)) (.slice (some ⟨W.heap.size, 0, none⟩) xs.length xs.length) (xs.map (·.2)) := by
  have k : Kp no W (W.alloc (.cells (xs.map (·.1)).toArray t)) := (Kp.refl _ _).alloc _
  refine ⟨xs.map (·.1), ?_, fun j hj => ?_⟩
  · have := RowAt.ofBlock (heap_alloc_new W (.cells (xs.map (·.1)).toArray t)) xs.length 1 (by simp)
    simpa using this
  · rw [List.length_map] at hj
    refine ⟨(xs[j]).1, by simp [hj], ?_⟩
    have e : (xs.map (·.2)).getD j [] = (xs[j]).2 := by simp [List.getD, hj]
    rw [e]
    exact (h _ (List.getElem_mem hj)).kq k

theorem flatMap_take {α : Type} (g : α → List UInt8) {fs : List α} {k : Nat} (hk : k < fs.length) (d : α) : (fs.take (k + 1)).flatMap g = (fs.take k).flatMap g ++ g (fs.getD k d) := by
  rw [List.take_add_one, List.flatMap_append, List.getElem?_eq_getElem hk]
  simp [List.getD, List.getElem?_eq_getElem hk]
theorem flatMap_le {α : Type} (g : α → List UInt8) (fs : List α) (k : Nat) : ((fs.take k).flatMap g).length ≤ (fs.flatMap g).length := by
  conv => rhs; rw [← List.take_append_drop k fs, List.flatMap_append, List.length_append]
  omega
theorem modA_succ {fs : List FnS} {k : Nat} (hk : k < fs.length) : modA fs (k + 1) = modA fs k ++ (uB (fs.getD k fnS0).params.length ++ ((fs.getD k fnS0).params ++ (uB (fs.getD k fnS0).results.length ++ (fs.getD k fnS0).results))) := by
  unfold modA
  rw [flatMap_take tyB hk fnS0]
  simp [tyB]
theorem modB_succ (fs : List FnS) (k : Nat) : modB fs (k + 1) = modB fs k ++ uB k := by
  unfold modB
  rw [List.range_succ, List.flatMap_append]
  simp
theorem modC_succ {pages : Nat} {fs : List FnS} {k : Nat} (hk : k < fs.length) : modC pages fs (k + 1) = modC pages fs k ++ (uB (bodyIn (fs.getD k fnS0)).length ++ bodyIn (fs.getD k fnS0)) := by
  unfold modC
  rw [flatMap_take bodyB hk fnS0]
  simp [bodyB]
theorem modC_le (pages : Nat) (fs : List FnS) (k : Nat) : (modC pages fs k).length ≤ (moduleB pages fs).length := by
  unfold moduleB modC
  have := flatMap_le bodyB fs k
  simp only [List.length_append, List.take_length] at *
  omega
theorem modB_le (pages : Nat) (fs : List FnS) {k : Nat} (hk : k ≤ fs.length) : (modB fs k).length ≤ (moduleB pages fs).length := by
  have h1 : (modB fs k).length ≤ (modB fs fs.length).length := by
    unfold modB
    have := flatMap_le uB (List.range fs.length) k
    rw [List.take_range, Nat.min_eq_left hk] at this
    simp only [List.length_append] at *
    omega
  have h2 : (modB fs fs.length).length ≤ (modC pages fs fs.length).length := by
    unfold modC
    simp only [List.length_append]
    omega
  exact Nat.le_trans h1 h2
theorem modA_le (pages : Nat) (fs : List FnS) (k : Nat) : (modA fs k).length ≤ (moduleB pages fs).length := by
  have h1 : (modA fs k).length ≤ (modA fs fs.length).length := by
    unfold modA
    have := flatMap_le tyB fs k
    simp only [List.length_append, List.take_length] at *
    omega
  have h2 : (modA fs fs.length).length ≤ (modB fs fs.length).length := by
    unfold modB
    simp only [List.length_append]
    omega
  exact Nat.le_trans h1 (Nat.le_trans h2 (modB_le pages fs (Nat.le_refl _)))

theorem enters_uK : ∀ args w, (callFunc 45 args).run Tryz.prog w = .ok (.enter 45 args) w := enters_of Tryz.func45 (by kernel_rfl) rfl
theorem enters_joinK : ∀ args w, (callFunc 18 args).run Tryz.prog w = .ok (.enter 18 args) w := enters_of Tryz.func18 (by kernel_rfl) rfl
theorem NB.newer {w w1 w' : World} {v : Value} {l : List UInt8} (h : NB w1 w' v l) (hw : w.heap.size ≤ w1.heap.size) : NB w w' v l := by
  obtain ⟨h1, h2⟩ := h
  refine ⟨h1, h2.imp id ?_⟩
  rintro ⟨g, cap, cur, r1, r2, r3⟩
  exact ⟨g, cap, cur, r1, Nat.le_trans hw r2, r3⟩
theorem NB.as {w w' : World} {v : Value} {l m : List UInt8} (h : NB w w' v l) (e : l = m) : NB w w' v m := e ▸ h

theorem join_2 {W : World} {x0 x1 : Value} {l0 l1 : List UInt8} (h0 : BytesAt W x0 l0) (h1 : BytesAt W x1 l1) (ht : (l0 ++ l1).length ≤ 1000000000) :
    Calls Tryz.prog 18 #[.slice (some ⟨W.heap.size, 0, none⟩) 2 2] (W.alloc (.cells #[x0, x1] 25)) fun r w' => (∃ v, r = .returned v ∧ NB W w' v (l0 ++ l1)) ∧ Kp no W w' := by
  have hL := ListsAt.made (W := W) (t := 25) [(x0, l0), (x1, l1)] (by
    intro p hp
    simp only [List.mem_cons, List.mem_nil_iff, or_false] at hp
    rcases hp with rfl | rfl <;> assumption)
  have e : ([l0, l1] : List (List UInt8)).flatten = l0 ++ l1 := by simp
  have hj := joinK_any hL (by simp) (by show ([l0, l1] : List (List UInt8)).flatten.length ≤ _; rw [e]; exact ht)
  refine Calls.mono hj ?_
  rintro r w' ⟨⟨v, rfl, h⟩, k⟩
  refine ⟨⟨v, rfl, ?_⟩, ((Kp.refl no W).alloc _).trans k⟩
  rw [← e]
  exact NB.newer h (by simp)
theorem join_3 {W : World} {x0 x1 x2 : Value} {l0 l1 l2 : List UInt8} (h0 : BytesAt W x0 l0) (h1 : BytesAt W x1 l1) (h2 : BytesAt W x2 l2) (ht : (l0 ++ (l1 ++ l2)).length ≤ 1000000000) :
    Calls Tryz.prog 18 #[.slice (some ⟨W.heap.size, 0, none⟩) 3 3] (W.alloc (.cells #[x0, x1, x2] 25)) fun r w' => (∃ v, r = .returned v ∧ NB W w' v (l0 ++ (l1 ++ l2))) ∧ Kp no W w' := by
  have hL := ListsAt.made (W := W) (t := 25) [(x0, l0), (x1, l1), (x2, l2)] (by
    intro p hp
    simp only [List.mem_cons, List.mem_nil_iff, or_false] at hp
    rcases hp with rfl | rfl | rfl <;> assumption)
  have e : ([l0, l1, l2] : List (List UInt8)).flatten = l0 ++ (l1 ++ l2) := by simp
  have hj := joinK_any hL (by simp) (by show ([l0, l1, l2] : List (List UInt8)).flatten.length ≤ _; rw [e]; exact ht)
  refine Calls.mono hj ?_
  rintro r w' ⟨⟨v, rfl, h⟩, k⟩
  refine ⟨⟨v, rfl, ?_⟩, ((Kp.refl no W).alloc _).trans k⟩
  rw [← e]
  exact NB.newer h (by simp)
theorem join_4 {W : World} {x0 x1 x2 x3 : Value} {l0 l1 l2 l3 : List UInt8} (h0 : BytesAt W x0 l0) (h1 : BytesAt W x1 l1) (h2 : BytesAt W x2 l2) (h3 : BytesAt W x3 l3) (ht : (l0 ++ (l1 ++ (l2 ++ l3))).length ≤ 1000000000) :
    Calls Tryz.prog 18 #[.slice (some ⟨W.heap.size, 0, none⟩) 4 4] (W.alloc (.cells #[x0, x1, x2, x3] 25)) fun r w' => (∃ v, r = .returned v ∧ NB W w' v (l0 ++ (l1 ++ (l2 ++ l3)))) ∧ Kp no W w' := by
  have hL := ListsAt.made (W := W) (t := 25) [(x0, l0), (x1, l1), (x2, l2), (x3, l3)] (by
    intro p hp
    simp only [List.mem_cons, List.mem_nil_iff, or_false] at hp
    rcases hp with rfl | rfl | rfl | rfl <;> assumption)
  have e : ([l0, l1, l2, l3] : List (List UInt8)).flatten = l0 ++ (l1 ++ (l2 ++ l3)) := by simp
  have hj := joinK_any hL (by simp) (by show ([l0, l1, l2, l3] : List (List UInt8)).flatten.length ≤ _; rw [e]; exact ht)
  refine Calls.mono hj ?_
  rintro r w' ⟨⟨v, rfl, h⟩, k⟩
  refine ⟨⟨v, rfl, ?_⟩, ((Kp.refl no W).alloc _).trans k⟩
  rw [← e]
  exact NB.newer h (by simp)
theorem join_5 {W : World} {x0 x1 x2 x3 x4 : Value} {l0 l1 l2 l3 l4 : List UInt8} (h0 : BytesAt W x0 l0) (h1 : BytesAt W x1 l1) (h2 : BytesAt W x2 l2) (h3 : BytesAt W x3 l3) (h4 : BytesAt W x4 l4) (ht : (l0 ++ (l1 ++ (l2 ++ (l3 ++ l4)))).length ≤ 1000000000) :
    Calls Tryz.prog 18 #[.slice (some ⟨W.heap.size, 0, none⟩) 5 5] (W.alloc (.cells #[x0, x1, x2, x3, x4] 25)) fun r w' => (∃ v, r = .returned v ∧ NB W w' v (l0 ++ (l1 ++ (l2 ++ (l3 ++ l4))))) ∧ Kp no W w' := by
  have hL := ListsAt.made (W := W) (t := 25) [(x0, l0), (x1, l1), (x2, l2), (x3, l3), (x4, l4)] (by
    intro p hp
    simp only [List.mem_cons, List.mem_nil_iff, or_false] at hp
    rcases hp with rfl | rfl | rfl | rfl | rfl <;> assumption)
  have e : ([l0, l1, l2, l3, l4] : List (List UInt8)).flatten = l0 ++ (l1 ++ (l2 ++ (l3 ++ l4))) := by simp
  have hj := joinK_any hL (by simp) (by show ([l0, l1, l2, l3, l4] : List (List UInt8)).flatten.length ≤ _; rw [e]; exact ht)
  refine Calls.mono hj ?_
  rintro r w' ⟨⟨v, rfl, h⟩, k⟩
  refine ⟨⟨v, rfl, ?_⟩, ((Kp.refl no W).alloc _).trans k⟩
  rw [← e]
  exact NB.newer h (by simp)

set_option maxRecDepth 100000 in
set_option maxHeartbeats 4000000 in
theorem module_keep {w : World} {v : Value} {fs : List FnS} {pages : Nat} (h : FnsAt w v fs) (hl : fs.length ≤ 1000) (hp : pages ≤ 1000) (ht : (moduleB pages fs).length ≤ 1000000) :
    Calls Tryz.prog 20 #[.int .i64 pages, v] w fun r w' => (∃ v, r = .returned v ∧ NB w w' v (moduleB pages fs)) ∧ Kp no w w' := by
  obtain ⟨ad, cap, rfl, hcap⟩ := h.shape
  have hA : ∀ k, (modA fs k).length ≤ 1000000 := fun k => Nat.le_trans (modA_le pages fs k) ht
  have hB : ∀ k, k ≤ fs.length → (modB fs k).length ≤ 1000000 := fun k hk => Nat.le_trans (modB_le pages fs hk) ht
  have hC : ∀ k, (modC pages fs k).length ≤ 1000000 := fun k => Nat.le_trans (modC_le pages fs k) ht
  have hA0 : modA fs 0 = [83, 84, 75, 1] ++ uB fs.length := by simp [modA]
  have hB0 : modB fs 0 = modA fs fs.length ++ uB fs.length := by simp [modB]
  have hC0 : modC pages fs 0 = modB fs fs.length ++ ([1, 126, 1, 5] ++ uB pages) := by simp [modC]
  have hR : moduleB pages fs = modC pages fs fs.length := rfl
  have hAs := fun k => modA_succ (fs := fs) (k := k)
  have hBs := modB_succ fs
  have hCs := fun k => modC_succ (pages := pages) (fs := fs) (k := k)
  generalize moduleB pages fs = R at *
  generalize modC pages fs = mC at *
  generalize modB fs = mB at *
  generalize modA fs = mA at *
  have H := hide h
  have HA := hide hA
  have HB := hide hB
  have HC := hide hC
  have HA0 := hide hA0
  have HB0 := hide hB0
  have HC0 := hide hC0
  have HR := hide hR
  have HAs := hide hAs
  have HBs := hide hBs
  have HCs := hide hCs
  clear h hA hB hC hA0 hB0 hC0 hR hAs hBs hCs ht
  have hcv := Lib.run_convert_bytes_const (P := Tryz.prog) w 25 5 #[.int .u8 83, .int .u8 84, .int .u8 75, .int .u8 1] 4 4 Tryz.underlying25 Tryz.underlying5
  go_enter Tryz.func20, Tryz.ntmps20
  go_wp2_with fail
  refine (uK_any _ fs.length (by omega)).mono ?_
  rintro r w1 ⟨⟨v1, rfl, h1⟩, k1⟩
  obtain ⟨a1, c1, rfl, -⟩ := h1.at.shape
  have hm0 : BytesAt w1 (.slice (some ⟨w.heap.size, 0, none⟩) 4 4) [83, 84, 75, 1] := BytesAt.kq (by
    refine ⟨rfl, .inr ⟨w.heap.size, 0, 4, rfl, Nat.le_refl _, fun j x hj => ?_⟩⟩
    rw [Nat.zero_add, World.cell?_alloc_mark]
    simpa using hj) k1
  have K1 := hide (((Kp.refl no w).alloc _).trans k1)
  have hj := join_2 hm0 h1.at (by have := HA.out 0; rw [HA0.out] at this; omega)
  have HJ := hide hj
  clear k1 hm0 h1 hj
  go_wp2_with fail
  refine HJ.out.mono ?_
  rintro r w2 ⟨⟨v2, rfl, h2⟩, k2⟩
  have K2 := hide (K1.out.trans k2)
  have O2 := hide ((h2.newer (w := w) K1.out.size).as (m := mA 0) HA0.out.symm)
  obtain ⟨a2, c2, hv2, -⟩ := O2.out.at.shape
  subst hv2
  clear k2 h2 HJ K1 hcv
  go_wp2
  go_loopw [5, 6] (fun ov kv wr => ∃ (k : Nat), k ≤ fs.length ∧ kv = .int .i64 k ∧ NB w wr ov (mA k) ∧ Kp no w wr) (fun _ kv _ => fs.length - (intOf kv).toNat)
  case atStart => exact ⟨0, by omega, rfl, O2.out, K2.out⟩
  case round =>
    obtain ⟨k, hk, rfl, hown, hkp⟩ := hrel
    obtain ⟨ao, co, hvo, -⟩ := hown.at.shape
    subst hvo
    have HO := hide hown
    have HK := hide hkp
    clear hown hkp O2 K2
    by_cases hkn : k < fs.length
    · obtain ⟨a, o, cp, a0, c0, a1, c1, a2, c2, a3, c3, he, -, e0, e1, e2, e3, b0, b1, b2, b3⟩ := (H.out.kp HK.out).get hkn
      cases he
      have hsucc := HAs.out k hkn
      have hlen := HA.out (k + 1)
      rw [hsucc] at hlen
      generalize fs.getD k fnS0 = fn at *
      have HSu := hide hsucc
      have HLe := hide hlen
      have HB0 := hide b0
      have HB1 := hide b1
      have hl0 : fn.params.length ≤ 1000000 := by simp only [List.length_append] at hlen; omega
      have hl1 : fn.results.length ≤ 1000000 := by simp only [List.length_append] at hlen; omega
      obtain ⟨S, hSd⟩ : ∃ S : World → Prop, S = fun w' => w'.cell? ⟨a, o + k * 4, none⟩ = some (.slice a0 fn.params.length c0) ∧ w'.cell? ⟨a, o + k * 4 + 1, none⟩ = some (.slice a1 fn.results.length c1) := ⟨_, rfl⟩
      have hSk : ∀ W', Kp no wr W' → S W' := fun W' k => by rw [hSd]; exact ⟨k.allCells e0, k.allCells e1⟩
      have HSk := hide hSk
      have HSd := hide hSd
      clear hsucc hlen b0 b1 b2 b3 hSk hSd e0 e1 e2 e3
      go_wp2_with fail
      refine wp_region_S 28 (S) (by kernel_rfl) (n := 28) (listed := #[false, false, false, false, false, false, false, false, false, false, false, false, false, false, false, false, false, false, false, false, false, false, false, false, false, false, false, false]) rfl (by kernel_rfl) ?hS (fun hS => ?_)
      case hS => exact HSk.out _ ((Kp.refl _ _).drew)
      have hSd := HSd.out
      subst hSd
      refine wpAnyS_take 0 [] (v := ?v1) (listed' := #[true, false, false, false, false, false, false, false, false, false, false, false, false, false, false, false, false, false, false, false, false, false, false, false, false, false, false, false]) rfl (by kernel_rfl) (by kernel_rfl) rfl (fun _ _ _ h => h) hS (fun _ hSw => ?hy1) ?rest1
      case hy1 => (try dsimp only at hSw); go_simp; all_goals (with_reducible rfl)
      simp only [Act.put, List.setIfInBounds_toArray, List.set_cons_zero, List.set_cons_succ]
      refine wpAnyS_take 1 [] (v := ?v2) (listed' := #[true, true, false, false, false, false, false, false, false, false, false, false, false, false, false, false, false, false, false, false, false, false, false, false, false, false, false, false]) rfl (by kernel_rfl) (by kernel_rfl) rfl (fun _ _ _ h => h) hS (fun _ hSw => ?hy2) ?rest2
      case hy2 => (try dsimp only at hSw); go_simp; all_goals (with_reducible rfl)
      simp only [Act.put, List.setIfInBounds_toArray, List.set_cons_zero, List.set_cons_succ]
      refine wpAnyS_take 2 [] (v := ?v3) (listed' := #[true, true, true, false, false, false, false, false, false, false, false, false, false, false, false, false, false, false, false, false, false, false, false, false, false, false, false, false]) rfl (by kernel_rfl) (by kernel_rfl) rfl (fun _ _ _ h => h) hS (fun _ hSw => ?hy3) ?rest3
      case hy3 => (try dsimp only at hSw); go_simp; all_goals (with_reducible rfl)
      simp only [Act.put, List.setIfInBounds_toArray, List.set_cons_zero, List.set_cons_succ]
      refine wpAnyS_take 3 [] (v := ?v4) (listed' := #[true, true, true, true, false, false, false, false, false, false, false, false, false, false, false, false, false, false, false, false, false, false, false, false, false, false, false, false]) rfl (by kernel_rfl) (by kernel_rfl) rfl (fun _ _ _ h => h) hS (fun _ hSw => ?hy4) ?rest4
      case hy4 => (try dsimp only at hSw); go_simp; all_goals (with_reducible rfl)
      simp only [Act.put, List.setIfInBounds_toArray, List.set_cons_zero, List.set_cons_succ]
      refine wpAnyS_take 4 [] (v := ?v5) (listed' := #[true, true, true, true, true, false, false, false, false, false, false, false, false, false, false, false, false, false, false, false, false, false, false, false, false, false, false, false]) rfl (by kernel_rfl) (by kernel_rfl) rfl (fun _ _ _ h => h) hS (fun _ hSw => ?hy5) ?rest5
      case hy5 => (try dsimp only at hSw); go_simp; all_goals (with_reducible rfl)
      simp only [Act.put, List.setIfInBounds_toArray, List.set_cons_zero, List.set_cons_succ]
      refine wpAnyS_take 5 [] (v := ?v6) (listed' := #[true, true, true, true, true, true, false, false, false, false, false, false, false, false, false, false, false, false, false, false, false, false, false, false, false, false, false, false]) rfl (by kernel_rfl) (by kernel_rfl) rfl (fun _ _ _ h => h) hS (fun _ hSw => ?hy6) ?rest6
      case hy6 => (try dsimp only at hSw); go_simp; all_goals (with_reducible rfl)
      simp only [Act.put, List.setIfInBounds_toArray, List.set_cons_zero, List.set_cons_succ]
      refine wpAnyS_take 6 [] (v := ?v7) (listed' := #[true, true, true, true, true, true, true, false, false, false, false, false, false, false, false, false, false, false, false, false, false, false, false, false, false, false, false, false]) rfl (by kernel_rfl) (by kernel_rfl) rfl (fun _ _ _ h => h) hS (fun _ hSw => ?hy7) ?rest7
      case hy7 => (try dsimp only at hSw); go_simp; all_goals (with_reducible rfl)
      simp only [Act.put, List.setIfInBounds_toArray, List.set_cons_zero, List.set_cons_succ]
      refine wpAnyS_take 8 [] (v := ?v8) (listed' := #[true, true, true, true, true, true, true, false, true, false, false, false, false, false, false, false, false, false, false, false, false, false, false, false, false, false, false, false]) rfl (by kernel_rfl) (by kernel_rfl) rfl (fun _ _ _ h => h) hS (fun _ hSw => ?hy8) ?rest8
      case hy8 => (try dsimp only at hSw); go_simp; all_goals (with_reducible rfl)
      simp only [Act.put, List.setIfInBounds_toArray, List.set_cons_zero, List.set_cons_succ]
      refine wpAnyS_take 9 [] (v := ?v9) (listed' := #[true, true, true, true, true, true, true, false, true, true, false, false, false, false, false, false, false, false, false, false, false, false, false, false, false, false, false, false]) rfl (by kernel_rfl) (by kernel_rfl) rfl (fun _ _ _ h => h) hS (fun _ hSw => ?hy9) ?rest9
      case hy9 => (try dsimp only at hSw); go_simp; all_goals (with_reducible rfl)
      simp only [Act.put, List.setIfInBounds_toArray, List.set_cons_zero, List.set_cons_succ]
      refine wpAnyS_take 10 [] (v := ?v10) (listed' := #[true, true, true, true, true, true, true, false, true, true, true, false, false, false, false, false, false, false, false, false, false, false, false, false, false, false, false, false]) rfl (by kernel_rfl) (by kernel_rfl) rfl (fun _ _ _ h => h) hS (fun _ hSw => ?hy10) ?rest10
      case hy10 => (try dsimp only at hSw); go_simp; all_goals (with_reducible rfl)
      simp only [Act.put, List.setIfInBounds_toArray, List.set_cons_zero, List.set_cons_succ]
      refine wpAnyS_take 11 [] (v := ?v11) (listed' := #[true, true, true, true, true, true, true, false, true, true, true, true, false, false, false, false, false, false, false, false, false, false, false, false, false, false, false, false]) rfl (by kernel_rfl) (by kernel_rfl) rfl (fun _ _ _ h => h) hS (fun _ hSw => ?hy11) ?rest11
      case hy11 => (try dsimp only at hSw); go_simp; all_goals (with_reducible rfl)
      simp only [Act.put, List.setIfInBounds_toArray, List.set_cons_zero, List.set_cons_succ]
      refine wpAnyS_take 12 [] (v := ?v12) (listed' := #[true, true, true, true, true, true, true, false, true, true, true, true, true, false, false, false, false, false, false, false, false, false, false, false, false, false, false, false]) rfl (by kernel_rfl) (by kernel_rfl) rfl (fun _ _ _ h => h) hS (fun _ hSw => ?hy12) ?rest12
      case hy12 => (try dsimp only at hSw); go_simp; all_goals (with_reducible rfl)
      simp only [Act.put, List.setIfInBounds_toArray, List.set_cons_zero, List.set_cons_succ]
      refine wpAnyS_take 13 [] (v := ?v13) (listed' := #[true, true, true, true, true, true, true, false, true, true, true, true, true, true, false, false, false, false, false, false, false, false, false, false, false, false, false, false]) rfl (by kernel_rfl) (by kernel_rfl) rfl (fun _ _ _ h => h) hS (fun _ hSw => ?hy13) ?rest13
      case hy13 => (try dsimp only at hSw); go_simp; all_goals (with_reducible rfl)
      simp only [Act.put, List.setIfInBounds_toArray, List.set_cons_zero, List.set_cons_succ]
      refine wpAnyS_take 14 [] (v := ?v14) (listed' := #[true, true, true, true, true, true, true, false, true, true, true, true, true, true, true, false, false, false, false, false, false, false, false, false, false, false, false, false]) rfl (by kernel_rfl) (by kernel_rfl) rfl (fun _ _ _ h => h) hS (fun _ hSw => ?hy14) ?rest14
      case hy14 => (try dsimp only at hSw); go_simp; all_goals (with_reducible rfl)
      simp only [Act.put, List.setIfInBounds_toArray, List.set_cons_zero, List.set_cons_succ]
      refine wpAnyS_take 15 [] (v := ?v15) (listed' := #[true, true, true, true, true, true, true, false, true, true, true, true, true, true, true, true, false, false, false, false, false, false, false, false, false, false, false, false]) rfl (by kernel_rfl) (by kernel_rfl) rfl (fun _ _ _ h => h) hS (fun _ hSw => ?hy15) ?rest15
      case hy15 => (try dsimp only at hSw); go_simp; all_goals (with_reducible rfl)
      simp only [Act.put, List.setIfInBounds_toArray, List.set_cons_zero, List.set_cons_succ]
      refine wpAnyS_take 16 [] (v := ?v16) (listed' := #[true, true, true, true, true, true, true, false, true, true, true, true, true, true, true, true, true, false, false, false, false, false, false, false, false, false, false, false]) rfl (by kernel_rfl) (by kernel_rfl) rfl (fun _ _ _ h => h) hS (fun _ hSw => ?hy16) ?rest16
      case hy16 => (try dsimp only at hSw); go_simp; all_goals (with_reducible rfl)
      simp only [Act.put, List.setIfInBounds_toArray, List.set_cons_zero, List.set_cons_succ]
      refine wpAnyS_take 17 [] (v := ?v17) (listed' := #[true, true, true, true, true, true, true, false, true, true, true, true, true, true, true, true, true, true, false, false, false, false, false, false, false, false, false, false]) rfl (by kernel_rfl) (by kernel_rfl) rfl (fun _ _ _ h => h) hS (fun _ hSw => ?hy17) ?rest17
      case hy17 => (try dsimp only at hSw); go_simp; all_goals (with_reducible rfl)
      simp only [Act.put, List.setIfInBounds_toArray, List.set_cons_zero, List.set_cons_succ]
      refine wpAnyS_take 18 [] (v := ?v18) (listed' := #[true, true, true, true, true, true, true, false, true, true, true, true, true, true, true, true, true, true, true, false, false, false, false, false, false, false, false, false]) rfl (by kernel_rfl) (by kernel_rfl) rfl (fun _ _ _ h => h) hS (fun _ hSw => ?hy18) ?rest18
      case hy18 => (try dsimp only at hSw); go_simp; all_goals (with_reducible rfl)
      simp only [Act.put, List.setIfInBounds_toArray, List.set_cons_zero, List.set_cons_succ]
      refine wpAnyS_take 20 [] (v := ?v19) (listed' := #[true, true, true, true, true, true, true, false, true, true, true, true, true, true, true, true, true, true, true, false, true, false, false, false, false, false, false, false]) rfl (by kernel_rfl) (by kernel_rfl) rfl (fun _ _ _ h => h) hS (fun _ hSw => ?hy19) ?rest19
      case hy19 => (try dsimp only at hSw); go_simp; all_goals (with_reducible rfl)
      simp only [Act.put, List.setIfInBounds_toArray, List.set_cons_zero, List.set_cons_succ]
      refine wpAnyS_take 21 [] (v := ?v20) (listed' := #[true, true, true, true, true, true, true, false, true, true, true, true, true, true, true, true, true, true, true, false, true, true, false, false, false, false, false, false]) rfl (by kernel_rfl) (by kernel_rfl) rfl (fun _ _ _ h => h) hS (fun _ hSw => ?hy20) ?rest20
      case hy20 => (try dsimp only at hSw); go_simp; all_goals (with_reducible rfl)
      simp only [Act.put, List.setIfInBounds_toArray, List.set_cons_zero, List.set_cons_succ]
      refine wpAnyS_take 22 [] (v := ?v21) (listed' := #[true, true, true, true, true, true, true, false, true, true, true, true, true, true, true, true, true, true, true, false, true, true, true, false, false, false, false, false]) rfl (by kernel_rfl) (by kernel_rfl) rfl (fun _ _ _ h => h) hS (fun _ hSw => ?hy21) ?rest21
      case hy21 => (try dsimp only at hSw); go_simp; all_goals (with_reducible rfl)
      simp only [Act.put, List.setIfInBounds_toArray, List.set_cons_zero, List.set_cons_succ]
      refine wpAnyS_take 23 [] (v := ?v22) (listed' := #[true, true, true, true, true, true, true, false, true, true, true, true, true, true, true, true, true, true, true, false, true, true, true, true, false, false, false, false]) rfl (by kernel_rfl) (by kernel_rfl) rfl (fun _ _ _ h => h) hS (fun _ hSw => ?hy22) ?rest22
      case hy22 => (try dsimp only at hSw); go_simp; all_goals (with_reducible rfl)
      simp only [Act.put, List.setIfInBounds_toArray, List.set_cons_zero, List.set_cons_succ]
      refine wpAnyS_take 24 [] (v := ?v23) (listed' := #[true, true, true, true, true, true, true, false, true, true, true, true, true, true, true, true, true, true, true, false, true, true, true, true, true, false, false, false]) rfl (by kernel_rfl) (by kernel_rfl) rfl (fun _ _ _ h => h) hS (fun _ hSw => ?hy23) ?rest23
      case hy23 => (try dsimp only at hSw); go_simp; all_goals (with_reducible rfl)
      simp only [Act.put, List.setIfInBounds_toArray, List.set_cons_zero, List.set_cons_succ]
      refine wpAnyS_one 7 (listed' := #[true, true, true, true, true, true, true, true, true, true, true, true, true, true, true, true, true, true, true, false, true, true, true, true, true, false, false, false]) rfl (by kernel_rfl) (by kernel_rfl) (fun K hK => ?_)
      refine step_call (by rfl) 45 _ _ (by rfl) enters_uK #[.int .i64 fn.params.length] (by rfl) (uK_any _ fn.params.length (by omega)) ?_
      rintro r w3 ⟨⟨v3, rfl, h3⟩, k3⟩
      have k3' := ((Kp.refl no wr).drew).trans k3
      refine ⟨_, rfl, hK _ _ (HSk.out _ k3') (fun hS => ?_)⟩
      clear hK K
      simp only [Act.put, List.setIfInBounds_toArray, List.set_cons_zero, List.set_cons_succ]
      refine wpAnyS_one 19 (listed' := #[true, true, true, true, true, true, true, true, true, true, true, true, true, true, true, true, true, true, true, true, true, true, true, true, true, false, false, false]) rfl (by kernel_rfl) (by kernel_rfl) (fun K hK => ?_)
      refine step_call (by rfl) 45 _ _ (by rfl) enters_uK #[.int .i64 fn.results.length] (by rfl) (uK_any _ fn.results.length (by omega)) ?_
      rintro r w4 ⟨⟨v4, rfl, h4⟩, k4⟩
      refine ⟨_, rfl, hK _ _ (HSk.out _ (k3'.trans k4)) (fun hS => ?_)⟩
      clear hK K
      simp only [Act.put, List.setIfInBounds_toArray, List.set_cons_zero, List.set_cons_succ]
      obtain ⟨a3', c3', hv3, -⟩ := h3.at.shape
      obtain ⟨a4', c4', hv4, -⟩ := h4.at.shape
      subst hv3 hv4
      refine wpAnyS_one 25 (listed' := #[true, true, true, true, true, true, true, true, true, true, true, true, true, true, true, true, true, true, true, true, true, true, true, true, true, true, false, false]) rfl (by kernel_rfl) (by kernel_rfl) (fun K hK => ?_)
      go_simp
      refine hK _ _ (HSk.out _ ((k3'.trans k4).alloc _)) (fun hS => ?_)
      clear hK K
      have hj := join_5 (HO.out.at.kq (k3'.trans k4)) (h3.at.kq k4) (HB0.out.kq (k3'.trans k4)) h4.at (HB1.out.kq (k3'.trans k4)) (by have := HLe.out; omega)
      refine wpAnyS_one 26 (listed' := #[true, true, true, true, true, true, true, true, true, true, true, true, true, true, true, true, true, true, true, true, true, true, true, true, true, true, true, false]) rfl (by kernel_rfl) (by kernel_rfl) (fun K hK => ?_)
      refine step_call (by rfl) 18 _ _ (by rfl) enters_joinK _ (by rfl) hj ?_
      rintro r w5 ⟨⟨v5, rfl, h5⟩, k5⟩
      refine ⟨_, rfl, hK _ _ (HSk.out _ ((k3'.trans k4).trans k5)) (fun hS => ?_)⟩
      clear hK K
      simp only [Act.put, List.setIfInBounds_toArray, List.set_cons_zero, List.set_cons_succ]
      have K5 := hide (HK.out.trans ((k3'.trans k4).trans k5))
      have O5 := hide ((h5.newer (w := w) (HK.out.trans (k3'.trans k4)).size).as (m := mA (k + 1)) HSu.out.symm)
      obtain ⟨a5, c5, hv5, -⟩ := O5.out.at.shape
      subst hv5
      clear hj h3 h4 h5 k3 k3' k4 k5
      refine wpAnyS_take 27 [] (v := ?v28) (listed' := #[true, true, true, true, true, true, true, true, true, true, true, true, true, true, true, true, true, true, true, true, true, true, true, true, true, true, true, true]) rfl (by kernel_rfl) (by kernel_rfl) rfl (fun _ _ _ h => h) hS (fun _ hSw => ?hy28) ?rest28
      case hy28 => (try dsimp only at hSw); go_simp; all_goals (with_reducible rfl)
      simp only [Act.put, List.setIfInBounds_toArray, List.set_cons_zero, List.set_cons_succ]
      refine wpAnyS_done (by kernel_rfl) ?_ _
      clear hS
      go_wp2
      go_roundw
      case rel => exact ⟨k + 1, by omega, by go_num, O5.out, K5.out⟩
      case measure => simp [intOf]; omega
    · obtain rfl : k = fs.length := by omega
      clear hkn
      go_wp2_with fail
      refine (uK_any _ fs.length (by omega)).mono ?_
      rintro r w3 ⟨⟨v3, rfl, h3⟩, k3⟩
      obtain ⟨a3, c3, hv3, -⟩ := h3.at.shape
      subst hv3
      have hj := join_2 (HO.out.at.kq k3) h3.at (by have := HB.out 0 (by omega); rw [HB0.out] at this; omega)
      have HJ := hide hj
      have K3 := hide (HK.out.trans k3)
      clear hj h3 k3
      go_wp2_with fail
      refine HJ.out.mono ?_
      rintro r w4 ⟨⟨v4, rfl, h4⟩, k4⟩
      have K4 := hide (K3.out.trans k4)
      have O4 := hide ((h4.newer (w := w) K3.out.size).as (m := mB 0) HB0.out.symm)
      obtain ⟨a4, c4, hv4, -⟩ := O4.out.at.shape
      subst hv4
      clear h4 k4 HJ K3
      go_wp2
      go_loopw [5, 7] (fun ov kv wr => ∃ (k : Nat), k ≤ fs.length ∧ kv = .int .i64 k ∧ NB w wr ov (mB k) ∧ Kp no w wr) (fun _ kv _ => fs.length - (intOf kv).toNat)
      case atStart => exact ⟨0, by omega, rfl, O4.out, K4.out⟩
      case round =>
        clear HO HK
        obtain ⟨k, hk, rfl, hown, hkp⟩ := hrel
        obtain ⟨ao, co, hvo, -⟩ := hown.at.shape
        subst hvo
        have HO := hide hown
        have HK := hide hkp
        clear hown hkp O4 K4
        by_cases hkn : k < fs.length
        · go_wp2_with fail
          refine (uK_any _ k (by omega)).mono ?_
          rintro r w5 ⟨⟨v5, rfl, h5⟩, k5⟩
          obtain ⟨a5, c5, hv5, -⟩ := h5.at.shape
          subst hv5
          have hj := join_2 (HO.out.at.kq k5) h5.at (by have := HB.out (k + 1) (by omega); rw [HBs.out] at this; omega)
          have HJ := hide hj
          have K5 := hide (HK.out.trans k5)
          clear hj h5 k5
          go_wp2_with fail
          refine HJ.out.mono ?_
          rintro r w6 ⟨⟨v6, rfl, h6⟩, k6⟩
          have K6 := hide (K5.out.trans k6)
          have O6 := hide ((h6.newer (w := w) K5.out.size).as (m := mB (k + 1)) (HBs.out k).symm)
          obtain ⟨a6, c6, hv6, -⟩ := O6.out.at.shape
          subst hv6
          clear h6 k6 HJ K5
          go_wp2
          go_roundw
          case rel => exact ⟨k + 1, by omega, by go_num, O6.out, K6.out⟩
          case measure => simp [intOf]; omega
        · obtain rfl : k = fs.length := by omega
          clear hkn
          go_wp2_with fail
          refine (uK_any _ pages (by omega)).mono ?_
          rintro r w5 ⟨⟨v5, rfl, h5⟩, k5⟩
          obtain ⟨a5, c5, hv5, -⟩ := h5.at.shape
          subst hv5
          have k5' := ((Kp.refl no _).alloc _).trans k5
          have hj := join_3 (HO.out.at.kq k5') ((NB.made _ [1, 126, 1, 5] (by simp [maxLen])).at.kq k5) h5.at (by have := HC.out 0; rw [HC0.out] at this; omega)
          have HJ := hide hj
          have K5 := hide (HK.out.trans k5')
          clear hj h5 k5 k5'
          go_wp2_with fail
          refine HJ.out.mono ?_
          rintro r w6 ⟨⟨v6, rfl, h6⟩, k6⟩
          have K6 := hide (K5.out.trans k6)
          have O6 := hide ((h6.newer (w := w) K5.out.size).as (m := mC 0) HC0.out.symm)
          obtain ⟨a6, c6, hv6, -⟩ := O6.out.at.shape
          subst hv6
          clear h6 k6 HJ K5
          go_wp2
          go_loopw [5, 8] (fun ov kv wr => ∃ (k : Nat), k ≤ fs.length ∧ kv = .int .i64 k ∧ NB w wr ov (mC k) ∧ Kp no w wr) (fun _ kv _ => fs.length - (intOf kv).toNat)
          case atStart => exact ⟨0, by omega, rfl, O6.out, K6.out⟩
          case round =>
            clear HO HK
            obtain ⟨k, hk, rfl, hown, hkp⟩ := hrel
            obtain ⟨ao, co, hvo, -⟩ := hown.at.shape
            subst hvo
            have HO := hide hown
            have HK := hide hkp
            clear hown hkp O6 K6
            by_cases hkn : k < fs.length
            · obtain ⟨a, o, cp, a0, c0, a1, c1, a2, c2, a3, c3, he, -, e0, e1, e2, e3, b0, b1, b2, b3⟩ := (H.out.kp HK.out).get hkn
              cases he
              have hsucc := HCs.out k hkn
              have hlen := HC.out (k + 1)
              rw [hsucc] at hlen
              generalize fs.getD k fnS0 = fn at *
              have hbi : bodyIn fn = uB fn.locals.length ++ (fn.locals ++ (fn.code ++ [11])) := by simp [bodyIn]
              generalize bodyIn fn = bi at *
              have hli : bi.length ≤ 1000000 := by simp only [List.length_append] at hlen; omega
              have hll : fn.locals.length ≤ 1000000 := by rw [hbi] at hli; simp only [List.length_append] at hli; omega
              have HBi := hide hbi
              have HSu := hide hsucc
              have HLe := hide hlen
              have HB2 := hide b2
              have HB3 := hide b3
              obtain ⟨S, hSd⟩ : ∃ S : World → Prop, S = fun w' => w'.cell? ⟨a, o + k * 4 + 2, none⟩ = some (.slice a2 fn.locals.length c2) ∧ w'.cell? ⟨a, o + k * 4 + 3, none⟩ = some (.slice a3 fn.code.length c3) := ⟨_, rfl⟩
              have hSk : ∀ W', Kp no wr W' → S W' := fun W' k => by rw [hSd]; exact ⟨k.allCells e2, k.allCells e3⟩
              have HSk := hide hSk
              have HSd := hide hSd
              clear hsucc hlen b0 b1 b2 b3 hSk hSd e0 e1 e2 e3 hbi
              go_wp2_with fail
              refine wp_region_S 21 (S) (by kernel_rfl) (n := 21) (listed := #[false, false, false, false, false, false, false, false, false, false, false, false, false, false, false, false, false, false, false, false, false]) rfl (by kernel_rfl) ?hS (fun hS => ?_)
              case hS => exact HSk.out _ ((Kp.refl _ _).drew)
              have hSd := HSd.out
              subst hSd
              refine wpAnyS_take 0 [] (v := ?v29) (listed' := #[true, false, false, false, false, false, false, false, false, false, false, false, false, false, false, false, false, false, false, false, false]) rfl (by kernel_rfl) (by kernel_rfl) rfl (fun _ _ _ h => h) hS (fun _ hSw => ?hy29) ?rest29
              case hy29 => (try dsimp only at hSw); go_simp; all_goals (with_reducible rfl)
              simp only [Act.put, List.setIfInBounds_toArray, List.set_cons_zero, List.set_cons_succ]
              refine wpAnyS_take 1 [] (v := ?v30) (listed' := #[true, true, false, false, false, false, false, false, false, false, false, false, false, false, false, false, false, false, false, false, false]) rfl (by kernel_rfl) (by kernel_rfl) rfl (fun _ _ _ h => h) hS (fun _ hSw => ?hy30) ?rest30
              case hy30 => (try dsimp only at hSw); go_simp; all_goals (with_reducible rfl)
              simp only [Act.put, List.setIfInBounds_toArray, List.set_cons_zero, List.set_cons_succ]
              refine wpAnyS_take 2 [] (v := ?v31) (listed' := #[true, true, true, false, false, false, false, false, false, false, false, false, false, false, false, false, false, false, false, false, false]) rfl (by kernel_rfl) (by kernel_rfl) rfl (fun _ _ _ h => h) hS (fun _ hSw => ?hy31) ?rest31
              case hy31 => (try dsimp only at hSw); go_simp; all_goals (with_reducible rfl)
              simp only [Act.put, List.setIfInBounds_toArray, List.set_cons_zero, List.set_cons_succ]
              refine wpAnyS_take 3 [] (v := ?v32) (listed' := #[true, true, true, true, false, false, false, false, false, false, false, false, false, false, false, false, false, false, false, false, false]) rfl (by kernel_rfl) (by kernel_rfl) rfl (fun _ _ _ h => h) hS (fun _ hSw => ?hy32) ?rest32
              case hy32 => (try dsimp only at hSw); go_simp; all_goals (with_reducible rfl)
              simp only [Act.put, List.setIfInBounds_toArray, List.set_cons_zero, List.set_cons_succ]
              refine wpAnyS_take 4 [] (v := ?v33) (listed' := #[true, true, true, true, true, false, false, false, false, false, false, false, false, false, false, false, false, false, false, false, false]) rfl (by kernel_rfl) (by kernel_rfl) rfl (fun _ _ _ h => h) hS (fun _ hSw => ?hy33) ?rest33
              case hy33 => (try dsimp only at hSw); go_simp; all_goals (with_reducible rfl)
              simp only [Act.put, List.setIfInBounds_toArray, List.set_cons_zero, List.set_cons_succ]
              refine wpAnyS_take 5 [] (v := ?v34) (listed' := #[true, true, true, true, true, true, false, false, false, false, false, false, false, false, false, false, false, false, false, false, false]) rfl (by kernel_rfl) (by kernel_rfl) rfl (fun _ _ _ h => h) hS (fun _ hSw => ?hy34) ?rest34
              case hy34 => (try dsimp only at hSw); go_simp; all_goals (with_reducible rfl)
              simp only [Act.put, List.setIfInBounds_toArray, List.set_cons_zero, List.set_cons_succ]
              refine wpAnyS_take 7 [] (v := ?v35) (listed' := #[true, true, true, true, true, true, false, true, false, false, false, false, false, false, false, false, false, false, false, false, false]) rfl (by kernel_rfl) (by kernel_rfl) rfl (fun _ _ _ h => h) hS (fun _ hSw => ?hy35) ?rest35
              case hy35 => (try dsimp only at hSw); go_simp; all_goals (with_reducible rfl)
              simp only [Act.put, List.setIfInBounds_toArray, List.set_cons_zero, List.set_cons_succ]
              refine wpAnyS_take 8 [] (v := ?v36) (listed' := #[true, true, true, true, true, true, false, true, true, false, false, false, false, false, false, false, false, false, false, false, false]) rfl (by kernel_rfl) (by kernel_rfl) rfl (fun _ _ _ h => h) hS (fun _ hSw => ?hy36) ?rest36
              case hy36 => (try dsimp only at hSw); go_simp; all_goals (with_reducible rfl)
              simp only [Act.put, List.setIfInBounds_toArray, List.set_cons_zero, List.set_cons_succ]
              refine wpAnyS_take 9 [] (v := ?v37) (listed' := #[true, true, true, true, true, true, false, true, true, true, false, false, false, false, false, false, false, false, false, false, false]) rfl (by kernel_rfl) (by kernel_rfl) rfl (fun _ _ _ h => h) hS (fun _ hSw => ?hy37) ?rest37
              case hy37 => (try dsimp only at hSw); go_simp; all_goals (with_reducible rfl)
              simp only [Act.put, List.setIfInBounds_toArray, List.set_cons_zero, List.set_cons_succ]
              refine wpAnyS_take 10 [] (v := ?v38) (listed' := #[true, true, true, true, true, true, false, true, true, true, true, false, false, false, false, false, false, false, false, false, false]) rfl (by kernel_rfl) (by kernel_rfl) rfl (fun _ _ _ h => h) hS (fun _ hSw => ?hy38) ?rest38
              case hy38 => (try dsimp only at hSw); go_simp; all_goals (with_reducible rfl)
              simp only [Act.put, List.setIfInBounds_toArray, List.set_cons_zero, List.set_cons_succ]
              refine wpAnyS_take 11 [] (v := ?v39) (listed' := #[true, true, true, true, true, true, false, true, true, true, true, true, false, false, false, false, false, false, false, false, false]) rfl (by kernel_rfl) (by kernel_rfl) rfl (fun _ _ _ h => h) hS (fun _ hSw => ?hy39) ?rest39
              case hy39 => (try dsimp only at hSw); go_simp; all_goals (with_reducible rfl)
              simp only [Act.put, List.setIfInBounds_toArray, List.set_cons_zero, List.set_cons_succ]
              refine wpAnyS_take 12 [] (v := ?v40) (listed' := #[true, true, true, true, true, true, false, true, true, true, true, true, true, false, false, false, false, false, false, false, false]) rfl (by kernel_rfl) (by kernel_rfl) rfl (fun _ _ _ h => h) hS (fun _ hSw => ?hy40) ?rest40
              case hy40 => (try dsimp only at hSw); go_simp; all_goals (with_reducible rfl)
              simp only [Act.put, List.setIfInBounds_toArray, List.set_cons_zero, List.set_cons_succ]
              refine wpAnyS_take 13 [] (v := ?v41) (listed' := #[true, true, true, true, true, true, false, true, true, true, true, true, true, true, false, false, false, false, false, false, false]) rfl (by kernel_rfl) (by kernel_rfl) rfl (fun _ _ _ h => h) hS (fun _ hSw => ?hy41) ?rest41
              case hy41 => (try dsimp only at hSw); go_simp; all_goals (with_reducible rfl)
              simp only [Act.put, List.setIfInBounds_toArray, List.set_cons_zero, List.set_cons_succ]
              refine wpAnyS_take 14 [] (v := ?v42) (listed' := #[true, true, true, true, true, true, false, true, true, true, true, true, true, true, true, false, false, false, false, false, false]) rfl (by kernel_rfl) (by kernel_rfl) rfl (fun _ _ _ h => h) hS (fun _ hSw => ?hy42) ?rest42
              case hy42 => (try dsimp only at hSw); go_simp; all_goals (with_reducible rfl)
              simp only [Act.put, List.setIfInBounds_toArray, List.set_cons_zero, List.set_cons_succ]
              refine wpAnyS_take 15 [] (v := ?v43) (listed' := #[true, true, true, true, true, true, false, true, true, true, true, true, true, true, true, true, false, false, false, false, false]) rfl (by kernel_rfl) (by kernel_rfl) rfl (fun _ _ _ h => h) hS (fun _ hSw => ?hy43) ?rest43
              case hy43 => (try dsimp only at hSw); go_simp; all_goals (with_reducible rfl)
              simp only [Act.put, List.setIfInBounds_toArray, List.set_cons_zero, List.set_cons_succ]
              refine wpAnyS_take 16 [] (v := ?v44) (listed' := #[true, true, true, true, true, true, false, true, true, true, true, true, true, true, true, true, true, false, false, false, false]) rfl (by kernel_rfl) (by kernel_rfl) rfl (fun _ _ _ h => h) hS (fun _ hSw => ?hy44) ?rest44
              case hy44 => (try dsimp only at hSw); go_simp; all_goals (with_reducible rfl)
              simp only [Act.put, List.setIfInBounds_toArray, List.set_cons_zero, List.set_cons_succ]
              refine wpAnyS_two 6 17 (l1 := #[true, true, true, true, true, true, true, true, true, true, true, true, true, true, true, true, true, false, false, false, false]) (l2 := #[true, true, true, true, true, true, false, true, true, true, true, true, true, true, true, true, true, true, false, false, false]) rfl rfl (by kernel_rfl) (by kernel_rfl) (by kernel_rfl) (fun K hK => ?twoA) (fun K hK => ?twoB)
              case twoA =>
                refine step_call (by rfl) 45 _ _ (by rfl) enters_uK #[.int .i64 fn.locals.length] (by rfl) (uK_any _ fn.locals.length (by omega)) ?_
                rintro r w3 ⟨⟨v3, rfl, h3⟩, k3⟩
                have k3' := ((Kp.refl no wr).drew).trans k3
                refine ⟨_, rfl, hK _ _ (HSk.out _ k3') (fun hS => ?_)⟩
                clear hK K
                simp only [Act.put, List.setIfInBounds_toArray, List.set_cons_zero, List.set_cons_succ]

                obtain ⟨a3', c3', hv3, -⟩ := h3.at.shape
                subst hv3
                refine wpAnyS_one 17 (listed' := #[true, true, true, true, true, true, true, true, true, true, true, true, true, true, true, true, true, true, false, false, false]) rfl (by kernel_rfl) (by kernel_rfl) (fun K hK => ?_)
                go_simp
                refine hK _ _ (HSk.out _ (k3'.alloc _)) (fun hS => ?_)
                clear hK K
                have hx3 := h3.at.kq ((Kp.refl no w3).alloc (.cells #[.int .u8 11] 5))
                have hx4 := (NB.made w3 [11] (by simp [maxLen])).at
                have kx := k3'.alloc (.cells (bcs [11]).toArray 5)
                clear h3 k3 k3'
                change Kp no wr (w3.alloc (.cells #[.int .u8 11] 5)) at kx
                change BytesAt (w3.alloc (.cells #[.int .u8 11] 5)) _ _ at hx3
                change BytesAt (w3.alloc (.cells #[.int .u8 11] 5)) (.slice (some ⟨w3.heap.size, 0, none⟩) 1 1) _ at hx4
                generalize w3.alloc (.cells #[.int .u8 11] 5) = w4 at *
                refine wpAnyS_one 18 (listed' := #[true, true, true, true, true, true, true, true, true, true, true, true, true, true, true, true, true, true, true, false, false]) rfl (by kernel_rfl) (by kernel_rfl) (fun K hK => ?_)
                go_simp
                refine hK _ _ (HSk.out _ (kx.alloc _)) (fun hS => ?_)
                clear hK K
                have hj := join_4 hx3 (HB2.out.kq kx) (HB3.out.kq kx) hx4 (by rw [← HBi.out]; omega)
                refine wpAnyS_one 19 (listed' := #[true, true, true, true, true, true, true, true, true, true, true, true, true, true, true, true, true, true, true, true, false]) rfl (by kernel_rfl) (by kernel_rfl) (fun K hK => ?_)
                refine step_call (by rfl) 18 _ _ (by rfl) enters_joinK _ (by rfl) hj ?_
                rintro r w5 ⟨⟨v5, rfl, h5⟩, k5⟩
                refine ⟨_, rfl, hK _ _ (HSk.out _ (kx.trans k5)) (fun hS => ?_)⟩
                clear hK K
                simp only [Act.put, List.setIfInBounds_toArray, List.set_cons_zero, List.set_cons_succ]
                have kz := kx.trans k5
                have O5 := (h5.newer (w := w) (HK.out.trans kx).size).as (m := bi) HBi.out.symm
                obtain ⟨a5, c5, hv5, -⟩ := O5.at.shape
                subst hv5
                clear hj h5 k5 kx hx3 hx4
                refine wpAnyS_take 20 [] (v := ?v48) (listed' := #[true, true, true, true, true, true, true, true, true, true, true, true, true, true, true, true, true, true, true, true, true]) rfl (by kernel_rfl) (by kernel_rfl) rfl (fun _ _ _ h => h) hS (fun _ hSw => ?hy48) ?rest48
                case hy48 => (try dsimp only at hSw); go_simp; all_goals (with_reducible rfl)
                simp only [Act.put, List.setIfInBounds_toArray, List.set_cons_zero, List.set_cons_succ]
                refine wpAnyS_done (by kernel_rfl) ?_ _
                clear hS
                have KZ := hide kz
                have OZ := hide O5
                clear kz O5
                go_wp2_with fail
                refine (uK_any _ bi.length (by omega)).mono ?_
                rintro r w6 ⟨⟨v6, rfl, h6⟩, k6⟩
                obtain ⟨a6, c6, hv6, -⟩ := h6.at.shape
                subst hv6
                have hj := join_3 (HO.out.at.kq (KZ.out.trans k6)) h6.at (OZ.out.at.kq k6) (by have := HLe.out; omega)
                have HJ := hide hj
                have K6 := hide (HK.out.trans (KZ.out.trans k6))
                clear hj h6 k6
                go_wp2_with fail
                refine HJ.out.mono ?_
                rintro r w7 ⟨⟨v7, rfl, h7⟩, k7⟩
                have K7 := hide (K6.out.trans k7)
                have O7 := hide ((h7.newer (w := w) K6.out.size).as (m := mC (k + 1)) HSu.out.symm)
                obtain ⟨a7, c7, hv7, -⟩ := O7.out.at.shape
                subst hv7
                clear h7 k7 HJ K6
                go_wp2
                go_roundw
                case rel => exact ⟨k + 1, by omega, by go_num, O7.out, K7.out⟩
                case measure => simp [intOf]; omega
              case twoB =>
                go_simp
                refine hK _ _ (HSk.out _ (((Kp.refl _ _).drew).alloc _)) (fun hS => ?_)
                clear hK K

                have hy4 : BytesAt ((wr.alloc (.cells #[.int .u8 11] 5)).drew) (.slice (some ⟨wr.heap.size, 0, none⟩) 1 1) [11] := (NB.made wr [11] (by simp [maxLen])).at.kq ((Kp.refl no _).drew)
                have ky : Kp no wr ((wr.alloc (.cells #[.int .u8 11] 5)).drew) := ((Kp.refl no wr).alloc _).drew
                generalize (wr.alloc (.cells #[.int .u8 11] 5)).drew = w3 at *
                refine wpAnyS_one 6 (listed' := #[true, true, true, true, true, true, true, true, true, true, true, true, true, true, true, true, true, true, false, false, false]) rfl (by kernel_rfl) (by kernel_rfl) (fun K hK => ?_)
                refine step_call (by rfl) 45 _ _ (by rfl) enters_uK #[.int .i64 fn.locals.length] (by rfl) (uK_any _ fn.locals.length (by omega)) ?_
                rintro r w4 ⟨⟨v3, rfl, h3⟩, k3⟩
                refine ⟨_, rfl, hK _ _ (HSk.out _ (ky.trans k3)) (fun hS => ?_)⟩
                clear hK K
                simp only [Act.put, List.setIfInBounds_toArray, List.set_cons_zero, List.set_cons_succ]
                obtain ⟨a3', c3', hv3, -⟩ := h3.at.shape
                subst hv3
                have hx3 := h3.at
                have hx4 := hy4.kq k3
                have kx := ky.trans k3
                clear h3 k3 hy4 ky
                refine wpAnyS_one 18 (listed' := #[true, true, true, true, true, true, true, true, true, true, true, true, true, true, true, true, true, true, true, false, false]) rfl (by kernel_rfl) (by kernel_rfl) (fun K hK => ?_)
                go_simp
                refine hK _ _ (HSk.out _ (kx.alloc _)) (fun hS => ?_)
                clear hK K
                have hj := join_4 hx3 (HB2.out.kq kx) (HB3.out.kq kx) hx4 (by rw [← HBi.out]; omega)
                refine wpAnyS_one 19 (listed' := #[true, true, true, true, true, true, true, true, true, true, true, true, true, true, true, true, true, true, true, true, false]) rfl (by kernel_rfl) (by kernel_rfl) (fun K hK => ?_)
                refine step_call (by rfl) 18 _ _ (by rfl) enters_joinK _ (by rfl) hj ?_
                rintro r w5 ⟨⟨v5, rfl, h5⟩, k5⟩
                refine ⟨_, rfl, hK _ _ (HSk.out _ (kx.trans k5)) (fun hS => ?_)⟩
                clear hK K
                simp only [Act.put, List.setIfInBounds_toArray, List.set_cons_zero, List.set_cons_succ]
                have kz := kx.trans k5
                have O5 := (h5.newer (w := w) (HK.out.trans kx).size).as (m := bi) HBi.out.symm
                obtain ⟨a5, c5, hv5, -⟩ := O5.at.shape
                subst hv5
                clear hj h5 k5 kx hx3 hx4
                refine wpAnyS_take 20 [] (v := ?v52) (listed' := #[true, true, true, true, true, true, true, true, true, true, true, true, true, true, true, true, true, true, true, true, true]) rfl (by kernel_rfl) (by kernel_rfl) rfl (fun _ _ _ h => h) hS (fun _ hSw => ?hy52) ?rest52
                case hy52 => (try dsimp only at hSw); go_simp; all_goals (with_reducible rfl)
                simp only [Act.put, List.setIfInBounds_toArray, List.set_cons_zero, List.set_cons_succ]
                refine wpAnyS_done (by kernel_rfl) ?_ _
                clear hS
                have KZ := hide kz
                have OZ := hide O5
                clear kz O5
                go_wp2_with fail
                refine (uK_any _ bi.length (by omega)).mono ?_
                rintro r w6 ⟨⟨v6, rfl, h6⟩, k6⟩
                obtain ⟨a6, c6, hv6, -⟩ := h6.at.shape
                subst hv6
                have hj := join_3 (HO.out.at.kq (KZ.out.trans k6)) h6.at (OZ.out.at.kq k6) (by have := HLe.out; omega)
                have HJ := hide hj
                have K6 := hide (HK.out.trans (KZ.out.trans k6))
                clear hj h6 k6
                go_wp2_with fail
                refine HJ.out.mono ?_
                rintro r w7 ⟨⟨v7, rfl, h7⟩, k7⟩
                have K7 := hide (K6.out.trans k7)
                have O7 := hide ((h7.newer (w := w) K6.out.size).as (m := mC (k + 1)) HSu.out.symm)
                obtain ⟨a7, c7, hv7, -⟩ := O7.out.at.shape
                subst hv7
                clear h7 k7 HJ K6
                go_wp2
                go_roundw
                case rel => exact ⟨k + 1, by omega, by go_num, O7.out, K7.out⟩
                case measure => simp [intOf]; omega
            · obtain rfl : k = fs.length := by omega
              go_wp2
              go_ret
              rw [HR.out]
              exact ⟨⟨_, rfl, HO.out⟩, HK.out⟩

end Go.Proofs.YtdeplgkhmebalaaGreatDoor

namespace Go.Proofs.YtdeplgkhmebalaaGreatDoor
open Go.RowKit

def grpGo (D : List UInt8) (start : Int) : Nat → Nat → Except (Int × Int) Nat
  | 0, _ => .error (2, start)
  | r + 1, i => if i < D.length then (if (D.getD i 0).toNat < 128 then .ok (i + 1) else grpGo D start r (i + 1)) else .error (2, i)
def groupsM (D : List UInt8) (most i : Nat) : Except (Int × Int) (List UInt8 × Nat) :=
  match grpGo D i most i with
  | .ok j => .ok ((D.take j).drop i, j)
  | .error e => .error e

theorem BytesAt.mid {w : World} {a o len cap : Nat} {l : List UInt8} (h : BytesAt w (.slice (some ⟨a, o, none⟩) len cap) l) (i j : Nat) (hij : i ≤ j) (hj : j ≤ l.length) : BytesAt w (.slice (some ⟨a, o + i, none⟩) (j - i) (cap - i)) ((l.take j).drop i) := by
  rcases h.cases with ⟨hv, -⟩ | ⟨a', o', cap', hv, hc, hcell⟩
  · cases hv
  · cases hv
    have hlen : ((l.take j).drop i).length = j - i := by simp; omega
    have := BytesAt.mk (w := w) (a := a) (o := o + i) (cap := cap - i) (l := (l.take j).drop i) (by omega) (fun k hk => by
      rw [Nat.add_assoc, hcell (i + k) (by omega)]
      simp only [List.getD, List.getElem?_drop, List.getElem?_take, if_pos (show i + k < j by omega)])
    rwa [hlen] at this

def Sub (v dv : Value) : Prop := ∀ b, v.ownBlock = some b → dv.ownBlock = some b

set_option maxRecDepth 100000 in
set_option maxHeartbeats 1000000 in
theorem groups_any {w : World} {rb : Nat} {dv : Value} {D : List UInt8} {i : Nat} (h : RSt w rb dv D i) (most : Nat) (hm : most ≤ 10) :
    Calls Tryz.prog 141 #[ptrTo rb, .int .i64 most] w fun r w' => Gives w w' rb dv D (fun l v => BytesAt w' v l ∧ Sub v dv) (.slice none 0 0) (groupsM D most i) r ∧ Kp (one rb) w w' := by
  have hM : groupsM D most i = (match grpGo D i most i with | .ok j => .ok ((D.take j).drop i, j) | .error e => .error e) := rfl
  generalize groupsM D most i = R at *
  obtain ⟨hc, -⟩ := cells_of h.blk
  have hl := h.len
  have hle := h.le
  have H := hide h
  have HM := hide hM
  clear h hM
  go_enter Tryz.func141, Tryz.ntmps141
  go_wp2
  go_loopw [14] (fun kv wr => ∃ (k j : Nat), k ≤ most ∧ kv = .int .i64 k ∧ i ≤ j ∧ RSt wr rb dv D j ∧ Kp (one rb) w wr ∧ grpGo D i (most - k) j = grpGo D i most i) (fun kv _ => most - (intOf kv).toNat)
  case atStart => exact ⟨0, i, by omega, rfl, Nat.le_refl _, H.out, Kp.refl _ _, rfl⟩
  case round =>
    obtain ⟨k, j, hk, rfl, hij, hst, hkp, hg⟩ := hrel
    have HS := hide hst
    have HK := hide hkp
    have HG := hide hg
    clear hst hkp hg hc
    by_cases hkm : k < most
    · have hg := HG.out
      obtain ⟨q, hq⟩ : ∃ q, most - k = q + 1 := ⟨most - k - 1, by omega⟩
      rw [hq, grpGo] at hg
      have Hq := hide hq
      clear hq
      by_cases hj : j < D.length
      · rw [if_pos hj] at hg
        have hbl := D.getD j 0 |>.toNat_lt
        have hb := byte_ok HS.out hj
        generalize D.getD j 0 = c at *
        have Hb := hide hb
        clear hb
        by_cases hc128 : c.toNat < 128
        · rw [if_pos hc128] at hg
          have HG1 := hide hg
          clear hg
          go_wp2_with fail
          refine Hb.out.mono ?_
          rintro e w1 ⟨rfl, h1, k1⟩
          have H1 := hide h1
          obtain ⟨hc1, hf1⟩ := cells_of h1.blk
          rcases h1.bytes.cases with ⟨-, hnil⟩ | ⟨a, o, cap, rfl, hcap, -⟩
          · rw [hnil] at hj; simp at hj
          · clear h1
            by_cases hcap2 : cap = i
            · omega
            · have hij1 : i ≤ j + 1 := by omega
              go_wp2
              go_quiet (fail)
              go_wp2
              go_ret2
              rw [HM.out, ← HG1.out]
              have H2 : ∀ n, RSt (w1.drewN n) rb (.slice (some ⟨a, o, none⟩) D.length cap) D (j + 1) := fun n => H1.out.kp ((Kp.refl no w1).drewN n) (fun h => h) (fun _ _ _ h => h)
              refine ⟨⟨.slice (some ⟨a, o + i, none⟩) (j + 1 - i) (cap - i), rfl, ⟨(H2 _).bytes.mid i (j + 1) (by omega) (by omega), fun b hb => hb⟩, H2 _⟩, (HK.out.trans k1).drewN _⟩
        · rw [if_neg hc128] at hg
          have HG1 := hide hg
          clear hg
          go_wp2_with fail
          refine Hb.out.mono ?_
          rintro e w1 ⟨rfl, h1, k1⟩
          have H1 := hide h1
          clear h1
          go_wp2
          go_roundw
          case rel => exact ⟨k + 1, j + 1, by omega, by go_num, by omega, H1.out, HK.out.trans k1, by rw [show most - (k + 1) = q by have := Hq.out; omega]; exact HG1.out⟩
          case measure => simp [intOf]; omega
      · rw [if_neg hj] at hg
        have HG1 := hide hg
        clear hg
        go_wp2_with fail
        refine (byte_end HS.out hj).mono ?_
        rintro e w1 ⟨⟨fv, rfl, hf, h1⟩, k1⟩
        obtain ⟨fb, rfl, hfb, hfo⟩ := hf
        have H1 := hide h1
        have HF := hide hfo
        clear h1 hfo
        go_wp2
        go_ret2
        rw [HM.out, ← HG1.out]
        exact ⟨⟨ptrTo fb, j, rfl, ⟨fb, rfl, by have := HK.out.size; omega, HF.out⟩, H1.out⟩, HK.out.trans k1⟩
    · have hg := HG.out
      rw [show most - k = 0 by omega, grpGo] at hg
      have HG1 := hide hg
      clear hg
      go_wp2_with fail
      refine (form_any _ _).mono ?_
      rintro e w1 ⟨rfl, rfl⟩
      go_wp2
      go_ret2
      rw [HM.out, ← HG1.out]
      exact ⟨⟨ptrTo wr.heap.size, j, rfl, ⟨wr.heap.size, rfl, HK.out.size, heap_alloc_new _ _⟩, HS.out.kp ((Kp.refl no wr).alloc _) (fun h => h) (fun _ _ _ h => h)⟩, HK.out.alloc _⟩

end Go.Proofs.YtdeplgkhmebalaaGreatDoor

namespace Go.Proofs.YtdeplgkhmebalaaGreatDoor
open Go.RowKit

def joinTo (l : List UInt8) : Nat → Nat
  | 0 => 0
  | k + 1 => joinTo l k ||| ((l.getD k 0).toNat % 128) * 2 ^ (7 * k) % 18446744073709551616

set_option maxRecDepth 100000 in
theorem andNot_all : ∀ x : Fin 256, Go.bits BinOp.andNot IntKind.u8 (x.val : Int) 128 = ((x.val % 128 : Nat) : Int) := by decide +kernel
theorem andNot_at (x : UInt8) : Go.bits BinOp.andNot IntKind.u8 (x.toNat : Int) 128 = ((x.toNat % 128 : Nat) : Int) := andNot_all ⟨x.toNat, x.toNat_lt⟩
theorem wrap_nat (a : Nat) : IntKind.u64.wrap (a : Int) = ((a % 18446744073709551616 : Nat) : Int) := by
  have h : IntKind.u64.wrap (a : Int) = (a : Int) % 18446744073709551616 := by simp [IntKind.wrap, IntKind.signed, IntKind.bits]
  rw [h]; omega
theorem join_lt (l : List UInt8) (k : Nat) : joinTo l k < 18446744073709551616 := by
  induction k with
  | zero => simp [joinTo]
  | succ k ih =>
    rw [joinTo]
    have h := Nat.or_lt_two_pow (x := joinTo l k) (y := ((l.getD k 0).toNat % 128) * 2 ^ (7 * k) % 18446744073709551616) (n := 64) ih (Nat.mod_lt _ (by decide))
    exact h
theorem join_step (x : UInt8) (n k : Nat) (hn : n < 18446744073709551616) : Go.bits BinOp.or IntKind.u64 (n : Int) (IntKind.u64.wrap (IntKind.u64.wrap (Go.bits BinOp.andNot IntKind.u8 (x.toNat : Int) 128) * 2 ^ (7 * k))) = ((n ||| (x.toNat % 128) * 2 ^ (7 * k) % 18446744073709551616 : Nat) : Int) := by
  rw [andNot_at, wrap_nat, Nat.mod_eq_of_lt (show x.toNat % 128 < 18446744073709551616 by omega)]
  have e : (((x.toNat % 128 : Nat) : Int) * 2 ^ (7 * k)) = (((x.toNat % 128) * 2 ^ (7 * k) : Nat) : Int) := by simp
  rw [e, wrap_nat, bits_or_u64_nat _ _ hn (Nat.mod_lt _ (by decide))]

set_option maxRecDepth 100000 in
set_option maxHeartbeats 1000000 in
theorem join_any {w : World} {v : Value} {l : List UInt8} (h : BytesAt w v l) (hl : l.length ≤ 10) :
    Calls Tryz.prog 142 #[v] w fun r w' => r = .returned (.int .u64 (joinTo l l.length)) ∧ w' = w := by
  obtain ⟨ad, cap, hv, hcap⟩ := h.shape
  have H := hide h
  subst hv
  clear h
  go_enter Tryz.func142, Tryz.ntmps142
  go_wp2
  go_loop [3, 8] (fun n i => ∃ k : Nat, k ≤ l.length ∧ i = .int .i64 k ∧ n = .int .u64 (joinTo l k)) (fun _ i => l.length - (intOf i).toNat)
  case atStart => exact ⟨0, Nat.zero_le _, rfl, rfl⟩
  case round =>
    obtain ⟨k, hk, rfl, rfl⟩ := hrel
    by_cases hlt : k < l.length
    · obtain ⟨a, o, cap', hv, _, hcell⟩ := BytesAt.get H.out hlt
      simp only [Value.slice.injEq] at hv
      obtain ⟨rfl, -, rfl⟩ := hv
      generalize hx : l.getD k 0 = x at *
      generalize hn : joinTo l k = n at *
      have HX := hide hx
      have HN := hide hn
      clear hx hn
      go_wp2
      go_round
      case rel => exact ⟨k + 1, by omega, by go_num, by rw [join_step x n k (by rw [← HN.out]; exact join_lt l k), joinTo, HN.out, HX.out]⟩
      case measure => simp [intOf]; omega
    · go_wp2
      go_ret
      obtain rfl : k = l.length := by omega
      exact ⟨rfl, rfl⟩

def paddedM (l : List UInt8) : Bool := decide (1 < l.length) && (l.getD (l.length - 1) 0 == 0)

theorem u8_eq0 (x : UInt8) : ((x.toNat : Int) == 0) = (x == 0) := by
  rw [Bool.eq_iff_iff]; simp [← UInt8.toNat_inj]

set_option maxHeartbeats 400000 in
theorem padded_any {w : World} {v : Value} {l : List UInt8} (h : BytesAt w v l) (hl : l.length ≤ 10) :
    Calls Tryz.prog 143 #[v] w fun r w' => r = .returned (.bool (paddedM l)) ∧ w' = w := by
  obtain ⟨ad, cap, hv, hcap⟩ := h.shape
  have H := hide h
  subst hv
  clear h
  by_cases h1 : 1 < l.length
  · obtain ⟨a, o, cap', hv, _, hcell⟩ := BytesAt.get H.out (show l.length - 1 < l.length by omega)
    simp only [Value.slice.injEq] at hv
    obtain ⟨rfl, -, rfl⟩ := hv
    have hM : paddedM l = (l.getD (l.length - 1) 0 == 0) := by simp [paddedM, h1]
    generalize l.getD (l.length - 1) 0 = x at *
    have HM := hide hM
    have hq := u8_eq0 x
    clear hM
    go_enter Tryz.func143, Tryz.ntmps143
    go_wp2
    go_ret
    exact ⟨by rw [HM.out]; rfl, rfl⟩
  · have hM : paddedM l = false := by simp [paddedM, h1]
    have HM := hide hM
    clear hM
    go_enter Tryz.func143, Tryz.ntmps143
    go_wp2
    go_ret
    exact ⟨by rw [HM.out]; rfl, rfl⟩

end Go.Proofs.YtdeplgkhmebalaaGreatDoor

namespace Go.Proofs.YtdeplgkhmebalaaGreatDoor
open Go.RowKit

theorem grpGo_range {D : List UInt8} {s : Int} (r : Nat) : ∀ (i j : Nat), grpGo D s r i = .ok j → i < j ∧ j ≤ i + r ∧ j ≤ D.length := by
  induction r with
  | zero => intro i j h; cases h
  | succ r ih =>
    intro i j h
    rw [grpGo] at h
    split at h
    · split at h
      · cases h; omega
      · have := ih _ _ h; omega
    · cases h
theorem groups_range {D : List UInt8} {m i : Nat} {g : List UInt8} {j : Nat} (h : groupsM D m i = .ok (g, j)) : i < j ∧ j ≤ i + m ∧ j ≤ D.length ∧ g.length = j - i := by
  unfold groupsM at h
  split at h
  · rename_i j' hj
    cases h
    have := grpGo_range _ _ _ hj
    refine ⟨this.1, this.2.1, this.2.2, by simp; omega⟩
  · cases h

def UM (D : List UInt8) (i : Nat) : Except (Int × Int) (Nat × Nat) :=
  match groupsM D 5 i with
  | .error e => .error e
  | .ok (g, j) => if 4294967295 < joinTo g g.length ∨ paddedM g = true then .error (2, i) else .ok (joinTo g g.length, j)

set_option maxRecDepth 100000 in
set_option maxHeartbeats 1000000 in
theorem U_any {w : World} {rb : Nat} {dv : Value} {D : List UInt8} {i : Nat} (h : RSt w rb dv D i) :
    Calls Tryz.prog 109 #[ptrTo rb] w fun r w' => Gives w w' rb dv D (fun (n : Nat) v => v = .int .u32 n) (.int .u32 0) (UM D i) r ∧ Kp (one rb) w w' := by
  have hM : UM D i = (match groupsM D 5 i with | .error e => .error e | .ok (g, j) => if 4294967295 < joinTo g g.length ∨ paddedM g = true then .error (2, i) else .ok (joinTo g g.length, j)) := rfl
  generalize UM D i = R at *
  have hg := groups_any h 5 (by decide)
  have hrg := fun g j => groups_range (D := D) (m := 5) (i := i) (g := g) (j := j)
  obtain ⟨hc, -⟩ := cells_of h.blk
  generalize groupsM D 5 i = Q at *
  have Hg := hide hg
  clear hg h
  match Q, hM, Hg, hrg with
  | .error e, hM, Hg, _ =>
    have HM := hide hM
    clear hM
    go_enter Tryz.func109, Tryz.ntmps109
    go_wp2_with fail
    refine Hg.out.mono ?_
    rintro r w1 ⟨⟨fv, j, rfl, ⟨fb, rfl, hfb, hfo⟩, h1⟩, k1⟩
    have H1 := hide h1
    have HF := hide hfo
    clear h1 hfo
    go_wp2
    go_ret2
    rw [HM.out]
    exact ⟨⟨ptrTo fb, j, rfl, ⟨fb, rfl, hfb, HF.out⟩, H1.out⟩, k1⟩
  | .ok (g, j), hM, Hg, hrg =>
    have hgl : g.length ≤ 10 := by have := hrg g j rfl; omega
    have HM := hide hM
    clear hM hrg
    go_enter Tryz.func109, Tryz.ntmps109
    go_wp2_with fail
    refine Hg.out.mono ?_
    rintro r w1 ⟨⟨v, rfl, ⟨hb, hsub⟩, h1⟩, k1⟩
    obtain ⟨ad, cap, rfl, _⟩ := hb.shape
    have H1 := hide h1
    have HB := hide hb
    have HSub := hide hsub
    clear h1 hb hsub
    go_wp2_with fail
    refine (join_any HB.out hgl).mono ?_
    rintro r w2 ⟨rfl, rfl⟩
    have hjl := join_lt g g.length
    have hM := HM.out
    generalize joinTo g g.length = n at *
    by_cases hn : 4294967295 < n
    · rw [if_pos (.inl hn)] at hM
      have HM1 := hide hM
      clear hM
      go_wp2_with fail
      refine (form_any _ _).mono ?_
      rintro r w3 ⟨rfl, rfl⟩
      go_wp2
      go_ret2
      rw [HM1.out]
      exact ⟨⟨ptrTo w2.heap.size, j, rfl, ⟨w2.heap.size, rfl, k1.size, heap_alloc_new _ _⟩, H1.out.kp ((Kp.refl no w2).alloc _) (fun h => h) (fun _ _ _ h => h)⟩, k1.alloc _⟩
    · go_wp2_with fail
      refine (padded_any HB.out hgl).mono ?_
      rintro r w3 ⟨rfl, rfl⟩
      generalize paddedM g = pd at *
      cases pd
      · rw [if_neg (by simp [hn])] at hM
        have HM1 := hide hM
        clear hM
        go_wp2
        go_ret2
        rw [HM1.out]
        exact ⟨⟨_, rfl, rfl, H1.out⟩, k1⟩
      · rw [if_pos (by simp)] at hM
        have HM1 := hide hM
        clear hM
        go_wp2_with fail
        refine (form_any _ _).mono ?_
        rintro r w4 ⟨rfl, rfl⟩
        go_wp2
        go_ret2
        rw [HM1.out]
        exact ⟨⟨ptrTo w3.heap.size, j, rfl, ⟨w3.heap.size, rfl, k1.size, heap_alloc_new _ _⟩, H1.out.kp ((Kp.refl no w3).alloc _) (fun h => h) (fun _ _ _ h => h)⟩, k1.alloc _⟩

end Go.Proofs.YtdeplgkhmebalaaGreatDoor
