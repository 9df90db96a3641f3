/- A call of an instance's function. -/
import Derived.Test.YtdeplgkhmebalaaGreatDoorP29
import Derived.Test.YtdeplgkhmebalaaGreatDoorP30
import Derived.Test.YtdeplgkhmebalaaGreatDoorP01

namespace Go.Proofs.YtdeplgkhmebalaaGreatDoor
open Go.RowKit Go.MuLone
abbrev ibtb (ib tb : Nat) : Nat → Prop := fun b => b = ib ∨ b = tb
theorem InstAt.neI {w : World} {ro : Nat → Prop} {ib tb mb : Nat} {mv gv : Value} {f : Flat} {mem : List UInt8} {gl : List Int} {p : Option Nat} {keys : List (Int × Int)} (h : InstAt w ro ib tb mb mv gv f mem gl) (hs : StoreAt w tb p keys) : ib ≠ tb := by
  intro e
  have h1 := h.blk
  rw [e, hs.blk] at h1
  simp at h1
theorem KeysAt.ne {w : World} {b k : Nat} {m : List (Int × Int)} {cs : Array Value} {t : TypeId} (h : KeysAt w b m) (hk : w.heap[k]? = some (.cells cs t)) : b ≠ k := by
  obtain ⟨D, n, ⟨es, clock, hb, -⟩, -⟩ := h
  intro e
  rw [e, hk] at hb
  cases hb
theorem MapAt.ne {w : World} {p : Option Nat} {k : Nat} {m : List (Int × Int)} {cs : Array Value} {t : TypeId} (h : MapAt w p m) (hk : w.heap[k]? = some (.cells cs t)) : ∀ b, p = some b → b ≠ k := by
  rcases h with ⟨rfl, rfl⟩ | ⟨b, rfl, h⟩
  · intro b hb; cases hb
  · intro b' hb; cases hb; exact h.ne hk
theorem InstAt.kp {w w' : World} {ro : Nat → Prop} {ib tb mb : Nat} {mv gv : Value} {f : Flat} {mem : List UInt8} {gl : List Int} {S : Nat → Prop} (h : InstAt w ro ib tb mb mv gv f mem gl) (k : Kp S w w') (h1 : ¬ S ib) (h2 : ∀ b, ro b → ¬ S b) (h3 : ∀ b, mv.ownBlock = some b → ¬ S b) (h4 : ∀ b, gv.ownBlock = some b → ¬ S b) : InstAt w' ro ib tb mb mv gv f mem gl :=
  ⟨k.blk h.blk h1, h.mod.kp (k.mono (fun b _ hs hr => h2 b hr hs)), RowAt.kp h.memR k h3, RowAt.kp h.glR k h4, h.mn, h.gn, fun b hb => ⟨Nat.lt_of_lt_of_le (h.roI b hb).1 k.size, (h.roI b hb).2⟩, h.mvI, h.gvI⟩
abbrev rep0 : Obj := .cells #[.int .i64 0, .int .i64 0, .int .u64 0, .int .i64 0] 51
structure Locked (w w1 : World) (ro : Nat → Prop) (ib tb mb : Nat) (mv gv av : Value) (f : Flat) (mem : List UInt8) (gl args : List Int) (p : Option Nat) (keys : List (Int × Int)) : Prop where
  kp : Kp (one tb) w w1
  inst : InstAt w1 ro ib tb mb mv gv f mem gl
  sto : w1.heap[tb]? = some (.cells #[.int .i32 1, .int .u32 0, .map p] 110)
  map : MapAt w1 p keys
  rep : w1.heap[w.heap.size]? = some rep0
  vals : ValsAt w1 av args
theorem Locked.of {w : World} {ro : Nat → Prop} {ib tb mb : Nat} {mv gv av : Value} {f : Flat} {mem : List UInt8} {gl args : List Int} {p : Option Nat} {keys : List (Int × Int)} (h : InstAt w ro ib tb mb mv gv f mem gl) (hs : StoreAt w tb p keys) (ha : ValsAt w av args) (hav : ∀ b, av.ownBlock = some b → b ≠ ib ∧ b ≠ tb) :
    Locked w ((w.alloc rep0).setCell ⟨tb, 0, none⟩ (.int .i32 1)) ro ib tb mb mv gv av f mem gl args p keys := by
  have hne := h.neI hs
  have k : Kp (one tb) w ((w.alloc rep0).setCell ⟨tb, 0, none⟩ (.int .i32 1)) := ((Kp.refl _ w).alloc _).set1 0 _
  refine ⟨k, h.kp k hne (fun b hb => (h.roI b hb).2.2) (fun b hb => (h.mvI b hb).2) (fun b hb => (h.gvI b hb).2), heap_setCell (heap_alloc_old hs.blk) _, hs.map.kp k (hs.map.ne hs.blk), heap_setCell_ne (by have := lt_of_blk hs.blk; omega) _ (heap_alloc_new w _), RowAt.kp ha k (fun b hb => (hav b hb).2)⟩
theorem Locked.back {w w1 w3 : World} {ro : Nat → Prop} {ib tb mb : Nat} {mv gv av : Value} {f : Flat} {mem : List UInt8} {gl args : List Int} {p : Option Nat} {keys : List (Int × Int)} (hI : InstAt w ro ib tb mb mv gv f mem gl) (hS : StoreAt w tb p keys) (h : Locked w w1 ro ib tb mb mv gv av f mem gl args p keys) (k : Kp (fun b => w.heap.size ≤ b) w1 w3) :
    InstAt (w3.setCell ⟨tb, 0, none⟩ (.int .i32 0)) ro ib tb mb mv gv f mem gl ∧ StoreAt (w3.setCell ⟨tb, 0, none⟩ (.int .i32 0)) tb p keys ∧ Kp (ibtb ib tb) w (w3.setCell ⟨tb, 0, none⟩ (.int .i32 0)) := by
  have htl := lt_of_blk hS.blk
  have hne := hI.neI hS
  have k3 : Kp (one tb) w w3 := h.kp.comp k (fun b _ hb => hb) (fun b hb1 hb => absurd hb (by omega))
  have k4 : Kp (one tb) w (w3.setCell ⟨tb, 0, none⟩ (.int .i32 0)) := k3.set1 0 _
  have hst : w3.heap[tb]? = some (.cells #[.int .i32 1, .int .u32 0, .map p] 110) := k.blk h.sto (by omega)
  exact ⟨hI.kp k4 hne (fun b hb => (hI.roI b hb).2.2) (fun b hb => (hI.mvI b hb).2) (fun b hb => (hI.gvI b hb).2), ⟨heap_setCell hst _, hS.map.kp k4 (hS.map.ne hS.blk), hS.few⟩, k4.mono (fun b _ hb => .inr hb)⟩
end Go.Proofs.YtdeplgkhmebalaaGreatDoor
