/- An instance and its store; what a call may change, copied. -/
import Derived.Test.YtdeplgkhmebalaaGreatDoorP14
import Derived.Test.YtdeplgkhmebalaaGreatDoorP17
import Derived.Test.YtdeplgkhmebalaaGreatDoorP01
import Derived.Shelf.Lay
import Derived.Shelf.SlMaps.Copy
import Derived.Carry
import Derived.Test.YtdeplgkhmebalaaGreatDoorP19
import Derived.Laws.OwnMore
import Derived.Test.YtdeplgkhmebalaaGreatDoorProg
import Derived.Conc.RwLib
import Derived.Conc.MuLone
import Derived.KernelRfl
import Derived.Test.YtdeplgkhmebalaaGreatDoorP15
import Derived.Test.YtdeplgkhmebalaaGreatDoorRows
import Derived.WalkKit
import Derived.ProofKit
import Derived.OpenShut
import Derived.MakeChecks
import Derived.Deep.DeepHandedRow
import Derived.Lay
import Derived.LaidMore
import Derived.Stop.Joined

namespace Go.Proofs.YtdeplgkhmebalaaGreatDoor
open Go.RowKit Go.Shelf
open Go.Maps (Keyed Merged)
shelf_lay_g SlLaysX.n5 Slmp 5 at Tryz 70 as copyLay

noncomputable abbrev kR : Value → Option (DataW Unit × List MemPlace) := plainElem Tryz.prog 2

theorem atKey_none {D : DataW Unit} {k : Lit} {z : DataW Unit} (h : Maps.has D k = false) : D.atKey k z = z := by
  cases D with
  | map es =>
    rw [Maps.has_eq] at h
    have : es.find? (fun p => p.1.sameKey k) = none := List.find?_eq_none.2 (fun p hp => by have := List.any_eq_false.1 h p hp; simpa using this)
    unfold DataW.atKey
    simp only [this]
  | _ => rfl
theorem merge_self {w : World} {b n : Nat} {D : DataW Unit} (h : w.ownsMap Tryz.prog 2 kR b n D) : Lib.mergeD (.map []) D = D := by
  have hM : Merged D (.map []) D (fun _ => false) := by
    refine ⟨fun k => by simp [Maps.has], fun k z => ?_⟩
    by_cases hk : Maps.has D k = true
    · simp [hk]
    · have hk' : Maps.has D k = false := by simpa using hk
      rw [atKey_none hk']
      simp [hk']
      rfl
  exact (Maps.merged_eq keyed64.one hM (fun _ => rfl) (h.canon keyed64) ((World.ownsMap_made w Tryz.prog 2 kR).canonK keyed64) (h.canonK keyed64)).symm

/-- A store's map: none yet, or one. -/
def MapAt (w : World) (p : Option Nat) (m : List (Int × Int)) : Prop := (p = none ∧ m = []) ∨ ∃ b, p = some b ∧ KeysAt w b m
structure StoreAt (w : World) (tb : Nat) (p : Option Nat) (m : List (Int × Int)) : Prop where
  blk : w.heap[tb]? = some (.cells #[.int .i32 0, .int .u32 0, .map p] 110)
  map : MapAt w p m
  few : m.length ≤ 1000
abbrev instObj (tb mb : Nat) (mv gv : Value) : Obj := .cells #[ptrTo tb, ptrTo mb, mv, gv] 112
structure InstAt (w : World) (ro : Nat → Prop) (ib tb mb : Nat) (mv gv : Value) (f : Flat) (mem : List UInt8) (gl : List Int) : Prop where
  blk : w.heap[ib]? = some (instObj tb mb mv gv)
  mod : ModAt w ro mb 123 f
  memR : RowAt w mv 1 mem.length (byteCells' mem)
  glR : RowAt w gv 1 gl.length (valCells gl)
  mn : mem.length ≤ 1000000
  gn : gl.length ≤ 1000000
  roI : ∀ b, ro b → b < w.heap.size ∧ b ≠ ib ∧ b ≠ tb
  mvI : ∀ b, mv.ownBlock = some b → b ≠ ib ∧ b ≠ tb
  gvI : ∀ b, gv.ownBlock = some b → b ≠ ib ∧ b ≠ tb

theorem MapAt.kp {S : Nat → Prop} {w w' : World} {p : Option Nat} {m : List (Int × Int)} (h : MapAt w p m) (k : Kp S w w') (hs : ∀ b, p = some b → ¬ S b) : MapAt w' p m := by
  rcases h with ⟨rfl, rfl⟩ | ⟨b, rfl, h⟩
  · exact .inl ⟨rfl, rfl⟩
  · exact .inr ⟨b, rfl, h.kp k (hs b rfl)⟩
theorem MapAt.src {w : World} {p : Option Nat} {m : List (Int × Int)} (h : MapAt w p m) (hm : m.length ≤ 1000) : ∃ D : DataW Unit, SrcOf Tryz.prog 2 kR w p D ∧ KRep (Lib.mergeD (.map []) D) m ∧ Maps.size D ≤ 1000 := by
  rcases h with ⟨rfl, rfl⟩ | ⟨b, rfl, D, n, h1, h2, h3⟩
  · refine ⟨.nil, .inl ⟨rfl, rfl⟩, ⟨rfl, fun k => ⟨rfl, rfl⟩⟩, by simp [Maps.size]⟩
  · refine ⟨D, .inr ⟨b, n, rfl, h1⟩, ?_, ?_⟩
    · rw [merge_self h1]; exact h3
    · rw [h3.1]; exact hm
theorem MapAt.lt {w : World} {p : Option Nat} {m : List (Int × Int)} (h : MapAt w p m) : ∀ b, p = some b → b < w.heap.size := by
  rcases h with ⟨rfl, rfl⟩ | ⟨b, rfl, h⟩
  · intro b hb; cases hb
  · intro b' hb; cases hb; exact h.lt

theorem bytes'_oneCell (l : List UInt8) : ∀ u ∈ byteCells' l, u.oneCell' = true := bytes_oneCell l
theorem enters_freshB : ∀ args w, (callFunc 53 args).run Tryz.prog w = .ok (.enter 53 args) w := enters_of Tryz.func53 (by kernel_rfl) rfl
theorem enters_freshV : ∀ args w, (callFunc 52 args).run Tryz.prog w = .ok (.enter 52 args) w := enters_of Tryz.func52 (by kernel_rfl) rfl

structure StateAt (w w' : World) (sb : Nat) (mem : List UInt8) (gl : List Int) (keys : List (Int × Int)) (kb gm gg : Nat) : Prop where
  blk : w'.heap[sb]? = some (.cells #[.slice (some ⟨gm, 0, none⟩) mem.length mem.length, .slice (some ⟨gg, 0, none⟩) gl.length gl.length, .map (some kb)] 125)
  memR : w'.ownsRow w.heap.size 5 1 (.slice (some ⟨gm, 0, none⟩) mem.length mem.length) mem.length (byteCells' mem)
  glR : w'.ownsRow w.heap.size 38 1 (.slice (some ⟨gg, 0, none⟩) gl.length gl.length) gl.length (valCells gl)
  keys : KeysAt w' kb keys
  o1 : w.heap.size ≤ kb
  o2 : kb < gm
  o3 : gm < gg
  o4 : gg < sb

theorem own_le {w : World} {base base' size n : Nat} {e : TypeId} {v : Value} {xs : List Value} (h : w.ownsRow base e size v n xs) (hb : base' ≤ base) : w.ownsRow base' e size v n xs :=
  ⟨h.1, h.2.elim Or.inl (fun ⟨g, cap, cur, hv, hg, r⟩ => Or.inr ⟨g, cap, cur, hv, Nat.le_trans hb hg, r⟩)⟩

set_option maxRecDepth 100000 in
set_option maxHeartbeats 2000000 in
theorem state_any {w : World} {ro : Nat → Prop} {ib tb mb : Nat} {mv gv : Value} {f : Flat} {mem : List UInt8} {gl : List Int} {p : Option Nat} {keys : List (Int × Int)} (h : InstAt w ro ib tb mb mv gv f mem gl) (hc : w.cell? ⟨tb, 2, none⟩ = some (.map p)) (hmap : MapAt w p keys) (hf : keys.length ≤ 1000) :
    Calls Tryz.prog 50 #[ptrTo ib] w fun r w' => (∃ sb kb gm gg, r = .returned (ptrTo sb) ∧ StateAt w w' sb mem gl keys kb gm gg) ∧ Kp no w w' := by
  obtain ⟨D, hsrc, hrep, hsz⟩ := hmap.src hf
  have hmm := @run_makeMap Tryz.prog
  have hg0 : w.grownBy (w.alloc (.map #[] 0)) none := World.grownBy_alloc w _ none
  have hs0 := hsrc.kept hg0 (by cases p <;> simp)
  have hne : p ≠ some w.heap.size := fun e => absurd (hsrc.lt _ e) (Nat.lt_irrefl _)
  have c1 : Calls Tryz.prog 70 #[.map (some w.heap.size), .map p] (w.alloc (.map #[] 0)) (fun e w' => e = .returned (.tuple #[]) ∧ w'.ownsMap Tryz.prog 2 kR w.heap.size (0 + Maps.size D) (Lib.mergeD (.map []) D) ∧ (w.alloc (.map #[] 0)).grownBy w' (some w.heap.size)) :=
    AnyX.maps_Copy_opt copyLay keyed64 kR w.heap.size 0 p (.map []) D _ (World.ownsMap_made w Tryz.prog 2 kR) hs0 hne (by unfold maxLen; omega)
  obtain ⟨adm, capm, hmv, -⟩ := h.memR.shape
  obtain ⟨adg, capg, hgv, -⟩ := h.glR.shape
  subst hmv hgv
  have hio := h.blk
  obtain ⟨hi, -⟩ := cells_of hio
  have hi1 : ∀ obj q, (w.alloc obj).cell? ⟨ib, q, none⟩ = #[ptrTo tb, ptrTo mb, .slice adm mem.length capm, .slice adg gl.length capg][q]? := fun obj q => (cells_of (heap_alloc_old hio)).1 q
  have hc1 : ∀ obj, (w.alloc obj).cell? ⟨tb, 2, none⟩ = some (.map p) := fun obj => ((Kp.refl no w).alloc obj).allCells hc
  have HI := hide h
  have C1 := hide c1
  have HR := hide hrep
  have HIo := hide hio
  clear h c1 hs0 hsrc hmap hrep hio hne hg0 hc
  go_enter Tryz.func50, Tryz.ntmps50
  go_wp2_with fail
  refine C1.out.mono ?_
  rintro r w1 ⟨rfl, hown1, hgrow1⟩
  have k1 : Kp no w w1 := (((Kp.refl no w).alloc _).grown hgrow1 (fun k e => .inr (by cases e; exact Nat.le_refl _)))
  have hk1 : KeysAt w1 w.heap.size keys := ⟨_, _, hown1, by omega, HR.out⟩
  have hl1 := hk1.lt
  have HK1 := hide hk1
  have K1 := hide k1
  have HIo1 := hide (k1.blk HIo.out (fun h => h))
  obtain ⟨S, hSd⟩ : ∃ S : World → Prop, S = fun w' => ∀ q, w'.cell? ⟨ib, q, none⟩ = #[ptrTo tb, ptrTo mb, .slice adm mem.length capm, .slice adg gl.length capg][q]? := ⟨_, rfl⟩
  have hSk : ∀ W', Kp no w1 W' → S W' := fun W' k => by rw [hSd]; exact (cells_of (k.blk HIo1.out (fun h => h))).1
  have HSk := hide hSk
  have HSd := hide hSd
  clear hown1 hgrow1 hk1 hi hi1 hc1 hSk hSd k1
  go_wp2_with fail
  refine wp_region_S 14 (S) (by kernel_rfl) (n := 14) (listed := #[false, false, false, false, false, false, false, false, false, false, false, false, false, false]) rfl (by kernel_rfl) ?hS (fun hS => ?_)
  case hS => exact HSk.out _ ((Kp.refl _ _).drew)
  have hSd := HSd.out
  subst hSd
  refine wpAnyS_take 0 [] (v := ?v1) (listed' := #[true, false, false, false, false, false, false, false, false, false, false, false, false, false]) rfl (by kernel_rfl) (by kernel_rfl) rfl (fun _ _ _ h => h) hS (fun _ hSw => ?hy1) ?rest1
  case hy1 => (try dsimp only at hSw); go_simp; all_goals (with_reducible rfl)
  simp only [Act.put, List.setIfInBounds_toArray, List.set_cons_zero, List.set_cons_succ]
  refine wpAnyS_take 1 [] (v := ?v2) (listed' := #[true, true, false, false, false, false, false, false, false, false, false, false, false, false]) rfl (by kernel_rfl) (by kernel_rfl) rfl (fun _ _ _ h => h) hS (fun _ hSw => ?hy2) ?rest2
  case hy2 => (try dsimp only at hSw); go_simp; all_goals (with_reducible rfl)
  simp only [Act.put, List.setIfInBounds_toArray, List.set_cons_zero, List.set_cons_succ]
  refine wpAnyS_take 2 [] (v := ?v3) (listed' := #[true, true, true, false, false, false, false, false, false, false, false, false, false, false]) rfl (by kernel_rfl) (by kernel_rfl) rfl (fun _ _ _ h => h) hS (fun _ hSw => ?hy3) ?rest3
  case hy3 => (try dsimp only at hSw); go_simp; all_goals (with_reducible rfl)
  simp only [Act.put, List.setIfInBounds_toArray, List.set_cons_zero, List.set_cons_succ]
  refine wpAnyS_take 3 [] (v := ?v4) (listed' := #[true, true, true, true, false, false, false, false, false, false, false, false, false, false]) rfl (by kernel_rfl) (by kernel_rfl) rfl (fun _ _ _ h => h) hS (fun _ hSw => ?hy4) ?rest4
  case hy4 => (try dsimp only at hSw); go_simp; all_goals (with_reducible rfl)
  simp only [Act.put, List.setIfInBounds_toArray, List.set_cons_zero, List.set_cons_succ]
  refine wpAnyS_take 5 [] (v := ?v5) (listed' := #[true, true, true, true, false, true, false, false, false, false, false, false, false, false]) rfl (by kernel_rfl) (by kernel_rfl) rfl (fun _ _ _ h => h) hS (fun _ hSw => ?hy5) ?rest5
  case hy5 => (try dsimp only at hSw); go_simp; all_goals (with_reducible rfl)
  simp only [Act.put, List.setIfInBounds_toArray, List.set_cons_zero, List.set_cons_succ]
  refine wpAnyS_take 6 [] (v := ?v6) (listed' := #[true, true, true, true, false, true, true, false, false, false, false, false, false, false]) rfl (by kernel_rfl) (by kernel_rfl) rfl (fun _ _ _ h => h) hS (fun _ hSw => ?hy6) ?rest6
  case hy6 => (try dsimp only at hSw); go_simp; all_goals (with_reducible rfl)
  simp only [Act.put, List.setIfInBounds_toArray, List.set_cons_zero, List.set_cons_succ]
  refine wpAnyS_take 7 [] (v := ?v7) (listed' := #[true, true, true, true, false, true, true, true, false, false, false, false, false, false]) rfl (by kernel_rfl) (by kernel_rfl) rfl (fun _ _ _ h => h) hS (fun _ hSw => ?hy7) ?rest7
  case hy7 => (try dsimp only at hSw); go_simp; all_goals (with_reducible rfl)
  simp only [Act.put, List.setIfInBounds_toArray, List.set_cons_zero, List.set_cons_succ]
  refine wpAnyS_take 8 [] (v := ?v8) (listed' := #[true, true, true, true, false, true, true, true, true, false, false, false, false, false]) rfl (by kernel_rfl) (by kernel_rfl) rfl (fun _ _ _ h => h) hS (fun _ hSw => ?hy8) ?rest8
  case hy8 => (try dsimp only at hSw); go_simp; all_goals (with_reducible rfl)
  simp only [Act.put, List.setIfInBounds_toArray, List.set_cons_zero, List.set_cons_succ]
  refine wpAnyS_take 10 [] (v := ?v9) (listed' := #[true, true, true, true, false, true, true, true, true, false, true, false, false, false]) rfl (by kernel_rfl) (by kernel_rfl) rfl (fun _ _ _ h => h) hS (fun _ hSw => ?hy9) ?rest9
  case hy9 => (try dsimp only at hSw); go_simp; all_goals (with_reducible rfl)
  simp only [Act.put, List.setIfInBounds_toArray, List.set_cons_zero, List.set_cons_succ]
  refine wpAnyS_one 4 (listed' := #[true, true, true, true, true, true, true, true, true, false, true, false, false, false]) rfl (by kernel_rfl) (by kernel_rfl) (fun K hK => ?_)
  have hB := freshB_any (w := w1.drew) (RowAt.kp HI.out.memR (K1.out.drew) (fun _ _ h => h)) (bytes'_oneCell mem) HI.out.mn
  refine step_call (by rfl) 53 _ _ (by rfl) enters_freshB _ (by rfl) hB ?_
  rintro r w2 ⟨⟨rfl, ho2⟩, k2⟩
  have k2' : Kp no w1 w2 := ((Kp.refl no w1).drew).trans k2
  refine ⟨_, rfl, hK _ _ (HSk.out _ k2') (fun hS => ?_)⟩
  clear hK K hB
  simp only [Act.put, List.setIfInBounds_toArray, List.set_cons_zero, List.set_cons_succ]
  refine wpAnyS_one 9 (listed' := #[true, true, true, true, true, true, true, true, true, true, true, false, false, false]) rfl (by kernel_rfl) (by kernel_rfl) (fun K hK => ?_)
  have hV := freshV_any (w := w2) (RowAt.kp HI.out.glR (K1.out.trans k2') (fun _ _ h => h)) (vals_oneCell gl) HI.out.gn
  refine step_call (by rfl) 52 _ _ (by rfl) enters_freshV _ (by rfl) hV ?_
  rintro r w3 ⟨⟨rfl, ho3⟩, k3⟩
  refine ⟨_, rfl, hK _ _ (HSk.out _ (k2'.trans k3)) (fun hS => ?_)⟩
  clear hK K hV
  simp only [Act.put, List.setIfInBounds_toArray, List.set_cons_zero, List.set_cons_succ]
  refine wpAnyS_take 11 [] (v := ?v12) (listed' := #[true, true, true, true, true, true, true, true, true, true, true, true, false, false]) rfl (by kernel_rfl) (by kernel_rfl) rfl (fun _ _ _ h => h) hS (fun _ hSw => ?hy12) ?rest12
  case hy12 => (try dsimp only at hSw); go_simp; all_goals (with_reducible rfl)
  simp only [Act.put, List.setIfInBounds_toArray, List.set_cons_zero, List.set_cons_succ]
  refine wpAnyS_one 12 (listed' := #[true, true, true, true, true, true, true, true, true, true, true, true, true, false]) rfl (by kernel_rfl) (by kernel_rfl) (fun K hK => ?_)
  go_simp
  refine hK _ _ (HSk.out _ ((k2'.trans k3).alloc _)) (fun hS => ?_)
  clear hK K
  refine wpAnyS_take 13 [] (v := ?v14) (listed' := #[true, true, true, true, true, true, true, true, true, true, true, true, true, true]) rfl (by kernel_rfl) (by kernel_rfl) rfl (fun _ _ _ h => h) hS (fun _ hSw => ?hy14) ?rest14
  case hy14 => (try dsimp only at hSw); go_simp; all_goals (with_reducible rfl)
  simp only [Act.put, List.setIfInBounds_toArray, List.set_cons_zero, List.set_cons_succ]
  refine wpAnyS_done (by kernel_rfl) ?_ _
  clear hS
  have hl2 := own_lt ho2 rfl
  have hl3 := own_lt ho3 rfl
  have h0 := K1.out.size
  have h12 : w1.heap.size ≤ w2.heap.size := k2'.size
  have hx2 := hide (own_le (k3.own ho2 (fun _ _ h => h)) (show w.heap.size ≤ w1.drew.heap.size from h0))
  have hx3 := hide (own_le ho3 (Nat.le_trans h0 h12))
  have hk3 := hide (HK1.out.kp (k2'.trans k3) (fun h => h))
  have KF := hide (K1.out.trans (k2'.trans k3))
  clear ho2 ho3 k2 k2' k3
  go_wp2
  go_ret
  refine ⟨⟨w3.heap.size, rfl, w.heap.size, w1.heap.size, w2.heap.size, ⟨heap_alloc_new _ _, ?_, ?_, ?_, Nat.le_refl _, hl1, hl2, hl3⟩⟩, KF.out.alloc _⟩
  · exact ((Kp.refl no w3).alloc _).own hx2.out (fun _ _ h => h)
  · exact ((Kp.refl no w3).alloc _).own hx3.out (fun _ _ h => h)
  · exact hk3.out.kp ((Kp.refl no w3).alloc _) (fun h => h)
end Go.Proofs.YtdeplgkhmebalaaGreatDoor

namespace Go.Proofs.YtdeplgkhmebalaaGreatDoor
open Go.RowKit

/-- What a call gives: the trap, the value, what was burned, and the state behind it. -/
def callR (f : Flat) (n : Nat) (args : List Int) (fuel : Nat) (mem : List UInt8) (gl : List Int) (keys : List (Int × Int)) (K : Nat) : Option (Nat × Int × Nat × Mc) :=
  match runR f K (enterR f ⟨args, [], 0, fuel, mem, gl, keys⟩ n) with
  | none => none
  | some (t, s) => if s.fuel ≤ fuel ∧ s.stack.length ≤ 1000000 then some (t, (if t = 0 ∧ 0 < s.stack.length then topR s else 0), fuel - s.fuel, s) else none

abbrev replyV (e t : Int) (v : Int) (u : Int) : Value := .agg #[.int .i64 e, .int .i64 t, .int .u64 v, .int .i64 u]

structure Behind (w' : World) (B sb kb : Nat) (low : Nat → Prop) (mem : List UInt8) (gl : List Int) (keys : List (Int × Int)) (mv gv : Value) : Prop where
  blk : w'.heap[sb]? = some (.cells #[mv, gv, .map (some kb)] 125)
  memR : w'.ownsRow B 5 1 mv mem.length (byteCells' mem)
  glR : w'.ownsRow B 38 1 gv gl.length (valCells gl)
  keys : KeysAt w' kb keys

/-- The machine as it is at first, its stack laid. -/
theorem MSt.first {W0 w W : World} {ro : Nat → Prop} {fb : Nat} {ft : TypeId} {f : Flat} {sb kb gm gg : Nat} {mem : List UInt8} {gl : List Int} {keys : List (Int × Int)} {args : List Int} {fuel : Nat} {sv : Value} {mb rb : Nat}
    (hst : StateAt W0 w sb mem gl keys kb gm gg) (hmod : ModAt w ro fb ft f) (hro : ∀ b, ro b → b < W0.heap.size) (h0 : W0.heap.size ≤ w.heap.size) (hrb : rb = w.heap.size) (hmb : mb = w.heap.size + 1) (k : Kp no w W) (hsz : w.heap.size + 1 < W.heap.size)
    (hm : W.heap[mb]? = some (.cells #[ptrTo fb, ptrTo sb, sv, .slice none 0 0, .int .i64 0, .int .i64 fuel] 172))
    (hs : W.ownsRow (w.heap.size + 2) 38 1 sv args.length (valCells args)) :
    MSt ⟨W0.heap.size, fun b => b < W0.heap.size ∨ b = rb, mb, sb, kb, fb, ft, f, ro⟩ W ⟨args, [], 0, fuel, mem, gl, keys⟩ := by
  have e1 := hst.o1
  have e2 := hst.o2
  have e3 := hst.o3
  have e4 := hst.o4
  have e5 := lt_of_blk hst.blk
  have hsb : ∀ b, sv.ownBlock = some b → w.heap.size + 2 ≤ b := own_new hs
  refine ⟨fun b => if b = mb then 1 else if b = sb then 2 else if b = gm then 5 else if b = gg then 6 else if b = kb then 7 else if sv.ownBlock = some b then 3 else 0, sv, .slice none 0 0, .slice (some ⟨gm, 0, none⟩) mem.length mem.length, .slice (some ⟨gg, 0, none⟩) gl.length gl.length, ?_⟩
  refine ⟨Nat.le_trans h0 k.size, hmod.kp k.any, hm, k.blk hst.blk (fun h => h), own_le hs (by show W0.heap.size ≤ _; omega), ⟨rfl, .inl ⟨rfl, rfl⟩⟩, k.own hst.memR (fun _ _ h => h), k.own hst.glR (fun _ _ h => h), hst.keys.kp k (fun h => h), ?_, ?_, ?_, ?_, ?_, ?_, ?_, ?_, ?_, ?_⟩
  · simp
  · show (if sb = mb then 1 else if sb = sb then 2 else _) = 2
    rw [if_neg (by omega), if_pos rfl]
  · intro b hb
    have := hsb b hb
    show (if b = mb then 1 else if b = sb then 2 else if b = gm then 5 else if b = gg then 6 else if b = kb then 7 else if sv.ownBlock = some b then 3 else 0) = 3
    rw [if_neg (by omega), if_neg (by omega), if_neg (by omega), if_neg (by omega), if_neg (by omega), if_pos hb]
  · intro b hb; cases hb
  · intro b hb
    cases hb
    show (if gm = mb then 1 else if gm = sb then 2 else if gm = gm then 5 else _) = 5
    rw [if_neg (by omega), if_neg (by omega), if_pos rfl]
  · intro b hb
    cases hb
    show (if gg = mb then 1 else if gg = sb then 2 else if gg = gm then 5 else if gg = gg then 6 else _) = 6
    rw [if_neg (by omega), if_neg (by omega), if_neg (by omega), if_pos rfl]
  · show (if kb = mb then 1 else if kb = sb then 2 else if kb = gm then 5 else if kb = gg then 6 else if kb = kb then 7 else _) = 7
    rw [if_neg (by omega), if_neg (by omega), if_neg (by omega), if_neg (by omega), if_pos rfl]
  · intro b hb
    have hb' : b < W0.heap.size ∨ b = w.heap.size := by rw [← hrb]; exact hb
    show (if b = mb then 1 else if b = sb then 2 else if b = gm then 5 else if b = gg then 6 else if b = kb then 7 else if sv.ownBlock = some b then 3 else 0) = 0
    rw [if_neg (by omega), if_neg (by omega), if_neg (by omega), if_neg (by omega), if_neg (by omega), if_neg (fun e => by have := hsb b e; omega)]
  · intro b hb
    have hb' : b < W0.heap.size ∨ b = w.heap.size := by rw [← hrb]; exact hb
    omega
  · intro b hb
    exact .inl (hro b hb)


theorem MSt.behind {E : MEnv} {w w' : World} {s : Mc} (h : MSt E w s) (k : Kp E.lo w w') : ∃ mv gv, Behind w' E.B E.sb E.kb (fun _ => False) s.mem s.gl s.keys mv gv := by
  obtain ⟨role, sv, cv, mv, gv, h⟩ := h
  exact ⟨mv, gv, k.blk h.st (fun hl => by have := h.low _ hl; rw [h.r2] at this; cases this), k.own h.mem (fun b hb hl => by have := h.low _ hl; rw [h.r5 b hb] at this; cases this),
    k.own h.gl (fun b hb hl => by have := h.low _ hl; rw [h.r6 b hb] at this; cases this), h.keys.kp k (fun hl => by have := h.low _ hl; rw [h.r7] at this; cases this)⟩

theorem reply_fin {W : World} {rb : Nat} {c0 c1 c2 c3 : Value} {ty : TypeId} (h : W.heap[rb]? = some (.cells #[c0, c1, c2, c3] ty)) (d0 d1 d2 d3 : Value) :
    ((((W.setCell ⟨rb, 0, none⟩ d0).setCell ⟨rb, 1, none⟩ d1).setCell ⟨rb, 2, none⟩ d2).setCell ⟨rb, 3, none⟩ d3).heap[rb]? = some (.cells #[d0, d1, d2, d3] ty) ∧ Kp (one rb) W ((((W.setCell ⟨rb, 0, none⟩ d0).setCell ⟨rb, 1, none⟩ d1).setCell ⟨rb, 2, none⟩ d2).setCell ⟨rb, 3, none⟩ d3) :=
  ⟨heap_setCell (heap_setCell (heap_setCell (heap_setCell h d0) d1) d2) d3, ((((Kp.refl _ W).set1 0 _).set1 1 _).set1 2 _).set1 3 _⟩

set_option maxRecDepth 100000 in
set_option maxHeartbeats 2000000 in
theorem runCall_any {W0 w : World} {ro : Nat → Prop} {fb : Nat} {ft : TypeId} {f : Flat} {sb kb gm gg : Nat} {mem : List UInt8} {gl : List Int} {keys : List (Int × Int)} {av : Value} {args : List Int} {n fuel K : Nat}
    (hst : StateAt W0 w sb mem gl keys kb gm gg) (hmod : ModAt w ro fb ft f) (hro : ∀ b, ro b → b < W0.heap.size) (h0 : W0.heap.size ≤ w.heap.size) (ha : ValsAt w av args) (hok : f.Ok) (hn : n < f.funcs.length) (hp1 : (f.funcs.getD n fn0).typ.1.length = args.length) (hp2 : (f.funcs.getD n fn0).typ.1.length ≤ (f.funcs.getD n fn0).locals) (hp3 : (f.funcs.getD n fn0).locals ≤ 1000)
    (hfu : fuel ≤ 100000) (hgl : gl.length ≤ 1000000) (hK : K ≤ 900000) {t : Nat} {v : Int} {u : Nat} {s' : Mc} (hm : callR f n args fuel mem gl keys K = some (t, v, u, s')) :
    Calls Tryz.prog 51 #[ptrTo fb, .int .i64 n, av, .int .i64 fuel, ptrTo sb] w fun r w' => r = .returned (replyV 0 t v u) ∧ (∃ mv gv, Behind w' W0.heap.size sb kb (fun _ => False) s'.mem s'.gl s'.keys mv gv) ∧ Kp (fun b => W0.heap.size ≤ b) w w' := by
  have hal : args.length ≤ 1000 := by omega
  have hsb := hst.o4
  have hsbl := lt_of_blk hst.blk
  obtain ⟨i0, hi0, hz0, hz1, hz2⟩ := info_parts info_u64'
  obtain ⟨ada, capa, hav, hca⟩ := RowAt.shape ha
  subst hav
  unfold callR at hm
  cases hr : runR f K (enterR f ⟨args, [], 0, fuel, mem, gl, keys⟩ n) with
  | none => rw [hr] at hm; cases hm
  | some ts =>
  obtain ⟨t', s1⟩ := ts
  rw [hr] at hm
  simp only at hm
  split at hm
  case isFalse => cases hm
  case isTrue hfs =>
  obtain ⟨hfs, hsl⟩ := hfs
  simp only [Option.some.injEq, Prod.mk.injEq] at hm
  obtain ⟨rfl, hv, hu, rfl⟩ := hm
  have HSt := hide hst
  have HMod := hide hmod
  have HRo := hide hro
  have HA := hide ha
  have HOk := hide hok
  have HR := hide hr
  have HV := hide hv
  have HU := hide hu
  have HP1 := hide hp1
  have HP2 := hide hp2
  have HP3 := hide hp3
  clear hst hmod hro ha hok hr hv hu hp1 hp2 hp3
  go_enter Tryz.func51, Tryz.ntmps51
  go_wp2_with (at_builtin; refine wpList_append_at _ rfl _ _ 53 rfl (w.heap.size + 2) 38 i0 (.int .u64 0) 1 8 Tryz.underlying53 hi0 hz0 hz1 hz2 rfl (by decide) _ 0 [] rfl ⟨rfl, .inl ⟨rfl, rfl⟩⟩ _ args.length _ rfl (RowAt.kp HA.out (((Kp.refl no w).alloc _).alloc _) (fun _ _ h => h)) (vals_oneCell args) ?c3 ?c4 ?c5 ?_)
  case c3 => unfold maxLen; omega
  case c4 => omega
  case c5 => simp
  intro v3 w3 hown3 hgrow3 hat3
  obtain ⟨ad3, cap3, hv3⟩ := own_shape hown3
  subst hv3
  have kW : Kp no w ((w.alloc (.cells #[.int .i64 0, .int .i64 0, .int .u64 0, .int .i64 0] 51)).alloc (.cells #[ptrTo fb, ptrTo sb, .slice none 0 0, .slice none 0 0, .int .i64 0, .int .i64 fuel] 172)) := ((Kp.refl no w).alloc _).alloc _
  have k3 := Kp.ofGrown hgrow3
  have hmo : w3.heap[w.heap.size + 1]? = some (.cells #[ptrTo fb, ptrTo sb, .slice none 0 0, .slice none 0 0, .int .i64 0, .int .i64 fuel] 172) := by
    have := heap_alloc_new (w.alloc (.cells #[.int .i64 0, .int .i64 0, .int .u64 0, .int .i64 0] 51)) (.cells #[ptrTo fb, ptrTo sb, .slice none 0 0, .slice none 0 0, .int .i64 0, .int .i64 fuel] 172)
    rw [show (w.alloc (.cells #[.int .i64 0, .int .i64 0, .int .u64 0, .int .i64 0] 51)).heap.size = w.heap.size + 1 by simp] at this
    exact k3.blk this (fun h => h)
  have hro3 : w3.heap[w.heap.size]? = some (.cells #[.int .i64 0, .int .i64 0, .int .u64 0, .int .i64 0] 51) := k3.blk (heap_alloc_old (heap_alloc_new w _)) (fun h => h)
  have hs3 : w.heap.size + 2 ≤ w3.heap.size := by have := k3.size; simp at this; omega
  have k3' : Kp no w w3 := kW.trans k3
  obtain ⟨hmc, hmf⟩ := cells_of hmo
  have k4 : Kp no w (w3.setCell ⟨w.heap.size + 1, 2, none⟩ (.slice ad3 args.length cap3)) := k3'.setCell (p := ⟨w.heap.size + 1, 2, none⟩) (.inr (by simp)) _
  have hm4 : (w3.setCell ⟨w.heap.size + 1, 2, none⟩ (.slice ad3 args.length cap3)).heap[w.heap.size + 1]? = some (.cells #[ptrTo fb, ptrTo sb, .slice ad3 args.length cap3, .slice none 0 0, .int .i64 0, .int .i64 fuel] 172) := heap_setCell hmo _
  have hr4 : (w3.setCell ⟨w.heap.size + 1, 2, none⟩ (.slice ad3 args.length cap3)).heap[w.heap.size]? = some (.cells #[.int .i64 0, .int .i64 0, .int .u64 0, .int .i64 0] 51) := heap_setCell_ne (by omega) _ hro3
  have ho4 : (w3.setCell ⟨w.heap.size + 1, 2, none⟩ (.slice ad3 args.length cap3)).ownsRow (w.heap.size + 2) 38 1 (.slice ad3 args.length cap3) args.length (valCells args) :=
    ((Kp.refl (one (w.heap.size + 1)) w3).set1 2 _).own hown3 (fun b hb (e : b = _) => by have := own_new hown3 b hb; omega)
  have hst := MSt.first (args := args) (fuel := fuel) (rb := w.heap.size) (mb := w.heap.size + 1) HSt.out HMod.out HRo.out h0 rfl rfl k4 (by simp [World.setCell]; omega) hm4 ho4
  have HM := hide hst
  have K4 := hide k4
  have HR4 := hide hr4
  clear hown3 hgrow3 hat3 kW k3 hmo hro3 k3' k4 hm4 hr4 ho4 hst
  go_wp2_with fail
  generalize w3.setCell ⟨w.heap.size + 1, 2, none⟩ (.slice ad3 args.length cap3) = w4 at *
  obtain ⟨E, hE⟩ : ∃ E : MEnv, E = ⟨W0.heap.size, fun b => b < W0.heap.size ∨ b = w.heap.size, w.heap.size + 1, sb, kb, fb, ft, f, ro⟩ := ⟨_, rfl⟩
  have hme : E.mb = w.heap.size + 1 := by rw [hE]
  have hfe : E.f = f := by rw [hE]
  have hle : E.lo w.heap.size := by rw [hE]; exact .inr rfl
  have hue : ∀ {a b}, Kp (upm E) a b → Kp (fun b => W0.heap.size ≤ b) a b := fun k => k.mono (fun b _ hb => by rw [hE] at hb; exact Nat.le_of_not_lt (fun h => hb (.inl h)))
  have hen := enterR_any (E := E) (w := w4) (s := ⟨args, [], 0, fuel, mem, gl, keys⟩) (by rw [hE]; exact HM.out) (by simp) (by simp; omega) (n := n) (by rw [hfe]; exact hn) (by rw [hfe]; exact HOk.out.nf) (by rw [hfe]; show _ ≤ args.length; have := HP1.out; omega) (by rw [hfe]; exact HP2.out) (by rw [hfe]; exact HP3.out)
  rw [hme, hfe] at hen
  refine hen.mono ?_
  rintro r w5 ⟨rfl, h5, k5⟩
  have hrun := run_any h5 (by rw [hfe]; exact HOk.out) (K := K) (N := 2000) ⟨by show (args ++ List.replicate ((f.funcs.getD n fn0).locals - (f.funcs.getD n fn0).typ.1.length) 0).length ≤ 2000; rw [List.length_append, List.length_replicate]; have := HP3.out; omega, by simp [enterR], hgl, by show fuel ≤ 1000000; omega⟩ (by omega) (by rw [hfe]; exact HR.out)
  rw [hme] at hrun
  have HRun := hide hrun
  have K5 := hide ((hue k5))
  have HR5 := hide (k5.blk HR4.out (fun h => h hle))
  clear h5 k5 hen HM hrun HR4
  go_wp2_with fail
  refine HRun.out.mono ?_
  rintro r w6 ⟨rfl, h6, k6⟩
  have HM6 := hide h6
  have K6 := hide (K5.out.trans (hue k6))
  have HR6 := hide (k6.blk HR5.out (fun h => h hle))
  clear h6 k6 HRun HR5 K5
  go_upto_region 5 with fail
  obtain ⟨sv6, cv6, hmo6, ⟨ad6, cap6, hsv6, -⟩, -⟩ := HM6.out.open
  subst hsv6
  rw [hme] at hmo6
  have hmo6' : w6.heap[w.heap.size + 1]? = some (.cells #[ptrTo E.fb, ptrTo E.sb, .slice ad6 s1.stack.length cap6, cv6, .int .i64 s1.pos, .int .i64 s1.fuel] 172) := hmo6
  have hm7 : ∀ obj q, (w6.alloc obj).cell? ⟨w.heap.size + 1, q, none⟩ = #[ptrTo E.fb, ptrTo E.sb, .slice ad6 s1.stack.length cap6, cv6, .int .i64 s1.pos, .int .i64 s1.fuel][q]? := fun obj q => (cells_of (heap_alloc_old hmo6')).1 q
  have hlt6 : w.heap.size + 1 < w6.heap.size := lt_of_blk hmo6'
  have hne : ¬ w6.heap.size = w.heap.size + 1 := by omega
  have hne' : ¬ w.heap.size + 1 = w6.heap.size := by omega
  have hwu : IntKind.i64.wrap ((fuel : Int) - (s1.fuel : Int)) = (u : Int) := by have := HU.out; rw [IntKind.wrap_i64]; omega
  have hr7 : ∀ obj q, (w6.alloc obj).cell? ⟨w.heap.size, q, none⟩ = #[.int .i64 0, .int .i64 0, .int .u64 0, .int .i64 0][q]? := fun obj q => (cells_of (heap_alloc_old HR6.out)).1 q
  have hf7 : ∀ obj q, (w6.alloc obj).frozen? ⟨w.heap.size, q, none⟩ = false := fun obj q => (cells_of (heap_alloc_old HR6.out)).2 q
  have KT := hide (K4.out.any.trans K6.out)
  clear hmo6 hmo6' K4 K6
  rcases Nat.eq_zero_or_pos t' with ht0 | htp
  · subst ht0
    rcases Nat.eq_zero_or_pos s1.stack.length with hs0 | hsp
    · have hv : v = 0 := by have := HV.out; rw [if_neg (by omega)] at this; exact this.symm
      rw [hs0] at hm7
      have HV2 := hide hv
      clear hv HV
      go_wp2_with fail
      have hend := reply_fin (heap_alloc_old (o := (.cells #[.int .i64 0, .int .i64 0, .int .u64 0, .int .i64 u] 51)) HR6.out) (.int .i64 0) (.int .i64 0) (.int .u64 0) (.int .i64 u)
      obtain ⟨hfb, hfk⟩ := hend
      have hfin := (cells_of hfb).1
      refine bodyPost_ret (v := replyV 0 0 0 u) (by simp [results, Tryz.results51, go_sem, hfin]) rfl ?_
      have kA := (Kp.refl no w6).alloc (.cells #[.int .i64 0, .int .i64 0, .int .u64 0, .int .i64 u] 51)
      refine ⟨by rw [HV2.out]; rfl, ?_, ?_⟩
      · have hb := HM6.out.behind (kA.any.trans (hfk.mono (fun b _ (hb : b = _) => by rw [hb]; exact hle)))
        rw [hE] at hb
        exact hb
      · exact (KT.out.trans kA.any).trans (hfk.mono (fun b _ (hb : b = _) => by rw [hb]; exact h0))
    · obtain ⟨m, hsm⟩ : ∃ m, s1.stack.length = m + 1 := ⟨s1.stack.length - 1, by omega⟩
      have hv : v = topR s1 := by have := HV.out; rw [if_pos ⟨rfl, by omega⟩] at this; exact this.symm
      rw [hsm] at hm7
      have kA := (Kp.refl no w6).alloc (.cells #[.int .i64 0, .int .i64 0, .int .u64 0, .int .i64 u] 51)
      have hg := HM6.out.guard kA (fun b => b = w6.heap.size) (fun b hb => ⟨by rw [hb]; exact Nat.le_refl _, by rw [hb]; simp⟩)
      have htk := takeR_any hg (by omega) (by omega)
      change Calls _ _ #[ptrTo E.mb] _ _ at htk
      rw [hme, ← hv] at htk
      have HTk := hide htk
      have hb2 := hide (heap_alloc_new w6 (.cells #[.int .i64 0, .int .i64 0, .int .u64 0, .int .i64 u] 51))
      have hb1 := hide (heap_alloc_old (o := .cells #[.int .i64 0, .int .i64 0, .int .u64 0, .int .i64 u] 51) HR6.out)
      have KA := hide kA
      clear hv HV hg htk hsm kA
      go_wp2_with fail
      refine HTk.out.mono ?_
      rintro r w9 ⟨rfl, h9, k9⟩
      have hc2 := k9.blk hb2.out (fun h => h (.inr rfl))
      have hc1 := k9.blk hb1.out (fun h => h (.inl hle))
      obtain ⟨hq2, hz2'⟩ := cells_of hc2
      obtain ⟨hq1, hz1'⟩ := cells_of hc1
      have H9 := hide h9
      have K9 := hide k9
      have C1 := hide hc1
      have hnr : ¬ w6.heap.size = w.heap.size := by omega
      have hnr' : ¬ w.heap.size = w6.heap.size := by omega
      clear h9 k9 hc1 hc2 HTk hm7 hr7 hf7
      go_wp2_with fail
      have hx : (w9.setCell ⟨w6.heap.size, 2, none⟩ (.int .u64 v)).heap[w.heap.size]? = some (.cells #[.int .i64 0, .int .i64 0, .int .u64 0, .int .i64 0] 51) := heap_setCell_ne hnr' _ C1.out
      obtain ⟨hfb, hfk⟩ := reply_fin hx (.int .i64 0) (.int .i64 0) (.int .u64 v) (.int .i64 u)
      have hfin := (cells_of hfb).1
      refine bodyPost_ret (v := replyV 0 0 v u) (by simp [results, Tryz.results51, go_sem, hfin]) rfl ?_
      refine ⟨rfl, ?_, ?_⟩
      · have hb := H9.out.behind (((Kp.refl (E.plus fun b => b = w6.heap.size).lo w9).setCell (p := ⟨w6.heap.size, 2, none⟩) (.inl (.inr rfl)) (.int .u64 v)).trans (hfk.mono (fun b _ (hb : b = _) => by rw [hb]; exact .inl hle)))
        change ∃ mv gv, Behind _ E.B E.sb E.kb _ s1.mem s1.gl s1.keys mv gv at hb
        rw [hE] at hb
        exact hb
      · exact (((KT.out.trans KA.out.any).trans (hue (upm_plus K9.out))).setCell (p := ⟨w6.heap.size, 2, none⟩) (.inl (by show W0.heap.size ≤ w6.heap.size; omega)) _).trans (hfk.mono (fun b _ (hb : b = _) => by rw [hb]; exact h0))
  · obtain ⟨m, rfl⟩ : ∃ m, t' = m + 1 := ⟨t' - 1, by omega⟩
    have hv : v = 0 := by have := HV.out; rw [if_neg (by omega)] at this; exact this.symm
    have HV2 := hide hv
    have hnz : (((m + 1 : Nat) : Int) == 0) = false := by simp; omega
    have hnz2 : (((m : Nat) : Int) + 1 == 0) = false := by simp; omega
    clear hv HV
    go_wp2_with fail
    have hend := reply_fin (heap_alloc_old (o := (.cells #[.int .i64 0, .int .i64 ((m : Int) + 1), .int .u64 0, .int .i64 u] 51)) HR6.out) (.int .i64 0) (.int .i64 ((m : Int) + 1)) (.int .u64 0) (.int .i64 u)
    obtain ⟨hfb, hfk⟩ := hend
    have hfin := (cells_of hfb).1
    refine bodyPost_ret (v := replyV 0 ((m : Int) + 1) 0 u) (by simp [results, Tryz.results51, go_sem, hfin]) rfl ?_
    have kA := (Kp.refl no w6).alloc (.cells #[.int .i64 0, .int .i64 ((m : Int) + 1), .int .u64 0, .int .i64 u] 51)
    refine ⟨by rw [HV2.out]; rfl, ?_, ?_⟩
    · have hb := HM6.out.behind (kA.any.trans (hfk.mono (fun b _ (hb : b = _) => by rw [hb]; exact hle)))
      rw [hE] at hb
      exact hb
    · exact (KT.out.trans kA.any).trans (hfk.mono (fun b _ (hb : b = _) => by rw [hb]; exact h0))
end Go.Proofs.YtdeplgkhmebalaaGreatDoor

namespace Go.Proofs.YtdeplgkhmebalaaGreatDoor
open Go.RowKit

theorem started_any {w : World} {ib tb mb : Nat} {mv gv : Value} (h : w.heap[ib]? = some (instObj tb mb mv gv)) :
    Calls Tryz.prog 46 #[ptrTo ib] w fun r w' => r = .returned (.bool true) ∧ w' = w := by
  obtain ⟨hc, -⟩ := cells_of h
  clear h
  go_enter Tryz.func46, Tryz.ntmps46
  go_wp2
  go_ret
  exact ⟨rfl, rfl⟩
theorem funcs_any {w : World} {ro : Nat → Prop} {mb : Nat} {f : Flat} (h : ModAt w ro mb 123 f) :
    Calls Tryz.prog 40 #[ptrTo mb] w fun r w' => r = .returned (.int .i64 f.funcs.length) ∧ w' = w := by
  obtain ⟨fv, gv, cv, hg⟩ := h
  obtain ⟨ad, cap, rfl, hcap, -⟩ := hg.funcs
  obtain ⟨hc, -⟩ := cells_of hg.blk
  clear hg
  go_enter Tryz.func40, Tryz.ntmps40
  go_wp2
  go_ret
  exact ⟨rfl, rfl⟩

def fitsAt (args : List Int) (ps : List UInt8) (k : Nat) : Bool := !(ps.getD k 0 == 127 && decide (4294967295 < args.getD k 0))
def fitsM (args : List Int) (ps : List UInt8) : Bool := decide (args.length = ps.length) && (List.range ps.length).all (fitsAt args ps)

theorem ValsAt.cell {w : World} {v : Value} {l : List Int} (h : ValsAt w v l) {k : Nat} (hk : k < l.length) : ∃ a o cap, v = .slice (some ⟨a, o, none⟩) l.length cap ∧ l.length ≤ cap ∧ w.cell? ⟨a, o + k, none⟩ = some (.int .u64 (l.getD k 0)) :=
  RowAt.get h (by simp [valCells, List.getD, List.getElem?_eq_getElem hk])

set_option maxRecDepth 100000 in
set_option maxHeartbeats 1000000 in
theorem fits_any {w : World} {av pv : Value} {args : List Int} {ps : List UInt8} (ha : ValsAt w av args) (hp : BytesAt w pv ps) (hpl : ps.length ≤ 1000) (_hal : args.length ≤ 1000) :
    Calls Tryz.prog 69 #[av, pv] w fun r w' => r = .returned (.bool (fitsM args ps)) ∧ w' = w := by
  obtain ⟨ada, capa, rfl, hca⟩ := RowAt.shape ha
  obtain ⟨adp, capp, rfl, hcp⟩ := RowAt.shape hp
  have HA := hide ha
  have HP := hide hp
  clear ha hp
  have hF : fitsM args ps = (decide (args.length = ps.length) && (List.range ps.length).all (fitsAt args ps)) := rfl
  generalize fitsM args ps = R at *
  have HF := hide hF
  clear hF
  by_cases hlen : args.length = ps.length
  · go_enter Tryz.func69, Tryz.ntmps69
    go_wp2
    go_loopw [14] (fun kv wr => ∃ (k : Nat), k ≤ ps.length ∧ kv = .int .i64 k ∧ wr = w ∧ ∀ j, j < k → fitsAt args ps j = true) (fun kv _ => ps.length - (intOf kv).toNat)
    case atStart => exact ⟨0, by omega, rfl, rfl, fun j hj => absurd hj (by omega)⟩
    case round =>
      obtain ⟨k, hk, rfl, rfl, hall⟩ := hrel
      have HAll := hide hall
      clear hall
      by_cases hkn : k < ps.length
      · obtain ⟨a1, o1, c1, he1, -, hc1⟩ := HA.out.cell (k := k) (by omega)
        obtain ⟨a2, o2, c2, he2, -, hc2⟩ := HP.out.get hkn
        cases he1
        cases he2
        have hfa : fitsAt args ps k = !(ps.getD k 0 == 127 && decide (4294967295 < args.getD k 0)) := rfl
        generalize ps.getD k 0 = pk at *
        generalize args.getD k 0 = ak at *
        by_cases h127 : pk = 127
        · subst h127
          by_cases hbig : 4294967295 < ak
          · have HFa := hide hfa
            clear hfa
            go_wp2
            go_ret
            rw [HF.out]
            have : (List.range ps.length).all (fitsAt args ps) = false := List.all_eq_false.2 ⟨k, by simpa using hkn, by rw [HFa.out]; simp [hbig]⟩
            simp [this]
          · have HFa := hide hfa
            clear hfa
            go_wp2
            go_roundw
            case rel => exact ⟨k + 1, by omega, by go_num, trivial, fun j hj => (Nat.lt_succ_iff_lt_or_eq.1 hj).elim (HAll.out j) (fun e => by subst e; rw [HFa.out]; simp [hbig])⟩
            case measure => simp [intOf]; omega
        · have h127' : ((pk.toNat : Int) == 127) = false := by
            simp
            intro e
            exact h127 (by apply UInt8.toNat_inj.1; simp; omega)
          have hq : (pk == 127) = false := by simp [h127]
          have HFa := hide hfa
          have HQ := hide hq
          clear hfa hq h127
          go_wp2
          go_roundw
          case rel => exact ⟨k + 1, by omega, by go_num, trivial, fun j hj => (Nat.lt_succ_iff_lt_or_eq.1 hj).elim (HAll.out j) (fun e => by subst e; rw [HFa.out, HQ.out]; rfl)⟩
          case measure => simp [intOf]; omega
      · obtain rfl : k = ps.length := by omega
        go_wp2
        go_ret
        rw [HF.out]
        have : (List.range ps.length).all (fitsAt args ps) = true := List.all_eq_true.2 (fun j hj => HAll.out j (by simpa using hj))
        simp [this, hlen]
  · go_enter Tryz.func69, Tryz.ntmps69
    go_wp2
    go_ret
    rw [HF.out]
    simp [hlen]

def refusesM (f : Flat) (n : Int) (args : List Int) (fuel : Int) : Int :=
  if n < 0 ∨ (f.funcs.length : Int) ≤ n then 4
  else if fitsM args (f.funcs.getD n.toNat fn0).typ.1 = false then 5
  else if fuel < 0 ∨ 100000 < fuel then 6 else 0


set_option maxRecDepth 100000 in
set_option maxHeartbeats 1000000 in
theorem refuses_any {w : World} {ro : Nat → Prop} {mb : Nat} {f : Flat} {av : Value} {args : List Int} {n fuel : Int} (h : ModAt w ro mb 123 f) (_hnf : f.funcs.length ≤ 1000) (ha : ValsAt w av args) (hal : args.length ≤ 1000) (hpl : ∀ k, k < f.funcs.length → (f.funcs.getD k fn0).typ.1.length ≤ 1000) :
    Calls Tryz.prog 49 #[ptrTo mb, .int .i64 n, av, .int .i64 fuel] w fun r w' => r = .returned (.int .i64 (refusesM f n args fuel)) ∧ w' = w := by
  have hfn := funcs_any h
  obtain ⟨fv, gv, cv, hg⟩ := h
  obtain ⟨ad, cap, rfl, hcap, hk⟩ := hg.funcs
  obtain ⟨hc, -⟩ := cells_of hg.blk
  obtain ⟨ada, capa, rfl, hca⟩ := RowAt.shape ha
  have hF : refusesM f n args fuel = if n < 0 ∨ (f.funcs.length : Int) ≤ n then 4
    else if fitsM args (f.funcs.getD n.toNat fn0).typ.1 = false then 5
    else if fuel < 0 ∨ 100000 < fuel then 6 else 0 := rfl
  generalize refusesM f n args fuel = R at *
  have HFn := hide hfn
  clear hg hfn
  by_cases h0 : n < 0
  · rw [if_pos (.inl h0)] at hF
    have HF := hide hF
    clear hF hk hc
    go_enter Tryz.func49, Tryz.ntmps49
    go_wp2
    go_ret
    exact ⟨by rw [HF.out]; rfl, rfl⟩
  by_cases h1 : (f.funcs.length : Int) ≤ n
  · rw [if_pos (.inr h1)] at hF
    have HF := hide hF
    clear hF hk hc
    go_enter Tryz.func49, Tryz.ntmps49
    go_wp2_with fail
    refine HFn.out.mono ?_
    rintro r w1 ⟨rfl, rfl⟩
    go_wp2
    go_ret
    exact ⟨by rw [HF.out]; rfl, rfl⟩
  rw [if_neg (by omega)] at hF
  obtain ⟨m, rfl⟩ : ∃ m : Nat, n = (m : Int) := ⟨n.toNat, by omega⟩
  rw [show ((m : Int)).toNat = m by omega] at hF
  have hm : m < f.funcs.length := by omega
  obtain ⟨a, o, pv, rv, rfl, -, c0, -, -, -, hb, -, -, -⟩ := hk m hm
  have hfit := fits_any ha hb (hpl m hm) hal
  obtain ⟨adp, capp, rfl, hcp⟩ := RowAt.shape hb
  generalize (f.funcs.getD m fn0).typ.1 = ps at *
  have HFi := hide hfit
  clear hfit hk ha hb hpl
  generalize fitsM args ps = Q at *
  cases Q with
  | false =>
    rw [if_pos rfl] at hF
    have HF := hide hF
    clear hF
    go_enter Tryz.func49, Tryz.ntmps49
    go_wp2_with fail
    refine HFn.out.mono ?_
    rintro r w1 ⟨rfl, rfl⟩
    go_wp2_with fail
    refine HFi.out.mono ?_
    rintro r w1 ⟨rfl, rfl⟩
    go_wp2
    go_ret
    exact ⟨by rw [HF.out]; rfl, rfl⟩
  | true =>
    rw [if_neg (by simp)] at hF
    by_cases h2 : fuel < 0
    · rw [if_pos (.inl h2)] at hF
      have HF := hide hF
      clear hF
      go_enter Tryz.func49, Tryz.ntmps49
      go_wp2_with fail
      refine HFn.out.mono ?_
      rintro r w1 ⟨rfl, rfl⟩
      go_wp2_with fail
      refine HFi.out.mono ?_
      rintro r w1 ⟨rfl, rfl⟩
      go_wp2
      go_ret
      exact ⟨by rw [HF.out]; rfl, rfl⟩
    by_cases h3 : 100000 < fuel
    · rw [if_pos (.inr h3)] at hF
      have HF := hide hF
      clear hF
      go_enter Tryz.func49, Tryz.ntmps49
      go_wp2_with fail
      refine HFn.out.mono ?_
      rintro r w1 ⟨rfl, rfl⟩
      go_wp2_with fail
      refine HFi.out.mono ?_
      rintro r w1 ⟨rfl, rfl⟩
      go_wp2
      go_ret
      exact ⟨by rw [HF.out]; rfl, rfl⟩
    rw [if_neg (by omega)] at hF
    have HF := hide hF
    clear hF
    go_enter Tryz.func49, Tryz.ntmps49
    go_wp2_with fail
    refine HFn.out.mono ?_
    rintro r w1 ⟨rfl, rfl⟩
    go_wp2_with fail
    refine HFi.out.mono ?_
    rintro r w1 ⟨rfl, rfl⟩
    go_wp2
    go_ret
    exact ⟨by rw [HF.out]; rfl, rfl⟩

theorem newStore_any (w : World) : Calls Tryz.prog 39 #[] w fun r w' => r = .returned (ptrTo w.heap.size) ∧ StoreAt w' w.heap.size none [] ∧ Kp no w w' := by
  go_enter Tryz.func39, Tryz.ntmps39
  go_wp2
  go_ret
  exact ⟨rfl, ⟨heap_alloc_new _ _, .inl ⟨rfl, rfl⟩, by simp⟩, (Kp.refl _ _).alloc _⟩

theorem zero_bytes (n : Nat) : byteCells' (List.replicate n (0 : UInt8)) = List.replicate n (.int .u8 0) := by simp [byteCells']
set_option maxRecDepth 100000 in
set_option maxHeartbeats 1000000 in
theorem start_any {w : World} {ro : Nat → Prop} {tb mb : Nat} {f : Flat} (h : ModAt w ro mb 123 f) (htb : tb < w.heap.size) (hro : ∀ b, ro b → b < w.heap.size ∧ b ≠ tb) (hpg : f.pages ≤ 1000) (hgl : f.globals.length ≤ 1000) :
    Calls Tryz.prog 36 #[ptrTo tb, ptrTo mb] w fun r w' => (∃ ib mv gv, r = .returned (ptrTo ib) ∧ w.heap.size ≤ ib ∧ InstAt w' ro ib tb mb mv gv f (List.replicate (f.pages * 64) 0) (f.globals.map fun (n : Nat) => ((n : Nat) : Int)) ∧ (∀ b, mv.ownBlock = some b → w.heap.size ≤ b) ∧ (∀ b, gv.ownBlock = some b → w.heap.size ≤ b)) ∧ Kp no w w' := by
  obtain ⟨i0, hi0, hz0, hz1, hz2⟩ := info_parts info_su8
  have hmd := h
  obtain ⟨fv, gv, cv, hg⟩ := h
  obtain ⟨adg, capg, hgv, hcg⟩ := RowAt.shape hg.vals
  subst hgv
  have hgo := hg.blk
  obtain ⟨hc, -⟩ := cells_of hgo
  have hgs : (f.globals.map fun (n : Nat) => ((n : Nat) : Int)).length ≤ 1000000 := by simp; omega
  have HG := hide hg.vals
  have HMd := hide hmd
  have HGo := hide hgo
  have HRo := hide hro
  clear hg hmd hgo hcg hro
  generalize (f.globals.map fun (n : Nat) => ((n : Nat) : Int)) = gs at *
  have hwp : IntKind.i64.wrap ((f.pages : Int) * 64) = ((f.pages * 64 : Nat) : Int) := by rw [IntKind.wrap_i64]; omega
  go_enter Tryz.func36, Tryz.ntmps36
  go_wp2_with (at_make; refine wpList_make_full _ rfl _ _ 25 rfl w.heap.size 5 i0 (.int .u8 0) 1 Tryz.underlying25 hi0 hz0 hz1 _ _ _ _ (f.pages * 64) rfl rfl (by first | rfl | (push_cast; rfl)) (by first | rfl | (push_cast; rfl)) ?c1 ?c2 (Nat.le_refl _) ?_)
  case c1 => rw [hz2]; omega
  case c2 => unfold maxLen; omega
  intro w1 hown hgrow
  have k1 := Kp.ofGrown hgrow
  have hc1 := (cells_of (k1.blk HGo.out (fun h => h))).1
  have K1 := hide k1
  have HO := hide hown
  have hl1 := own_lt hown rfl
  have hV := hide (freshV_any (RowAt.kp HG.out k1 (fun _ _ h => h)) (vals_oneCell gs) hgs)
  clear hgrow hown hc k1
  go_wp2_with fail
  refine hV.out.mono ?_
  rintro r w2 ⟨⟨rfl, ho2⟩, k2⟩
  have K2 := hide k2
  have HO2 := hide ho2
  have hl2 := own_lt ho2 rfl
  have hs1 := K1.out.size
  have hs2 := k2.size
  clear hc1 hV ho2 k2
  go_wp2
  go_ret
  have kF : Kp no w2 (w2.alloc (.cells #[ptrTo tb, ptrTo mb, .slice (some ⟨w.heap.size, 0, none⟩) (f.pages * 64) (f.pages * 64), .slice (some ⟨w1.heap.size, 0, none⟩) gs.length gs.length] 112)) := (Kp.refl no w2).alloc _
  refine ⟨⟨w2.heap.size, .slice (some ⟨w.heap.size, 0, none⟩) (f.pages * 64) (f.pages * 64), .slice (some ⟨w1.heap.size, 0, none⟩) gs.length gs.length, rfl, by omega, ⟨heap_alloc_new _ _, ?_, ?_, ?_, ?_, hgs, ?_, ?_, ?_⟩, ?_, ?_⟩, (K1.out.trans K2.out).trans kF⟩
  · exact HMd.out.kp ((K1.out.trans K2.out).trans kF).any
  · have := RowAt.own (kF.own (K2.out.own HO.out (fun _ _ h => h)) (fun _ _ h => h))
    rw [List.length_replicate, zero_bytes]
    rw [toList_madeCells_one] at this
    exact this
  · exact RowAt.own (kF.own HO2.out (fun _ _ h => h))
  · simp; omega
  · intro b hb
    have := HRo.out b hb
    exact ⟨by simp; omega, by omega, this.2⟩
  · intro b hb
    have hb : some _ = some b := hb
    simp only [Option.some.injEq] at hb
    omega
  · intro b hb
    have hb : some _ = some b := hb
    simp only [Option.some.injEq] at hb
    omega
  · intro b hb
    have hb : some _ = some b := hb
    simp only [Option.some.injEq] at hb
    omega
  · intro b hb
    have hb : some _ = some b := hb
    simp only [Option.some.injEq] at hb
    omega
end Go.Proofs.YtdeplgkhmebalaaGreatDoor

namespace Go.Proofs.YtdeplgkhmebalaaGreatDoor
abbrev muLink : Go.Conc.Locks.MuLink := { lock := 47, unlock := 48, ilock := 67, iunlock := 68, lockSlow := 98, unlockSlow := 101, disable := 94, enable := 96, acquire := 97, relMerge := 99, cas32 := 95, add32 := 100, tMutex := 107, tIMutex := 105, tPMutex := 166, tPIMutex := 202, tPI32 := 204, tUP := 206, tNoCopy := 103, tU32 := 101 }
theorem muLib : Go.Conc.Locks.MuLib Tryz.prog muLink :=
  ⟨Tryz.func47, Tryz.func48, Tryz.func67, Tryz.func68, Tryz.func94, Tryz.func96, Tryz.func97, Tryz.func99, Tryz.func95, Tryz.func100, Tryz.underlying105, Tryz.runUnderlying105, Tryz.sizeOf105, Tryz.isAgg105, Tryz.zeroValue105, Tryz.underlying107, Tryz.runUnderlying107, Tryz.sizeOf107, Tryz.isAgg107, Tryz.zeroValue107, Tryz.underlying166, Tryz.runUnderlying166, Tryz.sizeOf166, Tryz.isAgg166, Tryz.zeroValue166, Tryz.underlying202, Tryz.runUnderlying202, Tryz.sizeOf202, Tryz.isAgg202, Tryz.zeroValue202, Tryz.underlying204, Tryz.runUnderlying204, Tryz.sizeOf204, Tryz.isAgg204, Tryz.zeroValue204, Tryz.underlying206, Tryz.runUnderlying206, Tryz.sizeOf206, Tryz.isAgg206, Tryz.zeroValue206, Tryz.underlying103, Tryz.runUnderlying103, Tryz.sizeOf103, Tryz.isAgg103, Tryz.zeroValue103, Tryz.underlying21, Tryz.runUnderlying21, Tryz.sizeOf21, Tryz.isAgg21, Tryz.zeroValue21, (by kernel_rfl)⟩
end Go.Proofs.YtdeplgkhmebalaaGreatDoor

namespace Go.Proofs.YtdeplgkhmebalaaGreatDoor
open Go.RowKit Go.MuLone

abbrev ibtb (ib tb : Nat) : Nat → Prop := fun b => b = ib ∨ b = tb

theorem InstAt.neI {w : World} {ro : Nat → Prop} {ib tb mb : Nat} {mv gv : Value} {f : Flat} {mem : List UInt8} {gl : List Int} {p : Option Nat} {keys : List (Int × Int)} (h : InstAt w ro ib tb mb mv gv f mem gl) (hs : StoreAt w tb p keys) : ib ≠ tb := by
  intro e
  have h1 := h.blk
  rw [e, hs.blk] at h1
  simp at h1
theorem KeysAt.ne {w : World} {b k : Nat} {m : List (Int × Int)} {cs : Array Value} {t : TypeId} (h : KeysAt w b m) (hk : w.heap[k]? = some (.cells cs t)) : b ≠ k := by
  obtain ⟨D, n, ⟨es, clock, hb, -⟩, -⟩ := h
  intro e
  rw [e, hk] at hb
  cases hb
theorem MapAt.ne {w : World} {p : Option Nat} {k : Nat} {m : List (Int × Int)} {cs : Array Value} {t : TypeId} (h : MapAt w p m) (hk : w.heap[k]? = some (.cells cs t)) : ∀ b, p = some b → b ≠ k := by
  rcases h with ⟨rfl, rfl⟩ | ⟨b, rfl, h⟩
  · intro b hb; cases hb
  · intro b' hb; cases hb; exact h.ne hk
theorem InstAt.kp {w w' : World} {ro : Nat → Prop} {ib tb mb : Nat} {mv gv : Value} {f : Flat} {mem : List UInt8} {gl : List Int} {S : Nat → Prop} (h : InstAt w ro ib tb mb mv gv f mem gl) (k : Kp S w w') (h1 : ¬ S ib) (h2 : ∀ b, ro b → ¬ S b) (h3 : ∀ b, mv.ownBlock = some b → ¬ S b) (h4 : ∀ b, gv.ownBlock = some b → ¬ S b) : InstAt w' ro ib tb mb mv gv f mem gl :=
  ⟨k.blk h.blk h1, h.mod.kp (k.mono (fun b _ hs hr => h2 b hr hs)), RowAt.kp h.memR k h3, RowAt.kp h.glR k h4, h.mn, h.gn, fun b hb => ⟨Nat.lt_of_lt_of_le (h.roI b hb).1 k.size, (h.roI b hb).2⟩, h.mvI, h.gvI⟩

abbrev rep0 : Obj := .cells #[.int .i64 0, .int .i64 0, .int .u64 0, .int .i64 0] 51
/-- Behind the lock. -/
structure Locked (w w1 : World) (ro : Nat → Prop) (ib tb mb : Nat) (mv gv av : Value) (f : Flat) (mem : List UInt8) (gl args : List Int) (p : Option Nat) (keys : List (Int × Int)) : Prop where
  kp : Kp (one tb) w w1
  inst : InstAt w1 ro ib tb mb mv gv f mem gl
  sto : w1.heap[tb]? = some (.cells #[.int .i32 1, .int .u32 0, .map p] 110)
  map : MapAt w1 p keys
  rep : w1.heap[w.heap.size]? = some rep0
  vals : ValsAt w1 av args
theorem Locked.of {w : World} {ro : Nat → Prop} {ib tb mb : Nat} {mv gv av : Value} {f : Flat} {mem : List UInt8} {gl args : List Int} {p : Option Nat} {keys : List (Int × Int)} (h : InstAt w ro ib tb mb mv gv f mem gl) (hs : StoreAt w tb p keys) (ha : ValsAt w av args) (hav : ∀ b, av.ownBlock = some b → b ≠ ib ∧ b ≠ tb) :
    Locked w ((w.alloc rep0).setCell ⟨tb, 0, none⟩ (.int .i32 1)) ro ib tb mb mv gv av f mem gl args p keys := by
  have hne := h.neI hs
  have k : Kp (one tb) w ((w.alloc rep0).setCell ⟨tb, 0, none⟩ (.int .i32 1)) := ((Kp.refl _ w).alloc _).set1 0 _
  refine ⟨k, h.kp k hne (fun b hb => (h.roI b hb).2.2) (fun b hb => (h.mvI b hb).2) (fun b hb => (h.gvI b hb).2), heap_setCell (heap_alloc_old hs.blk) _, hs.map.kp k (hs.map.ne hs.blk), heap_setCell_ne (by have := lt_of_blk hs.blk; omega) _ (heap_alloc_new w _), RowAt.kp ha k (fun b hb => (hav b hb).2)⟩

/-- Unlocked again, nothing changed but new blocks. -/
theorem Locked.back {w w1 w3 : World} {ro : Nat → Prop} {ib tb mb : Nat} {mv gv av : Value} {f : Flat} {mem : List UInt8} {gl args : List Int} {p : Option Nat} {keys : List (Int × Int)} (hI : InstAt w ro ib tb mb mv gv f mem gl) (hS : StoreAt w tb p keys) (h : Locked w w1 ro ib tb mb mv gv av f mem gl args p keys) (k : Kp (fun b => w.heap.size ≤ b) w1 w3) :
    InstAt (w3.setCell ⟨tb, 0, none⟩ (.int .i32 0)) ro ib tb mb mv gv f mem gl ∧ StoreAt (w3.setCell ⟨tb, 0, none⟩ (.int .i32 0)) tb p keys ∧ Kp (ibtb ib tb) w (w3.setCell ⟨tb, 0, none⟩ (.int .i32 0)) := by
  have htl := lt_of_blk hS.blk
  have hne := hI.neI hS
  have k3 : Kp (one tb) w w3 := h.kp.comp k (fun b _ hb => hb) (fun b hb1 hb => absurd hb (by omega))
  have k4 : Kp (one tb) w (w3.setCell ⟨tb, 0, none⟩ (.int .i32 0)) := k3.set1 0 _
  have hst : w3.heap[tb]? = some (.cells #[.int .i32 1, .int .u32 0, .map p] 110) := k.blk h.sto (by omega)
  exact ⟨hI.kp k4 hne (fun b hb => (hI.roI b hb).2.2) (fun b hb => (hI.mvI b hb).2) (fun b hb => (hI.gvI b hb).2), ⟨heap_setCell hst _, hS.map.kp k4 (hS.map.ne hS.blk), hS.few⟩, k4.mono (fun b _ hb => .inr hb)⟩

set_option maxRecDepth 100000 in
set_option maxHeartbeats 2000000 in
theorem call_refused {w : World} {ro : Nat → Prop} {ib tb mb : Nat} {mv gv av : Value} {f : Flat} {mem : List UInt8} {gl args : List Int} {p : Option Nat} {keys : List (Int × Int)} {n fuel : Int} (h : InstAt w ro ib tb mb mv gv f mem gl) (hs : StoreAt w tb p keys)
    (hnf : f.funcs.length ≤ 1000) (ha : ValsAt w av args) (hal : args.length ≤ 1000) (hav : ∀ b, av.ownBlock = some b → b ≠ ib ∧ b ≠ tb) (hpl : ∀ k, k < f.funcs.length → (f.funcs.getD k fn0).typ.1.length ≤ 1000) (e : Nat) (he : refusesM f n args fuel = ((e + 1 : Nat) : Int)) :
    Calls Tryz.prog 27 #[ptrTo ib, .int .i64 n, av, .int .i64 fuel] w fun r w' => r = .returned (replyV ((e + 1 : Nat) : Int) 0 0 0) ∧ InstAt w' ro ib tb mb mv gv f mem gl ∧ StoreAt w' tb p keys ∧ Kp (ibtb ib tb) w w' := by
  have hne := h.neI hs
  obtain ⟨ada, capa, hav', hca⟩ := RowAt.shape ha
  subst hav'
  have hio := h.blk
  have hso := hs.blk
  have hi1 : ∀ obj q, (w.alloc obj).cell? ⟨ib, q, none⟩ = #[ptrTo tb, ptrTo mb, mv, gv][q]? := fun obj q => (cells_of (heap_alloc_old hio)).1 q
  have hst := fun obj => started_any (heap_alloc_old (o := obj) hio)
  have hl1 : ∀ obj, (w.alloc obj).cell? ⟨tb, 0, none⟩ = some (.int .i32 0) := fun obj => (cells_of (heap_alloc_old hso)).1 0
  have hf1 : ∀ obj, (w.alloc obj).frozen? ⟨tb, 0, none⟩ = false := fun obj => (cells_of (heap_alloc_old hso)).2 0
  have HSt := hide hst
  have H := hide h
  have HS := hide hs
  have HA := hide ha
  clear h hs ha hio hso hst
  go_enter_defers Tryz.func27, Tryz.ntmps27
  go_wp2_with fail
  refine (HSt.out _).mono ?_
  rintro r w1 ⟨rfl, rfl⟩
  go_wp2_with fail
  refine (lock_free muLib ⟨tb, 0, none⟩ _ (hl1 _) (hf1 _)).mono ?_
  rintro r w1 ⟨rfl, rfl⟩
  have hL := Locked.of H.out HS.out HA.out hav
  obtain ⟨w1, hw1⟩ : ∃ w1, w1 = (w.alloc rep0).setCell ⟨tb, 0, none⟩ (.int .i32 1) := ⟨_, rfl⟩
  rw [← hw1] at hL ⊢
  have hrf := refuses_any (n := n) (fuel := fuel) hL.inst.mod hnf hL.vals hal hpl
  rw [he] at hrf
  have hnz : (((e + 1 : Nat) : Int) == 0) = false := by simp; omega
  have hnz2 : (((e : Nat) : Int) + 1 == 0) = false := by simp; omega
  have hc1 := (cells_of hL.inst.blk).1
  obtain ⟨hr1, hz1⟩ := cells_of hL.rep
  have HL := hide hL
  have HRf := hide hrf
  clear hL hrf hi1 hl1 hf1 HSt hw1 HA hav hpl
  go_wp2_with fail
  refine HRf.out.mono ?_
  rintro r w2 ⟨rfl, rfl⟩
  go_wp2_with fail
  refine leaves_cons (f := 48) (args := #[.pointer (some ⟨tb, 0, none⟩)]) (by simp) (by simp [go_sem]) ?_
  obtain ⟨hfb, hfk⟩ := reply_fin HL.out.rep (.int .i64 ((e : Int) + 1)) (.int .i64 0) (.int .u64 0) (.int .i64 0)
  have hrl : w.heap.size ≠ tb := fun e => by have := lt_of_blk HS.out.blk; omega
  have hrl2 : tb ≠ w.heap.size := fun e => hrl e.symm
  have hsw := hfk.blk HL.out.sto (fun h => hrl h.symm)
  generalize ((((w2.setCell ⟨w.heap.size, 0, none⟩ (.int .i64 ((e : Int) + 1))).setCell ⟨w.heap.size, 1, none⟩ (.int .i64 0)).setCell ⟨w.heap.size, 2, none⟩ (.int .u64 0)).setCell ⟨w.heap.size, 3, none⟩ (.int .i64 0)) = w3 at *
  refine (unlock_deferred muLib ⟨tb, 0, none⟩ .returning _ ((cells_of hsw).1 0) ((cells_of hsw).2 0)).mono ?_
  rintro r u' w4 ⟨rfl, rfl, rfl⟩
  have hfin := (cells_of (heap_setCell_ne (o := 0) hrl (.int .i32 0) hfb)).1
  refine ⟨replyV ((e : Int) + 1) 0 0 0, by simp [results, Tryz.results27, go_sem, hfin], rfl, ?_⟩
  exact HL.out.back H.out HS.out (hfk.mono (fun b _ (hb : b = _) => by omega))
end Go.Proofs.YtdeplgkhmebalaaGreatDoor

namespace Go.Proofs.YtdeplgkhmebalaaGreatDoor
open Go.RowKit Go.MuLone

set_option maxRecDepth 100000 in
set_option maxHeartbeats 4000000 in
theorem call_runs {w : World} {ro : Nat → Prop} {ib tb mb : Nat} {mv gv av : Value} {f : Flat} {mem : List UInt8} {gl args : List Int} {p : Option Nat} {keys : List (Int × Int)} {n fuel K : Nat} (h : InstAt w ro ib tb mb mv gv f mem gl) (hs : StoreAt w tb p keys)
    (hok : f.Ok) (ha : ValsAt w av args) (hal : args.length ≤ 1000) (hav : ∀ b, av.ownBlock = some b → b ≠ ib ∧ b ≠ tb) (hpl : ∀ k, k < f.funcs.length → (f.funcs.getD k fn0).typ.1.length ≤ (f.funcs.getD k fn0).locals ∧ (f.funcs.getD k fn0).locals ≤ 1000) (he : refusesM f n args fuel = 0)
    (hK : K ≤ 900000) {t : Nat} {v : Int} {u : Nat} {s' : Mc} (hm : callR f n args fuel mem gl keys K = some (t, v, u, s')) (hsm : s'.mem.length ≤ 1000000 ∧ s'.gl.length ≤ 1000000 ∧ s'.keys.length ≤ 1000) :
    Calls Tryz.prog 27 #[ptrTo ib, .int .i64 n, av, .int .i64 fuel] w fun r w' => r = .returned (replyV 0 t v u) ∧
      (t = 0 → ∃ mv' gv' p', InstAt w' ro ib tb mb mv' gv' f s'.mem s'.gl ∧ StoreAt w' tb p' s'.keys ∧ (∀ b, mv'.ownBlock = some b → w.heap.size ≤ b) ∧ (∀ b, gv'.ownBlock = some b → w.heap.size ≤ b)) ∧ (t ≠ 0 → InstAt w' ro ib tb mb mv gv f mem gl ∧ StoreAt w' tb p keys) ∧ Kp (ibtb ib tb) w w' := by
  have hne := h.neI hs
  have hrf0 : (n : Nat) < f.funcs.length ∧ fitsM args (f.funcs.getD n fn0).typ.1 = true ∧ fuel ≤ 100000 := by
    unfold refusesM at he
    split at he
    · cases he
    · split at he
      · cases he
      · split at he
        · cases he
        · rename_i h1 h2 h3
          refine ⟨by omega, ?_, by omega⟩
          rw [show ((n : Int)).toNat = n by omega] at h2
          simpa using h2
  obtain ⟨hn, hfit, hfu⟩ := hrf0
  have hpa : (f.funcs.getD n fn0).typ.1.length = args.length := by
    unfold fitsM at hfit
    simp only [Bool.and_eq_true, decide_eq_true_eq] at hfit
    exact hfit.1.symm
  obtain ⟨ada, capa, hav', hca⟩ := RowAt.shape ha
  subst hav'
  have hio := h.blk
  have hso := hs.blk
  have hi1 : ∀ obj q, (w.alloc obj).cell? ⟨ib, q, none⟩ = #[ptrTo tb, ptrTo mb, mv, gv][q]? := fun obj q => (cells_of (heap_alloc_old hio)).1 q
  have hst := fun obj => started_any (heap_alloc_old (o := obj) hio)
  have hl1 : ∀ obj, (w.alloc obj).cell? ⟨tb, 0, none⟩ = some (.int .i32 0) := fun obj => (cells_of (heap_alloc_old hso)).1 0
  have hf1 : ∀ obj, (w.alloc obj).frozen? ⟨tb, 0, none⟩ = false := fun obj => (cells_of (heap_alloc_old hso)).2 0
  have HSt := hide hst
  have H := hide h
  have HS := hide hs
  have HA := hide ha
  have HOk := hide hok
  have HPl := hide hpl
  have HM := hide hm
  have HPa := hide hpa
  have htl := lt_of_blk hso
  have hil := lt_of_blk hio
  clear h hs ha hio hso hst hok hpl hm hfit hpa
  go_enter_defers Tryz.func27, Tryz.ntmps27
  go_wp2_with fail
  refine (HSt.out _).mono ?_
  rintro r w1 ⟨rfl, rfl⟩
  go_wp2_with fail
  refine (lock_free muLib ⟨tb, 0, none⟩ _ (hl1 _) (hf1 _)).mono ?_
  rintro r w1 ⟨rfl, rfl⟩
  have hL := Locked.of H.out HS.out HA.out hav
  have hsz1 : ((w.alloc rep0).setCell ⟨tb, 0, none⟩ (.int .i32 1)).heap.size = w.heap.size + 1 := by simp [World.setCell]
  obtain ⟨w1, hw1⟩ : ∃ w1, w1 = (w.alloc rep0).setCell ⟨tb, 0, none⟩ (.int .i32 1) := ⟨_, rfl⟩
  rw [← hw1] at hL hsz1 ⊢
  have hrf := refuses_any (n := n) (fuel := fuel) hL.inst.mod HOk.out.nf hL.vals hal (fun k hk => Nat.le_trans (HPl.out k hk).1 (HPl.out k hk).2)
  rw [he] at hrf
  have hc1 := (cells_of hL.inst.blk).1
  have hsta := state_any hL.inst ((cells_of hL.sto).1 2) hL.map HS.out.few
  have HL := hide hL
  have HRf := hide hrf
  have HSta := hide hsta
  clear hL hrf hi1 hl1 hf1 HSt hw1 HA hsta
  go_wp2_with fail
  refine HRf.out.mono ?_
  rintro r w2 ⟨rfl, rfl⟩
  go_wp2_with fail
  refine HSta.out.mono ?_
  rintro r w3 ⟨⟨sb, kb, gm, gg, rfl, hsa⟩, k3⟩
  have hrc := runCall_any hsa (HL.out.inst.mod.kp k3.any) (fun b hb => (HL.out.inst.roI b hb).1) k3.size (RowAt.kp HL.out.vals k3 (fun _ _ h => h)) HOk.out hn HPa.out (HPl.out n hn).1 (HPl.out n hn).2 hfu H.out.gn hK HM.out
  have hc3 := (cells_of (k3.blk HL.out.inst.blk (fun h => h))).1
  have HRc := hide hrc
  have K3 := hide k3
  have HSa := hide hsa
  have hs3 := k3.size
  clear hrc k3 HRf HSta HM hc1 hsa
  go_wp2_with fail
  refine HRc.out.mono ?_
  rintro r w4 ⟨rfl, ⟨mv', gv', hbe⟩, k4⟩
  have hi4 := k4.blk (K3.out.blk HL.out.inst.blk (fun h => h)) (show ¬ w2.heap.size ≤ ib by omega)
  have ht4 := k4.blk (K3.out.blk HL.out.sto (fun h => h)) (show ¬ w2.heap.size ≤ tb by omega)
  have hr4 := k4.blk (K3.out.blk HL.out.rep (fun h => h)) (show ¬ w2.heap.size ≤ w.heap.size by omega)
  have hs4 := k4.size
  go_upto_region 10 with fail
  have HBe := hide hbe
  have HI4 := hide hi4
  have HT4 := hide ht4
  have HR4 := hide hr4
  have K4 := hide (K3.out.any.trans k4)
  have hbl := lt_of_blk hbe.blk
  clear hbe hi4 ht4 hr4 k4 HRc K3 hc3
  rcases Nat.eq_zero_or_pos t with ht0 | htp
  · subst ht0
    obtain ⟨adm, capm, hmv', -⟩ := RowAt.shape (RowAt.own HBe.out.memR)
    obtain ⟨adg, capg, hgv', -⟩ := RowAt.shape (RowAt.own HBe.out.glR)
    subst hmv' hgv'
    have hbb := heap_alloc_old (o := .cells #[.int .i64 0, .int .i64 0, .int .u64 v, .int .i64 u] 51) HBe.out.blk
    have hib := heap_alloc_old (o := .cells #[.int .i64 0, .int .i64 0, .int .u64 v, .int .i64 u] 51) HI4.out
    have htb := heap_alloc_old (o := .cells #[.int .i64 0, .int .i64 0, .int .u64 v, .int .i64 u] 51) HT4.out
    have hrp := heap_alloc_old (o := .cells #[.int .i64 0, .int .i64 0, .int .u64 v, .int .i64 u] 51) HR4.out
    have hr2 := heap_alloc_new w4 (.cells #[.int .i64 0, .int .i64 0, .int .u64 v, .int .i64 u] 51)
    have kA := (Kp.refl no w4).alloc (.cells #[.int .i64 0, .int .i64 0, .int .u64 v, .int .i64 u] 51)
    have o1 := HSa.out.o1
    have o2 := HSa.out.o2
    have o3 := HSa.out.o3
    have o4 := HSa.out.o4
    go_wp2_with fail
    generalize w4.alloc (.cells #[.int .i64 0, .int .i64 0, .int .u64 v, .int .i64 u] 51) = w5 at *
    obtain ⟨S, hSd⟩ : ∃ S : World → Prop, S = fun w' => w'.cell? ⟨ib, 0, none⟩ = some (ptrTo tb) ∧ (∀ q, w'.cell? ⟨sb, q, none⟩ = #[.slice adm s'.mem.length capm, .slice adg s'.gl.length capg, .map (some kb)][q]?) := ⟨_, rfl⟩
    have hSk : ∀ W' x y, W'.heap[ib]? = some (instObj tb mb x y) → W'.heap[sb]? = some (.cells #[.slice adm s'.mem.length capm, .slice adg s'.gl.length capg, .map (some kb)] 125) → S W' := fun W' x y h1 h2 => by rw [hSd]; exact ⟨(cells_of h1).1 0, (cells_of h2).1⟩
    have HSk := hide hSk
    have HSd := hide hSd
    have hib2 : (w5.setCell ⟨ib, 2, none⟩ (.slice adm s'.mem.length capm)).heap[ib]? = some (instObj tb mb (.slice adm s'.mem.length capm) gv) := heap_setCell hib _
    have hib3 : ((w5.setCell ⟨ib, 2, none⟩ (.slice adm s'.mem.length capm)).setCell ⟨ib, 3, none⟩ (.slice adg s'.gl.length capg)).heap[ib]? = some (instObj tb mb (.slice adm s'.mem.length capm) (.slice adg s'.gl.length capg)) := heap_setCell hib2 _
    have hb2 : ∀ x o, (w5.setCell ⟨ib, o, none⟩ x).heap[sb]? = some (.cells #[.slice adm s'.mem.length capm, .slice adg s'.gl.length capg, .map (some kb)] 125) := fun x o => heap_setCell_ne (by omega) _ hbb
    have ht2 : ∀ x o, (w5.setCell ⟨ib, o, none⟩ x).heap[tb]? = some (.cells #[.int .i32 1, .int .u32 0, .map p] 110) := fun x o => heap_setCell_ne (fun e => hne e.symm) _ htb
    have hb3 := heap_setCell_ne (o := 3) (show sb ≠ ib by omega) (.slice adg s'.gl.length capg) (hb2 (.slice adm s'.mem.length capm) 2)
    have ht3 := heap_setCell_ne (o := 3) (show tb ≠ ib by omega) (.slice adg s'.gl.length capg) (ht2 (.slice adm s'.mem.length capm) 2)
    have hib4 := heap_setCell_ne (o := 2) hne (.map (some kb)) hib3
    have hb4 := heap_setCell_ne (o := 2) (show sb ≠ tb by omega) (.map (some kb)) hb3
    have ht4 := heap_setCell (o := 2) ht3 (.map (some kb))
    have c1 : w5.cell? ⟨ib, 2, none⟩ = some mv := (cells_of hib).1 2
    have d1 : w5.frozen? ⟨ib, 2, none⟩ = false := (cells_of hib).2 2
    have c2 : w5.cell? ⟨ib, 3, none⟩ = some gv := (cells_of hib).1 3
    have d2 : w5.frozen? ⟨ib, 3, none⟩ = false := (cells_of hib).2 3
    have c3 : w5.cell? ⟨tb, 2, none⟩ = some (.map p) := (cells_of htb).1 2
    have d3 : w5.frozen? ⟨tb, 2, none⟩ = false := (cells_of htb).2 2
    have hne2 : ¬ tb = ib := fun e => hne e.symm
    have hne3 : ¬ ib = tb := hne
    refine wp_region_noPanic ?_
    refine wp_region_S 27 (S) (by kernel_rfl) (n := 27) (listed := #[false, false, false, false, false, false, false, false, false, false, false, false, false, false, false, false, false, false, false, false, false, false, false, false, false, false, false]) rfl (by kernel_rfl) ?hS (fun hS => ?_)
    case hS => exact HSk.out _ _ _ hib hbb
    have hSd := HSd.out
    subst hSd
    refine wpAnyS_take 0 [] (v := ?v1) (listed' := #[true, false, false, false, false, false, false, false, false, false, false, false, false, false, false, false, false, false, false, false, false, false, false, false, false, false, false]) rfl (by kernel_rfl) (by kernel_rfl) rfl (fun _ _ _ h => h) hS (fun _ hSw => ?hy1) ?rest1
    case hy1 => (try dsimp only at hSw); go_simp; all_goals (with_reducible rfl)
    simp only [Act.put, List.setIfInBounds_toArray, List.set_cons_zero, List.set_cons_succ]
    refine wpAnyS_take 1 [] (v := ?v2) (listed' := #[true, true, false, false, false, false, false, false, false, false, false, false, false, false, false, false, false, false, false, false, false, false, false, false, false, false, false]) rfl (by kernel_rfl) (by kernel_rfl) rfl (fun _ _ _ h => h) hS (fun _ hSw => ?hy2) ?rest2
    case hy2 => (try dsimp only at hSw); go_simp; all_goals (with_reducible rfl)
    simp only [Act.put, List.setIfInBounds_toArray, List.set_cons_zero, List.set_cons_succ]
    refine wpAnyS_take 2 [] (v := ?v3) (listed' := #[true, true, true, false, false, false, false, false, false, false, false, false, false, false, false, false, false, false, false, false, false, false, false, false, false, false, false]) rfl (by kernel_rfl) (by kernel_rfl) rfl (fun _ _ _ h => h) hS (fun _ hSw => ?hy3) ?rest3
    case hy3 => (try dsimp only at hSw); go_simp; all_goals (with_reducible rfl)
    simp only [Act.put, List.setIfInBounds_toArray, List.set_cons_zero, List.set_cons_succ]
    refine wpAnyS_take 3 [] (v := ?v4) (listed' := #[true, true, true, true, false, false, false, false, false, false, false, false, false, false, false, false, false, false, false, false, false, false, false, false, false, false, false]) rfl (by kernel_rfl) (by kernel_rfl) rfl (fun _ _ _ h => h) hS (fun _ hSw => ?hy4) ?rest4
    case hy4 => (try dsimp only at hSw); go_simp; all_goals (with_reducible rfl)
    simp only [Act.put, List.setIfInBounds_toArray, List.set_cons_zero, List.set_cons_succ]
    refine wpAnyS_take 4 [] (v := ?v5) (listed' := #[true, true, true, true, true, false, false, false, false, false, false, false, false, false, false, false, false, false, false, false, false, false, false, false, false, false, false]) rfl (by kernel_rfl) (by kernel_rfl) rfl (fun _ _ _ h => h) hS (fun _ hSw => ?hy5) ?rest5
    case hy5 => (try dsimp only at hSw); go_simp; all_goals (with_reducible rfl)
    simp only [Act.put, List.setIfInBounds_toArray, List.set_cons_zero, List.set_cons_succ]
    refine wpAnyS_take 5 [] (v := ?v6) (listed' := #[true, true, true, true, true, true, false, false, false, false, false, false, false, false, false, false, false, false, false, false, false, false, false, false, false, false, false]) rfl (by kernel_rfl) (by kernel_rfl) rfl (fun _ _ _ h => h) hS (fun _ hSw => ?hy6) ?rest6
    case hy6 => (try dsimp only at hSw); go_simp; all_goals (with_reducible rfl)
    simp only [Act.put, List.setIfInBounds_toArray, List.set_cons_zero, List.set_cons_succ]
    refine wpAnyS_take 6 [] (v := ?v7) (listed' := #[true, true, true, true, true, true, true, false, false, false, false, false, false, false, false, false, false, false, false, false, false, false, false, false, false, false, false]) rfl (by kernel_rfl) (by kernel_rfl) rfl (fun _ _ _ h => h) hS (fun _ hSw => ?hy7) ?rest7
    case hy7 => (try dsimp only at hSw); go_simp; all_goals (with_reducible rfl)
    simp only [Act.put, List.setIfInBounds_toArray, List.set_cons_zero, List.set_cons_succ]
    refine wpAnyS_take 7 [] (v := ?v8) (listed' := #[true, true, true, true, true, true, true, true, false, false, false, false, false, false, false, false, false, false, false, false, false, false, false, false, false, false, false]) rfl (by kernel_rfl) (by kernel_rfl) rfl (fun _ _ _ h => h) hS (fun _ hSw => ?hy8) ?rest8
    case hy8 => (try dsimp only at hSw); go_simp; all_goals (with_reducible rfl)
    simp only [Act.put, List.setIfInBounds_toArray, List.set_cons_zero, List.set_cons_succ]
    refine wpAnyS_take 8 [] (v := ?v9) (listed' := #[true, true, true, true, true, true, true, true, true, false, false, false, false, false, false, false, false, false, false, false, false, false, false, false, false, false, false]) rfl (by kernel_rfl) (by kernel_rfl) rfl (fun _ _ _ h => h) hS (fun _ hSw => ?hy9) ?rest9
    case hy9 => (try dsimp only at hSw); go_simp; all_goals (with_reducible rfl)
    simp only [Act.put, List.setIfInBounds_toArray, List.set_cons_zero, List.set_cons_succ]
    refine wpAnyS_take 9 [] (v := ?v10) (listed' := #[true, true, true, true, true, true, true, true, true, true, false, false, false, false, false, false, false, false, false, false, false, false, false, false, false, false, false]) rfl (by kernel_rfl) (by kernel_rfl) rfl (fun _ _ _ h => h) hS (fun _ hSw => ?hy10) ?rest10
    case hy10 => (try dsimp only at hSw); go_simp; all_goals (with_reducible rfl)
    simp only [Act.put, List.setIfInBounds_toArray, List.set_cons_zero, List.set_cons_succ]
    refine wpAnyS_take 10 [] (v := ?v11) (listed' := #[true, true, true, true, true, true, true, true, true, true, true, false, false, false, false, false, false, false, false, false, false, false, false, false, false, false, false]) rfl (by kernel_rfl) (by kernel_rfl) rfl (fun _ _ _ h => h) hS (fun _ hSw => ?hy11) ?rest11
    case hy11 => (try dsimp only at hSw); go_simp; all_goals (with_reducible rfl)
    simp only [Act.put, List.setIfInBounds_toArray, List.set_cons_zero, List.set_cons_succ]
    refine wpAnyS_take 11 [] (v := ?v12) (listed' := #[true, true, true, true, true, true, true, true, true, true, true, true, false, false, false, false, false, false, false, false, false, false, false, false, false, false, false]) rfl (by kernel_rfl) (by kernel_rfl) rfl (fun _ _ _ h => h) hS (fun _ hSw => ?hy12) ?rest12
    case hy12 => (try dsimp only at hSw); go_simp; all_goals (with_reducible rfl)
    simp only [Act.put, List.setIfInBounds_toArray, List.set_cons_zero, List.set_cons_succ]
    refine wpAnyS_take 12 [] (v := ?v13) (listed' := #[true, true, true, true, true, true, true, true, true, true, true, true, true, false, false, false, false, false, false, false, false, false, false, false, false, false, false]) rfl (by kernel_rfl) (by kernel_rfl) rfl (fun _ _ _ h => h) hS (fun _ hSw => ?hy13) ?rest13
    case hy13 => (try dsimp only at hSw); go_simp; all_goals (with_reducible rfl)
    simp only [Act.put, List.setIfInBounds_toArray, List.set_cons_zero, List.set_cons_succ]
    refine wpAnyS_take 13 [] (v := ?v14) (listed' := #[true, true, true, true, true, true, true, true, true, true, true, true, true, true, false, false, false, false, false, false, false, false, false, false, false, false, false]) rfl (by kernel_rfl) (by kernel_rfl) rfl (fun _ _ _ h => h) hS (fun _ hSw => ?hy14) ?rest14
    case hy14 => (try dsimp only at hSw); go_simp; all_goals (with_reducible rfl)
    simp only [Act.put, List.setIfInBounds_toArray, List.set_cons_zero, List.set_cons_succ]
    refine wpAnyS_take 14 [] (v := ?v15) (listed' := #[true, true, true, true, true, true, true, true, true, true, true, true, true, true, true, false, false, false, false, false, false, false, false, false, false, false, false]) rfl (by kernel_rfl) (by kernel_rfl) rfl (fun _ _ _ h => h) hS (fun _ hSw => ?hy15) ?rest15
    case hy15 => (try dsimp only at hSw); go_simp; all_goals (with_reducible rfl)
    simp only [Act.put, List.setIfInBounds_toArray, List.set_cons_zero, List.set_cons_succ]
    refine wpAnyS_take 15 [] (v := ?v16) (listed' := #[true, true, true, true, true, true, true, true, true, true, true, true, true, true, true, true, false, false, false, false, false, false, false, false, false, false, false]) rfl (by kernel_rfl) (by kernel_rfl) rfl (fun _ _ _ h => h) hS (fun _ hSw => ?hy16) ?rest16
    case hy16 => (try dsimp only at hSw); go_simp; all_goals (with_reducible rfl)
    simp only [Act.put, List.setIfInBounds_toArray, List.set_cons_zero, List.set_cons_succ]
    refine wpAnyS_take 16 [] (v := ?v17) (listed' := #[true, true, true, true, true, true, true, true, true, true, true, true, true, true, true, true, true, false, false, false, false, false, false, false, false, false, false]) rfl (by kernel_rfl) (by kernel_rfl) rfl (fun _ _ _ h => h) hS (fun _ hSw => ?hy17) ?rest17
    case hy17 => (try dsimp only at hSw); go_simp; all_goals (with_reducible rfl)
    simp only [Act.put, List.setIfInBounds_toArray, List.set_cons_zero, List.set_cons_succ]
    refine wpAnyS_take 17 [] (v := ?v18) (listed' := #[true, true, true, true, true, true, true, true, true, true, true, true, true, true, true, true, true, true, false, false, false, false, false, false, false, false, false]) rfl (by kernel_rfl) (by kernel_rfl) rfl (fun _ _ _ h => h) hS (fun _ hSw => ?hy18) ?rest18
    case hy18 => (try dsimp only at hSw); go_simp; all_goals (with_reducible rfl)
    simp only [Act.put, List.setIfInBounds_toArray, List.set_cons_zero, List.set_cons_succ]
    refine wpAnyS_take 18 [] (v := ?v19) (listed' := #[true, true, true, true, true, true, true, true, true, true, true, true, true, true, true, true, true, true, true, false, false, false, false, false, false, false, false]) rfl (by kernel_rfl) (by kernel_rfl) rfl (fun _ _ _ h => h) hS (fun _ hSw => ?hy19) ?rest19
    case hy19 => (try dsimp only at hSw); go_simp; all_goals (with_reducible rfl)
    simp only [Act.put, List.setIfInBounds_toArray, List.set_cons_zero, List.set_cons_succ]
    refine wpAnyS_take 19 [] (v := ?v20) (listed' := #[true, true, true, true, true, true, true, true, true, true, true, true, true, true, true, true, true, true, true, true, false, false, false, false, false, false, false]) rfl (by kernel_rfl) (by kernel_rfl) rfl (fun _ _ _ h => h) hS (fun _ hSw => ?hy20) ?rest20
    case hy20 => (try dsimp only at hSw); go_simp; all_goals (with_reducible rfl)
    simp only [Act.put, List.setIfInBounds_toArray, List.set_cons_zero, List.set_cons_succ]
    refine wpAnyS_one 20 (listed' := #[true, true, true, true, true, true, true, true, true, true, true, true, true, true, true, true, true, true, true, true, true, false, false, false, false, false, false]) rfl (by kernel_rfl) (by kernel_rfl) (fun K hK => ?_)
    go_simp
    refine hK _ _ (HSk.out _ _ _ hib2 (hb2 _ 2)) (fun hS => ?_)
    clear hK K
    refine wpAnyS_take 21 [] (v := ?v22) (listed' := #[true, true, true, true, true, true, true, true, true, true, true, true, true, true, true, true, true, true, true, true, true, true, false, false, false, false, false]) rfl (by kernel_rfl) (by kernel_rfl) rfl (fun _ _ _ h => h) hS (fun _ hSw => ?hy22) ?rest22
    case hy22 => (try dsimp only at hSw); go_simp; all_goals (with_reducible rfl)
    simp only [Act.put, List.setIfInBounds_toArray, List.set_cons_zero, List.set_cons_succ]
    refine wpAnyS_take 22 [] (v := ?v23) (listed' := #[true, true, true, true, true, true, true, true, true, true, true, true, true, true, true, true, true, true, true, true, true, true, true, false, false, false, false]) rfl (by kernel_rfl) (by kernel_rfl) rfl (fun _ _ _ h => h) hS (fun _ hSw => ?hy23) ?rest23
    case hy23 => (try dsimp only at hSw); go_simp; all_goals (with_reducible rfl)
    simp only [Act.put, List.setIfInBounds_toArray, List.set_cons_zero, List.set_cons_succ]
    refine wpAnyS_one 23 (listed' := #[true, true, true, true, true, true, true, true, true, true, true, true, true, true, true, true, true, true, true, true, true, true, true, true, false, false, false]) rfl (by kernel_rfl) (by kernel_rfl) (fun K hK => ?_)
    go_simp
    refine hK _ _ (HSk.out _ _ _ hib3 hb3) (fun hS => ?_)
    clear hK K
    refine wpAnyS_take 24 [] (v := ?v25) (listed' := #[true, true, true, true, true, true, true, true, true, true, true, true, true, true, true, true, true, true, true, true, true, true, true, true, true, false, false]) rfl (by kernel_rfl) (by kernel_rfl) rfl (fun _ _ _ h => h) hS (fun _ hSw => ?hy25) ?rest25
    case hy25 => (try dsimp only at hSw); go_simp; all_goals (with_reducible rfl)
    simp only [Act.put, List.setIfInBounds_toArray, List.set_cons_zero, List.set_cons_succ]
    refine wpAnyS_take 25 [] (v := ?v26) (listed' := #[true, true, true, true, true, true, true, true, true, true, true, true, true, true, true, true, true, true, true, true, true, true, true, true, true, true, false]) rfl (by kernel_rfl) (by kernel_rfl) rfl (fun _ _ _ h => h) hS (fun _ hSw => ?hy26) ?rest26
    case hy26 => (try dsimp only at hSw); go_simp; all_goals (with_reducible rfl)
    simp only [Act.put, List.setIfInBounds_toArray, List.set_cons_zero, List.set_cons_succ]
    refine wpAnyS_one 26 (listed' := #[true, true, true, true, true, true, true, true, true, true, true, true, true, true, true, true, true, true, true, true, true, true, true, true, true, true, true]) rfl (by kernel_rfl) (by kernel_rfl) (fun K hK => ?_)
    go_simp
    refine hK _ _ (HSk.out _ _ _ hib4 hb4) (fun hS => ?_)
    clear hK K
    refine wpAnyS_done (by kernel_rfl) ?_ _
    clear hS HSk HSd
    have hl4 : w4.heap.size < w5.heap.size := lt_of_blk hr2
    have hp6 := heap_setCell_ne (o := 2) (show w.heap.size ≠ tb by omega) (.map (some kb)) (heap_setCell_ne (o := 3) (show w.heap.size ≠ ib by omega) (.slice adg s'.gl.length capg) (heap_setCell_ne (o := 2) (show w.heap.size ≠ ib by omega) (.slice adm s'.mem.length capm) hrp))
    have hq6 := heap_setCell_ne (o := 2) (show w4.heap.size ≠ tb by omega) (.map (some kb)) (heap_setCell_ne (o := 3) (show w4.heap.size ≠ ib by omega) (.slice adg s'.gl.length capg) (heap_setCell_ne (o := 2) (show w4.heap.size ≠ ib by omega) (.slice adm s'.mem.length capm) hr2))
    have k6 : Kp (ibtb ib tb) w5 (((w5.setCell ⟨ib, 2, none⟩ (.slice adm s'.mem.length capm)).setCell ⟨ib, 3, none⟩ (.slice adg s'.gl.length capg)).setCell ⟨tb, 2, none⟩ (.map (some kb))).drew := ((((Kp.refl (ibtb ib tb) w5).setAt (.inl rfl) 2 _).setAt (.inl rfl) 3 _).setAt (.inr rfl) 2 _).drew
    obtain ⟨W6, hW6⟩ : ∃ W6, W6 = (((w5.setCell ⟨ib, 2, none⟩ (.slice adm s'.mem.length capm)).setCell ⟨ib, 3, none⟩ (.slice adg s'.gl.length capg)).setCell ⟨tb, 2, none⟩ (.map (some kb))).drew := ⟨_, rfl⟩
    have hi7 : W6.heap[ib]? = some (instObj tb mb (.slice adm s'.mem.length capm) (.slice adg s'.gl.length capg)) := by rw [hW6]; exact hib4
    have ht7 : W6.heap[tb]? = some (.cells #[.int .i32 1, .int .u32 0, .map (some kb)] 110) := by rw [hW6]; exact ht4
    have hp7 : W6.heap[w.heap.size]? = some rep0 := by rw [hW6]; exact hp6
    have hq7 : W6.heap[w4.heap.size]? = some (.cells #[.int .i64 0, .int .i64 0, .int .u64 v, .int .i64 u] 51) := by rw [hW6]; exact hq6
    rw [← hW6] at k6 ⊢
    obtain ⟨e1, -⟩ := cells_of hq7
    obtain ⟨e2, e3⟩ := cells_of hp7
    have hI7 := hide hi7
    have hT7 := hide ht7
    have hP7 := hide hp7
    have KA := hide kA
    have K6 := hide k6
    clear hW6 hib2 hib3 hb2 ht2 hb3 ht3 hib4 hb4 ht4 c1 d1 c2 d2 c3 d3 hp6 hq6 k6 hi7 ht7 hp7 hq7 hib htb hrp hr2 hbb kA
    unfold NoPanic
    go_wp2_with fail
    refine leaves_cons (f := 48) (args := #[.pointer (some ⟨tb, 0, none⟩)]) (by simp) (by simp [go_sem]) ?_
    obtain ⟨hfb, hfk⟩ := reply_fin hP7.out (.int .i64 0) (.int .i64 0) (.int .u64 v) (.int .i64 u)
    have hrl : w.heap.size ≠ tb := by omega
    have hri : w.heap.size ≠ ib := by omega
    have hsw := hfk.blk hT7.out (fun h => hrl h.symm)
    have hiw := hfk.blk hI7.out (fun h => hri h.symm)
    generalize ((((W6.setCell ⟨w.heap.size, 0, none⟩ (.int .i64 0)).setCell ⟨w.heap.size, 1, none⟩ (.int .i64 0)).setCell ⟨w.heap.size, 2, none⟩ (.int .u64 v)).setCell ⟨w.heap.size, 3, none⟩ (.int .i64 u)) = w7 at *
    refine (unlock_deferred muLib ⟨tb, 0, none⟩ .returning _ ((cells_of hsw).1 0) ((cells_of hsw).2 0)).mono ?_
    rintro r u' w8 ⟨rfl, rfl, rfl⟩
    have hfin := (cells_of (heap_setCell_ne (o := 0) hrl (.int .i32 0) hfb)).1
    refine ⟨replyV 0 0 v u, by simp [results, Tryz.results27, go_sem, hfin], rfl, ?_⟩
    have k48 : Kp (fun b => b = ib ∨ b = tb ∨ b = w.heap.size) w4 (w7.setCell ⟨tb, 0, none⟩ (.int .i32 0)) :=
      (((KA.out.any.trans (K6.out.mono (S' := fun b => b = ib ∨ b = tb ∨ b = w.heap.size) (fun b _ hb => hb.elim .inl (fun h => .inr (.inl h))))).trans (hfk.mono (fun b _ (hb : b = _) => .inr (.inr hb)))).setCell (p := ⟨tb, 0, none⟩) (.inl (.inr (.inl rfl))) _)
    have kF : Kp (ibtb ib tb) w (w7.setCell ⟨tb, 0, none⟩ (.int .i32 0)) :=
      (HL.out.kp.mono (S' := fun b => b = ib ∨ b = tb ∨ w.heap.size ≤ b) (fun b _ (hb : b = _) => .inr (.inl hb))).comp ((K4.out.mono (S' := fun b => b = ib ∨ b = tb ∨ w.heap.size ≤ b) (fun b _ hb => .inr (.inr (by omega)))).trans (k48.mono (fun b _ hb => by omega))) (fun b hb h => by rcases h with h | h | h; exact .inl h; exact .inr h; omega) (fun b hb h => by rcases h with h | h | h; exact .inl h; exact .inr h; omega)
    have hbm : ∀ b, (Value.slice adm s'.mem.length capm).ownBlock = some b → w2.heap.size ≤ b := fun b hb => own_new HBe.out.memR b hb
    have hbg : ∀ b, (Value.slice adg s'.gl.length capg).ownBlock = some b → w2.heap.size ≤ b := fun b hb => own_new HBe.out.glR b hb
    refine ⟨⟨.slice adm s'.mem.length capm, .slice adg s'.gl.length capg, ⟨heap_setCell_ne hne _ hiw, H.out.mod.kp (kF.mono (fun b _ hs hr => by have := H.out.roI b hr; rcases hs with h | h <;> omega)), ?_, ?_, hsm.1, hsm.2.1, fun b hb => ⟨Nat.lt_of_lt_of_le (H.out.roI b hb).1 kF.size, (H.out.roI b hb).2⟩, fun b hb => by have := hbm b hb; omega, fun b hb => by have := hbg b hb; omega⟩, ⟨some kb, heap_setCell hsw _, .inr ⟨kb, rfl, ?_⟩, hsm.2.2⟩, fun b hb => by have := hbm b hb; omega, fun b hb => by have := hbg b hb; omega⟩, kF⟩
    · exact RowAt.kp (RowAt.own HBe.out.memR) k48 (fun b hb h => by have := hbm b hb; omega)
    · exact RowAt.kp (RowAt.own HBe.out.glR) k48 (fun b hb h => by have := hbg b hb; omega)
    · exact HBe.out.keys.kp k48 (fun h => by omega)
  · obtain ⟨m, rfl⟩ : ∃ m, t = m + 1 := ⟨t - 1, by omega⟩
    have hnz : (((m + 1 : Nat) : Int) == 0) = false := by simp; omega
    have hnz2 : (((m : Nat) : Int) + 1 == 0) = false := by simp; omega
    have hr5 : ∀ obj q, (w4.alloc obj).cell? ⟨w.heap.size, q, none⟩ = #[.int .i64 0, .int .i64 0, .int .u64 0, .int .i64 0][q]? := fun obj q => (cells_of (heap_alloc_old HR4.out)).1 q
    have hf5 : ∀ obj q, (w4.alloc obj).frozen? ⟨w.heap.size, q, none⟩ = false := fun obj q => (cells_of (heap_alloc_old HR4.out)).2 q
    go_wp2_with fail
    refine leaves_cons (f := 48) (args := #[.pointer (some ⟨tb, 0, none⟩)]) (by simp) (by simp [go_sem]) ?_
    obtain ⟨hfb, hfk⟩ := reply_fin (heap_alloc_old (o := .cells #[.int .i64 0, .int .i64 ((m : Int) + 1), .int .u64 v, .int .i64 u] 51) HR4.out) (.int .i64 0) (.int .i64 ((m : Int) + 1)) (.int .u64 v) (.int .i64 u)
    have kA := (Kp.refl no w4).alloc (.cells #[.int .i64 0, .int .i64 ((m : Int) + 1), .int .u64 v, .int .i64 u] 51)
    have hrl : w.heap.size ≠ tb := by omega
    have hsw := hfk.blk (kA.blk HT4.out (fun h => h)) (fun h => hrl h.symm)
    have kB := ((K4.out.trans kA.any).mono (S' := fun b => w.heap.size ≤ b) (fun b _ hb => by omega)).trans (hfk.mono (fun b _ (hb : b = _) => by omega))
    clear hfk kA hr5 hf5
    generalize World.setCell (World.setCell (World.setCell (World.setCell (w4.alloc (.cells #[.int .i64 0, .int .i64 ((m : Int) + 1), .int .u64 v, .int .i64 u] 51)) ⟨w.heap.size, 0, none⟩ (.int .i64 0)) ⟨w.heap.size, 1, none⟩ (.int .i64 ((m : Int) + 1))) ⟨w.heap.size, 2, none⟩ (.int .u64 v)) ⟨w.heap.size, 3, none⟩ (.int .i64 u) = w5 at *
    refine (unlock_deferred muLib ⟨tb, 0, none⟩ .returning _ ((cells_of hsw).1 0) ((cells_of hsw).2 0)).mono ?_
    rintro r u' w6 ⟨rfl, rfl, rfl⟩
    have hfin := (cells_of (heap_setCell_ne (o := 0) hrl (.int .i32 0) hfb)).1
    refine ⟨replyV 0 ((m : Int) + 1) v u, by simp [results, Tryz.results27, go_sem, hfin], rfl, fun h => absurd h (by omega), ?_⟩
    obtain ⟨r1, r2, r3⟩ := HL.out.back H.out HS.out kB
    exact ⟨fun _ => ⟨r1, r2⟩, r3⟩
end Go.Proofs.YtdeplgkhmebalaaGreatDoor

namespace Go.Proofs.YtdeplgkhmebalaaGreatDoor
open Go.RowKit

/-- The rows of look lie in old memory. -/
def RowsOk (w : World) : Prop := RowsAt w (fun b => b < w.heap.size)
theorem RowsOk.kp {w w' : World} (h : RowsOk w) (k : Kp no w w') : RowsOk w' := by
  obtain ⟨a, o, cap, h1, h2, h3, h4, h5⟩ := RowsAt.kp (ro := fun b => b < w.heap.size) h (k.mono (S' := nro fun b => b < w.heap.size) (fun _ _ h => h.elim))
  exact ⟨a, o, cap, h1, h2, Nat.lt_of_lt_of_le h3 k.size, Nat.lt_of_lt_of_le h4 k.size, h5⟩
theorem RowsOk.kp2 {w0 w : World} {S : Nat → Prop} (h : RowsOk w0) (k : Kp S w0 w) (hs : ∀ b, b < w0.heap.size → ¬ S b) : RowsOk w := by
  obtain ⟨a, o, cap, h1, h2, h3, h4, h5⟩ := h
  have k' : Kp no w0 w := k.mono (fun b hb hS => hs b hb hS)
  exact RowsOk.kp ⟨a, o, cap, h1, h2, h3, h4, h5⟩ k'

/-- An instance, its store, of a module, its state: all of them in memory made since w. -/
structure Inst (w w' : World) (ib tb : Nat) (f : Flat) (mem : List UInt8) (gl : List Int) (keys : List (Int × Int)) : Prop where
  at' : ∃ ro mb mv gv p, InstAt w' ro ib tb mb mv gv f mem gl ∧ StoreAt w' tb p keys ∧ (∀ b, ro b → w.heap.size ≤ b) ∧ (∀ b, mv.ownBlock = some b → w.heap.size ≤ b) ∧ (∀ b, gv.ownBlock = some b → w.heap.size ≤ b)
  ib : w.heap.size ≤ ib
  tb : w.heap.size ≤ tb

theorem Inst.quiet {w w' w'' : World} {ib tb : Nat} {f : Flat} {mem : List UInt8} {gl : List Int} {keys : List (Int × Int)} (h : Inst w w' ib tb f mem gl keys) (k : Kp no w' w'') : Inst w w'' ib tb f mem gl keys := by
  obtain ⟨⟨ro, mb, mv, gv, p, h1, h2, h3⟩, h4, h5⟩ := h
  exact ⟨⟨ro, mb, mv, gv, p, h1.kp k (fun h => h) (fun _ _ h => h) (fun _ _ h => h) (fun _ _ h => h), ⟨k.blk h2.blk (fun h => h), h2.map.kp k (fun _ _ h => h), h2.few⟩, h3⟩, h4, h5⟩

set_option maxRecDepth 100000 in
set_option maxHeartbeats 2000000 in
theorem started_keep {w : World} {dv : Value} {D : List UInt8} {f : Flat} (hb : BytesAt w dv D) (hd : ∀ b, dv.ownBlock = some b → b < w.heap.size) (hR : RowsOk w) (hl : D.length ≤ 1000000) (hf : loadM D = .ok f) (hpg : f.pages ≤ 1000) (hgl : f.globals.length ≤ 1000) :
    Calls Tryz.prog 21 #[dv] w fun r w' => (∃ ib tb, r = .returned (.tuple #[ptrTo ib, ptrTo tb, .bool true]) ∧ Inst w w' ib tb f (List.replicate (f.pages * 64) 0) (f.globals.map fun (n : Nat) => ((n : Nat) : Int)) []) ∧ Kp no w w' := by
  have hL := load_any hb hd hR hl
  rw [hf] at hL
  obtain ⟨ad, cap, hdv, -⟩ := hb.shape
  subst hdv
  have HL := hide hL
  clear hL hb hd hR hf
  go_enter Tryz.func21, Tryz.ntmps21
  go_wp2_with fail
  refine HL.out.mono ?_
  rintro r w1 ⟨⟨mb, rfl, hmod⟩, k1⟩
  have HMod := hide hmod
  have K1 := hide k1
  clear hmod k1 HL
  go_wp2_with fail
  refine (newStore_any _).mono ?_
  rintro r w2 ⟨rfl, hsto, k2⟩
  have htl := lt_of_blk hsto.blk
  have hsa := start_any (HMod.out.kp k2.any) htl (fun b hb => ⟨Nat.lt_of_lt_of_le hb.2 k2.size, by have := hb.2; omega⟩) hpg hgl
  have HSto := hide hsto
  have HSa := hide hsa
  have K2 := hide k2
  clear hsto hsa k2
  go_wp2_with fail
  refine HSa.out.mono ?_
  rintro r w3 ⟨⟨ib, mv, gv, rfl, hib, hin, hm, hg⟩, k3⟩
  have HIn := hide hin
  have HM := hide hm
  have HG := hide hg
  have K3 := hide k3
  have h1 := K1.out.size
  have h2 := K2.out.size
  clear hin hm hg k3
  go_wp2
  go_ret3
  refine ⟨⟨ib, w1.heap.size, rfl, ⟨made w w1, mb, mv, gv, none, HIn.out, ⟨K3.out.blk HSto.out.blk (fun h => h), .inl ⟨rfl, rfl⟩, HSto.out.few⟩, fun b hb => hb.1, fun b hb => ?_, fun b hb => ?_⟩, ?_, ?_⟩, K1.out.trans (K2.out.trans K3.out)⟩
  · have := HM.out b hb; omega
  · have := HG.out b hb; omega
  · omega
  · exact h1


def flatOkB (f : Flat) : Bool := decide (f.funcs.length ≤ 1000) && decide (f.code.length ≤ 1000000000) && f.code.all (fun x => !(x.op == 16) || decide (x.num < 1000000)) && f.funcs.all (fun g => decide (g.typ.1.length ≤ g.locals) && decide (g.locals ≤ 1000)) && decide (f.pages ≤ 1000) && decide (f.globals.length ≤ 1000)
structure FlatOk (f : Flat) : Prop where
  ok : f.Ok
  fn : ∀ k, k < f.funcs.length → (f.funcs.getD k fn0).typ.1.length ≤ (f.funcs.getD k fn0).locals ∧ (f.funcs.getD k fn0).locals ≤ 1000
  pg : f.pages ≤ 1000
  gl : f.globals.length ≤ 1000
theorem flatOk_of {f : Flat} (h : flatOkB f = true) : FlatOk f := by
  simp only [flatOkB, Bool.and_eq_true, decide_eq_true_eq, List.all_eq_true, Bool.or_eq_true, Bool.not_eq_true', beq_eq_false_iff_ne] at h
  obtain ⟨⟨⟨⟨⟨h1, h2⟩, h3⟩, h4⟩, h5⟩, h6⟩ := h
  refine ⟨⟨h1, h2, fun x hx ho => (h3 x hx).resolve_left (fun hn => hn ho)⟩, fun k hk => ?_, h5, h6⟩
  have := h4 (f.funcs.getD k fn0) (by rw [List.getD_eq_getElem?_getD, List.getElem?_eq_getElem hk]; exact List.getElem_mem hk)
  exact this

/-- A call, told of an instance. -/
theorem callI_keep {w w' : World} {ib tb : Nat} {av : Value} {f : Flat} {mem : List UInt8} {gl args : List Int} {keys : List (Int × Int)} {n fuel K : Nat} (hI : Inst w w' ib tb f mem gl keys)
    (hok : FlatOk f) (ha : ValsAt w' av args) (hal : args.length ≤ 1000) (hav : ∀ b, av.ownBlock = some b → b ≠ ib ∧ b ≠ tb) (he : refusesM f n args fuel = 0)
    (hK : K ≤ 900000) {t : Nat} {v : Int} {u : Nat} {s' : Mc} (hm : callR f n args fuel mem gl keys K = some (t, v, u, s')) (hsm : s'.mem.length ≤ 1000000 ∧ s'.gl.length ≤ 1000000 ∧ s'.keys.length ≤ 1000) :
    Calls Tryz.prog 27 #[ptrTo ib, .int .i64 n, av, .int .i64 fuel] w' fun r w'' => r = .returned (replyV 0 t v u) ∧
      (t = 0 → Inst w w'' ib tb f s'.mem s'.gl s'.keys) ∧ (t ≠ 0 → Inst w w'' ib tb f mem gl keys) ∧ Kp (ibtb ib tb) w' w'' := by
  obtain ⟨⟨ro, mb, mv, gv, p, h1, h2, h3, h4, h5⟩, h6, h7⟩ := hI
  refine Calls.mono (call_runs h1 h2 hok.ok ha hal hav hok.fn he hK hm hsm) ?_
  rintro r w'' ⟨hr, hz, hnz, hk⟩
  have hl : w.heap.size ≤ w'.heap.size := Nat.le_trans h6 (Nat.le_of_lt (lt_of_blk h1.blk))
  refine ⟨hr, fun ht => ?_, fun ht => ?_, hk⟩
  · obtain ⟨mv', gv', p', i1, i2, i3, i4⟩ := hz ht
    exact ⟨⟨ro, mb, mv', gv', p', i1, i2, h3, fun b hb => Nat.le_trans hl (i3 b hb), fun b hb => Nat.le_trans hl (i4 b hb)⟩, h6, h7⟩
  · obtain ⟨i1, i2⟩ := hnz ht
    exact ⟨⟨ro, mb, mv, gv, p, i1, i2, h3, h4, h5⟩, h6, h7⟩

theorem ValsAt.made (w : World) (l : List Int) : ValsAt (w.alloc (.cells (valCells l).toArray 38)) (.slice (some ⟨w.heap.size, 0, none⟩) l.length l.length) l := by
  have := RowAt.ofBlock (heap_alloc_new w (.cells (valCells l).toArray 38)) l.length 1 (by simp [valCells])
  unfold ValsAt
  simpa using this

set_option maxRecDepth 100000 in
set_option maxHeartbeats 2000000 in
theorem gives_keep {w w' : World} {ib tb : Nat} {av : Value} {f : Flat} {mem : List UInt8} {gl args : List Int} {keys : List (Int × Int)} {n K : Nat} (hI : Inst w w' ib tb f mem gl keys)
    (hok : FlatOk f) (ha : ValsAt w' av args) (hal : args.length ≤ 1000) (hav : ∀ b, av.ownBlock = some b → b ≠ ib ∧ b ≠ tb) (he : refusesM f n args 100000 = 0)
    (hK : K ≤ 900000) {v : Int} {u : Nat} {s' : Mc} (hm : callR f n args 100000 mem gl keys K = some (0, v, u, s')) (hsm : s'.mem.length ≤ 1000000 ∧ s'.gl.length ≤ 1000000 ∧ s'.keys.length ≤ 1000) :
    Calls Tryz.prog 22 #[ptrTo ib, .int .i64 n, av, .int .u64 v, .int .i64 u] w' fun r w'' => r = .returned (.bool true) ∧ Inst w w'' ib tb f s'.mem s'.gl s'.keys ∧ Kp (ibtb ib tb) w' w'' := by
  have hc := callI_keep (fuel := 100000) hI hok ha hal hav he hK hm hsm
  obtain ⟨ad, cap, hav', -⟩ := RowAt.shape ha
  subst hav'
  have HC := hide hc
  clear hc hI hok ha hal hav he hm hsm
  go_enter Tryz.func22, Tryz.ntmps22
  go_wp2_with fail
  refine HC.out.mono ?_
  rintro r w1 ⟨rfl, h1, -, k1⟩
  have H1 := hide (h1 trivial)
  have K1 := hide k1
  clear h1 k1 HC
  go_wp2
  go_ret
  exact ⟨by simp, H1.out.quiet ((Kp.refl no w1).alloc _), K1.out.alloc _⟩

set_option maxRecDepth 100000 in
set_option maxHeartbeats 2000000 in
theorem traps_keep {w w' : World} {ib tb : Nat} {av : Value} {f : Flat} {mem : List UInt8} {gl args : List Int} {keys : List (Int × Int)} {n fuel K : Nat} (hI : Inst w w' ib tb f mem gl keys)
    (hok : FlatOk f) (ha : ValsAt w' av args) (hal : args.length ≤ 1000) (hav : ∀ b, av.ownBlock = some b → b ≠ ib ∧ b ≠ tb) (he : refusesM f n args fuel = 0)
    (hK : K ≤ 900000) {t : Nat} (ht : t ≠ 0) {u : Nat} {s' : Mc} (hm : callR f n args fuel mem gl keys K = some (t, 0, u, s')) (hsm : s'.mem.length ≤ 1000000 ∧ s'.gl.length ≤ 1000000 ∧ s'.keys.length ≤ 1000) :
    Calls Tryz.prog 30 #[ptrTo ib, .int .i64 n, av, .int .i64 fuel, .int .i64 t, .int .i64 u] w' fun r w'' => r = .returned (.bool true) ∧ Inst w w'' ib tb f mem gl keys ∧ Kp (ibtb ib tb) w' w'' := by
  have hc := callI_keep (fuel := fuel) hI hok ha hal hav he hK hm hsm
  obtain ⟨ad, cap, hav', -⟩ := RowAt.shape ha
  subst hav'
  have HC := hide hc
  have HT := hide ht
  clear hc hI hok ha hal hav he hm hsm ht
  go_enter Tryz.func30, Tryz.ntmps30
  go_wp2_with fail
  refine HC.out.mono ?_
  rintro r w1 ⟨rfl, -, h1, k1⟩
  have H1 := hide (h1 HT.out)
  have K1 := hide k1
  clear h1 k1 HC
  go_wp2
  go_ret
  exact ⟨by simp, H1.out.quiet ((Kp.refl no w1).alloc _), K1.out.alloc _⟩

set_option maxRecDepth 100000 in
set_option maxHeartbeats 2000000 in
theorem refused_keep {w : World} {dv : Value} {D : List UInt8} {e at' : Nat} (hb : BytesAt w dv D) (hd : ∀ b, dv.ownBlock = some b → b < w.heap.size) (hR : RowsOk w) (hl : D.length ≤ 1000000) (hf : loadM D = .error ((e : Int), (at' : Int))) :
    Calls Tryz.prog 24 #[dv, .int .i64 e, .int .i64 at'] w fun r w' => r = .returned (.bool true) ∧ Kp no w w' := by
  have hL := load_any hb hd hR hl
  rw [hf] at hL
  obtain ⟨ad, cap, hdv, -⟩ := hb.shape
  subst hdv
  have HL := hide hL
  clear hL hb hd hR hf
  go_enter Tryz.func24, Tryz.ntmps24
  go_wp2_with fail
  refine HL.out.mono ?_
  rintro r w1 ⟨hr, k1⟩
  have hr' : r = .returned (.tuple #[.pointer none, .int .i64 e, .int .i64 at']) := hr
  subst hr'
  have K1 := hide k1
  clear k1 HL hr
  go_wp2
  go_ret
  exact ⟨by simp, K1.out⟩

end Go.Proofs.YtdeplgkhmebalaaGreatDoor

namespace Go.Proofs.YtdeplgkhmebalaaGreatDoor
open Go.ChangeShapes Go.WideShapes Go.ChangeAt Go.RowKit

def rowData (r : RowT) : DataW Unit := .agg [.lit (.int .u8 r.fr.toNat), .lit (.int .u8 r.upto.toNat), .lit (.int .i64 r.behind), .lit (.string r.takes), .lit (.string r.gives)]
theorem laid_rows : (Rows.laid_stoker_look_rows : DataW Unit) = .slice (rowsM.map rowData) [] := by rfl
theorem gRows : Tryz.prog.globalNamed "stoker/look.rows" = some 1 := by kernel_rfl
theorem gRowsType : (Tryz.prog.globals[1]?).map (·.type) = some 347 := by kernel_rfl
theorem cellsRow : Tryz.prog.cellsOf 329 = 5 := by kernel_rfl
theorem cellsU8 : Tryz.prog.cellsOf 5 = 1 := by kernel_rfl
theorem cellsI64 : Tryz.prog.cellsOf 3 = 1 := by kernel_rfl
theorem cellsStr : Tryz.prog.cellsOf 9 = 1 := by kernel_rfl

theorem spot_none {w : World} {b o : Nat} {sp : Option Nat} {v : Value} (h : w.cell? ⟨b, o, sp⟩ = some v) : sp = none := by
  cases sp with
  | none => rfl
  | some x =>
    unfold World.cell? at h
    split at h <;> simp at h

theorem bytes_back {z : ByteArray} {l : List UInt8} (h : z.data.toList = l) : z = ⟨l.toArray⟩ := by
  cases z with
  | mk d => subst h; simp
theorem laid_reads {P : Program} {w : World} : ∀ {l : List (String × DataW Unit)} {ps : List MemPlace}, DataW.LaidVars P w l ps → ∀ n d, (n, d) ∈ l →
    ∃ g t cs fuel p, P.globalNamed n = some g ∧ (P.globals[g]?).map (·.type) = some t ∧ w.var? P n = some cs ∧ DataW.trod (fun _ => ()) P w 0 (fun _ => true) false fuel t cs.toList = some (d, p)
  | [], _, _, _, _, hm => by cases hm
  | (n', d') :: r, ps, h, n, d, hm => by
    obtain ⟨g, t, cs, fuel, p, q, h1, h2, h3, h4, h5, _⟩ := h
    rcases List.mem_cons.1 hm with e | e
    · cases e
      exact ⟨g, t, cs, fuel, p, h1, h2, h3, h4⟩
    · exact laid_reads h5 n d e


set_option maxRecDepth 100000 in
theorem row_cells {w : World} {fuel : Nat} {cs : List Value} {r : RowT} {p : List MemPlace} (h : DataW.trod (fun _ => ()) Tryz.prog w 0 (fun _ => true) false fuel 329 cs = some (rowData r, p)) : cs = rowCells r := by
  obtain ⟨xs, n, -, hx, hl, hxl, hall⟩ := DataW.trod_struct Tryz.underlying329 h
  rw [cellsRow] at hl
  match cs, hl with
  | [c0, c1, c2, c3, c4], _ =>
  have hx1 : xs.map (·.1) = [.lit (.int .u8 r.fr.toNat), .lit (.int .u8 r.upto.toNat), .lit (.int .i64 r.behind), .lit (.string r.takes), .lit (.string r.gives)] := by
    have := congrArg Prod.fst hx
    simpa [rowData] using this.symm
  obtain ⟨x0, x1, x2, x3, x4, rfl⟩ : ∃ x0 x1 x2 x3 x4, xs = [x0, x1, x2, x3, x4] := by
    match xs, hx1 with
    | [x0, x1, x2, x3, x4], _ => exact ⟨x0, x1, x2, x3, x4, rfl⟩
  simp only [List.map_cons, List.map_nil, List.cons.injEq, and_true] at hx1
  obtain ⟨e0, e1, e2, e3, e4⟩ := hx1
  have h0 := hall 0 _ rfl
  have h1 := hall 1 _ rfl
  have h2 := hall 2 _ rfl
  have h3 := hall 3 _ rfl
  have h4 := hall 4 _ rfl
  simp [cellsU8, cellsI64, cellsStr] at h0 h1 h2 h3 h4
  obtain ⟨z0, f0, g0, -⟩ := DataW.trod_int Tryz.underlying5 h0
  obtain ⟨z1, f1, g1, -⟩ := DataW.trod_int Tryz.underlying5 h1
  obtain ⟨z2, f2, g2, -⟩ := DataW.trod_int Tryz.underlying3 h2
  obtain ⟨z3, f3, g3, -⟩ := DataW.trod_string Tryz.underlying9 h3
  obtain ⟨z4, f4, g4, -⟩ := DataW.trod_string Tryz.underlying9 h4
  subst g0 g1 g2 g3 g4
  simp at e0 e1 e2 e3 e4 f0 f1 f2 f3 f4
  subst f0 f1 f2 f3 f4
  have q3 : z3 = ⟨r.takes.toArray⟩ := bytes_back e3
  have q4 : z4 = ⟨r.gives.toArray⟩ := bytes_back e4
  rw [e0, e1, e2, q3, q4]
  rfl

theorem rows_of_laid {W : World} {laid : List (String × DataW Unit)} (hl : (laid.all fun x => x.2.handleName?.isNone) = true) (hm : ("stoker/look.rows", Rows.laid_stoker_look_rows) ∈ laid) (h : laidMetH Tryz.prog laid W) : RowsOk W := by
  rw [MakeChecks.laidMetH_plain _ _ _ hl] at h
  obtain ⟨ps, hv, -⟩ := h
  obtain ⟨g, t, cs, fuel, p, hg, ht, hvar, hd⟩ := laid_reads hv _ _ hm
  obtain rfl := Option.some.inj (gRows.symm.trans hg)
  obtain rfl := Option.some.inj (gRowsType.symm.trans ht)
  rw [laid_rows] at hd
  rcases DataW.trod_slice Tryz.underlying347 hd with ⟨-, hx⟩ | ⟨a, len, cap, elems, rest, n, -, hcs, hx, -, hlc, -, hlen, hel, -, -⟩
  · cases hx
  have hx1 : elems.map (·.1) = rowsM.map rowData := by
    have := congrArg Prod.fst hx
    simp only [DataW.slice.injEq] at this
    exact this.1.symm
  have hl28 : elems.length = 28 := by
    have := congrArg List.length hx1
    simpa [rowsM] using this
  obtain rfl : len = 28 := by omega
  have hrow : ∀ k, k < 28 → ∀ j, j < 5 → W.cell? ((a.add (k * 5)).add j) = (rowCells (rowsM.getD k noRow))[j]? := by
    intro k hk j hj
    have h1 := hel k hk
    rw [cellsRow, List.getElem?_eq_getElem (by omega)] at h1
    obtain ⟨cs', hc, ht'⟩ := Option.bind_eq_some_iff.1 h1
    obtain ⟨-, hcl, hcc⟩ := World.cells?_some hc
    have hek : (elems[k]'(by omega)).1 = rowData (rowsM.getD k noRow) := by
      have := congrArg (·[k]?) hx1
      simp only [List.getElem?_map, List.getElem?_eq_getElem (show k < elems.length by omega), List.getElem?_eq_getElem (show k < rowsM.length by simpa [rowsM] using hk), Option.map_some, Option.some.injEq] at this
      rw [this, List.getD_eq_getElem?_getD, List.getElem?_eq_getElem (show k < rowsM.length by simpa [rowsM] using hk)]
      rfl
    have hrc := row_cells (r := rowsM.getD k noRow) (p := (elems[k]'(by omega)).2) (by rw [ht', ← hek])
    rw [hcc j hj, hrc]
  obtain ⟨ab, ao, asp⟩ := a
  have hsp : asp = none := by
    have h0 := hrow 0 (by omega) 0 (by omega)
    rw [show (rowCells (rowsM.getD 0 noRow))[0]? = some (.int .u8 0) from rfl] at h0
    rw [show ((⟨ab, ao, asp⟩ : Addr).add (0 * 5)).add 0 = ⟨ab, ao, asp⟩ from rfl] at h0
    exact spot_none h0
  subst hsp
  have hv1 : W.cell? ⟨1, 0, none⟩ = some (.slice (some ⟨ab, ao, none⟩) 28 cap) := by
    rw [World.var?_cell hg hvar 0, ← Array.getElem?_toList, hcs]
    rfl
  have hlt : ∀ {b o v}, W.cell? ⟨b, o, none⟩ = some v → b < W.heap.size := fun {b o v} hc => by
    rcases Nat.lt_or_ge b W.heap.size with h1 | h1
    · exact h1
    · rw [World.cell?, Array.getElem?_eq_none h1] at hc; cases hc
  refine ⟨ab, ao, cap, hv1, hlc, hlt hv1, ?_, fun k hk j hj => ?_⟩
  · have h0 := hrow 0 (by omega) 0 (by omega)
    rw [show (rowCells (rowsM.getD 0 noRow))[0]? = some (.int .u8 0) from rfl] at h0
    exact hlt (o := ao) h0
  · have h0 := hrow k hk j hj
    rw [Addr.add_lit, Addr.add_lit] at h0
    exact h0

theorem wf_i64 {a : Int} (h : (Lit.int .i64 a).wf = true) : -9223372036854775808 ≤ a ∧ a < 9223372036854775808 := by
  have h' : (decide (IntKind.i64.min ≤ a) && decide (a ≤ IntKind.i64.max)) = true := h
  rw [show IntKind.i64.min = -9223372036854775808 from rfl, show IntKind.i64.max = 9223372036854775807 from rfl] at h'
  simp only [Bool.and_eq_true, decide_eq_true_eq] at h'
  omega
theorem wf_u64 {a : Int} (h : (Lit.int .u64 a).wf = true) : 0 ≤ a ∧ a < 18446744073709551616 := by
  have h' : (decide (IntKind.u64.min ≤ a) && decide (a ≤ IntKind.u64.max)) = true := h
  rw [show IntKind.u64.min = 0 from rfl, show IntKind.u64.max = 18446744073709551615 from rfl] at h'
  simp only [Bool.and_eq_true, decide_eq_true_eq] at h'
  omega
theorem kept_of {w w' : World} (k : Kp no w w') (P : MemPlace → Prop) : w.keptBut w' P := by
  refine ⟨k.os, k.output, fun i hi => ?_⟩
  rw [k.block i hi (fun h => h)]
  cases hw : w.heap[i]? with
  | none => rfl
  | some o =>
    cases o with
    | cells c t fr => exact ⟨rfl, rfl, rfl, fun _ _ => rfl⟩
    | map es clock => exact .inr ⟨rfl, rfl⟩
    | _ => rfl

end Go.Proofs.YtdeplgkhmebalaaGreatDoor

namespace Go.Proofs.YtdeplgkhmebalaaGreatDoor
theorem laidOut_all : laidOutB Tryz.prog = true := by kernel_rfl
theorem mapsRowed_all : mapsRowed Tryz.prog = true := by kernel_rfl
end Go.Proofs.YtdeplgkhmebalaaGreatDoor
