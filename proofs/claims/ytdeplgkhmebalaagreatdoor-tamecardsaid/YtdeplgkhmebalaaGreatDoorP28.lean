/- An instance and its store; what a call may change, copied. -/
import Derived.Test.YtdeplgkhmebalaaGreatDoorP24
import Derived.Test.YtdeplgkhmebalaaGreatDoorP10
import Derived.Test.YtdeplgkhmebalaaGreatDoorP05
import Derived.Shelf.Lay
import Derived.Shelf.SlMaps.Copy
import Derived.Carry

namespace Go.Proofs.YtdeplgkhmebalaaGreatDoor
open Go.RowKit Go.Shelf
open Go.Maps (Keyed Merged)
shelf_lay_g SlLaysX.n5 Slmp 5 at Tryz 70 as copyLay
noncomputable abbrev kR : Value → Option (DataW Unit × List MemPlace) := plainElem Tryz.prog 2
theorem atKey_none {D : DataW Unit} {k : Lit} {z : DataW Unit} (h : Maps.has D k = false) : D.atKey k z = z := by
  cases D with
  | map es =>
    rw [Maps.has_eq] at h
    have : es.find? (fun p => p.1.sameKey k) = none := List.find?_eq_none.2 (fun p hp => by have := List.any_eq_false.1 h p hp; simpa using this)
    unfold DataW.atKey
    simp only [this]
  | _ => rfl
theorem merge_self {w : World} {b n : Nat} {D : DataW Unit} (h : w.ownsMap Tryz.prog 2 kR b n D) : Lib.mergeD (.map []) D = D := by
  have hM : Merged D (.map []) D (fun _ => false) := by
    refine ⟨fun k => by simp [Maps.has], fun k z => ?_⟩
    by_cases hk : Maps.has D k = true
    · simp [hk]
    · have hk' : Maps.has D k = false := by simpa using hk
      rw [atKey_none hk']
      simp [hk']
      rfl
  exact (Maps.merged_eq keyed64.one hM (fun _ => rfl) (h.canon keyed64) ((World.ownsMap_made w Tryz.prog 2 kR).canonK keyed64) (h.canonK keyed64)).symm
def MapAt (w : World) (p : Option Nat) (m : List (Int × Int)) : Prop := (p = none ∧ m = []) ∨ ∃ b, p = some b ∧ KeysAt w b m
structure StoreAt (w : World) (tb : Nat) (p : Option Nat) (m : List (Int × Int)) : Prop where
  blk : w.heap[tb]? = some (.cells #[.int .i32 0, .int .u32 0, .map p] 110)
  map : MapAt w p m
  few : m.length ≤ 1000
abbrev instObj (tb mb : Nat) (mv gv : Value) : Obj := .cells #[ptrTo tb, ptrTo mb, mv, gv] 112
structure InstAt (w : World) (ro : Nat → Prop) (ib tb mb : Nat) (mv gv : Value) (f : Flat) (mem : List UInt8) (gl : List Int) : Prop where
  blk : w.heap[ib]? = some (instObj tb mb mv gv)
  mod : ModAt w ro mb 123 f
  memR : RowAt w mv 1 mem.length (byteCells' mem)
  glR : RowAt w gv 1 gl.length (valCells gl)
  mn : mem.length ≤ 1000000
  gn : gl.length ≤ 1000000
  roI : ∀ b, ro b → b < w.heap.size ∧ b ≠ ib ∧ b ≠ tb
  mvI : ∀ b, mv.ownBlock = some b → b ≠ ib ∧ b ≠ tb
  gvI : ∀ b, gv.ownBlock = some b → b ≠ ib ∧ b ≠ tb
theorem MapAt.kp {S : Nat → Prop} {w w' : World} {p : Option Nat} {m : List (Int × Int)} (h : MapAt w p m) (k : Kp S w w') (hs : ∀ b, p = some b → ¬ S b) : MapAt w' p m := by
  rcases h with ⟨rfl, rfl⟩ | ⟨b, rfl, h⟩
  · exact .inl ⟨rfl, rfl⟩
  · exact .inr ⟨b, rfl, h.kp k (hs b rfl)⟩
theorem MapAt.src {w : World} {p : Option Nat} {m : List (Int × Int)} (h : MapAt w p m) (hm : m.length ≤ 1000) : ∃ D : DataW Unit, SrcOf Tryz.prog 2 kR w p D ∧ KRep (Lib.mergeD (.map []) D) m ∧ Maps.size D ≤ 1000 := by
  rcases h with ⟨rfl, rfl⟩ | ⟨b, rfl, D, n, h1, h2, h3⟩
  · refine ⟨.nil, .inl ⟨rfl, rfl⟩, ⟨rfl, fun k => ⟨rfl, rfl⟩⟩, by simp [Maps.size]⟩
  · refine ⟨D, .inr ⟨b, n, rfl, h1⟩, ?_, ?_⟩
    · rw [merge_self h1]; exact h3
    · rw [h3.1]; exact hm
theorem MapAt.lt {w : World} {p : Option Nat} {m : List (Int × Int)} (h : MapAt w p m) : ∀ b, p = some b → b < w.heap.size := by
  rcases h with ⟨rfl, rfl⟩ | ⟨b, rfl, h⟩
  · intro b hb; cases hb
  · intro b' hb; cases hb; exact h.lt
theorem bytes'_oneCell (l : List UInt8) : ∀ u ∈ byteCells' l, u.oneCell' = true := bytes_oneCell l
theorem enters_freshB : ∀ args w, (callFunc 53 args).run Tryz.prog w = .ok (.enter 53 args) w := enters_of Tryz.func53 (by kernel_rfl) rfl
theorem enters_freshV : ∀ args w, (callFunc 52 args).run Tryz.prog w = .ok (.enter 52 args) w := enters_of Tryz.func52 (by kernel_rfl) rfl
structure StateAt (w w' : World) (sb : Nat) (mem : List UInt8) (gl : List Int) (keys : List (Int × Int)) (kb gm gg : Nat) : Prop where
  blk : w'.heap[sb]? = some (.cells #[.slice (some ⟨gm, 0, none⟩) mem.length mem.length, .slice (some ⟨gg, 0, none⟩) gl.length gl.length, .map (some kb)] 125)
  memR : w'.ownsRow w.heap.size 5 1 (.slice (some ⟨gm, 0, none⟩) mem.length mem.length) mem.length (byteCells' mem)
  glR : w'.ownsRow w.heap.size 38 1 (.slice (some ⟨gg, 0, none⟩) gl.length gl.length) gl.length (valCells gl)
  keys : KeysAt w' kb keys
  o1 : w.heap.size ≤ kb
  o2 : kb < gm
  o3 : gm < gg
  o4 : gg < sb
theorem own_le {w : World} {base base' size n : Nat} {e : TypeId} {v : Value} {xs : List Value} (h : w.ownsRow base e size v n xs) (hb : base' ≤ base) : w.ownsRow base' e size v n xs :=
  ⟨h.1, h.2.elim Or.inl (fun ⟨g, cap, cur, hv, hg, r⟩ => Or.inr ⟨g, cap, cur, hv, Nat.le_trans hb hg, r⟩)⟩
set_option maxRecDepth 100000 in
set_option maxHeartbeats 2000000 in
theorem state_any {w : World} {ro : Nat → Prop} {ib tb mb : Nat} {mv gv : Value} {f : Flat} {mem : List UInt8} {gl : List Int} {p : Option Nat} {keys : List (Int × Int)} (h : InstAt w ro ib tb mb mv gv f mem gl) (hc : w.cell? ⟨tb, 2, none⟩ = some (.map p)) (hmap : MapAt w p keys) (hf : keys.length ≤ 1000) :
    Calls Tryz.prog 50 #[ptrTo ib] w fun r w' => (∃ sb kb gm gg, r = .returned (ptrTo sb) ∧ StateAt w w' sb mem gl keys kb gm gg) ∧ Kp no w w' := by
  obtain ⟨D, hsrc, hrep, hsz⟩ := hmap.src hf
  have hmm := @run_makeMap Tryz.prog
  have hg0 : w.grownBy (w.alloc (.map #[] 0)) none := World.grownBy_alloc w _ none
  have hs0 := hsrc.kept hg0 (by cases p <;> simp)
  have hne : p ≠ some w.heap.size := fun e => absurd (hsrc.lt _ e) (Nat.lt_irrefl _)
  have c1 : Calls Tryz.prog 70 #[.map (some w.heap.size), .map p] (w.alloc (.map #[] 0)) (fun e w' => e = .returned (.tuple #[]) ∧ w'.ownsMap Tryz.prog 2 kR w.heap.size (0 + Maps.size D) (Lib.mergeD (.map []) D) ∧ (w.alloc (.map #[] 0)).grownBy w' (some w.heap.size)) :=
    AnyX.maps_Copy_opt copyLay keyed64 kR w.heap.size 0 p (.map []) D _ (World.ownsMap_made w Tryz.prog 2 kR) hs0 hne (by unfold maxLen; omega)
  obtain ⟨adm, capm, hmv, -⟩ := h.memR.shape
  obtain ⟨adg, capg, hgv, -⟩ := h.glR.shape
  subst hmv hgv
  have hio := h.blk
  obtain ⟨hi, -⟩ := cells_of hio
  have hi1 : ∀ obj q, (w.alloc obj).cell? ⟨ib, q, none⟩ = #[ptrTo tb, ptrTo mb, .slice adm mem.length capm, .slice adg gl.length capg][q]? := fun obj q => (cells_of (heap_alloc_old hio)).1 q
  have hc1 : ∀ obj, (w.alloc obj).cell? ⟨tb, 2, none⟩ = some (.map p) := fun obj => ((Kp.refl no w).alloc obj).allCells hc
  have HI := hide h
  have C1 := hide c1
  have HR := hide hrep
  have HIo := hide hio
  clear h c1 hs0 hsrc hmap hrep hio hne hg0 hc
  go_enter Tryz.func50, Tryz.ntmps50
  go_wp2_with fail
  refine C1.out.mono ?_
  rintro r w1 ⟨rfl, hown1, hgrow1⟩
  have k1 : Kp no w w1 := (((Kp.refl no w).alloc _).grown hgrow1 (fun k e => .inr (by cases e; exact Nat.le_refl _)))
  have hk1 : KeysAt w1 w.heap.size keys := ⟨_, _, hown1, by omega, HR.out⟩
  have hl1 := hk1.lt
  have HK1 := hide hk1
  have K1 := hide k1
  have HIo1 := hide (k1.blk HIo.out (fun h => h))
  obtain ⟨S, hSd⟩ : ∃ S : World → Prop, S = fun w' => ∀ q, w'.cell? ⟨ib, q, none⟩ = #[ptrTo tb, ptrTo mb, .slice adm mem.length capm, .slice adg gl.length capg][q]? := ⟨_, rfl⟩
  have hSk : ∀ W', Kp no w1 W' → S W' := fun W' k => by rw [hSd]; exact (cells_of (k.blk HIo1.out (fun h => h))).1
  have HSk := hide hSk
  have HSd := hide hSd
  clear hown1 hgrow1 hk1 hi hi1 hc1 hSk hSd k1
  go_wp2_with fail
  refine wp_region_S 14 (S) (by kernel_rfl) (n := 14) (listed := #[false, false, false, false, false, false, false, false, false, false, false, false, false, false]) rfl (by kernel_rfl) ?hS (fun hS => ?_)
  case hS => exact HSk.out _ ((Kp.refl _ _).drew)
  have hSd := HSd.out
  subst hSd
  refine tk 0 [] rfl (by kernel_rfl) rfl (fun _ _ _ h => h) hS (fun _ h => by (try dsimp only at h); go_simp; all_goals with_reducible rfl) ?_
  simp only [pS]
  refine tk 1 [] rfl (by kernel_rfl) rfl (fun _ _ _ h => h) hS (fun _ h => by (try dsimp only at h); go_simp; all_goals with_reducible rfl) ?_
  simp only [pS]
  refine tk 2 [] rfl (by kernel_rfl) rfl (fun _ _ _ h => h) hS (fun _ h => by (try dsimp only at h); go_simp; all_goals with_reducible rfl) ?_
  simp only [pS]
  refine tk 3 [] rfl (by kernel_rfl) rfl (fun _ _ _ h => h) hS (fun _ h => by (try dsimp only at h); go_simp; all_goals with_reducible rfl) ?_
  simp only [pS]
  refine tk 5 [] rfl (by kernel_rfl) rfl (fun _ _ _ h => h) hS (fun _ h => by (try dsimp only at h); go_simp; all_goals with_reducible rfl) ?_
  simp only [pS]
  refine tk 6 [] rfl (by kernel_rfl) rfl (fun _ _ _ h => h) hS (fun _ h => by (try dsimp only at h); go_simp; all_goals with_reducible rfl) ?_
  simp only [pS]
  refine tk 7 [] rfl (by kernel_rfl) rfl (fun _ _ _ h => h) hS (fun _ h => by (try dsimp only at h); go_simp; all_goals with_reducible rfl) ?_
  simp only [pS]
  refine tk 8 [] rfl (by kernel_rfl) rfl (fun _ _ _ h => h) hS (fun _ h => by (try dsimp only at h); go_simp; all_goals with_reducible rfl) ?_
  simp only [pS]
  refine tk 10 [] rfl (by kernel_rfl) rfl (fun _ _ _ h => h) hS (fun _ h => by (try dsimp only at h); go_simp; all_goals with_reducible rfl) ?_
  simp only [pS]
  refine wpAnyS_one 4 (listed' := #[true, true, true, true, true, true, true, true, true, false, true, false, false, false]) rfl (by kernel_rfl) (by kernel_rfl) (fun K hK => ?_)
  have hB := freshB_any (w := w1.drew) (RowAt.kp HI.out.memR (K1.out.drew) (fun _ _ h => h)) (bytes'_oneCell mem) HI.out.mn
  refine step_call (by rfl) 53 _ _ (by rfl) enters_freshB _ (by rfl) hB ?_
  rintro r w2 ⟨⟨rfl, ho2⟩, k2⟩
  have k2' : Kp no w1 w2 := ((Kp.refl no w1).drew).trans k2
  refine ⟨_, rfl, hK _ _ (HSk.out _ k2') (fun hS => ?_)⟩
  clear hK K hB
  simp only [pS]
  refine wpAnyS_one 9 (listed' := #[true, true, true, true, true, true, true, true, true, true, true, false, false, false]) rfl (by kernel_rfl) (by kernel_rfl) (fun K hK => ?_)
  have hV := freshV_any (w := w2) (RowAt.kp HI.out.glR (K1.out.trans k2') (fun _ _ h => h)) (vals_oneCell gl) HI.out.gn
  refine step_call (by rfl) 52 _ _ (by rfl) enters_freshV _ (by rfl) hV ?_
  rintro r w3 ⟨⟨rfl, ho3⟩, k3⟩
  refine ⟨_, rfl, hK _ _ (HSk.out _ (k2'.trans k3)) (fun hS => ?_)⟩
  clear hK K hV
  simp only [pS]
  refine tk 11 [] rfl (by kernel_rfl) rfl (fun _ _ _ h => h) hS (fun _ h => by (try dsimp only at h); go_simp; all_goals with_reducible rfl) ?_
  simp only [pS]
  refine wpAnyS_one 12 (listed' := #[true, true, true, true, true, true, true, true, true, true, true, true, true, false]) rfl (by kernel_rfl) (by kernel_rfl) (fun K hK => ?_)
  go_simp
  refine hK _ _ (HSk.out _ ((k2'.trans k3).alloc _)) (fun hS => ?_)
  clear hK K
  refine tk 13 [] rfl (by kernel_rfl) rfl (fun _ _ _ h => h) hS (fun _ h => by (try dsimp only at h); go_simp; all_goals with_reducible rfl) ?_
  simp only [pS]
  refine wpAnyS_done (by kernel_rfl) ?_ _
  clear hS
  have hl2 := own_lt ho2 rfl
  have hl3 := own_lt ho3 rfl
  have h0 := K1.out.size
  have h12 : w1.heap.size ≤ w2.heap.size := k2'.size
  have hx2 := hide (own_le (k3.own ho2 (fun _ _ h => h)) (show w.heap.size ≤ w1.drew.heap.size from h0))
  have hx3 := hide (own_le ho3 (Nat.le_trans h0 h12))
  have hk3 := hide (HK1.out.kp (k2'.trans k3) (fun h => h))
  have KF := hide (K1.out.trans (k2'.trans k3))
  clear ho2 ho3 k2 k2' k3
  go_wp2
  go_ret
  refine ⟨⟨w3.heap.size, rfl, w.heap.size, w1.heap.size, w2.heap.size, ⟨heap_alloc_new _ _, ?_, ?_, ?_, Nat.le_refl _, hl1, hl2, hl3⟩⟩, KF.out.alloc _⟩
  · exact ((Kp.refl no w3).alloc _).own hx2.out (fun _ _ h => h)
  · exact ((Kp.refl no w3).alloc _).own hx3.out (fun _ _ h => h)
  · exact hk3.out.kp ((Kp.refl no w3).alloc _) (fun h => h)
end Go.Proofs.YtdeplgkhmebalaaGreatDoor
