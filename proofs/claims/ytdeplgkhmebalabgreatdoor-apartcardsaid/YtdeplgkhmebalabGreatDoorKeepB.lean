/- All keys of a store, told in their order. -/
import Derived.Test.YtdeplgkhmebalabGreatDoorKeepA
import Derived.Shelf.SlIterI.Nil
import Derived.Shelf.SortM.Plain
import Derived.Shelf.SortM.SortNone
import Derived.Ground.GgzProg
import Derived.Ground.SlgmProg

namespace Go.Proofs.YtdeplgkhmebalabGreatDoor
open Go.RowKit Go.MuLone Go.Maps Go.Shelf

shelf_lay_g SlLaysZI.n7 Ggz 7 at Tryz 35 as keysLay
shelf_lay_g SlLaysZI.n6 Ggz 6 at Tryz 34 as sortedLay
shelf_lay_g SlLaysM.n5 Slgm 5 at Tryz 52 as sortLay

theorem sorts_lay (m : Nat) : AnyZI.SortsIn Tryz.prog sortedLay_ren Fence.wide m :=
  ⟨fun blk off cap ss W hH hblk hsz => callsIn_wide.2 (AnyM.slices_Sort_int sortLay blk off cap ss W hH hblk hsz),
   fun p cap W => callsIn_wide.2 (AnyM.slices_Sort_int_none sortLay p cap W)⟩


theorem keysCall (mb : Option Nat) (W : World) : Calls Tryz.prog 35 #[.map mb] W fun e w' => e = .returned (.func (.func 53) #[] #[.pointer (some ⟨W.heap.size, 0, none⟩)]) ∧ w' = W.alloc (.cells #[.map mb] 83) :=
  callsIn_wide.1 (AnyZI.keys_in keysLay Fence.wide 5 trivial rfl mb W)

theorem sortedCall (b nn : Nat) (D0 : DataW Unit) (w : World) (hown : w.ownsMap Tryz.prog 2 (plainElem Tryz.prog 2) b nn D0) (hmax : Maps.size D0 ≤ 1000) :
    Calls Tryz.prog 34 #[.func (.func 53) #[] #[.pointer (some ⟨w.heap.size, 0, none⟩)]] (w.alloc (.cells #[.map (some b)] 83)) fun e w' => ∃ (v : Value) (ss : List Int), e = .returned v ∧ ss.Perm (intKeys D0) ∧
      w'.ownsRow w.heap.size 2 1 v ss.length ((ss.mergeSort (fun x y => decide (x ≤ y))).map encZ) ∧ Kp no w w' := by
  have hbl := hown.lt
  have hseq : SeqGives Fence.wide 2 Tryz.prog 53 #[.pointer (some ⟨w.heap.size, 0, none⟩)] encZ (fun ss => ss.Perm (intKeys D0)) (Maps.size D0) (w.alloc (.cells #[.map (some b)] 83)) :=
    AnyZI.keys_gives (ρ := keysLay_ren) { keysLay with } Fence.wide _ trivial rfl (by omega) w.heap.size b nn D0 _ (by simp) (by simp) (by
      obtain ⟨es, clock, hb, Ft, hs, hD⟩ := hown
      exact ⟨es, clock, (Below.heap_alloc _ _ b hbl).trans hb, Ft, hs, hD⟩)
  have cS := AnyZI.sorted_in sortedLay Fence.wide 5 trivial trivial trivial trivial rfl (by omega) (sorts_lay _) (enters_of Tryz.func52 (by kernel_rfl) rfl) 53 #[.pointer (some ⟨w.heap.size, 0, none⟩)] trivial (enters_of Tryz.func53 (by kernel_rfl) rfl) _ _ (by unfold maxLen; omega) (by omega) _ hseq
  change CallsIn _ _ Tryz.prog 34 _ _ _ at cS
  refine (callsIn_wide.1 cS).mono ?_
  rintro e w' ⟨v, ss, rfl, hS, hrow, -, hb⟩
  exact ⟨v, ss, rfl, hS, own_le hrow (by simp), ((Kp.refl no w).alloc _).trans (Kp.ofBelow hb)⟩

theorem sortedCall_nil (w : World) :
    Calls Tryz.prog 34 #[.func (.func 53) #[] #[.pointer (some ⟨w.heap.size, 0, none⟩)]] (w.alloc (.cells #[.map none] 83)) fun e w' => ∃ (v : Value) (ss : List Int), e = .returned v ∧ ss = [] ∧
      w'.ownsRow w.heap.size 2 1 v ss.length ((ss.mergeSort (fun x y => decide (x ≤ y))).map encZ) ∧ Kp no w w' := by
  have hseq : SeqGives Fence.wide 2 Tryz.prog 53 #[.pointer (some ⟨w.heap.size, 0, none⟩)] encZ (fun ss : List Int => ss = []) 0 (w.alloc (.cells #[.map none] 83)) :=
    AnyZI.keys_gives_nil (ρ := keysLay_ren) { keysLay with } Fence.wide _ trivial rfl w.heap.size _ (by simp) (by simp)
  have cS := AnyZI.sorted_in sortedLay Fence.wide 5 trivial trivial trivial trivial rfl (by omega) (sorts_lay _) (enters_of Tryz.func52 (by kernel_rfl) rfl) 53 #[.pointer (some ⟨w.heap.size, 0, none⟩)] trivial (enters_of Tryz.func53 (by kernel_rfl) rfl) _ 0 (Nat.zero_le _) (by omega) _ hseq
  change CallsIn _ _ Tryz.prog 34 _ _ _ at cS
  refine (callsIn_wide.1 cS).mono ?_
  rintro e w' ⟨v, ss, rfl, hS, hrow, -, hb⟩
  exact ⟨v, ss, rfl, hS, own_le hrow (by simp), ((Kp.refl no w).alloc _).trans (Kp.ofBelow hb)⟩

theorem intKeys_facts {w : World} {b n : Nat} {D : DataW Unit} {m : List (Int × Int)} (hown : w.ownsMap Tryz.prog 2 (plainElem Tryz.prog 2) b n D) (hr : KRep D m) :
    (intKeys D).length = m.length ∧ (intKeys D).Nodup ∧ ∀ x, x ∈ intKeys D ↔ (look m x).isSome = true := by
  obtain ⟨es, hD, hpw, _⟩ := hown.entries keyed64
  obtain ⟨es', hD', hko⟩ := hown.keysOf
  obtain rfl : es = es' := by rw [hD] at hD'; simpa using hD'
  subst hD
  have hk : ∀ p ∈ es, ∃ x, p.1 = .int .i64 x := fun p hp => by obtain ⟨v, hv⟩ := hko p hp; obtain ⟨x, _, hx, _⟩ := Maps.keyOf_i64 Tryz.underlying2 hv; exact ⟨x, hx⟩
  refine ⟨?_, ?_, fun x => ?_⟩
  · have := hr.1
    simpa [intKeys, Maps.size] using this
  · unfold intKeys
    rw [List.nodup_iff_pairwise_ne, List.pairwise_map]
    refine List.Pairwise.imp_of_mem ?_ hpw
    intro p q hp hq hne e
    obtain ⟨x, hx⟩ := hk p hp
    obtain ⟨y, hy⟩ := hk q hq
    rw [hx, hy] at e hne
    exact hne (by simpa [Go.intOf] using e)
  · rw [← (hr.2 x).1, Maps.has_eq, List.any_eq_true]
    unfold intKeys
    rw [List.mem_map]
    constructor
    · rintro ⟨p, hp, rfl⟩
      obtain ⟨y, hy⟩ := hk p hp
      exact ⟨p, hp, by rw [hy]; simp [Go.intOf, Lit.sameKey]⟩
    · rintro ⟨p, hp, h⟩
      obtain ⟨y, hy⟩ := hk p hp
      rw [hy] at h
      exact ⟨p, hp, by rw [hy]; simpa [Go.intOf, Lit.sameKey] using h⟩

/-- A sorted list of keys. -/
structure KeyList (l : List Int) (m : List (Int × Int)) : Prop where
  len : l.length = m.length
  asc : l.Pairwise (· < ·)
  mem : ∀ x, x ∈ l ↔ (look m x).isSome = true
theorem KeyList.of {ss ks : List Int} {m : List (Int × Int)} (hp : ss.Perm ks) (h : ks.length = m.length ∧ ks.Nodup ∧ ∀ x, x ∈ ks ↔ (look m x).isSome = true) : KeyList (ss.mergeSort (fun x y => decide (x ≤ y))) m := by
  have hq : (ss.mergeSort (fun x y => decide (x ≤ y))).Perm ks := (List.mergeSort_perm ss _).trans hp
  refine ⟨hq.length_eq.trans h.1, ?_, fun x => (hq.mem_iff).trans (h.2.2 x)⟩
  have h1 : (ss.mergeSort (fun x y => decide (x ≤ y))).Pairwise (fun a b => decide (a ≤ b) = true) := List.pairwise_mergeSort (fun a b c => by simp; omega) (fun a b => by simp; omega) ss
  have h2 : (ss.mergeSort (fun x y => decide (x ≤ y))).Pairwise (· ≠ ·) := List.nodup_iff_pairwise_ne.1 (hq.nodup_iff.2 h.2.1)
  exact (List.Pairwise.and h1 h2).imp (fun h => by have h1 := of_decide_eq_true h.1; have := h.2; omega)

set_option maxRecDepth 100000 in
set_option maxHeartbeats 2000000 in
theorem keys_any {w : World} {tb : Nat} {p : Option Nat} {keys : List (Int × Int)} (hs : StoreAt w tb p keys) :
    Calls Tryz.prog 17 #[ptrTo tb] w fun r w' => (∃ v l, r = .returned v ∧ KeyList l keys ∧ w'.ownsRow w.heap.size 2 1 v l.length (l.map encZ)) ∧ StoreAt w' tb p keys ∧ Kp (one tb) w w' := by
  have hso := hs.blk
  obtain ⟨hsc, hsf⟩ := cells_of hso
  have htl := lt_of_blk hso
  have kL : Kp (one tb) w (w.setCell ⟨tb, 0, none⟩ (.int .i32 1)) := (Kp.refl _ w).set1 0 _
  have hs1 : (w.setCell ⟨tb, 0, none⟩ (.int .i32 1)).heap[tb]? = some (.cells #[.int .i32 1, .int .u32 0, .map p] 85) := heap_setCell hso _
  have hmap := hs.map.kp kL (hs.map.ne hs.blk)
  have hsz1 : (w.setCell ⟨tb, 0, none⟩ (.int .i32 1)).heap.size = w.heap.size := by simp [World.setCell]
  have HS := hide hs
  have KL := hide kL
  have HS1 := hide hs1
  have HMap := hide hmap
  clear hs hso kL hs1 hmap
  go_enter_defers Tryz.func17, Tryz.ntmps17
  go_wp2_with fail
  refine (lock_free muLib ⟨tb, 0, none⟩ _ (hsc 0) (hsf 0)).mono ?_
  rintro r w1 ⟨rfl, hw⟩
  rw [hw]
  clear hw w1
  obtain ⟨W1, hW1⟩ : ∃ W1, W1 = w.setCell ⟨tb, 0, none⟩ (.int .i32 1) := ⟨_, rfl⟩
  rw [← hW1] at HS1 HMap KL hsz1 ⊢
  clear hW1
  obtain ⟨hsc1, hsf1⟩ := cells_of HS1.out
  have hC : Calls Tryz.prog 34 #[.func (.func 53) #[] #[.pointer (some ⟨W1.heap.size, 0, none⟩)]] (W1.alloc (.cells #[.map p] 83)) fun e w' => ∃ (v : Value) (l : List Int), e = .returned v ∧ KeyList l keys ∧ w'.ownsRow W1.heap.size 2 1 v l.length (l.map encZ) ∧ Kp no W1 w' := by
    rcases HMap.out with ⟨rfl, rfl⟩ | ⟨b, rfl, D, n, hown, hn, hrep⟩
    · refine (sortedCall_nil W1).mono ?_
      rintro e w' ⟨v, ss, rfl, rfl, hrow, hk⟩
      exact ⟨v, [], rfl, ⟨rfl, .nil, fun x => by simp [look]⟩, by simpa using hrow, hk⟩
    · have hsz : Maps.size D ≤ 1000 := by rw [hrep.1]; exact HS.out.few
      refine (sortedCall b n D W1 hown hsz).mono ?_
      rintro e w' ⟨v, ss, rfl, hp, hrow, hk⟩
      have hkl := KeyList.of hp (intKeys_facts hown hrep)
      refine ⟨v, _, rfl, hkl, ?_, hk⟩
      rw [List.length_mergeSort]
      exact hrow
  rw [hsz1] at hC
  have HC := hide hC
  clear hsc hsf hC
  go_wp2_with fail
  refine (keysCall _ _).mono ?_
  rintro r w2 ⟨rfl, rfl⟩
  go_wp2_with fail
  refine HC.out.mono ?_
  rintro r w3 ⟨v, l, rfl, hkl, hrow, k3⟩
  have HKl := hide hkl
  have HRow := hide hrow
  have K3 := hide k3
  obtain ⟨hsc3, hsf3⟩ := cells_of (k3.blk HS1.out (fun h => h))
  have HS3 := hide (k3.blk HS1.out (fun h => h))
  clear hkl hrow k3 hsc1 hsf1
  go_wp2_with fail
  refine leaves_cons (f := 27) (args := #[.pointer (some ⟨tb, 0, none⟩)]) (by simp) (by simp [go_sem]) ?_
  refine (unlock_deferred muLib ⟨tb, 0, none⟩ .returning _ (hsc3 0) (hsf3 0)).mono ?_
  rintro r u' w4 ⟨rfl, rfl, rfl⟩
  have kA : Kp (one tb) w (w3.setCell ⟨tb, 0, none⟩ (.int .i32 0)) := (KL.out.trans K3.out.any).set1 0 _
  refine ⟨_, results_tmp rfl _ _ _, ⟨v, l, rfl, HKl.out, ?_⟩, ⟨heap_setCell HS3.out _, HS.out.map.kp kA (HS.out.map.ne HS.out.blk), HS.out.few⟩, kA⟩
  have := HRow.out
  refine ((Kp.refl (one tb) w3).set1 0 (.int .i32 0)).own this (fun b hb e => ?_)
  have h1 := (World.ownsRow.lt this b hb).1
  have e' : b = tb := e
  omega
end Go.Proofs.YtdeplgkhmebalabGreatDoor
