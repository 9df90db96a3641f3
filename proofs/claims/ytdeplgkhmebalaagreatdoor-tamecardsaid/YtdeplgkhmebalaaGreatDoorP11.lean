/- The statements' own functions: a module of functions. -/
import Derived.Test.YtdeplgkhmebalaaGreatDoorP10
import Derived.Test.YtdeplgkhmebalaaGreatDoorP05
import Derived.Lib.SlBytesConst

namespace Go.Proofs.YtdeplgkhmebalaaGreatDoor
open Go.RowKit
structure FnS where
  params : List UInt8
  results : List UInt8
  locals : List UInt8
  code : List UInt8
def fnS0 : FnS := ⟨[], [], [], []⟩
def tyB (f : FnS) : List UInt8 := uB f.params.length ++ f.params ++ uB f.results.length ++ f.results
def bodyIn (f : FnS) : List UInt8 := uB f.locals.length ++ f.locals ++ f.code ++ [11]
def bodyB (f : FnS) : List UInt8 := uB (bodyIn f).length ++ bodyIn f
def modA (fs : List FnS) (k : Nat) : List UInt8 := [83, 84, 75, 1] ++ uB fs.length ++ (fs.take k).flatMap tyB
def modB (fs : List FnS) (k : Nat) : List UInt8 := modA fs fs.length ++ uB fs.length ++ (List.range k).flatMap uB
def modC (pages : Nat) (fs : List FnS) (k : Nat) : List UInt8 := modB fs fs.length ++ [1, 126, 1, 5] ++ uB pages ++ (fs.take k).flatMap bodyB
def moduleB (pages : Nat) (fs : List FnS) : List UInt8 := modC pages fs fs.length
def FnsAt (w : World) (v : Value) (fs : List FnS) : Prop :=
  ∃ vs, RowAt w v 4 fs.length vs ∧ ∀ k, k < fs.length → ∃ x0 x1 x2 x3, vs[k * 4]? = some x0 ∧ vs[k * 4 + 1]? = some x1 ∧ vs[k * 4 + 2]? = some x2 ∧ vs[k * 4 + 3]? = some x3 ∧
    BytesAt w x0 (fs.getD k fnS0).params ∧ BytesAt w x1 (fs.getD k fnS0).results ∧ BytesAt w x2 (fs.getD k fnS0).locals ∧ BytesAt w x3 (fs.getD k fnS0).code
theorem BytesAt.kq {w w' : World} {v : Value} {l : List UInt8} (h : BytesAt w v l) (k : Kp no w w') : BytesAt w' v l := RowAt.kp h k (fun _ _ h => h)
theorem FnsAt.kp {w w' : World} {v : Value} {fs : List FnS} (h : FnsAt w v fs) (k : Kp no w w') : FnsAt w' v fs := by
  obtain ⟨vs, h1, h2⟩ := h
  refine ⟨vs, h1.kp k (fun _ _ h => h), fun j hj => ?_⟩
  obtain ⟨x0, x1, x2, x3, e0, e1, e2, e3, b0, b1, b2, b3⟩ := h2 j hj
  exact ⟨x0, x1, x2, x3, e0, e1, e2, e3, b0.kq k, b1.kq k, b2.kq k, b3.kq k⟩
theorem FnsAt.get {w : World} {v : Value} {fs : List FnS} (h : FnsAt w v fs) {k : Nat} (hk : k < fs.length) :
    ∃ a o cap a0 c0 a1 c1 a2 c2 a3 c3, v = .slice (some ⟨a, o, none⟩) fs.length cap ∧ fs.length ≤ cap ∧
      w.cell? ⟨a, o + k * 4, none⟩ = some (.slice a0 (fs.getD k fnS0).params.length c0) ∧ w.cell? ⟨a, o + k * 4 + 1, none⟩ = some (.slice a1 (fs.getD k fnS0).results.length c1) ∧
      w.cell? ⟨a, o + k * 4 + 2, none⟩ = some (.slice a2 (fs.getD k fnS0).locals.length c2) ∧ w.cell? ⟨a, o + k * 4 + 3, none⟩ = some (.slice a3 (fs.getD k fnS0).code.length c3) ∧
      BytesAt w (.slice a0 (fs.getD k fnS0).params.length c0) (fs.getD k fnS0).params ∧ BytesAt w (.slice a1 (fs.getD k fnS0).results.length c1) (fs.getD k fnS0).results ∧
      BytesAt w (.slice a2 (fs.getD k fnS0).locals.length c2) (fs.getD k fnS0).locals ∧ BytesAt w (.slice a3 (fs.getD k fnS0).code.length c3) (fs.getD k fnS0).code := by
  obtain ⟨vs, h1, h2⟩ := h
  obtain ⟨x0, x1, x2, x3, e0, e1, e2, e3, b0, b1, b2, b3⟩ := h2 k hk
  obtain ⟨a0, c0, rfl, -⟩ := b0.shape
  obtain ⟨a1, c1, rfl, -⟩ := b1.shape
  obtain ⟨a2, c2, rfl, -⟩ := b2.shape
  obtain ⟨a3, c3, rfl, -⟩ := b3.shape
  obtain ⟨hl, ⟨rfl, hn⟩ | ⟨a, o, cap, rfl, hc, hcell⟩⟩ := h1
  · omega
  exact ⟨a, o, cap, a0, c0, a1, c1, a2, c2, a3, c3, rfl, hc, hcell _ _ e0, hcell _ _ e1, hcell _ _ e2, hcell _ _ e3, b0, b1, b2, b3⟩
theorem FnsAt.shape {w : World} {v : Value} {fs : List FnS} (h : FnsAt w v fs) : ∃ ad cap, v = .slice ad fs.length cap ∧ fs.length ≤ cap := by
  obtain ⟨vs, h1, -⟩ := h
  exact h1.shape
theorem ListsAt.made {W : World} {t : TypeId} (xs : List (Value × List UInt8)) (h : ∀ p ∈ xs, BytesAt W p.1 p.2) : ListsAt (W.alloc (.cells (xs.map (·.1)).toArray t)) (.slice (some ⟨W.heap.size, 0, none⟩) xs.length xs.length) (xs.map (·.2)) := by
  have k : Kp no W (W.alloc (.cells (xs.map (·.1)).toArray t)) := (Kp.refl _ _).alloc _
  refine ⟨xs.map (·.1), ?_, fun j hj => ?_⟩
  · have := RowAt.ofBlock (heap_alloc_new W (.cells (xs.map (·.1)).toArray t)) xs.length 1 (by simp)
    simpa using this
  · rw [List.length_map] at hj
    refine ⟨(xs[j]).1, by simp [hj], ?_⟩
    have e : (xs.map (·.2)).getD j [] = (xs[j]).2 := by simp [List.getD, hj]
    rw [e]
    exact (h _ (List.getElem_mem hj)).kq k
theorem flatMap_take {α : Type} (g : α → List UInt8) {fs : List α} {k : Nat} (hk : k < fs.length) (d : α) : (fs.take (k + 1)).flatMap g = (fs.take k).flatMap g ++ g (fs.getD k d) := by
  rw [List.take_add_one, List.flatMap_append, List.getElem?_eq_getElem hk]
  simp [List.getD, List.getElem?_eq_getElem hk]
theorem flatMap_le {α : Type} (g : α → List UInt8) (fs : List α) (k : Nat) : ((fs.take k).flatMap g).length ≤ (fs.flatMap g).length := by
  conv => rhs; rw [← List.take_append_drop k fs, List.flatMap_append, List.length_append]
  omega
theorem modA_succ {fs : List FnS} {k : Nat} (hk : k < fs.length) : modA fs (k + 1) = modA fs k ++ (uB (fs.getD k fnS0).params.length ++ ((fs.getD k fnS0).params ++ (uB (fs.getD k fnS0).results.length ++ (fs.getD k fnS0).results))) := by
  unfold modA
  rw [flatMap_take tyB hk fnS0]
  simp [tyB]
theorem modB_succ (fs : List FnS) (k : Nat) : modB fs (k + 1) = modB fs k ++ uB k := by
  unfold modB
  rw [List.range_succ, List.flatMap_append]
  simp
theorem modC_succ {pages : Nat} {fs : List FnS} {k : Nat} (hk : k < fs.length) : modC pages fs (k + 1) = modC pages fs k ++ (uB (bodyIn (fs.getD k fnS0)).length ++ bodyIn (fs.getD k fnS0)) := by
  unfold modC
  rw [flatMap_take bodyB hk fnS0]
  simp [bodyB]
theorem modC_le (pages : Nat) (fs : List FnS) (k : Nat) : (modC pages fs k).length ≤ (moduleB pages fs).length := by
  unfold moduleB modC
  have := flatMap_le bodyB fs k
  simp only [List.length_append, List.take_length] at *
  omega
theorem modB_le (pages : Nat) (fs : List FnS) {k : Nat} (hk : k ≤ fs.length) : (modB fs k).length ≤ (moduleB pages fs).length := by
  have h1 : (modB fs k).length ≤ (modB fs fs.length).length := by
    unfold modB
    have := flatMap_le uB (List.range fs.length) k
    rw [List.take_range, Nat.min_eq_left hk] at this
    simp only [List.length_append] at *
    omega
  have h2 : (modB fs fs.length).length ≤ (modC pages fs fs.length).length := by
    unfold modC
    simp only [List.length_append]
    omega
  exact Nat.le_trans h1 h2
theorem modA_le (pages : Nat) (fs : List FnS) (k : Nat) : (modA fs k).length ≤ (moduleB pages fs).length := by
  have h1 : (modA fs k).length ≤ (modA fs fs.length).length := by
    unfold modA
    have := flatMap_le tyB fs k
    simp only [List.length_append, List.take_length] at *
    omega
  have h2 : (modA fs fs.length).length ≤ (modB fs fs.length).length := by
    unfold modB
    simp only [List.length_append]
    omega
  exact Nat.le_trans h1 (Nat.le_trans h2 (modB_le pages fs (Nat.le_refl _)))
theorem enters_uK : ∀ args w, (callFunc 45 args).run Tryz.prog w = .ok (.enter 45 args) w := enters_of Tryz.func45 (by kernel_rfl) rfl
theorem enters_joinK : ∀ args w, (callFunc 18 args).run Tryz.prog w = .ok (.enter 18 args) w := enters_of Tryz.func18 (by kernel_rfl) rfl
theorem NB.newer {w w1 w' : World} {v : Value} {l : List UInt8} (h : NB w1 w' v l) (hw : w.heap.size ≤ w1.heap.size) : NB w w' v l := by
  obtain ⟨h1, h2⟩ := h
  refine ⟨h1, h2.imp id ?_⟩
  rintro ⟨g, cap, cur, r1, r2, r3⟩
  exact ⟨g, cap, cur, r1, Nat.le_trans hw r2, r3⟩
theorem NB.as {w w' : World} {v : Value} {l m : List UInt8} (h : NB w w' v l) (e : l = m) : NB w w' v m := e ▸ h
theorem join_2 {W : World} {x0 x1 : Value} {l0 l1 : List UInt8} (h0 : BytesAt W x0 l0) (h1 : BytesAt W x1 l1) (ht : (l0 ++ l1).length ≤ 1000000000) :
    Calls Tryz.prog 18 #[.slice (some ⟨W.heap.size, 0, none⟩) 2 2] (W.alloc (.cells #[x0, x1] 25)) fun r w' => (∃ v, r = .returned v ∧ NB W w' v (l0 ++ l1)) ∧ Kp no W w' := by
  have hL := ListsAt.made (W := W) (t := 25) [(x0, l0), (x1, l1)] (by
    intro p hp
    simp only [List.mem_cons, List.mem_nil_iff, or_false] at hp
    rcases hp with rfl | rfl <;> assumption)
  have e : ([l0, l1] : List (List UInt8)).flatten = l0 ++ l1 := by simp
  have hj := joinK_any hL (by simp) (by show ([l0, l1] : List (List UInt8)).flatten.length ≤ _; rw [e]; exact ht)
  refine Calls.mono hj ?_
  rintro r w' ⟨⟨v, rfl, h⟩, k⟩
  refine ⟨⟨v, rfl, ?_⟩, ((Kp.refl no W).alloc _).trans k⟩
  rw [← e]
  exact NB.newer h (by simp)
theorem join_3 {W : World} {x0 x1 x2 : Value} {l0 l1 l2 : List UInt8} (h0 : BytesAt W x0 l0) (h1 : BytesAt W x1 l1) (h2 : BytesAt W x2 l2) (ht : (l0 ++ (l1 ++ l2)).length ≤ 1000000000) :
    Calls Tryz.prog 18 #[.slice (some ⟨W.heap.size, 0, none⟩) 3 3] (W.alloc (.cells #[x0, x1, x2] 25)) fun r w' => (∃ v, r = .returned v ∧ NB W w' v (l0 ++ (l1 ++ l2))) ∧ Kp no W w' := by
  have hL := ListsAt.made (W := W) (t := 25) [(x0, l0), (x1, l1), (x2, l2)] (by
    intro p hp
    simp only [List.mem_cons, List.mem_nil_iff, or_false] at hp
    rcases hp with rfl | rfl | rfl <;> assumption)
  have e : ([l0, l1, l2] : List (List UInt8)).flatten = l0 ++ (l1 ++ l2) := by simp
  have hj := joinK_any hL (by simp) (by show ([l0, l1, l2] : List (List UInt8)).flatten.length ≤ _; rw [e]; exact ht)
  refine Calls.mono hj ?_
  rintro r w' ⟨⟨v, rfl, h⟩, k⟩
  refine ⟨⟨v, rfl, ?_⟩, ((Kp.refl no W).alloc _).trans k⟩
  rw [← e]
  exact NB.newer h (by simp)
theorem join_4 {W : World} {x0 x1 x2 x3 : Value} {l0 l1 l2 l3 : List UInt8} (h0 : BytesAt W x0 l0) (h1 : BytesAt W x1 l1) (h2 : BytesAt W x2 l2) (h3 : BytesAt W x3 l3) (ht : (l0 ++ (l1 ++ (l2 ++ l3))).length ≤ 1000000000) :
    Calls Tryz.prog 18 #[.slice (some ⟨W.heap.size, 0, none⟩) 4 4] (W.alloc (.cells #[x0, x1, x2, x3] 25)) fun r w' => (∃ v, r = .returned v ∧ NB W w' v (l0 ++ (l1 ++ (l2 ++ l3)))) ∧ Kp no W w' := by
  have hL := ListsAt.made (W := W) (t := 25) [(x0, l0), (x1, l1), (x2, l2), (x3, l3)] (by
    intro p hp
    simp only [List.mem_cons, List.mem_nil_iff, or_false] at hp
    rcases hp with rfl | rfl | rfl | rfl <;> assumption)
  have e : ([l0, l1, l2, l3] : List (List UInt8)).flatten = l0 ++ (l1 ++ (l2 ++ l3)) := by simp
  have hj := joinK_any hL (by simp) (by show ([l0, l1, l2, l3] : List (List UInt8)).flatten.length ≤ _; rw [e]; exact ht)
  refine Calls.mono hj ?_
  rintro r w' ⟨⟨v, rfl, h⟩, k⟩
  refine ⟨⟨v, rfl, ?_⟩, ((Kp.refl no W).alloc _).trans k⟩
  rw [← e]
  exact NB.newer h (by simp)
theorem join_5 {W : World} {x0 x1 x2 x3 x4 : Value} {l0 l1 l2 l3 l4 : List UInt8} (h0 : BytesAt W x0 l0) (h1 : BytesAt W x1 l1) (h2 : BytesAt W x2 l2) (h3 : BytesAt W x3 l3) (h4 : BytesAt W x4 l4) (ht : (l0 ++ (l1 ++ (l2 ++ (l3 ++ l4)))).length ≤ 1000000000) :
    Calls Tryz.prog 18 #[.slice (some ⟨W.heap.size, 0, none⟩) 5 5] (W.alloc (.cells #[x0, x1, x2, x3, x4] 25)) fun r w' => (∃ v, r = .returned v ∧ NB W w' v (l0 ++ (l1 ++ (l2 ++ (l3 ++ l4))))) ∧ Kp no W w' := by
  have hL := ListsAt.made (W := W) (t := 25) [(x0, l0), (x1, l1), (x2, l2), (x3, l3), (x4, l4)] (by
    intro p hp
    simp only [List.mem_cons, List.mem_nil_iff, or_false] at hp
    rcases hp with rfl | rfl | rfl | rfl | rfl <;> assumption)
  have e : ([l0, l1, l2, l3, l4] : List (List UInt8)).flatten = l0 ++ (l1 ++ (l2 ++ (l3 ++ l4))) := by simp
  have hj := joinK_any hL (by simp) (by show ([l0, l1, l2, l3, l4] : List (List UInt8)).flatten.length ≤ _; rw [e]; exact ht)
  refine Calls.mono hj ?_
  rintro r w' ⟨⟨v, rfl, h⟩, k⟩
  refine ⟨⟨v, rfl, ?_⟩, ((Kp.refl no W).alloc _).trans k⟩
  rw [← e]
  exact NB.newer h (by simp)
set_option maxRecDepth 100000 in
set_option maxHeartbeats 4000000 in
theorem module_keep {w : World} {v : Value} {fs : List FnS} {pages : Nat} (h : FnsAt w v fs) (hl : fs.length ≤ 1000) (hp : pages ≤ 1000) (ht : (moduleB pages fs).length ≤ 1000000) :
    Calls Tryz.prog 20 #[.int .i64 pages, v] w fun r w' => (∃ v, r = .returned v ∧ NB w w' v (moduleB pages fs)) ∧ Kp no w w' := by
  obtain ⟨ad, cap, rfl, hcap⟩ := h.shape
  have hA : ∀ k, (modA fs k).length ≤ 1000000 := fun k => Nat.le_trans (modA_le pages fs k) ht
  have hB : ∀ k, k ≤ fs.length → (modB fs k).length ≤ 1000000 := fun k hk => Nat.le_trans (modB_le pages fs hk) ht
  have hC : ∀ k, (modC pages fs k).length ≤ 1000000 := fun k => Nat.le_trans (modC_le pages fs k) ht
  have hA0 : modA fs 0 = [83, 84, 75, 1] ++ uB fs.length := by simp [modA]
  have hB0 : modB fs 0 = modA fs fs.length ++ uB fs.length := by simp [modB]
  have hC0 : modC pages fs 0 = modB fs fs.length ++ ([1, 126, 1, 5] ++ uB pages) := by simp [modC]
  have hR : moduleB pages fs = modC pages fs fs.length := rfl
  have hAs := fun k => modA_succ (fs := fs) (k := k)
  have hBs := modB_succ fs
  have hCs := fun k => modC_succ (pages := pages) (fs := fs) (k := k)
  generalize moduleB pages fs = R at *
  generalize modC pages fs = mC at *
  generalize modB fs = mB at *
  generalize modA fs = mA at *
  have H := hide h
  have HA := hide hA
  have HB := hide hB
  have HC := hide hC
  have HA0 := hide hA0
  have HB0 := hide hB0
  have HC0 := hide hC0
  have HR := hide hR
  have HAs := hide hAs
  have HBs := hide hBs
  have HCs := hide hCs
  clear h hA hB hC hA0 hB0 hC0 hR hAs hBs hCs ht
  have hcv := Lib.run_convert_bytes_const (P := Tryz.prog) w 25 5 #[.int .u8 83, .int .u8 84, .int .u8 75, .int .u8 1] 4 4 Tryz.underlying25 Tryz.underlying5
  go_enter Tryz.func20, Tryz.ntmps20
  go_wp2_with fail
  refine (uK_any _ fs.length (by omega)).mono ?_
  rintro r w1 ⟨⟨v1, rfl, h1⟩, k1⟩
  obtain ⟨a1, c1, rfl, -⟩ := h1.at.shape
  have hm0 : BytesAt w1 (.slice (some ⟨w.heap.size, 0, none⟩) 4 4) [83, 84, 75, 1] := BytesAt.kq (by
    refine ⟨rfl, .inr ⟨w.heap.size, 0, 4, rfl, Nat.le_refl _, fun j x hj => ?_⟩⟩
    rw [Nat.zero_add, World.cell?_alloc_mark]
    simpa using hj) k1
  have K1 := hide (((Kp.refl no w).alloc _).trans k1)
  have hj := join_2 hm0 h1.at (by have := HA.out 0; rw [HA0.out] at this; omega)
  have HJ := hide hj
  clear k1 hm0 h1 hj
  go_wp2_with fail
  refine HJ.out.mono ?_
  rintro r w2 ⟨⟨v2, rfl, h2⟩, k2⟩
  have K2 := hide (K1.out.trans k2)
  have O2 := hide ((h2.newer (w := w) K1.out.size).as (m := mA 0) HA0.out.symm)
  obtain ⟨a2, c2, hv2, -⟩ := O2.out.at.shape
  subst hv2
  clear k2 h2 HJ K1 hcv
  go_wp2
  go_loopw [5, 6] (fun ov kv wr => ∃ (k : Nat), k ≤ fs.length ∧ kv = .int .i64 k ∧ NB w wr ov (mA k) ∧ Kp no w wr) (fun _ kv _ => fs.length - (intOf kv).toNat)
  case atStart => exact ⟨0, by omega, rfl, O2.out, K2.out⟩
  case round =>
    obtain ⟨k, hk, rfl, hown, hkp⟩ := hrel
    obtain ⟨ao, co, hvo, -⟩ := hown.at.shape
    subst hvo
    have HO := hide hown
    have HK := hide hkp
    clear hown hkp O2 K2
    by_cases hkn : k < fs.length
    · obtain ⟨a, o, cp, a0, c0, a1, c1, a2, c2, a3, c3, he, -, e0, e1, e2, e3, b0, b1, b2, b3⟩ := (H.out.kp HK.out).get hkn
      cases he
      have hsucc := HAs.out k hkn
      have hlen := HA.out (k + 1)
      rw [hsucc] at hlen
      generalize fs.getD k fnS0 = fn at *
      have HSu := hide hsucc
      have HLe := hide hlen
      have HB0 := hide b0
      have HB1 := hide b1
      have hl0 : fn.params.length ≤ 1000000 := by simp only [List.length_append] at hlen; omega
      have hl1 : fn.results.length ≤ 1000000 := by simp only [List.length_append] at hlen; omega
      obtain ⟨S, hSd⟩ : ∃ S : World → Prop, S = fun w' => w'.cell? ⟨a, o + k * 4, none⟩ = some (.slice a0 fn.params.length c0) ∧ w'.cell? ⟨a, o + k * 4 + 1, none⟩ = some (.slice a1 fn.results.length c1) := ⟨_, rfl⟩
      have hSk : ∀ W', Kp no wr W' → S W' := fun W' k => by rw [hSd]; exact ⟨k.allCells e0, k.allCells e1⟩
      have HSk := hide hSk
      have HSd := hide hSd
      clear hsucc hlen b0 b1 b2 b3 hSk hSd e0 e1 e2 e3
      go_wp2_with fail
      refine wp_region_S 28 (S) (by kernel_rfl) (n := 28) (listed := #[false, false, false, false, false, false, false, false, false, false, false, false, false, false, false, false, false, false, false, false, false, false, false, false, false, false, false, false]) rfl (by kernel_rfl) ?hS (fun hS => ?_)
      case hS => exact HSk.out _ ((Kp.refl _ _).drew)
      have hSd := HSd.out
      subst hSd
      refine tk 0 [] rfl (by kernel_rfl) rfl (fun _ _ _ h => h) hS (fun _ h => by (try dsimp only at h); go_simp; all_goals with_reducible rfl) ?_
      simp only [pS]
      refine tk 1 [] rfl (by kernel_rfl) rfl (fun _ _ _ h => h) hS (fun _ h => by (try dsimp only at h); go_simp; all_goals with_reducible rfl) ?_
      simp only [pS]
      refine tk 2 [] rfl (by kernel_rfl) rfl (fun _ _ _ h => h) hS (fun _ h => by (try dsimp only at h); go_simp; all_goals with_reducible rfl) ?_
      simp only [pS]
      refine tk 3 [] rfl (by kernel_rfl) rfl (fun _ _ _ h => h) hS (fun _ h => by (try dsimp only at h); go_simp; all_goals with_reducible rfl) ?_
      simp only [pS]
      refine tk 4 [] rfl (by kernel_rfl) rfl (fun _ _ _ h => h) hS (fun _ h => by (try dsimp only at h); go_simp; all_goals with_reducible rfl) ?_
      simp only [pS]
      refine tk 5 [] rfl (by kernel_rfl) rfl (fun _ _ _ h => h) hS (fun _ h => by (try dsimp only at h); go_simp; all_goals with_reducible rfl) ?_
      simp only [pS]
      refine tk 6 [] rfl (by kernel_rfl) rfl (fun _ _ _ h => h) hS (fun _ h => by (try dsimp only at h); go_simp; all_goals with_reducible rfl) ?_
      simp only [pS]
      refine tk 8 [] rfl (by kernel_rfl) rfl (fun _ _ _ h => h) hS (fun _ h => by (try dsimp only at h); go_simp; all_goals with_reducible rfl) ?_
      simp only [pS]
      refine tk 9 [] rfl (by kernel_rfl) rfl (fun _ _ _ h => h) hS (fun _ h => by (try dsimp only at h); go_simp; all_goals with_reducible rfl) ?_
      simp only [pS]
      refine tk 10 [] rfl (by kernel_rfl) rfl (fun _ _ _ h => h) hS (fun _ h => by (try dsimp only at h); go_simp; all_goals with_reducible rfl) ?_
      simp only [pS]
      refine tk 11 [] rfl (by kernel_rfl) rfl (fun _ _ _ h => h) hS (fun _ h => by (try dsimp only at h); go_simp; all_goals with_reducible rfl) ?_
      simp only [pS]
      refine tk 12 [] rfl (by kernel_rfl) rfl (fun _ _ _ h => h) hS (fun _ h => by (try dsimp only at h); go_simp; all_goals with_reducible rfl) ?_
      simp only [pS]
      refine tk 13 [] rfl (by kernel_rfl) rfl (fun _ _ _ h => h) hS (fun _ h => by (try dsimp only at h); go_simp; all_goals with_reducible rfl) ?_
      simp only [pS]
      refine tk 14 [] rfl (by kernel_rfl) rfl (fun _ _ _ h => h) hS (fun _ h => by (try dsimp only at h); go_simp; all_goals with_reducible rfl) ?_
      simp only [pS]
      refine tk 15 [] rfl (by kernel_rfl) rfl (fun _ _ _ h => h) hS (fun _ h => by (try dsimp only at h); go_simp; all_goals with_reducible rfl) ?_
      simp only [pS]
      refine tk 16 [] rfl (by kernel_rfl) rfl (fun _ _ _ h => h) hS (fun _ h => by (try dsimp only at h); go_simp; all_goals with_reducible rfl) ?_
      simp only [pS]
      refine tk 17 [] rfl (by kernel_rfl) rfl (fun _ _ _ h => h) hS (fun _ h => by (try dsimp only at h); go_simp; all_goals with_reducible rfl) ?_
      simp only [pS]
      refine tk 18 [] rfl (by kernel_rfl) rfl (fun _ _ _ h => h) hS (fun _ h => by (try dsimp only at h); go_simp; all_goals with_reducible rfl) ?_
      simp only [pS]
      refine tk 20 [] rfl (by kernel_rfl) rfl (fun _ _ _ h => h) hS (fun _ h => by (try dsimp only at h); go_simp; all_goals with_reducible rfl) ?_
      simp only [pS]
      refine tk 21 [] rfl (by kernel_rfl) rfl (fun _ _ _ h => h) hS (fun _ h => by (try dsimp only at h); go_simp; all_goals with_reducible rfl) ?_
      simp only [pS]
      refine tk 22 [] rfl (by kernel_rfl) rfl (fun _ _ _ h => h) hS (fun _ h => by (try dsimp only at h); go_simp; all_goals with_reducible rfl) ?_
      simp only [pS]
      refine tk 23 [] rfl (by kernel_rfl) rfl (fun _ _ _ h => h) hS (fun _ h => by (try dsimp only at h); go_simp; all_goals with_reducible rfl) ?_
      simp only [pS]
      refine tk 24 [] rfl (by kernel_rfl) rfl (fun _ _ _ h => h) hS (fun _ h => by (try dsimp only at h); go_simp; all_goals with_reducible rfl) ?_
      simp only [pS]
      refine wpAnyS_one 7 (listed' := #[true, true, true, true, true, true, true, true, true, true, true, true, true, true, true, true, true, true, true, false, true, true, true, true, true, false, false, false]) rfl (by kernel_rfl) (by kernel_rfl) (fun K hK => ?_)
      refine step_call (by rfl) 45 _ _ (by rfl) enters_uK #[.int .i64 fn.params.length] (by rfl) (uK_any _ fn.params.length (by omega)) ?_
      rintro r w3 ⟨⟨v3, rfl, h3⟩, k3⟩
      have k3' := ((Kp.refl no wr).drew).trans k3
      refine ⟨_, rfl, hK _ _ (HSk.out _ k3') (fun hS => ?_)⟩
      clear hK K
      simp only [pS]
      refine wpAnyS_one 19 (listed' := #[true, true, true, true, true, true, true, true, true, true, true, true, true, true, true, true, true, true, true, true, true, true, true, true, true, false, false, false]) rfl (by kernel_rfl) (by kernel_rfl) (fun K hK => ?_)
      refine step_call (by rfl) 45 _ _ (by rfl) enters_uK #[.int .i64 fn.results.length] (by rfl) (uK_any _ fn.results.length (by omega)) ?_
      rintro r w4 ⟨⟨v4, rfl, h4⟩, k4⟩
      refine ⟨_, rfl, hK _ _ (HSk.out _ (k3'.trans k4)) (fun hS => ?_)⟩
      clear hK K
      simp only [pS]
      obtain ⟨a3', c3', hv3, -⟩ := h3.at.shape
      obtain ⟨a4', c4', hv4, -⟩ := h4.at.shape
      subst hv3 hv4
      refine wpAnyS_one 25 (listed' := #[true, true, true, true, true, true, true, true, true, true, true, true, true, true, true, true, true, true, true, true, true, true, true, true, true, true, false, false]) rfl (by kernel_rfl) (by kernel_rfl) (fun K hK => ?_)
      go_simp
      refine hK _ _ (HSk.out _ ((k3'.trans k4).alloc _)) (fun hS => ?_)
      clear hK K
      have hj := join_5 (HO.out.at.kq (k3'.trans k4)) (h3.at.kq k4) (HB0.out.kq (k3'.trans k4)) h4.at (HB1.out.kq (k3'.trans k4)) (by have := HLe.out; omega)
      refine wpAnyS_one 26 (listed' := #[true, true, true, true, true, true, true, true, true, true, true, true, true, true, true, true, true, true, true, true, true, true, true, true, true, true, true, false]) rfl (by kernel_rfl) (by kernel_rfl) (fun K hK => ?_)
      refine step_call (by rfl) 18 _ _ (by rfl) enters_joinK _ (by rfl) hj ?_
      rintro r w5 ⟨⟨v5, rfl, h5⟩, k5⟩
      refine ⟨_, rfl, hK _ _ (HSk.out _ ((k3'.trans k4).trans k5)) (fun hS => ?_)⟩
      clear hK K
      simp only [pS]
      have K5 := hide (HK.out.trans ((k3'.trans k4).trans k5))
      have O5 := hide ((h5.newer (w := w) (HK.out.trans (k3'.trans k4)).size).as (m := mA (k + 1)) HSu.out.symm)
      obtain ⟨a5, c5, hv5, -⟩ := O5.out.at.shape
      subst hv5
      clear hj h3 h4 h5 k3 k3' k4 k5
      refine tk 27 [] rfl (by kernel_rfl) rfl (fun _ _ _ h => h) hS (fun _ h => by (try dsimp only at h); go_simp; all_goals with_reducible rfl) ?_
      simp only [pS]
      refine wpAnyS_done (by kernel_rfl) ?_ _
      clear hS
      go_wp2
      go_roundw
      case rel => exact ⟨k + 1, by omega, by go_num, O5.out, K5.out⟩
      case measure => simp [intOf]; omega
    · obtain rfl : k = fs.length := by omega
      clear hkn
      go_wp2_with fail
      refine (uK_any _ fs.length (by omega)).mono ?_
      rintro r w3 ⟨⟨v3, rfl, h3⟩, k3⟩
      obtain ⟨a3, c3, hv3, -⟩ := h3.at.shape
      subst hv3
      have hj := join_2 (HO.out.at.kq k3) h3.at (by have := HB.out 0 (by omega); rw [HB0.out] at this; omega)
      have HJ := hide hj
      have K3 := hide (HK.out.trans k3)
      clear hj h3 k3
      go_wp2_with fail
      refine HJ.out.mono ?_
      rintro r w4 ⟨⟨v4, rfl, h4⟩, k4⟩
      have K4 := hide (K3.out.trans k4)
      have O4 := hide ((h4.newer (w := w) K3.out.size).as (m := mB 0) HB0.out.symm)
      obtain ⟨a4, c4, hv4, -⟩ := O4.out.at.shape
      subst hv4
      clear h4 k4 HJ K3
      go_wp2
      go_loopw [5, 7] (fun ov kv wr => ∃ (k : Nat), k ≤ fs.length ∧ kv = .int .i64 k ∧ NB w wr ov (mB k) ∧ Kp no w wr) (fun _ kv _ => fs.length - (intOf kv).toNat)
      case atStart => exact ⟨0, by omega, rfl, O4.out, K4.out⟩
      case round =>
        clear HO HK
        obtain ⟨k, hk, rfl, hown, hkp⟩ := hrel
        obtain ⟨ao, co, hvo, -⟩ := hown.at.shape
        subst hvo
        have HO := hide hown
        have HK := hide hkp
        clear hown hkp O4 K4
        by_cases hkn : k < fs.length
        · go_wp2_with fail
          refine (uK_any _ k (by omega)).mono ?_
          rintro r w5 ⟨⟨v5, rfl, h5⟩, k5⟩
          obtain ⟨a5, c5, hv5, -⟩ := h5.at.shape
          subst hv5
          have hj := join_2 (HO.out.at.kq k5) h5.at (by have := HB.out (k + 1) (by omega); rw [HBs.out] at this; omega)
          have HJ := hide hj
          have K5 := hide (HK.out.trans k5)
          clear hj h5 k5
          go_wp2_with fail
          refine HJ.out.mono ?_
          rintro r w6 ⟨⟨v6, rfl, h6⟩, k6⟩
          have K6 := hide (K5.out.trans k6)
          have O6 := hide ((h6.newer (w := w) K5.out.size).as (m := mB (k + 1)) (HBs.out k).symm)
          obtain ⟨a6, c6, hv6, -⟩ := O6.out.at.shape
          subst hv6
          clear h6 k6 HJ K5
          go_wp2
          go_roundw
          case rel => exact ⟨k + 1, by omega, by go_num, O6.out, K6.out⟩
          case measure => simp [intOf]; omega
        · obtain rfl : k = fs.length := by omega
          clear hkn
          go_wp2_with fail
          refine (uK_any _ pages (by omega)).mono ?_
          rintro r w5 ⟨⟨v5, rfl, h5⟩, k5⟩
          obtain ⟨a5, c5, hv5, -⟩ := h5.at.shape
          subst hv5
          have k5' := ((Kp.refl no _).alloc _).trans k5
          have hj := join_3 (HO.out.at.kq k5') ((NB.made _ [1, 126, 1, 5] (by simp [maxLen])).at.kq k5) h5.at (by have := HC.out 0; rw [HC0.out] at this; omega)
          have HJ := hide hj
          have K5 := hide (HK.out.trans k5')
          clear hj h5 k5 k5'
          go_wp2_with fail
          refine HJ.out.mono ?_
          rintro r w6 ⟨⟨v6, rfl, h6⟩, k6⟩
          have K6 := hide (K5.out.trans k6)
          have O6 := hide ((h6.newer (w := w) K5.out.size).as (m := mC 0) HC0.out.symm)
          obtain ⟨a6, c6, hv6, -⟩ := O6.out.at.shape
          subst hv6
          clear h6 k6 HJ K5
          go_wp2
          go_loopw [5, 8] (fun ov kv wr => ∃ (k : Nat), k ≤ fs.length ∧ kv = .int .i64 k ∧ NB w wr ov (mC k) ∧ Kp no w wr) (fun _ kv _ => fs.length - (intOf kv).toNat)
          case atStart => exact ⟨0, by omega, rfl, O6.out, K6.out⟩
          case round =>
            clear HO HK
            obtain ⟨k, hk, rfl, hown, hkp⟩ := hrel
            obtain ⟨ao, co, hvo, -⟩ := hown.at.shape
            subst hvo
            have HO := hide hown
            have HK := hide hkp
            clear hown hkp O6 K6
            by_cases hkn : k < fs.length
            · obtain ⟨a, o, cp, a0, c0, a1, c1, a2, c2, a3, c3, he, -, e0, e1, e2, e3, b0, b1, b2, b3⟩ := (H.out.kp HK.out).get hkn
              cases he
              have hsucc := HCs.out k hkn
              have hlen := HC.out (k + 1)
              rw [hsucc] at hlen
              generalize fs.getD k fnS0 = fn at *
              have hbi : bodyIn fn = uB fn.locals.length ++ (fn.locals ++ (fn.code ++ [11])) := by simp [bodyIn]
              generalize bodyIn fn = bi at *
              have hli : bi.length ≤ 1000000 := by simp only [List.length_append] at hlen; omega
              have hll : fn.locals.length ≤ 1000000 := by rw [hbi] at hli; simp only [List.length_append] at hli; omega
              have HBi := hide hbi
              have HSu := hide hsucc
              have HLe := hide hlen
              have HB2 := hide b2
              have HB3 := hide b3
              obtain ⟨S, hSd⟩ : ∃ S : World → Prop, S = fun w' => w'.cell? ⟨a, o + k * 4 + 2, none⟩ = some (.slice a2 fn.locals.length c2) ∧ w'.cell? ⟨a, o + k * 4 + 3, none⟩ = some (.slice a3 fn.code.length c3) := ⟨_, rfl⟩
              have hSk : ∀ W', Kp no wr W' → S W' := fun W' k => by rw [hSd]; exact ⟨k.allCells e2, k.allCells e3⟩
              have HSk := hide hSk
              have HSd := hide hSd
              clear hsucc hlen b0 b1 b2 b3 hSk hSd e0 e1 e2 e3 hbi
              go_wp2_with fail
              refine wp_region_S 21 (S) (by kernel_rfl) (n := 21) (listed := #[false, false, false, false, false, false, false, false, false, false, false, false, false, false, false, false, false, false, false, false, false]) rfl (by kernel_rfl) ?hS (fun hS => ?_)
              case hS => exact HSk.out _ ((Kp.refl _ _).drew)
              have hSd := HSd.out
              subst hSd
              refine tk 0 [] rfl (by kernel_rfl) rfl (fun _ _ _ h => h) hS (fun _ h => by (try dsimp only at h); go_simp; all_goals with_reducible rfl) ?_
              simp only [pS]
              refine tk 1 [] rfl (by kernel_rfl) rfl (fun _ _ _ h => h) hS (fun _ h => by (try dsimp only at h); go_simp; all_goals with_reducible rfl) ?_
              simp only [pS]
              refine tk 2 [] rfl (by kernel_rfl) rfl (fun _ _ _ h => h) hS (fun _ h => by (try dsimp only at h); go_simp; all_goals with_reducible rfl) ?_
              simp only [pS]
              refine tk 3 [] rfl (by kernel_rfl) rfl (fun _ _ _ h => h) hS (fun _ h => by (try dsimp only at h); go_simp; all_goals with_reducible rfl) ?_
              simp only [pS]
              refine tk 4 [] rfl (by kernel_rfl) rfl (fun _ _ _ h => h) hS (fun _ h => by (try dsimp only at h); go_simp; all_goals with_reducible rfl) ?_
              simp only [pS]
              refine tk 5 [] rfl (by kernel_rfl) rfl (fun _ _ _ h => h) hS (fun _ h => by (try dsimp only at h); go_simp; all_goals with_reducible rfl) ?_
              simp only [pS]
              refine tk 7 [] rfl (by kernel_rfl) rfl (fun _ _ _ h => h) hS (fun _ h => by (try dsimp only at h); go_simp; all_goals with_reducible rfl) ?_
              simp only [pS]
              refine tk 8 [] rfl (by kernel_rfl) rfl (fun _ _ _ h => h) hS (fun _ h => by (try dsimp only at h); go_simp; all_goals with_reducible rfl) ?_
              simp only [pS]
              refine tk 9 [] rfl (by kernel_rfl) rfl (fun _ _ _ h => h) hS (fun _ h => by (try dsimp only at h); go_simp; all_goals with_reducible rfl) ?_
              simp only [pS]
              refine tk 10 [] rfl (by kernel_rfl) rfl (fun _ _ _ h => h) hS (fun _ h => by (try dsimp only at h); go_simp; all_goals with_reducible rfl) ?_
              simp only [pS]
              refine tk 11 [] rfl (by kernel_rfl) rfl (fun _ _ _ h => h) hS (fun _ h => by (try dsimp only at h); go_simp; all_goals with_reducible rfl) ?_
              simp only [pS]
              refine tk 12 [] rfl (by kernel_rfl) rfl (fun _ _ _ h => h) hS (fun _ h => by (try dsimp only at h); go_simp; all_goals with_reducible rfl) ?_
              simp only [pS]
              refine tk 13 [] rfl (by kernel_rfl) rfl (fun _ _ _ h => h) hS (fun _ h => by (try dsimp only at h); go_simp; all_goals with_reducible rfl) ?_
              simp only [pS]
              refine tk 14 [] rfl (by kernel_rfl) rfl (fun _ _ _ h => h) hS (fun _ h => by (try dsimp only at h); go_simp; all_goals with_reducible rfl) ?_
              simp only [pS]
              refine tk 15 [] rfl (by kernel_rfl) rfl (fun _ _ _ h => h) hS (fun _ h => by (try dsimp only at h); go_simp; all_goals with_reducible rfl) ?_
              simp only [pS]
              refine tk 16 [] rfl (by kernel_rfl) rfl (fun _ _ _ h => h) hS (fun _ h => by (try dsimp only at h); go_simp; all_goals with_reducible rfl) ?_
              simp only [pS]
              refine wpAnyS_two 6 17 (l1 := #[true, true, true, true, true, true, true, true, true, true, true, true, true, true, true, true, true, false, false, false, false]) (l2 := #[true, true, true, true, true, true, false, true, true, true, true, true, true, true, true, true, true, true, false, false, false]) rfl rfl (by kernel_rfl) (by kernel_rfl) (by kernel_rfl) (fun K hK => ?twoA) (fun K hK => ?twoB)
              case twoA =>
                refine step_call (by rfl) 45 _ _ (by rfl) enters_uK #[.int .i64 fn.locals.length] (by rfl) (uK_any _ fn.locals.length (by omega)) ?_
                rintro r w3 ⟨⟨v3, rfl, h3⟩, k3⟩
                have k3' := ((Kp.refl no wr).drew).trans k3
                refine ⟨_, rfl, hK _ _ (HSk.out _ k3') (fun hS => ?_)⟩
                clear hK K
                simp only [pS]
                obtain ⟨a3', c3', hv3, -⟩ := h3.at.shape
                subst hv3
                refine wpAnyS_one 17 (listed' := #[true, true, true, true, true, true, true, true, true, true, true, true, true, true, true, true, true, true, false, false, false]) rfl (by kernel_rfl) (by kernel_rfl) (fun K hK => ?_)
                go_simp
                refine hK _ _ (HSk.out _ (k3'.alloc _)) (fun hS => ?_)
                clear hK K
                have hx3 := h3.at.kq ((Kp.refl no w3).alloc (.cells #[.int .u8 11] 5))
                have hx4 := (NB.made w3 [11] (by simp [maxLen])).at
                have kx := k3'.alloc (.cells (bcs [11]).toArray 5)
                clear h3 k3 k3'
                change Kp no wr (w3.alloc (.cells #[.int .u8 11] 5)) at kx
                change BytesAt (w3.alloc (.cells #[.int .u8 11] 5)) _ _ at hx3
                change BytesAt (w3.alloc (.cells #[.int .u8 11] 5)) (.slice (some ⟨w3.heap.size, 0, none⟩) 1 1) _ at hx4
                generalize w3.alloc (.cells #[.int .u8 11] 5) = w4 at *
                refine wpAnyS_one 18 (listed' := #[true, true, true, true, true, true, true, true, true, true, true, true, true, true, true, true, true, true, true, false, false]) rfl (by kernel_rfl) (by kernel_rfl) (fun K hK => ?_)
                go_simp
                refine hK _ _ (HSk.out _ (kx.alloc _)) (fun hS => ?_)
                clear hK K
                have hj := join_4 hx3 (HB2.out.kq kx) (HB3.out.kq kx) hx4 (by rw [← HBi.out]; omega)
                refine wpAnyS_one 19 (listed' := #[true, true, true, true, true, true, true, true, true, true, true, true, true, true, true, true, true, true, true, true, false]) rfl (by kernel_rfl) (by kernel_rfl) (fun K hK => ?_)
                refine step_call (by rfl) 18 _ _ (by rfl) enters_joinK _ (by rfl) hj ?_
                rintro r w5 ⟨⟨v5, rfl, h5⟩, k5⟩
                refine ⟨_, rfl, hK _ _ (HSk.out _ (kx.trans k5)) (fun hS => ?_)⟩
                clear hK K
                simp only [pS]
                have kz := kx.trans k5
                have O5 := (h5.newer (w := w) (HK.out.trans kx).size).as (m := bi) HBi.out.symm
                obtain ⟨a5, c5, hv5, -⟩ := O5.at.shape
                subst hv5
                clear hj h5 k5 kx hx3 hx4
                refine tk 20 [] rfl (by kernel_rfl) rfl (fun _ _ _ h => h) hS (fun _ h => by (try dsimp only at h); go_simp; all_goals with_reducible rfl) ?_
                simp only [pS]
                refine wpAnyS_done (by kernel_rfl) ?_ _
                clear hS
                have KZ := hide kz
                have OZ := hide O5
                clear kz O5
                go_wp2_with fail
                refine (uK_any _ bi.length (by omega)).mono ?_
                rintro r w6 ⟨⟨v6, rfl, h6⟩, k6⟩
                obtain ⟨a6, c6, hv6, -⟩ := h6.at.shape
                subst hv6
                have hj := join_3 (HO.out.at.kq (KZ.out.trans k6)) h6.at (OZ.out.at.kq k6) (by have := HLe.out; omega)
                have HJ := hide hj
                have K6 := hide (HK.out.trans (KZ.out.trans k6))
                clear hj h6 k6
                go_wp2_with fail
                refine HJ.out.mono ?_
                rintro r w7 ⟨⟨v7, rfl, h7⟩, k7⟩
                have K7 := hide (K6.out.trans k7)
                have O7 := hide ((h7.newer (w := w) K6.out.size).as (m := mC (k + 1)) HSu.out.symm)
                obtain ⟨a7, c7, hv7, -⟩ := O7.out.at.shape
                subst hv7
                clear h7 k7 HJ K6
                go_wp2
                go_roundw
                case rel => exact ⟨k + 1, by omega, by go_num, O7.out, K7.out⟩
                case measure => simp [intOf]; omega
              case twoB =>
                go_simp
                refine hK _ _ (HSk.out _ (((Kp.refl _ _).drew).alloc _)) (fun hS => ?_)
                clear hK K
                have hy4 : BytesAt ((wr.alloc (.cells #[.int .u8 11] 5)).drew) (.slice (some ⟨wr.heap.size, 0, none⟩) 1 1) [11] := (NB.made wr [11] (by simp [maxLen])).at.kq ((Kp.refl no _).drew)
                have ky : Kp no wr ((wr.alloc (.cells #[.int .u8 11] 5)).drew) := ((Kp.refl no wr).alloc _).drew
                generalize (wr.alloc (.cells #[.int .u8 11] 5)).drew = w3 at *
                refine wpAnyS_one 6 (listed' := #[true, true, true, true, true, true, true, true, true, true, true, true, true, true, true, true, true, true, false, false, false]) rfl (by kernel_rfl) (by kernel_rfl) (fun K hK => ?_)
                refine step_call (by rfl) 45 _ _ (by rfl) enters_uK #[.int .i64 fn.locals.length] (by rfl) (uK_any _ fn.locals.length (by omega)) ?_
                rintro r w4 ⟨⟨v3, rfl, h3⟩, k3⟩
                refine ⟨_, rfl, hK _ _ (HSk.out _ (ky.trans k3)) (fun hS => ?_)⟩
                clear hK K
                simp only [pS]
                obtain ⟨a3', c3', hv3, -⟩ := h3.at.shape
                subst hv3
                have hx3 := h3.at
                have hx4 := hy4.kq k3
                have kx := ky.trans k3
                clear h3 k3 hy4 ky
                refine wpAnyS_one 18 (listed' := #[true, true, true, true, true, true, true, true, true, true, true, true, true, true, true, true, true, true, true, false, false]) rfl (by kernel_rfl) (by kernel_rfl) (fun K hK => ?_)
                go_simp
                refine hK _ _ (HSk.out _ (kx.alloc _)) (fun hS => ?_)
                clear hK K
                have hj := join_4 hx3 (HB2.out.kq kx) (HB3.out.kq kx) hx4 (by rw [← HBi.out]; omega)
                refine wpAnyS_one 19 (listed' := #[true, true, true, true, true, true, true, true, true, true, true, true, true, true, true, true, true, true, true, true, false]) rfl (by kernel_rfl) (by kernel_rfl) (fun K hK => ?_)
                refine step_call (by rfl) 18 _ _ (by rfl) enters_joinK _ (by rfl) hj ?_
                rintro r w5 ⟨⟨v5, rfl, h5⟩, k5⟩
                refine ⟨_, rfl, hK _ _ (HSk.out _ (kx.trans k5)) (fun hS => ?_)⟩
                clear hK K
                simp only [pS]
                have kz := kx.trans k5
                have O5 := (h5.newer (w := w) (HK.out.trans kx).size).as (m := bi) HBi.out.symm
                obtain ⟨a5, c5, hv5, -⟩ := O5.at.shape
                subst hv5
                clear hj h5 k5 kx hx3 hx4
                refine tk 20 [] rfl (by kernel_rfl) rfl (fun _ _ _ h => h) hS (fun _ h => by (try dsimp only at h); go_simp; all_goals with_reducible rfl) ?_
                simp only [pS]
                refine wpAnyS_done (by kernel_rfl) ?_ _
                clear hS
                have KZ := hide kz
                have OZ := hide O5
                clear kz O5
                go_wp2_with fail
                refine (uK_any _ bi.length (by omega)).mono ?_
                rintro r w6 ⟨⟨v6, rfl, h6⟩, k6⟩
                obtain ⟨a6, c6, hv6, -⟩ := h6.at.shape
                subst hv6
                have hj := join_3 (HO.out.at.kq (KZ.out.trans k6)) h6.at (OZ.out.at.kq k6) (by have := HLe.out; omega)
                have HJ := hide hj
                have K6 := hide (HK.out.trans (KZ.out.trans k6))
                clear hj h6 k6
                go_wp2_with fail
                refine HJ.out.mono ?_
                rintro r w7 ⟨⟨v7, rfl, h7⟩, k7⟩
                have K7 := hide (K6.out.trans k7)
                have O7 := hide ((h7.newer (w := w) K6.out.size).as (m := mC (k + 1)) HSu.out.symm)
                obtain ⟨a7, c7, hv7, -⟩ := O7.out.at.shape
                subst hv7
                clear h7 k7 HJ K6
                go_wp2
                go_roundw
                case rel => exact ⟨k + 1, by omega, by go_num, O7.out, K7.out⟩
                case measure => simp [intOf]; omega
            · obtain rfl : k = fs.length := by omega
              go_wp2
              go_ret
              rw [HR.out]
              exact ⟨⟨_, rfl, HO.out⟩, HK.out⟩
end Go.Proofs.YtdeplgkhmebalaaGreatDoor
