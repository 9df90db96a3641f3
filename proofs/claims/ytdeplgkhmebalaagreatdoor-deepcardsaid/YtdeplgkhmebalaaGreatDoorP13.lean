/- The program's look at a module: pages, the end, the first bytes. -/
import Derived.Test.YtdeplgkhmebalaaGreatDoorP12
import Derived.Test.YtdeplgkhmebalaaGreatDoorP01

namespace Go.Proofs.YtdeplgkhmebalaaGreatDoor
open Go.RowKit

/-- What a part of the look gives. -/
def LDone (I : LIds) (w w' : World) (m : Except (Int × Int) Lkr) (r : Ending) : Prop :=
  match m with
  | .ok s' => r = .returned (.pointer none) ∧ LSt I w' s'
  | .error e => ∃ fv, r = .returned fv ∧ FaultAt w w' fv e
abbrev up (B : Nat) : Nat → Prop := fun b => B ≤ b
abbrev upl (I : LIds) : Nat → Prop := fun b => ¬ I.lo b

section
variable {I : LIds} {w : World} {s : Lkr}

set_option maxRecDepth 100000 in
set_option maxHeartbeats 2000000 in
theorem readEnd_any (h : LSt I w s) : Calls Tryz.prog 81 #[ptrTo I.kb] w fun r w' => LDone I w w' (if s.i < I.D.length then .error (2, s.i) else .ok s) r ∧ Kp (upl I) w w' := by
  obtain ⟨tv, gv, hlo, hn1, hn2, hn3, -, -⟩ := h.lookAt
  obtain ⟨hc, hf⟩ := cells_of hlo
  have hleft := left_any h.rd
  have hle := h.rd.le
  have hlen := h.rd.len
  have hat := fun W (k : Kp no w W) => at_any (h.quiet k).rd
  have H := hide h
  have HLo := hide hlo
  have HL := hide hleft
  have HA := hide hat
  clear h hlo hleft hat
  by_cases hi : s.i < I.D.length
  · rw [if_pos hi]
    go_enter Tryz.func81, Tryz.ntmps81
    go_wp2_with fail
    refine HL.out.mono ?_
    rintro r w1 ⟨rfl, k1⟩
    obtain ⟨hc1, hf1⟩ := cells_of (k1.blk HLo.out (fun h => h))
    have HA1 := hide (HA.out w1 k1)
    go_wp2_with fail
    refine HA1.out.mono ?_
    rintro r w2 ⟨rfl, rfl⟩
    go_wp2_with fail
    refine (form_any _ _).mono ?_
    rintro r w3 ⟨rfl, rfl⟩
    go_wp2
    go_ret
    exact ⟨⟨ptrTo w2.heap.size, rfl, w2.heap.size, rfl, k1.size, heap_alloc_new _ _⟩, k1.any.alloc _⟩
  · rw [if_neg hi]
    go_enter Tryz.func81, Tryz.ntmps81
    go_wp2_with fail
    refine HL.out.mono ?_
    rintro r w1 ⟨rfl, k1⟩
    go_wp2
    go_ret
    exact ⟨⟨rfl, H.out.quiet k1⟩, k1.any⟩

theorem LSt.setPages (h : LSt I w s) (n : Nat) : LSt I (w.setCell ⟨I.mb, 2, none⟩ (.int .i64 n)) { s with pages := n } ∧ Kp (upl I) w (w.setCell ⟨I.mb, 2, none⟩ (.int .i64 n)) ∧ (∃ fv glv cv, w.heap[I.mb]? = some (.cells #[fv, glv, .int .i64 s.pages, cv] 121)) := by
  obtain ⟨role, tv, gv, fv, glv, cv, tys, fs, h⟩ := h
  have k : Kp (fun b => (fun r => r = 2) (role b)) w (w.setCell ⟨I.mb, 2, none⟩ (.int .i64 n)) := Kp.setAt (S := fun b => (fun r => r = 2) (role b)) (Kp.refl _ w) (b := I.mb) h.r2 _ _
  refine ⟨⟨role, tv, gv, fv, glv, cv, tys, fs, ?_⟩, h.low' (X := fun r => r = 2) k (by decide), fv, glv, cv, h.mod⟩
  exact ⟨Nat.le_trans h.base k.size, (h.kRd (X := fun r => r = 2) k (by decide) (by decide) :), (h.kLook (X := fun r => r = 2) k (by decide) :), heap_setCell h.mod _, (h.kTypes (X := fun r => r = 2) k (by decide) :), (h.kGlobs (X := fun r => r = 2) k (by decide) :), (h.kFuncs (X := fun r => r = 2) k (by decide) :), (h.kVals (X := fun r => r = 2) k (by decide) :), (h.kCode (X := fun r => r = 2) k (by decide) :), h.eqT, h.eqF,
    h.kTyB (X := fun r => r = 2) k (by decide), h.kFnB (X := fun r => r = 2) k (by decide), h.r1, h.r2, h.r3, h.r4, h.r5, h.r6, h.r7, h.r8, h.kTyR (X := fun r => r = 2) k, h.kFnR (X := fun r => r = 2) k, h.low, h.dvB, h.tyN, h.fnN⟩

def pagesM (I : LIds) (s : Lkr) : Except (Int × Int) Lkr :=
  match belowM I.D 5 s.i with
  | .error e => .error e
  | .ok (n, j) => .ok { s with pages := n, i := j }

set_option maxRecDepth 100000 in
set_option maxHeartbeats 2000000 in
theorem readPages_any (h : LSt I w s) : Calls Tryz.prog 79 #[ptrTo I.kb] w fun r w' => LDone I w w' (pagesM I s) r ∧ Kp (upl I) w w' := by
  have hM : pagesM I s = (match belowM I.D 5 s.i with | .error e => .error e | .ok (n, j) => .ok { s with pages := n, i := j }) := rfl
  generalize pagesM I s = R at *
  obtain ⟨tv, gv, hlo, hn1, hn2, hn3, -, -⟩ := h.lookAt
  obtain ⟨hc, hf⟩ := cells_of hlo
  have hbe := below_any h.rd 5 (by decide) (by decide)
  generalize belowM I.D 5 s.i = Q at *
  have H := hide h
  have HLo := hide hlo
  have HB := hide hbe
  have HM := hide hM
  clear h hlo hbe hM
  match Q, HM, HB with
  | .error e, HM, HB =>
    go_enter Tryz.func79, Tryz.ntmps79
    go_wp2_with fail
    refine HB.out.mono ?_
    rintro r w1 ⟨⟨fv, j, rfl, ⟨fb, rfl, hfb, hfo⟩, h1⟩, k1⟩
    have HF := hide hfo
    obtain ⟨hc1, hf1⟩ := cells_of (k1.blk HLo.out hn1)
    have H1 := hide (H.out.read k1 h1)
    obtain ⟨-, k2, fv2, glv2, cv2, hmo⟩ := H1.out.setPages 0
    obtain ⟨hm1, hmf1⟩ := cells_of hmo
    have HK := hide ((H.out.lowRd k1).trans k2)
    have hfm : fb ≠ I.mb := by have := lt_of_blk hmo; obtain ⟨-, -, hlo, -⟩ := H.out.setPages 0; intro e; have h3 := H.out.setPages 0; obtain ⟨-, -, a, b, c, hmw⟩ := h3; have := lt_of_blk hmw; omega
    clear hfo h1 k1 k2 hmo hc hf
    go_wp2
    go_ret
    rw [HM.out]
    exact ⟨⟨ptrTo fb, rfl, fb, rfl, hfb, heap_setCell_ne hfm _ HF.out⟩, HK.out⟩
  | .ok (n, j), HM, HB =>
    go_enter Tryz.func79, Tryz.ntmps79
    go_wp2_with fail
    refine HB.out.mono ?_
    rintro r w1 ⟨⟨v, rfl, rfl, h1⟩, k1⟩
    obtain ⟨hc1, hf1⟩ := cells_of (k1.blk HLo.out hn1)
    have H1 := hide (H.out.read k1 h1)
    obtain ⟨h2, k2, fv2, glv2, cv2, hmo⟩ := H1.out.setPages n
    obtain ⟨hm1, hmf1⟩ := cells_of hmo
    have H2 := hide h2
    have HK := hide ((H.out.lowRd k1).trans k2)
    clear h1 k1 k2 hmo hc hf h2
    go_wp2
    go_ret
    rw [HM.out]
    exact ⟨⟨rfl, H2.out⟩, HK.out⟩
end

end Go.Proofs.YtdeplgkhmebalaaGreatDoor

namespace Go.Proofs.YtdeplgkhmebalaaGreatDoor
open Go.RowKit

theorem info_ctype : (Tryz.prog.info? 138).map (fun i => (i.zero, i.size, i.bytes)) = some (some (.agg #[.slice none 0 0, .slice none 0 0]), 2, 48) := by kernel_rfl

section
variable {I : LIds} {w : World} {s : Lkr}

theorem addType_end {role : Nat → Nat} {tv gv fv glv cv : Value} {tys : List TyV} {fs : List FnV} (h : LStG I w s role tv gv fv glv cv tys fs) {w3 W w5 : World} {j : Nat} (k3 : Kp (one I.rb) w w3) (hr3 : RSt w3 I.rb I.dv I.D j) {pv rv : Value} {p r : List UInt8}
    (hp : BytesAt w3 pv p) (hr : BytesAt w3 rv r) (np : ∀ b, pv.ownBlock = some b → w.heap.size ≤ b ∧ b < w3.heap.size) (nr : ∀ b, rv.ownBlock = some b → w.heap.size ≤ b ∧ b < w3.heap.size) (kW : Kp no w3 W)
    {v1 : Value} {n : Nat} {xs : List Value} (hn : n = s.types.length + 1) (hxs : xs = tys.flatMap tyCells ++ [pv, rv])
    (hown1 : w5.ownsRow I.B 138 2 v1 n xs) (hgrow : W.grownBy w5 tv.ownBlock) (hat : v1.ownBlock = tv.ownBlock ∨ v1.ownBlock = some W.heap.size) :
    LSt I (w5.setCell ⟨I.kb, 1, none⟩ v1) { s with i := j, types := s.types ++ [(p, r)] } ∧ Kp (upl I) w (w5.setCell ⟨I.kb, 1, none⟩ v1) := by
  subst hn hxs
  obtain ⟨role', hro⟩ : ∃ role' : Nat → Nat, role' = fun k => if k < w.heap.size then role k else if pv.ownBlock = some k ∨ rv.ownBlock = some k then 0 else 4 := ⟨_, rfl⟩
  have h1 : LStG I w s role' tv gv fv glv cv tys fs := h.rerole (fun k hk => by rw [hro]; simp only [if_pos hk])
  have h2 := (h1.setRd k3 hr3).quiet kW
  have hs3 := k3.size
  have hsW := kW.size
  have zp : ∀ b, pv.ownBlock = some b → role' b = 0 := fun b hb => by rw [hro]; simp only [if_neg (show ¬ b < w.heap.size by have := (np b hb).1; omega), hb, true_or, if_true]
  have zr : ∀ b, rv.ownBlock = some b → role' b = 0 := fun b hb => by rw [hro]; simp only [if_neg (show ¬ b < w.heap.size by have := (nr b hb).1; omega), hb, or_true, if_true]
  have hv1 : ∀ b, v1.ownBlock = some b → role' b = 4 := by
    intro b hb
    rcases hat with e | e
    · exact h1.r4 b (e ▸ hb)
    · rw [hb] at e; cases e
      rw [hro]
      simp only [if_neg (show ¬ W.heap.size < w.heap.size by omega)]
      rw [if_neg (fun e => e.elim (fun e => by have := (np _ e).2; omega) (fun e => by have := (nr _ e).2; omega))]
  have k4 : Kp (fun b => (fun r => r = 3 ∨ r = 4) (role' b)) W w5 := (Kp.refl _ W).grown hgrow (fun b hb => .inl (.inr (h2.r4 b hb)))
  have k5 : Kp (fun b => (fun r => r = 3 ∨ r = 4) (role' b)) W (w5.setCell ⟨I.kb, 1, none⟩ v1) := k4.setAt (.inl h2.r3) _ _
  have hlook : w5.heap[I.kb]? = some (.cells #[ptrTo I.rb, tv, gv, ptrTo I.mb] 182) := (hgrow.block I.kb (lt_of_blk h2.look) (fun e => by have := h2.r4 _ e.symm; rw [h2.r3] at this; cases this)).trans h2.look
  have ho : (w5.setCell ⟨I.kb, 1, none⟩ v1).ownsRow I.B 138 2 v1 (s.types.length + 1) (tys.flatMap tyCells ++ [pv, rv]) :=
    ((Kp.refl (one I.kb) w5).set1 _ _).own hown1 (fun b hb (e : b = I.kb) => by have := hv1 b hb; rw [e, h2.r3] at this; cases this)
  have kF : Kp (upl I) w (w5.setCell ⟨I.kb, 1, none⟩ v1) := ((h1.low' (X := fun r => r = 1) (k3.mono (fun b _ (e : b = I.rb) => by rw [e]; exact h1.r1)) (by decide)).trans kW.any).trans (h2.low' (X := fun r => r = 3 ∨ r = 4) k5 (by decide))
  have hpF := RowAt.kpR (X := fun r => r = 3 ∨ r = 4) (hp.kp kW (fun _ _ h => h)) k5 (by decide) (q := W.heap.size) (fun b hb => ⟨zp b hb, by have := (np b hb).2; omega⟩)
  have hrF := RowAt.kpR (X := fun r => r = 3 ∨ r = 4) (hr.kp kW (fun _ _ h => h)) k5 (by decide) (q := W.heap.size) (fun b hb => ⟨zr b hb, by have := (nr b hb).2; omega⟩)
  refine ⟨⟨role', v1, gv, fv, glv, cv, tys ++ [((p, r), pv, rv)], fs, ?_⟩, kF⟩
  refine ⟨Nat.le_trans h2.base k5.size, (h2.kRd (X := fun r => r = 3 ∨ r = 4) k5 (by decide) (by decide) :), heap_setCell hlook _, (h2.kMod (X := fun r => r = 3 ∨ r = 4) k5 (by decide) :), ?_, (h2.kGlobs (X := fun r => r = 3 ∨ r = 4) k5 (by decide) :), (h2.kFuncs (X := fun r => r = 3 ∨ r = 4) k5 (by decide) :), (h2.kVals (X := fun r => r = 3 ∨ r = 4) k5 (by decide) :), (h2.kCode (X := fun r => r = 3 ∨ r = 4) k5 (by decide) :), ?_, h2.eqF, ?_, h2.kFnB (X := fun r => r = 3 ∨ r = 4) k5 (by decide), h2.r1, h2.r2, h2.r3, hv1, h2.r5, h2.r6, h2.r7, h2.r8, ?_, h2.kFnR (X := fun r => r = 3 ∨ r = 4) k5, h2.low, h2.dvB, ?_, h2.fnN⟩
  · simpa [List.flatMap_append, tyCells] using ho
  · simp [h.eqT]
  · intro x hx
    rcases List.mem_append.1 hx with e | e
    · exact h2.kTyB (X := fun r => r = 3 ∨ r = 4) k5 (by decide) x e
    · simp only [List.mem_singleton] at e; subst e; exact ⟨hpF, hrF⟩
  · intro x hx
    rcases List.mem_append.1 hx with e | e
    · exact h2.kTyR (X := fun r => r = 3 ∨ r = 4) k5 x e
    · simp only [List.mem_singleton] at e; subst e
      have := k5.size
      exact ⟨fun b hb => ⟨zp b hb, by have := (np b hb).2; omega⟩, fun b hb => ⟨zr b hb, by have := (nr b hb).2; omega⟩⟩
  · intro x hx
    rcases List.mem_append.1 hx with e | e
    · exact h2.tyN x e
    · simp only [List.mem_singleton] at e; subst e
      have := Nat.le_trans I.hBC h.base
      exact ⟨fun b hb => by have := (np b hb).1; omega, fun b hb => by have := (nr b hb).1; omega⟩
theorem LSt.addType (h : LSt I w s) : ∃ tv xs gv, w.heap[I.kb]? = some (.cells #[ptrTo I.rb, tv, gv, ptrTo I.mb] 182) ∧ (∃ ad cap, tv = .slice ad s.types.length cap) ∧ some I.kb ≠ tv.ownBlock ∧ (∀ W, Kp (one I.rb) w W → W.ownsRow I.B 138 2 tv s.types.length xs) ∧
    ∀ w3 W w5 j pv rv p r v1 n ys, Kp (one I.rb) w w3 → RSt w3 I.rb I.dv I.D j → BytesAt w3 pv p → BytesAt w3 rv r → (∀ b, pv.ownBlock = some b → w.heap.size ≤ b ∧ b < w3.heap.size) → (∀ b, rv.ownBlock = some b → w.heap.size ≤ b ∧ b < w3.heap.size) → Kp no w3 W →
      n = s.types.length + 1 → ys = xs ++ [pv, rv] → w5.ownsRow I.B 138 2 v1 n ys → W.grownBy w5 tv.ownBlock → (v1.ownBlock = tv.ownBlock ∨ v1.ownBlock = some W.heap.size) →
      LSt I (w5.setCell ⟨I.kb, 1, none⟩ v1) { s with i := j, types := s.types ++ [(p, r)] } ∧ Kp (upl I) w (w5.setCell ⟨I.kb, 1, none⟩ v1) := by
  obtain ⟨role, tv, gv, fv, glv, cv, tys, fs, h⟩ := h
  refine ⟨tv, tys.flatMap tyCells, gv, h.look, own_shape h.types, fun e => ?_, fun W k => k.own h.types (fun b hb (e : b = I.rb) => ?_), fun w3 W w5 j pv rv p r v1 n ys a1 a2 a3 a4 a5 a6 a7 a8 a9 b1 b2 b3 => addType_end h a1 a2 a3 a4 a5 a6 a7 a8 a9 b1 b2 b3⟩
  · have := h.r4 _ e.symm; rw [h.r3] at this; cases this
  · have := h.r4 b hb; rw [e, h.r1] at this; cases this
theorem LSt.dvLt (h : LSt I w s) (b : Nat) (hb : I.dv.ownBlock = some b) : b < w.heap.size := by
  obtain ⟨role, tv, gv, fv, glv, cv, tys, fs, h⟩ := h
  exact Nat.lt_of_lt_of_le (I.hlo b (h.dvB b hb)) h.base
theorem LSt.kbLt (h : LSt I w s) : I.kb < w.heap.size := by
  obtain ⟨role, tv, gv, fv, glv, cv, tys, fs, h⟩ := h
  exact lt_of_blk h.look
theorem LSt.rbLt (h : LSt I w s) : I.rb < w.heap.size := by
  obtain ⟨role, tv, gv, fv, glv, cv, tys, fs, h⟩ := h
  exact lt_of_blk h.rd.blk
theorem LSt.base (h : LSt I w s) : I.B ≤ w.heap.size := by
  obtain ⟨role, tv, gv, fv, glv, cv, tys, fs, h⟩ := h
  exact Nat.le_trans I.hBC h.base

theorem many_len {D al : List UInt8} (n : Nat) : ∀ {i : Nat} {l : List UInt8} {j : Nat}, manyM (oneOfM D al) n i = .ok (l, j) → l.length = n := by
  induction n with
  | zero => intro i l j h; cases h; rfl
  | succ n ih =>
    intro i l j h
    rw [manyM] at h
    split at h
    · cases h
    · split at h
      · cases h
      · rename_i h2; cases h; simp [ih h2]
theorem list_len {D : List UInt8} {most i : Nat} {l : List UInt8} {j : Nat} (h : listM D most i = .ok (l, j)) : l.length ≤ most := by
  unfold listM at h
  split at h
  · cases h
  · rename_i n k hb
    have := below_lt hb
    have := many_len n h
    omega

def typesL (I : LIds) (s : Lkr) : Except (Int × Int) Lkr :=
  match belowM I.D 17 s.i with
  | .error e => .error e
  | .ok (n, j) => match manyM (typeM I.D) n j with
    | .error e => .error e
    | .ok (l, k) => .ok { s with types := s.types ++ l, i := k }

set_option maxRecDepth 100000 in
set_option maxHeartbeats 6000000 in
theorem readTypes_any (h : LSt I w s) (ht : s.types.length ≤ 100) : Calls Tryz.prog 76 #[ptrTo I.kb] w fun r w' => LDone I w w' (typesL I s) r ∧ Kp (upl I) w w' := by
  have hM : typesL I s = (match belowM I.D 17 s.i with
    | .error e => .error e
    | .ok (n, j) => match manyM (typeM I.D) n j with
      | .error e => .error e
      | .ok (l, k) => .ok { s with types := s.types ++ l, i := k }) := rfl
  generalize typesL I s = R at *
  obtain ⟨i0, hi0, hz0, hz1, hz2⟩ := info_parts info_ctype
  obtain ⟨tv, gv, hlo, hn1, hn2, hn3, -, -⟩ := h.lookAt
  obtain ⟨hc, hf⟩ := cells_of hlo
  have hbe := below_any h.rd 17 (by decide) (by decide)
  have hlt := fun n j => below_lt (D := I.D) (lim := 17) (i := s.i) (n := n) (j := j)
  generalize belowM I.D 17 s.i = Q at *
  have H := hide h
  have HB := hide hbe
  have HM := hide hM
  clear h hlo hbe hM
  match Q, HM, HB, hlt with
  | .error e, HM, HB, _ =>
    go_enter Tryz.func76, Tryz.ntmps76
    go_wp2_with fail
    refine HB.out.mono ?_
    rintro r w1 ⟨⟨fv, j, rfl, ⟨fb, rfl, hfb, hfo⟩, h1⟩, k1⟩
    have HF := hide hfo
    clear hfo h1
    go_wp2
    go_ret
    rw [HM.out]
    exact ⟨⟨ptrTo fb, rfl, fb, rfl, hfb, HF.out⟩, H.out.lowRd k1⟩
  | .ok (n, j), HM, HB, hlt =>
    have hn := (hlt n j rfl).1
    clear hlt
    go_enter Tryz.func76, Tryz.ntmps76
    go_wp2_with fail
    refine HB.out.mono ?_
    rintro r w1 ⟨⟨v, rfl, rfl, h1⟩, k1⟩
    have H1 := hide (H.out.read k1 h1)
    have HK1 := hide (H.out.lowRd k1)
    clear h1 k1 hc hf
    go_wp2
    go_loopw [20] (fun kv wr => ∃ (k jj : Nat) (l : List Ty), k ≤ n ∧ kv = .int .i64 k ∧ l.length = k ∧ LSt I wr { s with i := jj, types := s.types ++ l } ∧ Kp (upl I) w wr ∧ manyM (typeM I.D) n j = preR l (manyM (typeM I.D) (n - k) jj)) (fun kv _ => n - (intOf kv).toNat)
    case atStart => exact ⟨0, j, [], by omega, rfl, rfl, by rw [List.append_nil]; exact H1.out, HK1.out, by rw [preR_nil]; rfl⟩
    case round =>
      obtain ⟨k, jj, l, hk, rfl, hlk, hst, hkp, hlab⟩ := hrel
      have HS := hide hst
      have HK := hide hkp
      have HLa := hide hlab
      have HLk := hide hlk
      obtain ⟨tv, xs, gv, hlo, ⟨adt, capt, hts⟩, hnk, hown, hadd⟩ := hst.addType
      have hlt1 := hst.rd
      obtain ⟨-, -, -, hq1, hq2, hq3, -, -⟩ := hst.lookAt
      obtain ⟨N, hN⟩ : ∃ N, N = (s.types ++ l).length := ⟨_, rfl⟩
      have hlen : N ≤ 200 := by rw [hN]; simp [hlk]; omega
      simp only [← hN] at hts hown hadd
      clear hN
      subst hts
      obtain ⟨hc, hf⟩ := cells_of hlo
      have HLo := hide hlo
      have HOw := hide hown
      have HAd := hide hadd
      have hli := readList_any hlt1 hst.dvLt 8 (by decide)
      have hszr := hkp.size
      have hbase := hst.base
      have hkb := hst.kbLt
      simp only at hli
      have hL := HLa.out
      clear hst hkp hlab hlk hlo hown hadd hlt1
      by_cases hkn : k < n
      · rw [show n - k = (n - k - 1) + 1 by omega, preR_step, typeM] at hL
        have hrg := fun p j2 => list_len (D := I.D) (most := 8) (i := jj) (l := p) (j := j2)
        generalize listM I.D 8 jj = Q2 at *
        have HLi := hide hli
        have HL := hide hL
        clear hli hL
        match Q2, HL, HLi, hrg with
        | .error e, HL, HLi, _ =>
          go_wp2_with fail
          refine HLi.out.mono ?_
          rintro r w2 ⟨⟨fv, rfl, fb, rfl, hfb, hfo⟩, k2⟩
          have HF := hide hfo
          clear hfo
          go_wp2
          go_ret
          rw [HM.out]
          show LDone _ _ _ (match manyM (typeM I.D) n j with | .error e => .error e | .ok (l, k) => .ok { s with types := s.types ++ l, i := k }) _ ∧ _
          rw [HL.out]
          exact ⟨⟨ptrTo fb, rfl, fb, rfl, by omega, HF.out⟩, HK.out.trans (HS.out.lowRd k2)⟩
        | .ok (p, j2), HL, HLi, hrg =>
          have hp8 := hrg p j2 rfl
          go_wp2_with fail
          refine HLi.out.mono ?_
          rintro r w2 ⟨⟨pv, rfl, hpb, hpo, hr2⟩, k2⟩
          obtain ⟨hc2, hf2⟩ := cells_of (k2.blk HLo.out hq1)
          have hsz2 := k2.size
          obtain ⟨adp, capp, rfl, -⟩ := hpb.shape1
          have hli2 := readList_any hr2 (fun b hb => by have := HS.out.dvLt b hb; omega) 1 (by decide)
          have hL2 := HL.out

          have hrg2 := fun p j3 => list_len (D := I.D) (most := 1) (i := j2) (l := p) (j := j3)
          generalize listM I.D 1 j2 = Q3 at hL2 hli2 hrg2
          have HPb := hide hpb
          have HPo := hide hpo
          have HK2 := hide k2
          have HLi2 := hide hli2
          have HL2 := hide hL2
          clear hpb hpo hr2 k2 hli2 hL2 hc hf
          match Q3, HL2, HLi2, hrg2 with
          | .error e, HL2, HLi2, _ =>
            go_wp2_with fail
            refine HLi2.out.mono ?_
            rintro r w3 ⟨⟨fv, rfl, fb, rfl, hfb, hfo⟩, k3⟩
            have HF := hide hfo
            clear hfo
            go_wp2
            go_ret
            rw [HM.out]
            show LDone _ _ _ (match manyM (typeM I.D) n j with | .error e => .error e | .ok (l, k) => .ok { s with types := s.types ++ l, i := k }) _ ∧ _
            rw [HL2.out]
            exact ⟨⟨ptrTo fb, rfl, fb, rfl, by omega, HF.out⟩, HK.out.trans (HS.out.lowRd (HK2.out.trans k3))⟩
          | .ok (q, j3), HL2, HLi2, hrg2 =>
            have hq1' := hrg2 q j3 rfl
            go_wp2_with fail
            refine HLi2.out.mono ?_
            rintro r w3 ⟨⟨rv, rfl, hrb, hro, hr3⟩, k3⟩
            obtain ⟨hc3, hf3⟩ := cells_of ((HK2.out.trans k3).blk HLo.out hq1)
            have hsz3 := k3.size
            obtain ⟨adr, capr, rfl, -⟩ := hrb.shape1
            have HRb := hide hrb
            have HRo := hide hro
            have HR3 := hide hr3
            have HK3 := hide (HK2.out.trans k3)
            have HPb3 := hide (HPb.out.kp k3 (fun b hb (e : b = I.rb) => by have := HPo.out b hb; have := HS.out.rbLt; omega))
            clear hrb hro hr3 k3 hc2 hf2
            go_wp2_with (at_builtin; refine wpList_append_at _ rfl _ _ 179 rfl I.B 138 i0 _ 2 48 Tryz.underlying179 hi0 hz0 hz1 hz2 rfl (by decide) _ _ _ rfl ((HOw.out _ HK3.out).alloc _) _ 1 [.slice adp p.length capp, .slice adr q.length capr] rfl (RowAt.allocAt rfl _ _ 1 2 rfl) (by simp [Value.oneCell']) ?c3 ?c4 ?c5 ?_)
            case c3 => unfold maxLen; omega
            case c4 => omega
            case c5 => simp; omega
            intro v4 w5 hown4 hgrow4 hat4
            obtain ⟨ad4, cap4, rfl⟩ := own_shape hown4
            have hst5 := HAd.out w3 _ w5 j3 _ _ p q _ _ _ HK3.out HR3.out HPb3.out HRb.out (fun b hb => ⟨(HPo.out b hb).1, by have := (HPo.out b hb).2; omega⟩) (fun b hb => ⟨by have := (HRo.out b hb).1; omega, (HRo.out b hb).2⟩) ((Kp.refl no w3).alloc _) rfl rfl hown4 hgrow4 (by simpa using hat4)
            have hlo5 := (hgrow4.block I.kb (by simp; omega) hnk).trans ((((Kp.refl no w3).alloc _).trans (Kp.refl no _)).blk (HK3.out.blk HLo.out hq1) (fun h => h))
            obtain ⟨hc5, hf5⟩ := cells_of hlo5
            have HS5 := hide hst5.1
            have HK5 := hide (HK.out.trans hst5.2)
            clear hown4 hgrow4 hat4 hst5 hlo5 hc3 hf3
            go_wp2
            go_roundw
            case rel => exact ⟨k + 1, j3, l ++ [(p, q)], by omega, by go_num, by simp [HLk.out], by rw [← List.append_assoc]; exact HS5.out, HK5.out, by rw [HL2.out, show n - (k + 1) = n - k - 1 by omega]⟩
            case measure => simp [intOf]; omega
      · have hkn' : k = n := by omega
        subst hkn'
        rw [Nat.sub_self] at hL
        have HL := hide hL
        clear hL
        go_wp2
        go_ret
        rw [HM.out]
        show LDone _ _ _ (match manyM (typeM I.D) k j with | .error e => .error e | .ok (l, k) => .ok { s with types := s.types ++ l, i := k }) _ ∧ _
        rw [HL.out, manyM, preR, List.append_nil]
        exact ⟨⟨rfl, HS.out⟩, HK.out⟩
end

end Go.Proofs.YtdeplgkhmebalaaGreatDoor

namespace Go.Proofs.YtdeplgkhmebalaaGreatDoor
open Go.RowKit

def magR (D : List UInt8) : List UInt8 → Nat → Rd Unit
  | [], i => .ok ((), i)
  | c :: l, i => match oneOfM D [c] i with
    | .error e => .error e
    | .ok (_, j) => magR D l j
theorem magicM_eq (D : List UInt8) (i : Nat) : magicM D i = magR D [83, 84, 75, 1] i := rfl
def magB (k : Nat) : UInt8 := [83, 84, 75, 1].getD k 0
theorem magR_step (D : List UInt8) (k i : Nat) (hk : k < 4) : magR D ([83, 84, 75, 1].drop k) i = (match oneOfM D [magB k] i with
    | .error e => .error e
    | .ok (_, j) => magR D ([83, 84, 75, 1].drop (k + 1)) j) := by
  rcases (by omega : k = 0 ∨ k = 1 ∨ k = 2 ∨ k = 3) with rfl | rfl | rfl | rfl <;> rfl

theorem enters_oneOf : ∀ args w, (callFunc 104 args).run Tryz.prog w = .ok (.enter 104 args) w := enters_of Tryz.func104 (by kernel_rfl) rfl

section
variable {I : LIds} {w : World} {s : Lkr}
def magicL (I : LIds) (s : Lkr) : Except (Int × Int) Lkr :=
  match magicM I.D s.i with
  | .error e => .error e
  | .ok (_, j) => .ok { s with i := j }

set_option maxRecDepth 100000 in
set_option maxHeartbeats 6000000 in
theorem readMagic_any (h : LSt I w s) : Calls Tryz.prog 75 #[ptrTo I.kb] w fun r w' => LDone I w w' (magicL I s) r ∧ Kp (upl I) w w' := by
  have hM : magicL I s = (match magR I.D [83, 84, 75, 1] s.i with
  | .error e => .error e
  | .ok (_, j) => .ok { s with i := j }) := rfl
  generalize magicL I s = R at *
  have H := hide h
  have HM := hide hM
  clear h hM
  go_enter Tryz.func75, Tryz.ntmps75
  go_wp2
  go_loopw [6] (fun kv wr => ∃ (k jj : Nat), k ≤ 4 ∧ kv = .int .i64 k ∧ LSt I wr { s with i := jj } ∧ Kp (upl I) w wr ∧ magR I.D [83, 84, 75, 1] s.i = magR I.D ([83, 84, 75, 1].drop k) jj) (fun kv _ => 4 - (intOf kv).toNat)
  case atStart => exact ⟨0, s.i, by omega, rfl, H.out, (Kp.refl no w).any, rfl⟩
  case round =>
    obtain ⟨k, jj, hk, rfl, hst, hkp, hlab⟩ := hrel
    have HS := hide hst
    have HK := hide hkp
    obtain ⟨tv, gv, hlo, hn1, hn2, hn3, -, -⟩ := hst.lookAt
    obtain ⟨hc, hf⟩ := cells_of hlo
    have hsz := hkp.size
    have hw1 : IntKind.i64.wrap 1 = 1 := by decide
    have hw2 : IntKind.i64.wrap 2 = 2 := by decide
    have hw3 : IntKind.i64.wrap 3 = 3 := by decide
    have hw4 : IntKind.i64.wrap 4 = 4 := by decide
    by_cases hk4 : k < 4
    · have hone := fun W (kW : Kp no wr W) => oneOf_any (hst.quiet kW).rd ⟨#[magB k]⟩ [magB k] rfl
      simp only at hone
      rw [magR_step I.D k jj hk4] at hlab
      generalize oneOfM I.D [magB k] jj = Q2 at *
      have HOn := hide hone
      have HL := hide hlab
      clear hst hkp hlab hone hlo
      match Q2, HL, HOn with
      | .error e, HL, HOn =>
        rcases (by omega : k = 0 ∨ k = 1 ∨ k = 2 ∨ k = 3) with rfl | rfl | rfl | rfl
        all_goals
          go_wp2_with fail
          go_region_law (first | ((refine step_call (by rfl) 104 _ _ (by rfl) enters_oneOf _ (by rfl) (HOn.out _ (by repeat' first | exact Kp.refl _ _ | apply Kp.drew | apply Kp.drewN | apply Kp.alloc)) ?_; rintro e w3 ⟨⟨fv, j, rfl, ⟨fb, rfl, hfb, hfo⟩, h1⟩, k3⟩; refine ⟨_, rfl, ?_⟩)))
          all_goals
            have HF := hide hfo
            have hfb' : w.heap.size ≤ fb := Nat.le_trans hsz hfb
            have HK3 := hide (HK.out.trans (HS.out.lowRd (Kp.trans ((Kp.refl (one I.rb) wr).drew) k3)))
            clear hfo h1 k3
            go_wp2
            go_ret
            rw [HM.out]
            show LDone _ _ _ (match magR I.D [83, 84, 75, 1] s.i with | .error e => .error e | .ok (_, j) => .ok { s with i := j }) _ ∧ _
            rw [HL.out]
            exact ⟨⟨ptrTo fb, rfl, fb, rfl, hfb', HF.out⟩, HK3.out⟩
      | .ok (t, j2), HL, HOn =>
        rcases (by omega : k = 0 ∨ k = 1 ∨ k = 2 ∨ k = 3) with rfl | rfl | rfl | rfl
        all_goals
          go_wp2_with fail
          go_region_law (first | ((refine step_call (by rfl) 104 _ _ (by rfl) enters_oneOf _ (by rfl) (HOn.out _ (by repeat' first | exact Kp.refl _ _ | apply Kp.drew | apply Kp.drewN | apply Kp.alloc)) ?_; rintro e w3 ⟨⟨v, rfl, rfl, h1⟩, k3⟩; refine ⟨_, rfl, ?_⟩)))
          all_goals
            have H3 := hide (HS.out.read (Kp.trans ((Kp.refl (one I.rb) wr).drew) k3) h1)
            have HK3 := hide (HK.out.trans (HS.out.lowRd (Kp.trans ((Kp.refl (one I.rb) wr).drew) k3)))
            clear h1 k3
            go_wp2
            go_roundw
            case rel => exact ⟨_, j2, by omega, by go_num, H3.out, HK3.out, HL.out⟩
            case measure => simp [intOf]
    · obtain rfl : k = 4 := by omega
      have HL := hide hlab
      clear hst hkp hlab hlo
      go_wp2
      go_ret
      rw [HM.out]
      show LDone _ _ _ (match magR I.D [83, 84, 75, 1] s.i with | .error e => .error e | .ok (_, j) => .ok { s with i := j }) _ ∧ _
      rw [HL.out]
      exact ⟨⟨rfl, HS.out⟩, HK.out⟩
end

end Go.Proofs.YtdeplgkhmebalaaGreatDoor

namespace Go.Proofs.YtdeplgkhmebalaaGreatDoor
open Go.RowKit

theorem info_global : (Tryz.prog.info? 256).map (fun i => (i.zero, i.size, i.bytes)) = some (some (.agg #[.int .u8 0, .bool false]), 2, 2) := by kernel_rfl
theorem info_cfunc : (Tryz.prog.info? 140).map (fun i => (i.zero, i.size, i.bytes)) = some (some (.agg #[.slice none 0 0, .slice none 0 0, .int .i64 0, .int .i64 0]), 4, 64) := by kernel_rfl
theorem info_u64 : (Tryz.prog.info? 38).map (fun i => (i.zero, i.size, i.bytes)) = some (some (.int .u64 0), 1, 8) := by kernel_rfl

section
variable {I : LIds} {w : World} {s : Lkr}

theorem addGlob_end {role : Nat → Nat} {tv gv fv glv cv : Value} {tys : List TyV} {fs : List FnV} (h : LStG I w s role tv gv fv glv cv tys fs) {W w5 : World} (kW : Kp no w W) (x : UInt8 × Bool)
    {v1 : Value} {n : Nat} {xs : List Value} (hn : n = s.gl.length + 1) (hxs : xs = s.gl.flatMap glCells ++ glCells x)
    (hown1 : w5.ownsRow I.B 256 2 v1 n xs) (hgrow : W.grownBy w5 gv.ownBlock) (hat : v1.ownBlock = gv.ownBlock ∨ v1.ownBlock = some W.heap.size) :
    LSt I (w5.setCell ⟨I.kb, 2, none⟩ v1) { s with gl := s.gl ++ [x] } ∧ Kp (upl I) w (w5.setCell ⟨I.kb, 2, none⟩ v1) := by
  subst hn hxs
  obtain ⟨role', hro⟩ : ∃ role' : Nat → Nat, role' = fun k => if k < w.heap.size then role k else 5 := ⟨_, rfl⟩
  have h1 : LStG I w s role' tv gv fv glv cv tys fs := h.rerole (fun k hk => by rw [hro]; simp only [if_pos hk])
  have h2 := h1.quiet kW
  have hsW := kW.size
  have hv1 : ∀ b, v1.ownBlock = some b → role' b = 5 := by
    intro b hb
    rcases hat with e | e
    · exact h1.r5 b (e ▸ hb)
    · rw [hb] at e; cases e
      rw [hro]
      simp only [if_neg (show ¬ W.heap.size < w.heap.size by omega)]
  have k4 : Kp (fun b => (fun r => r = 3 ∨ r = 5) (role' b)) W w5 := (Kp.refl _ W).grown hgrow (fun b hb => .inl (.inr (h2.r5 b hb)))
  have k5 : Kp (fun b => (fun r => r = 3 ∨ r = 5) (role' b)) W (w5.setCell ⟨I.kb, 2, none⟩ v1) := k4.setAt (.inl h2.r3) _ _
  have hlook : w5.heap[I.kb]? = some (.cells #[ptrTo I.rb, tv, gv, ptrTo I.mb] 182) := (hgrow.block I.kb (lt_of_blk h2.look) (fun e => by have := h2.r5 _ e.symm; rw [h2.r3] at this; cases this)).trans h2.look
  have ho : (w5.setCell ⟨I.kb, 2, none⟩ v1).ownsRow I.B 256 2 v1 (s.gl.length + 1) (s.gl.flatMap glCells ++ glCells x) :=
    ((Kp.refl (one I.kb) w5).set1 _ _).own hown1 (fun b hb (e : b = I.kb) => by have := hv1 b hb; rw [e, h2.r3] at this; cases this)
  have kF : Kp (upl I) w (w5.setCell ⟨I.kb, 2, none⟩ v1) := kW.any.trans (h2.low' (X := fun r => r = 3 ∨ r = 5) k5 (by decide))
  refine ⟨⟨role', tv, v1, fv, glv, cv, tys, fs, ?_⟩, kF⟩
  refine ⟨Nat.le_trans h2.base k5.size, (h2.kRd (X := fun r => r = 3 ∨ r = 5) k5 (by decide) (by decide) :), heap_setCell hlook _, (h2.kMod (X := fun r => r = 3 ∨ r = 5) k5 (by decide) :), (h2.kTypes (X := fun r => r = 3 ∨ r = 5) k5 (by decide) :), ?_, (h2.kFuncs (X := fun r => r = 3 ∨ r = 5) k5 (by decide) :), (h2.kVals (X := fun r => r = 3 ∨ r = 5) k5 (by decide) :), (h2.kCode (X := fun r => r = 3 ∨ r = 5) k5 (by decide) :), h2.eqT, h2.eqF, h2.kTyB (X := fun r => r = 3 ∨ r = 5) k5 (by decide), h2.kFnB (X := fun r => r = 3 ∨ r = 5) k5 (by decide), h2.r1, h2.r2, h2.r3, h2.r4, hv1, h2.r6, h2.r7, h2.r8, h2.kTyR (X := fun r => r = 3 ∨ r = 5) k5, h2.kFnR (X := fun r => r = 3 ∨ r = 5) k5, h2.low, h2.dvB, h2.tyN, h2.fnN⟩
  simpa [List.flatMap_append] using ho

theorem addVal_end {role : Nat → Nat} {tv gv fv glv cv : Value} {tys : List TyV} {fs : List FnV} (h : LStG I w s role tv gv fv glv cv tys fs) {W w5 : World} (kW : Kp no w W) (x : Nat)
    {v1 : Value} {n : Nat} {xs : List Value} (hn : n = s.vals.length + 1) (hxs : xs = (s.vals.map fun n => Value.int .u64 (n : Nat)) ++ [.int .u64 (x : Nat)])
    (hown1 : w5.ownsRow I.B 38 1 v1 n xs) (hgrow : W.grownBy w5 glv.ownBlock) (hat : v1.ownBlock = glv.ownBlock ∨ v1.ownBlock = some W.heap.size) :
    LSt I (w5.setCell ⟨I.mb, 1, none⟩ v1) { s with vals := s.vals ++ [x] } ∧ Kp (upl I) w (w5.setCell ⟨I.mb, 1, none⟩ v1) := by
  subst hn hxs
  obtain ⟨role', hro⟩ : ∃ role' : Nat → Nat, role' = fun k => if k < w.heap.size then role k else 7 := ⟨_, rfl⟩
  have h1 : LStG I w s role' tv gv fv glv cv tys fs := h.rerole (fun k hk => by rw [hro]; simp only [if_pos hk])
  have h2 := h1.quiet kW
  have hsW := kW.size
  have hv1 : ∀ b, v1.ownBlock = some b → role' b = 7 := by
    intro b hb
    rcases hat with e | e
    · exact h1.r7 b (e ▸ hb)
    · rw [hb] at e; cases e
      rw [hro]
      simp only [if_neg (show ¬ W.heap.size < w.heap.size by omega)]
  have k4 : Kp (fun b => (fun r => r = 2 ∨ r = 7) (role' b)) W w5 := (Kp.refl _ W).grown hgrow (fun b hb => .inl (.inr (h2.r7 b hb)))
  have k5 : Kp (fun b => (fun r => r = 2 ∨ r = 7) (role' b)) W (w5.setCell ⟨I.mb, 1, none⟩ v1) := k4.setAt (.inl h2.r2) _ _
  have hmod : w5.heap[I.mb]? = some (.cells #[fv, glv, .int .i64 s.pages, cv] 121) := (hgrow.block I.mb (lt_of_blk h2.mod) (fun e => by have := h2.r7 _ e.symm; rw [h2.r2] at this; cases this)).trans h2.mod
  have ho : (w5.setCell ⟨I.mb, 1, none⟩ v1).ownsRow I.B 38 1 v1 (s.vals.length + 1) ((s.vals.map fun n => Value.int .u64 (n : Nat)) ++ [.int .u64 (x : Nat)]) :=
    ((Kp.refl (one I.mb) w5).set1 _ _).own hown1 (fun b hb (e : b = I.mb) => by have := hv1 b hb; rw [e, h2.r2] at this; cases this)
  have kF : Kp (upl I) w (w5.setCell ⟨I.mb, 1, none⟩ v1) := kW.any.trans (h2.low' (X := fun r => r = 2 ∨ r = 7) k5 (by decide))
  refine ⟨⟨role', tv, gv, fv, v1, cv, tys, fs, ?_⟩, kF⟩
  refine ⟨Nat.le_trans h2.base k5.size, (h2.kRd (X := fun r => r = 2 ∨ r = 7) k5 (by decide) (by decide) :), (h2.kLook (X := fun r => r = 2 ∨ r = 7) k5 (by decide) :), heap_setCell hmod _, (h2.kTypes (X := fun r => r = 2 ∨ r = 7) k5 (by decide) :), (h2.kGlobs (X := fun r => r = 2 ∨ r = 7) k5 (by decide) :), (h2.kFuncs (X := fun r => r = 2 ∨ r = 7) k5 (by decide) :), ?_, (h2.kCode (X := fun r => r = 2 ∨ r = 7) k5 (by decide) :), h2.eqT, h2.eqF, h2.kTyB (X := fun r => r = 2 ∨ r = 7) k5 (by decide), h2.kFnB (X := fun r => r = 2 ∨ r = 7) k5 (by decide), h2.r1, h2.r2, h2.r3, h2.r4, h2.r5, h2.r6, hv1, h2.r8, h2.kTyR (X := fun r => r = 2 ∨ r = 7) k5, h2.kFnR (X := fun r => r = 2 ∨ r = 7) k5, h2.low, h2.dvB, h2.tyN, h2.fnN⟩
  simpa using ho

theorem addFunc_end {role : Nat → Nat} {tv gv fv glv cv : Value} {tys : List TyV} {fs : List FnV} (h : LStG I w s role tv gv fv glv cv tys fs) {W w5 : World} (kW : Kp no w W) {x : TyV} (hx : x ∈ tys)
    {v1 : Value} {n : Nat} {xs : List Value} (hn : n = s.fns.length + 1) (hxs : xs = fs.flatMap fnCells ++ [x.2.1, x.2.2, .int .i64 0, .int .i64 0])
    (hown1 : w5.ownsRow I.B 140 4 v1 n xs) (hgrow : W.grownBy w5 fv.ownBlock) (hat : v1.ownBlock = fv.ownBlock ∨ v1.ownBlock = some W.heap.size) :
    LSt I (w5.setCell ⟨I.mb, 0, none⟩ v1) { s with fns := s.fns ++ [⟨x.1, 0, 0⟩] } ∧ Kp (upl I) w (w5.setCell ⟨I.mb, 0, none⟩ v1) := by
  subst hn hxs
  obtain ⟨role', hro⟩ : ∃ role' : Nat → Nat, role' = fun k => if k < w.heap.size then role k else 6 := ⟨_, rfl⟩
  have h1 : LStG I w s role' tv gv fv glv cv tys fs := h.rerole (fun k hk => by rw [hro]; simp only [if_pos hk])
  have h2 := h1.quiet kW
  have hsW := kW.size
  have hv1 : ∀ b, v1.ownBlock = some b → role' b = 6 := by
    intro b hb
    rcases hat with e | e
    · exact h1.r6 b (e ▸ hb)
    · rw [hb] at e; cases e
      rw [hro]
      simp only [if_neg (show ¬ W.heap.size < w.heap.size by omega)]
  have k4 : Kp (fun b => (fun r => r = 2 ∨ r = 6) (role' b)) W w5 := (Kp.refl _ W).grown hgrow (fun b hb => .inl (.inr (h2.r6 b hb)))
  have k5 : Kp (fun b => (fun r => r = 2 ∨ r = 6) (role' b)) W (w5.setCell ⟨I.mb, 0, none⟩ v1) := k4.setAt (.inl h2.r2) _ _
  have hmod : w5.heap[I.mb]? = some (.cells #[fv, glv, .int .i64 s.pages, cv] 121) := (hgrow.block I.mb (lt_of_blk h2.mod) (fun e => by have := h2.r6 _ e.symm; rw [h2.r2] at this; cases this)).trans h2.mod
  have ho : (w5.setCell ⟨I.mb, 0, none⟩ v1).ownsRow I.B 140 4 v1 (s.fns.length + 1) (fs.flatMap fnCells ++ [x.2.1, x.2.2, .int .i64 0, .int .i64 0]) :=
    ((Kp.refl (one I.mb) w5).set1 _ _).own hown1 (fun b hb (e : b = I.mb) => by have := hv1 b hb; rw [e, h2.r2] at this; cases this)
  have kF : Kp (upl I) w (w5.setCell ⟨I.mb, 0, none⟩ v1) := kW.any.trans (h2.low' (X := fun r => r = 2 ∨ r = 6) k5 (by decide))
  have hTB := h2.kTyB (X := fun r => r = 2 ∨ r = 6) k5 (by decide)
  have hTR := h2.kTyR (X := fun r => r = 2 ∨ r = 6) k5
  refine ⟨⟨role', tv, gv, v1, glv, cv, tys, fs ++ [(⟨x.1, 0, 0⟩, x.2.1, x.2.2)], ?_⟩, kF⟩
  refine ⟨Nat.le_trans h2.base k5.size, (h2.kRd (X := fun r => r = 2 ∨ r = 6) k5 (by decide) (by decide) :), (h2.kLook (X := fun r => r = 2 ∨ r = 6) k5 (by decide) :), heap_setCell hmod _, (h2.kTypes (X := fun r => r = 2 ∨ r = 6) k5 (by decide) :), (h2.kGlobs (X := fun r => r = 2 ∨ r = 6) k5 (by decide) :), ?_, (h2.kVals (X := fun r => r = 2 ∨ r = 6) k5 (by decide) :), (h2.kCode (X := fun r => r = 2 ∨ r = 6) k5 (by decide) :), h2.eqT, ?_, hTB, ?_, h2.r1, h2.r2, h2.r3, h2.r4, h2.r5, hv1, h2.r7, h2.r8, hTR, ?_, h2.low, h2.dvB, h2.tyN, ?_⟩
  · simpa [List.flatMap_append, fnCells] using ho
  · simp [h.eqF]
  · intro y hy
    rcases List.mem_append.1 hy with e | e
    · exact h2.kFnB (X := fun r => r = 2 ∨ r = 6) k5 (by decide) y e
    · simp only [List.mem_singleton] at e; subst e; exact hTB x hx
  · intro y hy
    rcases List.mem_append.1 hy with e | e
    · exact h2.kFnR (X := fun r => r = 2 ∨ r = 6) k5 y e
    · simp only [List.mem_singleton] at e; subst e; exact hTR x hx
  · intro y hy
    rcases List.mem_append.1 hy with e | e
    · exact h2.fnN y e
    · simp only [List.mem_singleton] at e; subst e; exact h2.tyN x hx
end

end Go.Proofs.YtdeplgkhmebalaaGreatDoor

namespace Go.Proofs.YtdeplgkhmebalaaGreatDoor
open Go.RowKit
section
variable {I : LIds} {w : World} {s : Lkr}

theorem LSt.addFunc (h : LSt I w s) : ∃ tv gv fv glv cv xs, w.heap[I.kb]? = some (.cells #[ptrTo I.rb, tv, gv, ptrTo I.mb] 182) ∧ w.heap[I.mb]? = some (.cells #[fv, glv, .int .i64 s.pages, cv] 121) ∧
    (∃ ad cap, fv = .slice ad s.fns.length cap) ∧ some I.mb ≠ fv.ownBlock ∧ some I.kb ≠ fv.ownBlock ∧ (∀ W, Kp no w W → W.ownsRow I.B 140 4 fv s.fns.length xs) ∧
    ∀ n, n < s.types.length → ∃ a o cap ap lp cp ar lr cr, tv = .slice (some ⟨a, o, none⟩) s.types.length cap ∧ a ≠ I.mb ∧ some a ≠ fv.ownBlock ∧ a < w.heap.size ∧
      (∀ W, Kp no w W → W.cell? ⟨a, o + n * 2, none⟩ = some (.slice ap lp cp) ∧ W.cell? ⟨a, o + n * 2 + 1, none⟩ = some (.slice ar lr cr)) ∧
      ∀ W w5 v1 m ys, Kp no w W → m = s.fns.length + 1 → ys = xs ++ [.slice ap lp cp, .slice ar lr cr, .int .i64 0, .int .i64 0] → w5.ownsRow I.B 140 4 v1 m ys → W.grownBy w5 fv.ownBlock → (v1.ownBlock = fv.ownBlock ∨ v1.ownBlock = some W.heap.size) →
        LSt I (w5.setCell ⟨I.mb, 0, none⟩ v1) { s with fns := s.fns ++ [⟨s.types.getD n ([], []), 0, 0⟩] } ∧ Kp (upl I) w (w5.setCell ⟨I.mb, 0, none⟩ v1) := by
  obtain ⟨role, tv, gv, fv, glv, cv, tys, fs, h⟩ := h
  refine ⟨tv, gv, fv, glv, cv, fs.flatMap fnCells, h.look, h.mod, own_shape h.funcs, fun e => ?_, fun e => ?_, fun W k => k.own h.funcs (fun _ _ h => h), fun n hn => ?_⟩
  · have := h.r6 _ e.symm; rw [h.r2] at this; cases this
  · have := h.r6 _ e.symm; rw [h.r3] at this; cases this
  have hl : s.types.length = tys.length := by rw [h.eqT, List.length_map]
  obtain ⟨x, hx⟩ : ∃ x, tys[n]? = some x := ⟨tys[n]'(by omega), by simp [List.getElem?_eq_getElem (show n < tys.length by omega)]⟩
  have hm : x ∈ tys := List.mem_of_getElem? hx
  have hty : s.types.getD n ([], []) = x.1 := by rw [h.eqT]; simp [List.getD_eq_getElem?_getD, List.getElem?_map, hx]
  have g0 : (tys.flatMap tyCells)[n * 2]? = some x.2.1 := by
    have := flat_get tyLen tys n 0 (by omega); rw [Nat.add_zero] at this; rw [this, hx]; rfl
  have g1 : (tys.flatMap tyCells)[n * 2 + 1]? = some x.2.2 := by
    rw [flat_get tyLen tys n 1 (by omega), hx]; rfl
  have hrow := RowAt.own h.types
  have hob : ∀ b, tv.ownBlock = some b → b < w.heap.size := fun b hb => own_lt h.types hb
  obtain ⟨hll, ⟨rfl, h0⟩ | ⟨a, o, cap, rfl, hc, hcell⟩⟩ := hrow
  · omega
  obtain ⟨ap, cp, e1, -⟩ := (h.tyB x hm).1.shape
  obtain ⟨ar, cr, e2, -⟩ := (h.tyB x hm).2.shape
  refine ⟨a, o, cap, ap, x.1.1.length, cp, ar, x.1.2.length, cr, rfl, fun e => ?_, fun e => ?_, hob a rfl, fun W k => ?_, fun W w5 v1 m ys kW b1 b2 b3 b4 b5 => ?_⟩
  · have := h.r4 a rfl; rw [e, h.r2] at this; cases this
  · have := h.r6 a e.symm; rw [h.r4 a rfl] at this; cases this
  · rw [← e1, ← e2]
    exact ⟨k.cell (hcell _ _ g0) (fun h => h), by rw [Nat.add_assoc]; exact k.cell (hcell _ _ g1) (fun h => h)⟩
  · rw [hty]
    exact addFunc_end h kW hm b1 (by rw [b2, e1, e2]) b3 b4 b5

theorem enters_below : ∀ args w, (callFunc 105 args).run Tryz.prog w = .ok (.enter 105 args) w := enters_of Tryz.func105 (by kernel_rfl) rfl

def fnOne (D : List UInt8) (ts : List Ty) (i : Nat) : Rd Ty := match belowM D ts.length i with
  | .error e => .error e
  | .ok (k, j) => .ok (ts.getD k ([], []), j)
def funcsL (I : LIds) (s : Lkr) : Except (Int × Int) Lkr :=
  match belowM I.D 17 s.i with
  | .error e => .error e
  | .ok (n, j) => match manyM (fnOne I.D s.types) n j with
    | .error e => .error e
    | .ok (l, k) => .ok { s with fns := s.fns ++ l.map (fun t => ⟨t, 0, 0⟩), i := k }

set_option maxRecDepth 100000 in
set_option maxHeartbeats 6000000 in
theorem readFuncs_any (h : LSt I w s) (ht : s.types.length ≤ 200) (hfn : s.fns.length ≤ 100) : Calls Tryz.prog 77 #[ptrTo I.kb] w fun r w' => LDone I w w' (funcsL I s) r ∧ Kp (upl I) w w' := by
  have hM : funcsL I s = (match belowM I.D 17 s.i with
    | .error e => .error e
    | .ok (n, j) => match manyM (fnOne I.D s.types) n j with
      | .error e => .error e
      | .ok (l, k) => .ok { s with fns := s.fns ++ l.map (fun t => ⟨t, 0, 0⟩), i := k }) := rfl
  generalize funcsL I s = R at *
  obtain ⟨i0, hi0, hz0, hz1, hz2⟩ := info_parts info_cfunc
  obtain ⟨tv, gv, hlo, hn1, hn2, hn3, -, -⟩ := h.lookAt
  obtain ⟨hc, hf⟩ := cells_of hlo
  have hbe := below_any h.rd 17 (by decide) (by decide)
  have hlt := fun n j => below_lt (D := I.D) (lim := 17) (i := s.i) (n := n) (j := j)
  generalize belowM I.D 17 s.i = Q at *
  have H := hide h
  have HB := hide hbe
  have HM := hide hM
  clear h hlo hbe hM
  match Q, HM, HB, hlt with
  | .error e, HM, HB, _ =>
    go_enter Tryz.func77, Tryz.ntmps77
    go_wp2_with fail
    refine HB.out.mono ?_
    rintro r w1 ⟨⟨fv, j, rfl, ⟨fb, rfl, hfb, hfo⟩, h1⟩, k1⟩
    have HF := hide hfo
    clear hfo h1
    go_wp2
    go_ret
    rw [HM.out]
    exact ⟨⟨ptrTo fb, rfl, fb, rfl, hfb, HF.out⟩, H.out.lowRd k1⟩
  | .ok (n, j), HM, HB, hlt =>
    have hn := (hlt n j rfl).1
    clear hlt
    go_enter Tryz.func77, Tryz.ntmps77
    go_wp2_with fail
    refine HB.out.mono ?_
    rintro r w1 ⟨⟨v, rfl, rfl, h1⟩, k1⟩
    have H1 := hide (H.out.read k1 h1)
    have HK1 := hide (H.out.lowRd k1)
    clear h1 k1 hc hf
    go_wp2
    go_loopw [19] (fun kv wr => ∃ (k jj : Nat) (l : List Ty), k ≤ n ∧ kv = .int .i64 k ∧ l.length = k ∧ LSt I wr { s with i := jj, fns := s.fns ++ l.map (fun t => ⟨t, 0, 0⟩) } ∧ Kp (upl I) w wr ∧ manyM (fnOne I.D s.types) n j = preR l (manyM (fnOne I.D s.types) (n - k) jj)) (fun kv _ => n - (intOf kv).toNat)
    case atStart => exact ⟨0, j, [], by omega, rfl, rfl, by simpa using H1.out, HK1.out, by rw [preR_nil]; rfl⟩
    case round =>
      obtain ⟨k, jj, l, hk, rfl, hlk, hst, hkp, hlab⟩ := hrel
      have HS := hide hst
      have HK := hide hkp
      have HLa := hide hlab
      have HLk := hide hlk
      obtain ⟨tv, gv, hlo, hq1, hq2, hq3, ⟨adt, capt, rfl⟩, -⟩ := hst.lookAt
      obtain ⟨hc, hf⟩ := cells_of hlo
      have HLo := hide hlo
      have hszr := hkp.size
      have hL := HLa.out
      have hbe2 := fun W (kW : Kp no wr W) => below_any (hst.quiet kW).rd s.types.length (by omega) (by omega)
      clear hst hkp hlab hlk hlo
      by_cases hkn : k < n
      · rw [show n - k = (n - k - 1) + 1 by omega, preR_step, fnOne] at hL
        have hrg := fun p j2 => below_lt (D := I.D) (lim := s.types.length) (i := jj) (n := p) (j := j2)
        simp only at hbe2
        generalize belowM I.D (s.types.length) jj = Q2 at *
        have HB2 := hide hbe2
        have HL := hide hL
        clear hbe2 hL
        match Q2, HL, HB2, hrg with
        | .error e, HL, HB2, _ =>
          go_wp2_with fail
          refine wp_region_S 15 (fun w' => ∀ o, w'.cell? ⟨I.kb, o, none⟩ = #[ptrTo I.rb, .slice adt s.types.length capt, gv, ptrTo I.mb][o]?) (by kernel_rfl) (n := 15) (listed := #[false, false, false, false, false, false, false, false, false, false, false, false, false, false, false]) rfl (by kernel_rfl) ?hS (fun hS => ?_)
          case hS => exact fun o => hc o
          refine wpAnyS_take 0 [] (v := ?v1) (listed' := #[true, false, false, false, false, false, false, false, false, false, false, false, false, false, false]) rfl (by kernel_rfl) (by kernel_rfl) rfl (fun _ _ _ h => h) hS (fun _ hSw => ?hy1) ?rest1
          case hy1 => (try dsimp only at hSw); go_simp; all_goals (with_reducible rfl)
          simp only [Act.put, List.setIfInBounds_toArray, List.set_cons_zero, List.set_cons_succ]
          refine wpAnyS_take 1 [] (v := ?v2) (listed' := #[true, true, false, false, false, false, false, false, false, false, false, false, false, false, false]) rfl (by kernel_rfl) (by kernel_rfl) rfl (fun _ _ _ h => h) hS (fun _ hSw => ?hy2) ?rest2
          case hy2 => (try dsimp only at hSw); go_simp; all_goals (with_reducible rfl)
          simp only [Act.put, List.setIfInBounds_toArray, List.set_cons_zero, List.set_cons_succ]
          refine wpAnyS_take 2 [] (v := ?v3) (listed' := #[true, true, true, false, false, false, false, false, false, false, false, false, false, false, false]) rfl (by kernel_rfl) (by kernel_rfl) rfl (fun _ _ _ h => h) hS (fun _ hSw => ?hy3) ?rest3
          case hy3 => (try dsimp only at hSw); go_simp; all_goals (with_reducible rfl)
          simp only [Act.put, List.setIfInBounds_toArray, List.set_cons_zero, List.set_cons_succ]
          refine wpAnyS_take 3 [] (v := ?v4) (listed' := #[true, true, true, true, false, false, false, false, false, false, false, false, false, false, false]) rfl (by kernel_rfl) (by kernel_rfl) rfl (fun _ _ _ h => h) hS (fun _ hSw => ?hy4) ?rest4
          case hy4 => (try dsimp only at hSw); go_simp; all_goals (with_reducible rfl)
          simp only [Act.put, List.setIfInBounds_toArray, List.set_cons_zero, List.set_cons_succ]
          refine wpAnyS_take 4 [] (v := ?v5) (listed' := #[true, true, true, true, true, false, false, false, false, false, false, false, false, false, false]) rfl (by kernel_rfl) (by kernel_rfl) rfl (fun _ _ _ h => h) hS (fun _ hSw => ?hy5) ?rest5
          case hy5 => (try dsimp only at hSw); go_simp; all_goals (with_reducible rfl)
          simp only [Act.put, List.setIfInBounds_toArray, List.set_cons_zero, List.set_cons_succ]
          refine wpAnyS_take 5 [] (v := ?v6) (listed' := #[true, true, true, true, true, true, false, false, false, false, false, false, false, false, false]) rfl (by kernel_rfl) (by kernel_rfl) rfl (fun _ _ _ h => h) hS (fun _ hSw => ?hy6) ?rest6
          case hy6 => (try dsimp only at hSw); go_simp; all_goals (with_reducible rfl)
          simp only [Act.put, List.setIfInBounds_toArray, List.set_cons_zero, List.set_cons_succ]
          refine wpAnyS_take 6 [] (v := ?v7) (listed' := #[true, true, true, true, true, true, true, false, false, false, false, false, false, false, false]) rfl (by kernel_rfl) (by kernel_rfl) rfl (fun _ _ _ h => h) hS (fun _ hSw => ?hy7) ?rest7
          case hy7 => (try dsimp only at hSw); go_simp; all_goals (with_reducible rfl)
          simp only [Act.put, List.setIfInBounds_toArray, List.set_cons_zero, List.set_cons_succ]
          refine wpAnyS_take 7 [] (v := ?v8) (listed' := #[true, true, true, true, true, true, true, true, false, false, false, false, false, false, false]) rfl (by kernel_rfl) (by kernel_rfl) rfl (fun _ _ _ h => h) hS (fun _ hSw => ?hy8) ?rest8
          case hy8 => (try dsimp only at hSw); go_simp; all_goals (with_reducible rfl)
          simp only [Act.put, List.setIfInBounds_toArray, List.set_cons_zero, List.set_cons_succ]
          refine wpAnyS_take 8 [] (v := ?v9) (listed' := #[true, true, true, true, true, true, true, true, true, false, false, false, false, false, false]) rfl (by kernel_rfl) (by kernel_rfl) rfl (fun _ _ _ h => h) hS (fun _ hSw => ?hy9) ?rest9
          case hy9 => (try dsimp only at hSw); go_simp; all_goals (with_reducible rfl)
          simp only [Act.put, List.setIfInBounds_toArray, List.set_cons_zero, List.set_cons_succ]
          refine wpAnyS_one 9 (listed' := #[true, true, true, true, true, true, true, true, true, true, false, false, false, false, false]) rfl (by kernel_rfl) (by kernel_rfl) (fun K hK => ?_)
          refine step_call (by rfl) 105 _ _ (by rfl) enters_below _ (by rfl) (HB2.out _ ((Kp.refl _ _).drew)) ?_
          rintro e w3 ⟨⟨fv, j9, rfl, ⟨fb, rfl, hfb, hfo⟩, h1⟩, k3⟩
          refine ⟨_, rfl, hK _ _ (fun o => ?_) (fun hS => ?_)⟩
          · exact (cells_of (k3.blk (a := wr.drew) HLo.out hq1)).1 o
          clear hK K
          refine wpAnyS_take 10 [] (v := ?v11) (listed' := #[true, true, true, true, true, true, true, true, true, true, true, false, false, false, false]) rfl (by kernel_rfl) (by kernel_rfl) rfl (fun _ _ _ h => h) hS (fun _ hSw => ?hy11) ?rest11
          case hy11 => (try dsimp only at hSw); go_simp; all_goals (with_reducible rfl)
          simp only [Act.put, List.setIfInBounds_toArray, List.set_cons_zero, List.set_cons_succ]
          refine wpAnyS_take 11 [] (v := ?v12) (listed' := #[true, true, true, true, true, true, true, true, true, true, true, true, false, false, false]) rfl (by kernel_rfl) (by kernel_rfl) rfl (fun _ _ _ h => h) hS (fun _ hSw => ?hy12) ?rest12
          case hy12 => (try dsimp only at hSw); go_simp; all_goals (with_reducible rfl)
          simp only [Act.put, List.setIfInBounds_toArray, List.set_cons_zero, List.set_cons_succ]
          refine wpAnyS_take 12 [] (v := ?v13) (listed' := #[true, true, true, true, true, true, true, true, true, true, true, true, true, false, false]) rfl (by kernel_rfl) (by kernel_rfl) rfl (fun _ _ _ h => h) hS (fun _ hSw => ?hy13) ?rest13
          case hy13 => (try dsimp only at hSw); go_simp; all_goals (with_reducible rfl)
          simp only [Act.put, List.setIfInBounds_toArray, List.set_cons_zero, List.set_cons_succ]
          refine wpAnyS_take 13 [] (v := ?v14) (listed' := #[true, true, true, true, true, true, true, true, true, true, true, true, true, true, false]) rfl (by kernel_rfl) (by kernel_rfl) rfl (fun _ _ _ h => h) hS (fun _ hSw => ?hy14) ?rest14
          case hy14 => (try dsimp only at hSw); go_simp; all_goals (with_reducible rfl)
          simp only [Act.put, List.setIfInBounds_toArray, List.set_cons_zero, List.set_cons_succ]
          refine wpAnyS_take 14 [] (v := ?v15) (listed' := #[true, true, true, true, true, true, true, true, true, true, true, true, true, true, true]) rfl (by kernel_rfl) (by kernel_rfl) rfl (fun _ _ _ h => h) hS (fun _ hSw => ?hy15) ?rest15
          case hy15 => (try dsimp only at hSw); go_simp; all_goals (with_reducible rfl)
          simp only [Act.put, List.setIfInBounds_toArray, List.set_cons_zero, List.set_cons_succ]
          refine wpAnyS_done (by kernel_rfl) ?_ _
          have HF := hide hfo
          have hfb' : w.heap.size ≤ fb := Nat.le_trans hszr hfb
          have HK3 := hide (HK.out.trans (HS.out.lowRd (Kp.trans ((Kp.refl (one I.rb) wr).drew) k3)))
          clear hfo h1 k3
          go_wp2
          go_ret
          rw [HM.out]
          show LDone _ _ _ (match manyM (fnOne I.D s.types) n j with | .error e => .error e | .ok (l, k) => .ok { s with fns := s.fns ++ l.map (fun t => ⟨t, 0, 0⟩), i := k }) _ ∧ _
          rw [HL.out]
          exact ⟨⟨ptrTo fb, rfl, fb, rfl, hfb', HF.out⟩, HK3.out⟩
        | .ok (p, j2), HL, HB2, hrg =>
          have hp := (hrg p j2 rfl).1
          clear hrg
          go_wp2_with fail
          refine wp_region_S 15 (fun w' => ∀ o, w'.cell? ⟨I.kb, o, none⟩ = #[ptrTo I.rb, .slice adt s.types.length capt, gv, ptrTo I.mb][o]?) (by kernel_rfl) (n := 15) (listed := #[false, false, false, false, false, false, false, false, false, false, false, false, false, false, false]) rfl (by kernel_rfl) ?hS (fun hS => ?_)
          case hS => exact fun o => hc o
          refine wpAnyS_take 0 [] (v := ?v16) (listed' := #[true, false, false, false, false, false, false, false, false, false, false, false, false, false, false]) rfl (by kernel_rfl) (by kernel_rfl) rfl (fun _ _ _ h => h) hS (fun _ hSw => ?hy16) ?rest16
          case hy16 => (try dsimp only at hSw); go_simp; all_goals (with_reducible rfl)
          simp only [Act.put, List.setIfInBounds_toArray, List.set_cons_zero, List.set_cons_succ]
          refine wpAnyS_take 1 [] (v := ?v17) (listed' := #[true, true, false, false, false, false, false, false, false, false, false, false, false, false, false]) rfl (by kernel_rfl) (by kernel_rfl) rfl (fun _ _ _ h => h) hS (fun _ hSw => ?hy17) ?rest17
          case hy17 => (try dsimp only at hSw); go_simp; all_goals (with_reducible rfl)
          simp only [Act.put, List.setIfInBounds_toArray, List.set_cons_zero, List.set_cons_succ]
          refine wpAnyS_take 2 [] (v := ?v18) (listed' := #[true, true, true, false, false, false, false, false, false, false, false, false, false, false, false]) rfl (by kernel_rfl) (by kernel_rfl) rfl (fun _ _ _ h => h) hS (fun _ hSw => ?hy18) ?rest18
          case hy18 => (try dsimp only at hSw); go_simp; all_goals (with_reducible rfl)
          simp only [Act.put, List.setIfInBounds_toArray, List.set_cons_zero, List.set_cons_succ]
          refine wpAnyS_take 3 [] (v := ?v19) (listed' := #[true, true, true, true, false, false, false, false, false, false, false, false, false, false, false]) rfl (by kernel_rfl) (by kernel_rfl) rfl (fun _ _ _ h => h) hS (fun _ hSw => ?hy19) ?rest19
          case hy19 => (try dsimp only at hSw); go_simp; all_goals (with_reducible rfl)
          simp only [Act.put, List.setIfInBounds_toArray, List.set_cons_zero, List.set_cons_succ]
          refine wpAnyS_take 4 [] (v := ?v20) (listed' := #[true, true, true, true, true, false, false, false, false, false, false, false, false, false, false]) rfl (by kernel_rfl) (by kernel_rfl) rfl (fun _ _ _ h => h) hS (fun _ hSw => ?hy20) ?rest20
          case hy20 => (try dsimp only at hSw); go_simp; all_goals (with_reducible rfl)
          simp only [Act.put, List.setIfInBounds_toArray, List.set_cons_zero, List.set_cons_succ]
          refine wpAnyS_take 5 [] (v := ?v21) (listed' := #[true, true, true, true, true, true, false, false, false, false, false, false, false, false, false]) rfl (by kernel_rfl) (by kernel_rfl) rfl (fun _ _ _ h => h) hS (fun _ hSw => ?hy21) ?rest21
          case hy21 => (try dsimp only at hSw); go_simp; all_goals (with_reducible rfl)
          simp only [Act.put, List.setIfInBounds_toArray, List.set_cons_zero, List.set_cons_succ]
          refine wpAnyS_take 6 [] (v := ?v22) (listed' := #[true, true, true, true, true, true, true, false, false, false, false, false, false, false, false]) rfl (by kernel_rfl) (by kernel_rfl) rfl (fun _ _ _ h => h) hS (fun _ hSw => ?hy22) ?rest22
          case hy22 => (try dsimp only at hSw); go_simp; all_goals (with_reducible rfl)
          simp only [Act.put, List.setIfInBounds_toArray, List.set_cons_zero, List.set_cons_succ]
          refine wpAnyS_take 7 [] (v := ?v23) (listed' := #[true, true, true, true, true, true, true, true, false, false, false, false, false, false, false]) rfl (by kernel_rfl) (by kernel_rfl) rfl (fun _ _ _ h => h) hS (fun _ hSw => ?hy23) ?rest23
          case hy23 => (try dsimp only at hSw); go_simp; all_goals (with_reducible rfl)
          simp only [Act.put, List.setIfInBounds_toArray, List.set_cons_zero, List.set_cons_succ]
          refine wpAnyS_take 8 [] (v := ?v24) (listed' := #[true, true, true, true, true, true, true, true, true, false, false, false, false, false, false]) rfl (by kernel_rfl) (by kernel_rfl) rfl (fun _ _ _ h => h) hS (fun _ hSw => ?hy24) ?rest24
          case hy24 => (try dsimp only at hSw); go_simp; all_goals (with_reducible rfl)
          simp only [Act.put, List.setIfInBounds_toArray, List.set_cons_zero, List.set_cons_succ]
          refine wpAnyS_one 9 (listed' := #[true, true, true, true, true, true, true, true, true, true, false, false, false, false, false]) rfl (by kernel_rfl) (by kernel_rfl) (fun K hK => ?_)
          refine step_call (by rfl) 105 _ _ (by rfl) enters_below _ (by rfl) (HB2.out _ ((Kp.refl _ _).drew)) ?_
          rintro e w3 ⟨⟨v, rfl, rfl, h1⟩, k3⟩
          refine ⟨_, rfl, hK _ _ (fun o => ?_) (fun hS => ?_)⟩
          · exact (cells_of (k3.blk (a := wr.drew) HLo.out hq1)).1 o
          clear hK K
          refine wpAnyS_take 10 [] (v := ?v26) (listed' := #[true, true, true, true, true, true, true, true, true, true, true, false, false, false, false]) rfl (by kernel_rfl) (by kernel_rfl) rfl (fun _ _ _ h => h) hS (fun _ hSw => ?hy26) ?rest26
          case hy26 => (try dsimp only at hSw); go_simp; all_goals (with_reducible rfl)
          simp only [Act.put, List.setIfInBounds_toArray, List.set_cons_zero, List.set_cons_succ]
          refine wpAnyS_take 11 [] (v := ?v27) (listed' := #[true, true, true, true, true, true, true, true, true, true, true, true, false, false, false]) rfl (by kernel_rfl) (by kernel_rfl) rfl (fun _ _ _ h => h) hS (fun _ hSw => ?hy27) ?rest27
          case hy27 => (try dsimp only at hSw); go_simp; all_goals (with_reducible rfl)
          simp only [Act.put, List.setIfInBounds_toArray, List.set_cons_zero, List.set_cons_succ]
          refine wpAnyS_take 12 [] (v := ?v28) (listed' := #[true, true, true, true, true, true, true, true, true, true, true, true, true, false, false]) rfl (by kernel_rfl) (by kernel_rfl) rfl (fun _ _ _ h => h) hS (fun _ hSw => ?hy28) ?rest28
          case hy28 => (try dsimp only at hSw); go_simp; all_goals (with_reducible rfl)
          simp only [Act.put, List.setIfInBounds_toArray, List.set_cons_zero, List.set_cons_succ]
          refine wpAnyS_take 13 [] (v := ?v29) (listed' := #[true, true, true, true, true, true, true, true, true, true, true, true, true, true, false]) rfl (by kernel_rfl) (by kernel_rfl) rfl (fun _ _ _ h => h) hS (fun _ hSw => ?hy29) ?rest29
          case hy29 => (try dsimp only at hSw); go_simp; all_goals (with_reducible rfl)
          simp only [Act.put, List.setIfInBounds_toArray, List.set_cons_zero, List.set_cons_succ]
          refine wpAnyS_take 14 [] (v := ?v30) (listed' := #[true, true, true, true, true, true, true, true, true, true, true, true, true, true, true]) rfl (by kernel_rfl) (by kernel_rfl) rfl (fun _ _ _ h => h) hS (fun _ hSw => ?hy30) ?rest30
          case hy30 => (try dsimp only at hSw); go_simp; all_goals (with_reducible rfl)
          simp only [Act.put, List.setIfInBounds_toArray, List.set_cons_zero, List.set_cons_succ]
          refine wpAnyS_done (by kernel_rfl) ?_ _
          have h3 := HS.out.read (Kp.trans ((Kp.refl (one I.rb) wr).drew) k3) h1
          have HS3 := hide h3
          have HK3 := hide (HK.out.trans (HS.out.lowRd (Kp.trans ((Kp.refl (one I.rb) wr).drew) k3)))
          have hsz3 := h3.base
          have hkb3 := h3.kbLt
          obtain ⟨tv3, gv3, fv3, glv3, cv3, xs3, hlo3, hmo3, ⟨adf, capf, hfs⟩, hnm, hnk, hown3, hadd3⟩ := h3.addFunc
          obtain ⟨N, hN⟩ : ∃ N, N = (s.fns ++ l.map (fun t => (⟨t, 0, 0⟩ : FnM))).length := ⟨_, rfl⟩
          have hlen : N ≤ 200 := by rw [hN]; simp [HLk.out]; omega
          simp only [← hN] at hfs hown3 hadd3
          clear hN
          subst hfs
          obtain ⟨a, o, cap, ap, lp, cp, ar, lr, cr, rfl, ham, haf, haw, hcs, hadd⟩ := hadd3 p (by simpa using hp)
          have hpN : p < s.types.length := by simpa using hp
          obtain ⟨hcs0, hcs1⟩ := hcs w3 (Kp.refl no w3)
          have hc3 := (cells_of hlo3).1
          have hm3 := (cells_of hmo3).1 0
          have hmf3 := (cells_of hmo3).2 0
          have hmb3 := lt_of_blk hmo3
          have HOw := hide hown3
          have HAd := hide hadd
          have HLo3 := hide hlo3
          have HMo3 := hide hmo3
          have HC := hide hcs
          obtain ⟨S, hSd⟩ : ∃ S : World → Prop, S = fun w' => (∀ q, w'.cell? ⟨I.kb, q, none⟩ = #[ptrTo I.rb, .slice (some ⟨a, o, none⟩) s.types.length cap, gv3, ptrTo I.mb][q]?) ∧ w'.cell? ⟨I.mb, 0, none⟩ = some (.slice adf N capf) ∧ w'.frozen? ⟨I.mb, 0, none⟩ = false ∧ w'.cell? ⟨a, o + p * 2, none⟩ = some (.slice ap lp cp) ∧ w'.cell? ⟨a, o + p * 2 + 1, none⟩ = some (.slice ar lr cr) := ⟨_, rfl⟩
          have hSk : ∀ W, Kp (fun b => some b = (Value.slice adf N capf).ownBlock) w3 W → S W := fun W k => by
            rw [hSd]; exact ⟨(cells_of (k.blk hlo3 hnk)).1, (cells_of (k.blk hmo3 hnm)).1 0, (cells_of (k.blk hmo3 hnm)).2 0, k.cell hcs0 haf, k.cell hcs1 haf⟩
          have HSk := hide hSk
          have HSd := hide hSd
          clear h1 k3 hc hf h3 hlo3 hmo3 hown3 hadd hcs hadd3 hS hSk hSd hc3 hm3 hmf3 hcs0 hcs1
          go_wp2_with fail
          refine wp_region_S 23 (S) (by kernel_rfl) (n := 24) (listed := #[false, false, false, false, false, false, false, false, false, false, false, false, false, false, false, false, false, false, false, false, false, false, false, false]) rfl (by kernel_rfl) ?hS (fun hS => ?_)
          case hS => exact HSk.out _ ((Kp.refl _ _).drew)
          have hSd := HSd.out
          subst hSd
          refine wpAnyS_take 0 [] (v := ?v31) (listed' := #[true, false, false, false, false, false, false, false, false, false, false, false, false, false, false, false, false, false, false, false, false, false, false, false]) rfl (by kernel_rfl) (by kernel_rfl) rfl (fun _ _ _ h => h) hS (fun _ hSw => ?hy31) ?rest31
          case hy31 => (try dsimp only at hSw); go_simp; all_goals (with_reducible rfl)
          simp only [Act.put, List.setIfInBounds_toArray, List.set_cons_zero, List.set_cons_succ]
          refine wpAnyS_take 1 [] (v := ?v32) (listed' := #[true, true, false, false, false, false, false, false, false, false, false, false, false, false, false, false, false, false, false, false, false, false, false, false]) rfl (by kernel_rfl) (by kernel_rfl) rfl (fun _ _ _ h => h) hS (fun _ hSw => ?hy32) ?rest32
          case hy32 => (try dsimp only at hSw); go_simp; all_goals (with_reducible rfl)
          simp only [Act.put, List.setIfInBounds_toArray, List.set_cons_zero, List.set_cons_succ]
          refine wpAnyS_take 2 [] (v := ?v33) (listed' := #[true, true, true, false, false, false, false, false, false, false, false, false, false, false, false, false, false, false, false, false, false, false, false, false]) rfl (by kernel_rfl) (by kernel_rfl) rfl (fun _ _ _ h => h) hS (fun _ hSw => ?hy33) ?rest33
          case hy33 => (try dsimp only at hSw); go_simp; all_goals (with_reducible rfl)
          simp only [Act.put, List.setIfInBounds_toArray, List.set_cons_zero, List.set_cons_succ]
          refine wpAnyS_take 3 [] (v := ?v34) (listed' := #[true, true, true, true, false, false, false, false, false, false, false, false, false, false, false, false, false, false, false, false, false, false, false, false]) rfl (by kernel_rfl) (by kernel_rfl) rfl (fun _ _ _ h => h) hS (fun _ hSw => ?hy34) ?rest34
          case hy34 => (try dsimp only at hSw); go_simp; all_goals (with_reducible rfl)
          simp only [Act.put, List.setIfInBounds_toArray, List.set_cons_zero, List.set_cons_succ]
          refine wpAnyS_take 4 [] (v := ?v35) (listed' := #[true, true, true, true, true, false, false, false, false, false, false, false, false, false, false, false, false, false, false, false, false, false, false, false]) rfl (by kernel_rfl) (by kernel_rfl) rfl (fun _ _ _ h => h) hS (fun _ hSw => ?hy35) ?rest35
          case hy35 => (try dsimp only at hSw); go_simp; all_goals (with_reducible rfl)
          simp only [Act.put, List.setIfInBounds_toArray, List.set_cons_zero, List.set_cons_succ]
          refine wpAnyS_take 5 [] (v := ?v36) (listed' := #[true, true, true, true, true, true, false, false, false, false, false, false, false, false, false, false, false, false, false, false, false, false, false, false]) rfl (by kernel_rfl) (by kernel_rfl) rfl (fun _ _ _ h => h) hS (fun _ hSw => ?hy36) ?rest36
          case hy36 => (try dsimp only at hSw); go_simp; all_goals (with_reducible rfl)
          simp only [Act.put, List.setIfInBounds_toArray, List.set_cons_zero, List.set_cons_succ]
          refine wpAnyS_take 6 [] (v := ?v37) (listed' := #[true, true, true, true, true, true, true, false, false, false, false, false, false, false, false, false, false, false, false, false, false, false, false, false]) rfl (by kernel_rfl) (by kernel_rfl) rfl (fun _ _ _ h => h) hS (fun _ hSw => ?hy37) ?rest37
          case hy37 => (try dsimp only at hSw); go_simp; all_goals (with_reducible rfl)
          simp only [Act.put, List.setIfInBounds_toArray, List.set_cons_zero, List.set_cons_succ]
          refine wpAnyS_take 7 [] (v := ?v38) (listed' := #[true, true, true, true, true, true, true, true, false, false, false, false, false, false, false, false, false, false, false, false, false, false, false, false]) rfl (by kernel_rfl) (by kernel_rfl) rfl (fun _ _ _ h => h) hS (fun _ hSw => ?hy38) ?rest38
          case hy38 => (try dsimp only at hSw); go_simp; all_goals (with_reducible rfl)
          simp only [Act.put, List.setIfInBounds_toArray, List.set_cons_zero, List.set_cons_succ]
          refine wpAnyS_take 8 [] (v := ?v39) (listed' := #[true, true, true, true, true, true, true, true, true, false, false, false, false, false, false, false, false, false, false, false, false, false, false, false]) rfl (by kernel_rfl) (by kernel_rfl) rfl (fun _ _ _ h => h) hS (fun _ hSw => ?hy39) ?rest39
          case hy39 => (try dsimp only at hSw); go_simp; all_goals (with_reducible rfl)
          simp only [Act.put, List.setIfInBounds_toArray, List.set_cons_zero, List.set_cons_succ]
          refine wpAnyS_take 9 [] (v := ?v40) (listed' := #[true, true, true, true, true, true, true, true, true, true, false, false, false, false, false, false, false, false, false, false, false, false, false, false]) rfl (by kernel_rfl) (by kernel_rfl) rfl (fun _ _ _ h => h) hS (fun _ hSw => ?hy40) ?rest40
          case hy40 => (try dsimp only at hSw); go_simp; all_goals (with_reducible rfl)
          simp only [Act.put, List.setIfInBounds_toArray, List.set_cons_zero, List.set_cons_succ]
          refine wpAnyS_take 10 [] (v := ?v41) (listed' := #[true, true, true, true, true, true, true, true, true, true, true, false, false, false, false, false, false, false, false, false, false, false, false, false]) rfl (by kernel_rfl) (by kernel_rfl) rfl (fun _ _ _ h => h) hS (fun _ hSw => ?hy41) ?rest41
          case hy41 => (try dsimp only at hSw); go_simp; all_goals (with_reducible rfl)
          simp only [Act.put, List.setIfInBounds_toArray, List.set_cons_zero, List.set_cons_succ]
          refine wpAnyS_take 11 [] (v := ?v42) (listed' := #[true, true, true, true, true, true, true, true, true, true, true, true, false, false, false, false, false, false, false, false, false, false, false, false]) rfl (by kernel_rfl) (by kernel_rfl) rfl (fun _ _ _ h => h) hS (fun _ hSw => ?hy42) ?rest42
          case hy42 => (try dsimp only at hSw); go_simp; all_goals (with_reducible rfl)
          simp only [Act.put, List.setIfInBounds_toArray, List.set_cons_zero, List.set_cons_succ]
          refine wpAnyS_take 12 [] (v := ?v43) (listed' := #[true, true, true, true, true, true, true, true, true, true, true, true, true, false, false, false, false, false, false, false, false, false, false, false]) rfl (by kernel_rfl) (by kernel_rfl) rfl (fun _ _ _ h => h) hS (fun _ hSw => ?hy43) ?rest43
          case hy43 => (try dsimp only at hSw); go_simp; all_goals (with_reducible rfl)
          simp only [Act.put, List.setIfInBounds_toArray, List.set_cons_zero, List.set_cons_succ]
          refine wpAnyS_take 13 [] (v := ?v44) (listed' := #[true, true, true, true, true, true, true, true, true, true, true, true, true, true, false, false, false, false, false, false, false, false, false, false]) rfl (by kernel_rfl) (by kernel_rfl) rfl (fun _ _ _ h => h) hS (fun _ hSw => ?hy44) ?rest44
          case hy44 => (try dsimp only at hSw); go_simp; all_goals (with_reducible rfl)
          simp only [Act.put, List.setIfInBounds_toArray, List.set_cons_zero, List.set_cons_succ]
          refine wpAnyS_take 14 [] (v := ?v45) (listed' := #[true, true, true, true, true, true, true, true, true, true, true, true, true, true, true, false, false, false, false, false, false, false, false, false]) rfl (by kernel_rfl) (by kernel_rfl) rfl (fun _ _ _ h => h) hS (fun _ hSw => ?hy45) ?rest45
          case hy45 => (try dsimp only at hSw); go_simp; all_goals (with_reducible rfl)
          simp only [Act.put, List.setIfInBounds_toArray, List.set_cons_zero, List.set_cons_succ]
          refine wpAnyS_take 15 [] (v := ?v46) (listed' := #[true, true, true, true, true, true, true, true, true, true, true, true, true, true, true, true, false, false, false, false, false, false, false, false]) rfl (by kernel_rfl) (by kernel_rfl) rfl (fun _ _ _ h => h) hS (fun _ hSw => ?hy46) ?rest46
          case hy46 => (try dsimp only at hSw); go_simp; all_goals (with_reducible rfl)
          simp only [Act.put, List.setIfInBounds_toArray, List.set_cons_zero, List.set_cons_succ]
          refine wpAnyS_take 16 [] (v := ?v47) (listed' := #[true, true, true, true, true, true, true, true, true, true, true, true, true, true, true, true, true, false, false, false, false, false, false, false]) rfl (by kernel_rfl) (by kernel_rfl) rfl (fun _ _ _ h => h) hS (fun _ hSw => ?hy47) ?rest47
          case hy47 => (try dsimp only at hSw); go_simp; all_goals (with_reducible rfl)
          simp only [Act.put, List.setIfInBounds_toArray, List.set_cons_zero, List.set_cons_succ]
          refine wpAnyS_take 17 [] (v := ?v48) (listed' := #[true, true, true, true, true, true, true, true, true, true, true, true, true, true, true, true, true, true, false, false, false, false, false, false]) rfl (by kernel_rfl) (by kernel_rfl) rfl (fun _ _ _ h => h) hS (fun _ hSw => ?hy48) ?rest48
          case hy48 => (try dsimp only at hSw); go_simp; all_goals (with_reducible rfl)
          simp only [Act.put, List.setIfInBounds_toArray, List.set_cons_zero, List.set_cons_succ]
          refine wpAnyS_take 18 [] (v := ?v49) (listed' := #[true, true, true, true, true, true, true, true, true, true, true, true, true, true, true, true, true, true, true, false, false, false, false, false]) rfl (by kernel_rfl) (by kernel_rfl) rfl (fun _ _ _ h => h) hS (fun _ hSw => ?hy49) ?rest49
          case hy49 => (try dsimp only at hSw); go_simp; all_goals (with_reducible rfl)
          simp only [Act.put, List.setIfInBounds_toArray, List.set_cons_zero, List.set_cons_succ]
          refine wpAnyS_one 19 (listed' := #[true, true, true, true, true, true, true, true, true, true, true, true, true, true, true, true, true, true, true, true, false, false, false, false]) rfl (by kernel_rfl) (by kernel_rfl) (fun K hK => ?_)
          go_simp
          refine hK _ _ (HSk.out _ (((Kp.refl _ _).drew).alloc _)) (fun hS => ?_)
          clear hK K
          refine wpAnyS_one 20 (listed' := #[true, true, true, true, true, true, true, true, true, true, true, true, true, true, true, true, true, true, true, true, true, false, false, false]) rfl (by kernel_rfl) (by kernel_rfl) (fun K hK => ?_)
          refine step_append_at _ (by rfl) _ _ _ (by rfl) I.B 140 i0 _ 4 64 Tryz.underlying118 hi0 hz0 hz1 hz2 rfl (by omega) _ N _ (by rfl) (HOw.out _ (((Kp.refl _ _).drew).alloc _)) (.slice (some ⟨w3.heap.size, 0, none⟩) 1 1) 1 [.slice ap lp cp, .slice ar lr cr, .int .i64 0, .int .i64 0] (by rfl) (RowAt.allocAt rfl #[.slice ap lp cp, .slice ar lr cr, .int .i64 0, .int .i64 0] _ 1 4 rfl) (by simp [Value.oneCell']) (by simp only [maxLen]; omega) (by omega) (by simp; omega) ?_
          intro v1 w5 hown1 hgrow hat
          refine hK _ _ (HSk.out _ ((((Kp.refl _ _).drew).alloc _).grown hgrow (fun k e => .inl e.symm))) (fun hS => ?_)
          clear hK K
          obtain ⟨ad1, cap1, rfl⟩ := own_shape hown1
          refine wpAnyS_take 21 [22] (v := ?v52) (listed' := #[true, true, true, true, true, true, true, true, true, true, true, true, true, true, true, true, true, true, true, true, true, true, false, false]) rfl (by kernel_rfl) (by kernel_rfl) rfl (fun _ _ _ h => h) hS (fun _ hSw => ?hy52) ?rest52
          case hy52 => (try dsimp only at hSw); go_simp; all_goals (with_reducible rfl)
          simp only [Act.put, List.setIfInBounds_toArray, List.set_cons_zero, List.set_cons_succ]
          refine wpAnyS_take 22 [] (v := ?v53) (listed' := #[true, true, true, true, true, true, true, true, true, true, true, true, true, true, true, true, true, true, true, true, true, true, true, false]) rfl (by kernel_rfl) (by kernel_rfl) rfl (fun _ _ _ h => h) hS (fun _ hSw => ?hy53) ?rest53
          case hy53 => (try dsimp only at hSw); go_simp; all_goals (with_reducible rfl)
          simp only [Act.put, List.setIfInBounds_toArray, List.set_cons_zero, List.set_cons_succ]
          refine wpAnyS_end 23 (listed' := #[true, true, true, true, true, true, true, true, true, true, true, true, true, true, true, true, true, true, true, true, true, true, true, true]) rfl (by kernel_rfl) (by kernel_rfl) (by kernel_rfl) (fun K hK => ?_)
          go_simp
          refine hK _ _ ?_
          clear hK K
          refine wpAnyS_done (by kernel_rfl) ?_ _
          obtain ⟨h8, k8⟩ := HAd.out _ _ _ _ _ (((Kp.refl no w3).drew).alloc _) rfl rfl hown1 hgrow hat
          have HK8 := hide (HK3.out.trans k8)
          have H8 := hide h8
          clear h8 k8 hown1 hgrow hat hS HSk
          go_wp2
          go_roundw
          case rel => exact ⟨k + 1, j2, l ++ [s.types.getD p ([], [])], by omega, by go_num, by simp [HLk.out], by simpa using H8.out, HK8.out, by rw [HL.out, show n - (k + 1) = n - k - 1 by omega]⟩
          case measure => simp [intOf]; omega
      · obtain rfl : k = n := by omega
        rw [Nat.sub_self] at hL
        have HL := hide hL
        clear hL
        go_wp2
        go_ret
        rw [HM.out]
        show LDone _ _ _ (match manyM (fnOne I.D s.types) k j with | .error e => .error e | .ok (l, k) => .ok { s with fns := s.fns ++ l.map (fun t => ⟨t, 0, 0⟩), i := k }) _ ∧ _
        rw [HL.out, manyM, preR, List.append_nil]
        exact ⟨⟨rfl, HS.out⟩, HK.out⟩
end

end Go.Proofs.YtdeplgkhmebalaaGreatDoor

namespace Go.Proofs.YtdeplgkhmebalaaGreatDoor
open Go.RowKit
section
variable {I : LIds} {w : World} {s : Lkr}

theorem LSt.addGlob (h : LSt I w s) : ∃ tv gv xs, w.heap[I.kb]? = some (.cells #[ptrTo I.rb, tv, gv, ptrTo I.mb] 182) ∧ (∃ ad cap, gv = .slice ad s.gl.length cap) ∧ some I.kb ≠ gv.ownBlock ∧ (∀ W, Kp no w W → W.ownsRow I.B 256 2 gv s.gl.length xs) ∧
    ∀ W w5 v1 m ys x, Kp no w W → m = s.gl.length + 1 → ys = xs ++ glCells x → w5.ownsRow I.B 256 2 v1 m ys → W.grownBy w5 gv.ownBlock → (v1.ownBlock = gv.ownBlock ∨ v1.ownBlock = some W.heap.size) →
      LSt I (w5.setCell ⟨I.kb, 2, none⟩ v1) { s with gl := s.gl ++ [x] } ∧ Kp (upl I) w (w5.setCell ⟨I.kb, 2, none⟩ v1) := by
  obtain ⟨role, tv, gv, fv, glv, cv, tys, fs, h⟩ := h
  refine ⟨tv, gv, s.gl.flatMap glCells, h.look, own_shape h.globs, fun e => ?_, fun W k => k.own h.globs (fun _ _ h => h), fun W w5 v1 m ys x kW b1 b2 b3 b4 b5 => addGlob_end h kW x b1 b2 b3 b4 b5⟩
  have := h.r5 _ e.symm; rw [h.r3] at this; cases this
theorem LSt.addVal (h : LSt I w s) : ∃ tv gv fv glv cv xs, w.heap[I.kb]? = some (.cells #[ptrTo I.rb, tv, gv, ptrTo I.mb] 182) ∧ w.heap[I.mb]? = some (.cells #[fv, glv, .int .i64 s.pages, cv] 121) ∧ (∃ ad cap, glv = .slice ad s.vals.length cap) ∧ some I.mb ≠ glv.ownBlock ∧ some I.kb ≠ glv.ownBlock ∧ (∀ W, Kp no w W → W.ownsRow I.B 38 1 glv s.vals.length xs) ∧
    ∀ W w5 v1 m ys (x : Nat), Kp no w W → m = s.vals.length + 1 → ys = xs ++ [.int .u64 (x : Nat)] → w5.ownsRow I.B 38 1 v1 m ys → W.grownBy w5 glv.ownBlock → (v1.ownBlock = glv.ownBlock ∨ v1.ownBlock = some W.heap.size) →
      LSt I (w5.setCell ⟨I.mb, 1, none⟩ v1) { s with vals := s.vals ++ [x] } ∧ Kp (upl I) w (w5.setCell ⟨I.mb, 1, none⟩ v1) := by
  obtain ⟨role, tv, gv, fv, glv, cv, tys, fs, h⟩ := h
  refine ⟨tv, gv, fv, glv, cv, _, h.look, h.mod, own_shape h.vals, fun e => ?_, fun e => ?_, fun W k => k.own h.vals (fun _ _ h => h), fun W w5 v1 m ys x kW b1 b2 b3 b4 b5 => addVal_end h kW x b1 b2 b3 b4 b5⟩
  · have := h.r7 _ e.symm; rw [h.r2] at this; cases this
  · have := h.r7 _ e.symm; rw [h.r3] at this; cases this

theorem oneOf_mem {D al : List UInt8} {i j : Nat} {c : UInt8} (h : oneOfM D al i = .ok (c, j)) : c ∈ al := by
  unfold oneOfM at h
  split at h
  · cases h
  · split at h
    · cases h; assumption
    · cases h
theorem readValue_t {rb : Nat} {dv : Value} {D : List UInt8} {i : Nat} (h : RSt w rb dv D i) {t : UInt8} (ht : t ∈ [127, 126]) :
    Calls Tryz.prog 140 #[ptrTo rb, .int .u8 t.toNat] w fun r w' => Gives w w' rb dv D (fun (n : Nat) v => v = .int .u64 n) (.int .u64 0) (valueAtM D t i) r ∧ Kp (one rb) w w' := by
  simp only [List.mem_cons, List.not_mem_nil, or_false] at ht
  rcases ht with rfl | rfl
  · exact readValue32 h
  · exact readValue64 h

def globL (I : LIds) (s : Lkr) : Except (Int × Int) Lkr :=
  match globM I.D s.i with
  | .error e => .error e
  | .ok ((x, v), m) => .ok { s with gl := s.gl ++ [x], vals := s.vals ++ [v], i := m }

theorem globM_eq (D : List UInt8) (i : Nat) : globM D i = (match oneOfM D [127, 126] i with
  | .error e => .error e
  | .ok (t, j) => match oneOfM D [0, 1] j with
    | .error e => .error e
    | .ok (f, k) => match valueAtM D t k with
      | .error e => .error e
      | .ok (v, m) => .ok (((t, f == 1), v), m)) := rfl
theorem flag_eq (f : UInt8) : ((f.toNat : Int) == 1) = (f == 1) := by
  rw [Bool.eq_iff_iff]
  simp only [beq_iff_eq]
  constructor
  · intro h; exact UInt8.toNat_inj.1 (by show f.toNat = 1; omega)
  · rintro rfl; rfl

set_option maxRecDepth 100000 in
set_option maxHeartbeats 6000000 in
theorem readGlobal_any (h : LSt I w s) (hgl : s.gl.length ≤ 100) (hvl : s.vals.length ≤ 100) : Calls Tryz.prog 107 #[ptrTo I.kb] w fun r w' => LDone I w w' (globL I s) r ∧ Kp (upl I) w w' := by
  have hM : globL I s = (match (match oneOfM I.D [127, 126] s.i with
    | .error e => .error e
    | .ok (t, j) => match oneOfM I.D [0, 1] j with
      | .error e => .error e
      | .ok (f, k) => match valueAtM I.D t k with
        | .error e => .error e
        | .ok (v, m) => .ok (((t, f == 1), v), m) : Rd ((UInt8 × Bool) × Nat)) with
    | .error e => .error e
    | .ok ((x, v), m) => .ok { s with gl := s.gl ++ [x], vals := s.vals ++ [v], i := m }) := rfl
  generalize globL I s = R at *
  obtain ⟨i0, hi0, hz0, hz1, hz2⟩ := info_parts info_global
  obtain ⟨i1, hi1, hy0, hy1, hy2⟩ := info_parts info_u64
  obtain ⟨tv, gv, hlo, hn1, hn2, hn3, -, -⟩ := h.lookAt
  obtain ⟨hc, hf⟩ := cells_of hlo
  have h1o := oneOf_any h.rd ⟨#[127, 126]⟩ [127, 126] rfl
  have hm1 := fun c j => oneOf_mem (D := I.D) (al := [127, 126]) (i := s.i) (c := c) (j := j)
  generalize oneOfM I.D [127, 126] s.i = Q1 at *
  have H := hide h
  have HB := hide h1o
  have HM := hide hM
  clear h hlo h1o hM
  match Q1, HM, HB, hm1 with
  | .error e, HM, HB, _ =>
    go_enter Tryz.func107, Tryz.ntmps107
    go_wp2_with fail
    refine HB.out.mono ?_
    rintro r w1 ⟨⟨fv, j, rfl, ⟨fb, rfl, hfb, hfo⟩, h1⟩, k1⟩
    have HF := hide hfo
    clear hfo h1
    go_wp2
    go_ret
    rw [HM.out]
    exact ⟨⟨ptrTo fb, rfl, fb, rfl, hfb, HF.out⟩, H.out.lowRd k1⟩
  | .ok (t, j1), HM, HB, hm1 =>
    have ht := hide (hm1 t j1 rfl)
    clear hm1
    go_enter Tryz.func107, Tryz.ntmps107
    go_wp2_with fail
    refine HB.out.mono ?_
    rintro r w1 ⟨⟨v, rfl, rfl, h1⟩, k1⟩
    have h2 := H.out.read k1 h1
    have H2 := hide h2
    have HK1 := hide (H.out.lowRd k1)
    have hs1 := k1.size
    clear h1 k1 hc hf
    obtain ⟨tv1, gv1, hlo1, -, -, -, -, -⟩ := h2.lookAt
    obtain ⟨hc, hf⟩ := cells_of hlo1
    have h2o := oneOf_any h2.rd ⟨#[0, 1]⟩ [0, 1] rfl
    have hM := HM.out
    simp only at h2o hM
    generalize oneOfM I.D [0, 1] j1 = Q2 at *
    have HB2 := hide h2o
    have HM := hide hM
    clear h2 hlo1 h2o hM
    match Q2, HM, HB2 with
    | .error e, HM, HB2 =>
      go_wp2_with fail
      refine HB2.out.mono ?_
      rintro r w2 ⟨⟨fv, j, rfl, ⟨fb, rfl, hfb, hfo⟩, h1⟩, k1⟩
      have HF := hide hfo
      have hfb' : w.heap.size ≤ fb := Nat.le_trans hs1 hfb
      clear hfo h1
      go_wp2
      go_ret
      rw [HM.out]
      exact ⟨⟨ptrTo fb, rfl, fb, rfl, hfb', HF.out⟩, HK1.out.trans (H2.out.lowRd k1)⟩
    | .ok (f, j2), HM, HB2 =>
      go_wp2_with fail
      refine HB2.out.mono ?_
      rintro r w2 ⟨⟨v, rfl, rfl, h1⟩, k1⟩
      have h3 := H2.out.read k1 h1
      have H3 := hide h3
      have HK2 := hide (HK1.out.trans (H2.out.lowRd k1))
      have hs2 := Nat.le_trans hs1 k1.size
      clear h1 k1 hc hf
      obtain ⟨tv2, gv2, hlo2, -, -, -, -, -⟩ := h3.lookAt
      obtain ⟨hc, hf⟩ := cells_of hlo2
      have h3o := readValue_t h3.rd ht.out
      have hM := HM.out
      simp only at h3o hM
      generalize valueAtM I.D t j2 = Q3 at *
      have HB3 := hide h3o
      have HM := hide hM
      clear h3 hlo2 h3o hM
      match Q3, HM, HB3 with
      | .error e, HM, HB3 =>
        go_wp2_with fail
        refine HB3.out.mono ?_
        rintro r w3 ⟨⟨fv, j, rfl, ⟨fb, rfl, hfb, hfo⟩, h1⟩, k1⟩
        have HF := hide hfo
        have hfb' : w.heap.size ≤ fb := Nat.le_trans hs2 hfb
        clear hfo h1
        go_wp2
        go_ret
        rw [HM.out]
        exact ⟨⟨ptrTo fb, rfl, fb, rfl, hfb', HF.out⟩, HK2.out.trans (H3.out.lowRd k1)⟩
      | .ok (x, j3), HM, HB3 =>
        go_wp2_with fail
        refine HB3.out.mono ?_
        rintro r w3 ⟨⟨v, rfl, rfl, h1⟩, k1⟩
        have h4 := H3.out.read k1 h1
        have HK3 := hide (HK2.out.trans (H3.out.lowRd k1))
        have hs3 := Nat.le_trans hs2 k1.size
        clear h1 k1 hc hf
        obtain ⟨tv4, gv4, xs4, hlo4, ⟨adg, capg, rfl⟩, hnk, hown4, hadd4⟩ := h4.addGlob
        obtain ⟨S, hSd⟩ : ∃ S : World → Prop, S = fun w' => ∀ q, w'.cell? ⟨I.kb, q, none⟩ = #[ptrTo I.rb, tv4, .slice adg s.gl.length capg, ptrTo I.mb][q]? := ⟨_, rfl⟩
        have hSk : ∀ W, Kp (fun b => some b = (Value.slice adg s.gl.length capg).ownBlock) w3 W → S W := fun W k => by
          rw [hSd]; exact (cells_of (k.blk hlo4 hnk)).1
        have hkf : ∀ W, Kp (fun b => some b = (Value.slice adg s.gl.length capg).ownBlock) w3 W → W.frozen? ⟨I.kb, 2, none⟩ = false := fun W k => (cells_of (k.blk hlo4 hnk)).2 2
        have hB4 := h4.base
        have HSk := hide hSk
        have HSd := hide hSd
        have HKf := hide hkf
        have HOw := hide hown4
        have HAd := hide hadd4
        clear h4 hlo4 hown4 hadd4 hSk hSd hkf
        go_wp2_with fail
        refine wp_region_S 14 (S) (by kernel_rfl) (n := 15) (listed := #[false, false, false, false, false, false, false, false, false, false, false, false, false, false, false]) rfl (by kernel_rfl) ?hS (fun hS => ?_)
        case hS => exact HSk.out _ ((Kp.refl _ _).drew)
        have hSd := HSd.out
        subst hSd
        refine wpAnyS_take 0 [] (v := ?v1) (listed' := #[true, false, false, false, false, false, false, false, false, false, false, false, false, false, false]) rfl (by kernel_rfl) (by kernel_rfl) rfl (fun _ _ _ h => h) hS (fun _ hSw => ?hy1) ?rest1
        case hy1 => (try dsimp only at hSw); go_simp; all_goals (with_reducible rfl)
        simp only [Act.put, List.setIfInBounds_toArray, List.set_cons_zero, List.set_cons_succ]
        refine wpAnyS_take 1 [] (v := ?v2) (listed' := #[true, true, false, false, false, false, false, false, false, false, false, false, false, false, false]) rfl (by kernel_rfl) (by kernel_rfl) rfl (fun _ _ _ h => h) hS (fun _ hSw => ?hy2) ?rest2
        case hy2 => (try dsimp only at hSw); go_simp; all_goals (with_reducible rfl)
        simp only [Act.put, List.setIfInBounds_toArray, List.set_cons_zero, List.set_cons_succ]
        refine wpAnyS_take 2 [] (v := ?v3) (listed' := #[true, true, true, false, false, false, false, false, false, false, false, false, false, false, false]) rfl (by kernel_rfl) (by kernel_rfl) rfl (fun _ _ _ h => h) hS (fun _ hSw => ?hy3) ?rest3
        case hy3 => (try dsimp only at hSw); go_simp; all_goals (with_reducible rfl)
        simp only [Act.put, List.setIfInBounds_toArray, List.set_cons_zero, List.set_cons_succ]
        refine wpAnyS_take 3 [] (v := ?v4) (listed' := #[true, true, true, true, false, false, false, false, false, false, false, false, false, false, false]) rfl (by kernel_rfl) (by kernel_rfl) rfl (fun _ _ _ h => h) hS (fun _ hSw => ?hy4) ?rest4
        case hy4 => (try dsimp only at hSw); go_simp; all_goals (with_reducible rfl)
        simp only [Act.put, List.setIfInBounds_toArray, List.set_cons_zero, List.set_cons_succ]
        refine wpAnyS_take 4 [] (v := ?v5) (listed' := #[true, true, true, true, true, false, false, false, false, false, false, false, false, false, false]) rfl (by kernel_rfl) (by kernel_rfl) rfl (fun _ _ _ h => h) hS (fun _ hSw => ?hy5) ?rest5
        case hy5 => (try dsimp only at hSw); go_simp; all_goals (with_reducible rfl)
        simp only [Act.put, List.setIfInBounds_toArray, List.set_cons_zero, List.set_cons_succ]
        refine wpAnyS_take 5 [] (v := ?v6) (listed' := #[true, true, true, true, true, true, false, false, false, false, false, false, false, false, false]) rfl (by kernel_rfl) (by kernel_rfl) rfl (fun _ _ _ h => h) hS (fun _ hSw => ?hy6) ?rest6
        case hy6 => (try dsimp only at hSw); go_simp; all_goals (with_reducible rfl)
        simp only [Act.put, List.setIfInBounds_toArray, List.set_cons_zero, List.set_cons_succ]
        refine wpAnyS_take 6 [] (v := ?v7) (listed' := #[true, true, true, true, true, true, true, false, false, false, false, false, false, false, false]) rfl (by kernel_rfl) (by kernel_rfl) rfl (fun _ _ _ h => h) hS (fun _ hSw => ?hy7) ?rest7
        case hy7 => (try dsimp only at hSw); go_simp; all_goals (with_reducible rfl)
        simp only [Act.put, List.setIfInBounds_toArray, List.set_cons_zero, List.set_cons_succ]
        refine wpAnyS_take 7 [] (v := ?v8) (listed' := #[true, true, true, true, true, true, true, true, false, false, false, false, false, false, false]) rfl (by kernel_rfl) (by kernel_rfl) rfl (fun _ _ _ h => h) hS (fun _ hSw => ?hy8) ?rest8
        case hy8 => (try dsimp only at hSw); go_simp; all_goals (with_reducible rfl)
        simp only [Act.put, List.setIfInBounds_toArray, List.set_cons_zero, List.set_cons_succ]
        refine wpAnyS_take 8 [] (v := ?v9) (listed' := #[true, true, true, true, true, true, true, true, true, false, false, false, false, false, false]) rfl (by kernel_rfl) (by kernel_rfl) rfl (fun _ _ _ h => h) hS (fun _ hSw => ?hy9) ?rest9
        case hy9 => (try dsimp only at hSw); go_simp; all_goals (with_reducible rfl)
        simp only [Act.put, List.setIfInBounds_toArray, List.set_cons_zero, List.set_cons_succ]
        refine wpAnyS_take 9 [] (v := ?v10) (listed' := #[true, true, true, true, true, true, true, true, true, true, false, false, false, false, false]) rfl (by kernel_rfl) (by kernel_rfl) rfl (fun _ _ _ h => h) hS (fun _ hSw => ?hy10) ?rest10
        case hy10 => (try dsimp only at hSw); go_simp; all_goals (with_reducible rfl)
        simp only [Act.put, List.setIfInBounds_toArray, List.set_cons_zero, List.set_cons_succ]
        refine wpAnyS_one 10 (listed' := #[true, true, true, true, true, true, true, true, true, true, true, false, false, false, false]) rfl (by kernel_rfl) (by kernel_rfl) (fun K hK => ?_)
        go_simp
        refine hK _ _ (HSk.out _ (((Kp.refl _ _).drew).alloc _)) (fun hS => ?_)
        clear hK K
        refine wpAnyS_one 11 (listed' := #[true, true, true, true, true, true, true, true, true, true, true, true, false, false, false]) rfl (by kernel_rfl) (by kernel_rfl) (fun K hK => ?_)
        refine step_append_at _ (by rfl) _ _ _ (by rfl) I.B 256 i0 _ 2 2 Tryz.underlying180 hi0 hz0 hz1 hz2 rfl (by omega) _ s.gl.length _ (by rfl) (HOw.out _ (((Kp.refl _ _).drew).alloc _)) (.slice (some ⟨w3.heap.size, 0, none⟩) 1 1) 1 [.int .u8 t.toNat, .bool ((f.toNat : Int) == 1)] (by rfl) (RowAt.allocAt rfl #[.int .u8 t.toNat, .bool ((f.toNat : Int) == 1)] _ 1 2 rfl) (by simp [Value.oneCell']) (by simp only [maxLen]; omega) (by omega) (by simp; omega) ?_
        intro v1 w5 hown1 hgrow hat
        have k5 : Kp (fun b => some b = (Value.slice adg s.gl.length capg).ownBlock) w3 w5 := (((Kp.refl _ _).drew).alloc _).grown hgrow (fun k e => .inl e.symm)
        have hkf := HKf.out _ k5
        refine hK _ _ (HSk.out _ k5) (fun hS => ?_)
        clear hK K k5
        obtain ⟨ad1, cap1, rfl⟩ := own_shape hown1
        refine wpAnyS_take 12 [13] (v := ?v13) (listed' := #[true, true, true, true, true, true, true, true, true, true, true, true, true, false, false]) rfl (by kernel_rfl) (by kernel_rfl) rfl (fun _ _ _ h => h) hS (fun _ hSw => ?hy13) ?rest13
        case hy13 => (try dsimp only at hSw); go_simp; all_goals (with_reducible rfl)
        simp only [Act.put, List.setIfInBounds_toArray, List.set_cons_zero, List.set_cons_succ]
        refine wpAnyS_take 13 [] (v := ?v14) (listed' := #[true, true, true, true, true, true, true, true, true, true, true, true, true, true, false]) rfl (by kernel_rfl) (by kernel_rfl) rfl (fun _ _ _ h => h) hS (fun _ hSw => ?hy14) ?rest14
        case hy14 => (try dsimp only at hSw); go_simp; all_goals (with_reducible rfl)
        simp only [Act.put, List.setIfInBounds_toArray, List.set_cons_zero, List.set_cons_succ]
        refine wpAnyS_end 14 (listed' := #[true, true, true, true, true, true, true, true, true, true, true, true, true, true, true]) rfl (by kernel_rfl) (by kernel_rfl) (by kernel_rfl) (fun K hK => ?_)
        go_simp
        refine hK _ _ ?_
        clear hK K
        refine wpAnyS_done (by kernel_rfl) ?_ _
        obtain ⟨h8, k8⟩ := HAd.out _ _ _ _ _ (t, f == 1) (((Kp.refl no w3).drew).alloc _) rfl (by rw [flag_eq]; rfl) hown1 hgrow hat
        generalize World.setCell w5 ⟨I.kb, 2, none⟩ (.slice ad1 (s.gl.length + 1) cap1) = w6 at *
        have HK8 := hide (HK3.out.trans k8)
        clear k8 hown1 hgrow hat hS HSk HAd HSd HKf HOw hkf
        obtain ⟨tv5, gv5, fv5, glv5, cv5, xs5, hlo5, hmo5, ⟨adg5, capg5, rfl⟩, hnm5, hnk5, hown5, hadd5⟩ := h8.addVal
        obtain ⟨S, hSd⟩ : ∃ S : World → Prop, S = fun w' => (∀ q, w'.cell? ⟨I.kb, q, none⟩ = #[ptrTo I.rb, tv5, gv5, ptrTo I.mb][q]?) ∧ w'.cell? ⟨I.mb, 1, none⟩ = some (.slice adg5 s.vals.length capg5) := ⟨_, rfl⟩
        have hSk : ∀ W, Kp (fun b => some b = (Value.slice adg5 s.vals.length capg5).ownBlock) w6 W → S W := fun W k => by
          rw [hSd]; exact ⟨(cells_of (k.blk hlo5 hnk5)).1, (cells_of (k.blk hmo5 hnm5)).1 1⟩
        have hkf : ∀ W, Kp (fun b => some b = (Value.slice adg5 s.vals.length capg5).ownBlock) w6 W → W.frozen? ⟨I.mb, 1, none⟩ = false := fun W k => (cells_of (k.blk hmo5 hnm5)).2 1
        have hB5 := h8.base
        have HSk := hide hSk
        have HSd := hide hSd
        have HKf := hide hkf
        have HOw := hide hown5
        have HAd := hide hadd5
        clear h8 hlo5 hmo5 hown5 hadd5 hSk hSd hkf
        go_wp2_with fail
        refine wp_region_S 16 (S) (by kernel_rfl) (n := 17) (listed := #[false, false, false, false, false, false, false, false, false, false, false, false, false, false, false, false, false]) rfl (by kernel_rfl) ?hS (fun hS => ?_)
        case hS => exact HSk.out _ ((Kp.refl _ _).drew)
        have hSd := HSd.out
        subst hSd
        refine wpAnyS_take 0 [] (v := ?v16) (listed' := #[true, false, false, false, false, false, false, false, false, false, false, false, false, false, false, false, false]) rfl (by kernel_rfl) (by kernel_rfl) rfl (fun _ _ _ h => h) hS (fun _ hSw => ?hy16) ?rest16
        case hy16 => (try dsimp only at hSw); go_simp; all_goals (with_reducible rfl)
        simp only [Act.put, List.setIfInBounds_toArray, List.set_cons_zero, List.set_cons_succ]
        refine wpAnyS_take 1 [] (v := ?v17) (listed' := #[true, true, false, false, false, false, false, false, false, false, false, false, false, false, false, false, false]) rfl (by kernel_rfl) (by kernel_rfl) rfl (fun _ _ _ h => h) hS (fun _ hSw => ?hy17) ?rest17
        case hy17 => (try dsimp only at hSw); go_simp; all_goals (with_reducible rfl)
        simp only [Act.put, List.setIfInBounds_toArray, List.set_cons_zero, List.set_cons_succ]
        refine wpAnyS_take 2 [] (v := ?v18) (listed' := #[true, true, true, false, false, false, false, false, false, false, false, false, false, false, false, false, false]) rfl (by kernel_rfl) (by kernel_rfl) rfl (fun _ _ _ h => h) hS (fun _ hSw => ?hy18) ?rest18
        case hy18 => (try dsimp only at hSw); go_simp; all_goals (with_reducible rfl)
        simp only [Act.put, List.setIfInBounds_toArray, List.set_cons_zero, List.set_cons_succ]
        refine wpAnyS_take 3 [] (v := ?v19) (listed' := #[true, true, true, true, false, false, false, false, false, false, false, false, false, false, false, false, false]) rfl (by kernel_rfl) (by kernel_rfl) rfl (fun _ _ _ h => h) hS (fun _ hSw => ?hy19) ?rest19
        case hy19 => (try dsimp only at hSw); go_simp; all_goals (with_reducible rfl)
        simp only [Act.put, List.setIfInBounds_toArray, List.set_cons_zero, List.set_cons_succ]
        refine wpAnyS_take 4 [] (v := ?v20) (listed' := #[true, true, true, true, true, false, false, false, false, false, false, false, false, false, false, false, false]) rfl (by kernel_rfl) (by kernel_rfl) rfl (fun _ _ _ h => h) hS (fun _ hSw => ?hy20) ?rest20
        case hy20 => (try dsimp only at hSw); go_simp; all_goals (with_reducible rfl)
        simp only [Act.put, List.setIfInBounds_toArray, List.set_cons_zero, List.set_cons_succ]
        refine wpAnyS_take 5 [] (v := ?v21) (listed' := #[true, true, true, true, true, true, false, false, false, false, false, false, false, false, false, false, false]) rfl (by kernel_rfl) (by kernel_rfl) rfl (fun _ _ _ h => h) hS (fun _ hSw => ?hy21) ?rest21
        case hy21 => (try dsimp only at hSw); go_simp; all_goals (with_reducible rfl)
        simp only [Act.put, List.setIfInBounds_toArray, List.set_cons_zero, List.set_cons_succ]
        refine wpAnyS_take 6 [] (v := ?v22) (listed' := #[true, true, true, true, true, true, true, false, false, false, false, false, false, false, false, false, false]) rfl (by kernel_rfl) (by kernel_rfl) rfl (fun _ _ _ h => h) hS (fun _ hSw => ?hy22) ?rest22
        case hy22 => (try dsimp only at hSw); go_simp; all_goals (with_reducible rfl)
        simp only [Act.put, List.setIfInBounds_toArray, List.set_cons_zero, List.set_cons_succ]
        refine wpAnyS_take 7 [] (v := ?v23) (listed' := #[true, true, true, true, true, true, true, true, false, false, false, false, false, false, false, false, false]) rfl (by kernel_rfl) (by kernel_rfl) rfl (fun _ _ _ h => h) hS (fun _ hSw => ?hy23) ?rest23
        case hy23 => (try dsimp only at hSw); go_simp; all_goals (with_reducible rfl)
        simp only [Act.put, List.setIfInBounds_toArray, List.set_cons_zero, List.set_cons_succ]
        refine wpAnyS_take 8 [] (v := ?v24) (listed' := #[true, true, true, true, true, true, true, true, true, false, false, false, false, false, false, false, false]) rfl (by kernel_rfl) (by kernel_rfl) rfl (fun _ _ _ h => h) hS (fun _ hSw => ?hy24) ?rest24
        case hy24 => (try dsimp only at hSw); go_simp; all_goals (with_reducible rfl)
        simp only [Act.put, List.setIfInBounds_toArray, List.set_cons_zero, List.set_cons_succ]
        refine wpAnyS_take 9 [] (v := ?v25) (listed' := #[true, true, true, true, true, true, true, true, true, true, false, false, false, false, false, false, false]) rfl (by kernel_rfl) (by kernel_rfl) rfl (fun _ _ _ h => h) hS (fun _ hSw => ?hy25) ?rest25
        case hy25 => (try dsimp only at hSw); go_simp; all_goals (with_reducible rfl)
        simp only [Act.put, List.setIfInBounds_toArray, List.set_cons_zero, List.set_cons_succ]
        refine wpAnyS_take 10 [] (v := ?v26) (listed' := #[true, true, true, true, true, true, true, true, true, true, true, false, false, false, false, false, false]) rfl (by kernel_rfl) (by kernel_rfl) rfl (fun _ _ _ h => h) hS (fun _ hSw => ?hy26) ?rest26
        case hy26 => (try dsimp only at hSw); go_simp; all_goals (with_reducible rfl)
        simp only [Act.put, List.setIfInBounds_toArray, List.set_cons_zero, List.set_cons_succ]
        refine wpAnyS_take 11 [] (v := ?v27) (listed' := #[true, true, true, true, true, true, true, true, true, true, true, true, false, false, false, false, false]) rfl (by kernel_rfl) (by kernel_rfl) rfl (fun _ _ _ h => h) hS (fun _ hSw => ?hy27) ?rest27
        case hy27 => (try dsimp only at hSw); go_simp; all_goals (with_reducible rfl)
        simp only [Act.put, List.setIfInBounds_toArray, List.set_cons_zero, List.set_cons_succ]
        refine wpAnyS_one 12 (listed' := #[true, true, true, true, true, true, true, true, true, true, true, true, true, false, false, false, false]) rfl (by kernel_rfl) (by kernel_rfl) (fun K hK => ?_)
        go_simp
        refine hK _ _ (HSk.out _ (((Kp.refl _ _).drew).alloc _)) (fun hS => ?_)
        clear hK K
        refine wpAnyS_one 13 (listed' := #[true, true, true, true, true, true, true, true, true, true, true, true, true, true, false, false, false]) rfl (by kernel_rfl) (by kernel_rfl) (fun K hK => ?_)
        refine step_append_at _ (by rfl) _ _ _ (by rfl) I.B 38 i1 _ 1 8 Tryz.underlying53 hi1 hy0 hy1 hy2 rfl (by omega) _ s.vals.length _ (by rfl) (HOw.out _ (((Kp.refl _ _).drew).alloc _)) (.slice (some ⟨w6.heap.size, 0, none⟩) 1 1) 1 [.int .u64 x] (by rfl) (RowAt.allocAt rfl #[.int .u64 x] _ 1 1 rfl) (by simp [Value.oneCell']) (by simp only [maxLen]; omega) (by omega) (by simp; omega) ?_
        intro v2 w7 hown1 hgrow hat
        have k5 : Kp (fun b => some b = (Value.slice adg5 s.vals.length capg5).ownBlock) w6 w7 := (((Kp.refl _ _).drew).alloc _).grown hgrow (fun k e => .inl e.symm)
        have hkf := HKf.out _ k5
        refine hK _ _ (HSk.out _ k5) (fun hS => ?_)
        clear hK K k5
        obtain ⟨ad2, cap2, rfl⟩ := own_shape hown1
        refine wpAnyS_take 14 [15] (v := ?v30) (listed' := #[true, true, true, true, true, true, true, true, true, true, true, true, true, true, true, false, false]) rfl (by kernel_rfl) (by kernel_rfl) rfl (fun _ _ _ h => h) hS (fun _ hSw => ?hy30) ?rest30
        case hy30 => (try dsimp only at hSw); go_simp; all_goals (with_reducible rfl)
        simp only [Act.put, List.setIfInBounds_toArray, List.set_cons_zero, List.set_cons_succ]
        refine wpAnyS_take 15 [] (v := ?v31) (listed' := #[true, true, true, true, true, true, true, true, true, true, true, true, true, true, true, true, false]) rfl (by kernel_rfl) (by kernel_rfl) rfl (fun _ _ _ h => h) hS (fun _ hSw => ?hy31) ?rest31
        case hy31 => (try dsimp only at hSw); go_simp; all_goals (with_reducible rfl)
        simp only [Act.put, List.setIfInBounds_toArray, List.set_cons_zero, List.set_cons_succ]
        refine wpAnyS_end 16 (listed' := #[true, true, true, true, true, true, true, true, true, true, true, true, true, true, true, true, true]) rfl (by kernel_rfl) (by kernel_rfl) (by kernel_rfl) (fun K hK => ?_)
        go_simp
        refine hK _ _ ?_
        clear hK K
        refine wpAnyS_done (by kernel_rfl) ?_ _
        obtain ⟨h9, k9⟩ := HAd.out _ _ _ _ _ x (((Kp.refl no w6).drew).alloc _) rfl rfl hown1 hgrow hat
        have HK9 := hide (HK8.out.trans k9)
        have H9 := hide h9
        clear h9 k9 hown1 hgrow hat hS HSk HAd HSd HKf HOw hkf
        go_wp2
        go_ret
        rw [HM.out]
        exact ⟨⟨rfl, H9.out⟩, HK9.out⟩
end

end Go.Proofs.YtdeplgkhmebalaaGreatDoor

namespace Go.Proofs.YtdeplgkhmebalaaGreatDoor
open Go.RowKit
section
variable {I : LIds} {w : World} {s : Lkr}

def globsL (I : LIds) (s : Lkr) : Except (Int × Int) Lkr :=
  match belowM I.D 9 s.i with
  | .error e => .error e
  | .ok (n, j) => match manyM (globM I.D) n j with
    | .error e => .error e
    | .ok (l, k) => .ok { s with gl := s.gl ++ l.map (·.1), vals := s.vals ++ l.map (·.2), i := k }

set_option maxRecDepth 100000 in
set_option maxHeartbeats 6000000 in
theorem readGlobals_any (h : LSt I w s) (hgl : s.gl.length ≤ 50) (hvl : s.vals.length ≤ 50) : Calls Tryz.prog 78 #[ptrTo I.kb] w fun r w' => LDone I w w' (globsL I s) r ∧ Kp (upl I) w w' := by
  have hM : globsL I s = (match belowM I.D 9 s.i with
    | .error e => .error e
    | .ok (n, j) => match manyM (globM I.D) n j with
      | .error e => .error e
      | .ok (l, k) => .ok { s with gl := s.gl ++ l.map (·.1), vals := s.vals ++ l.map (·.2), i := k }) := rfl
  generalize globsL I s = R at *
  obtain ⟨tv, gv, hlo, hn1, hn2, hn3, -, -⟩ := h.lookAt
  obtain ⟨hc, hf⟩ := cells_of hlo
  have hbe := below_any h.rd 9 (by decide) (by decide)
  have hlt := fun n j => below_lt (D := I.D) (lim := 9) (i := s.i) (n := n) (j := j)
  generalize belowM I.D 9 s.i = Q at *
  have H := hide h
  have HB := hide hbe
  have HM := hide hM
  clear h hlo hbe hM
  match Q, HM, HB, hlt with
  | .error e, HM, HB, _ =>
    go_enter Tryz.func78, Tryz.ntmps78
    go_wp2_with fail
    refine HB.out.mono ?_
    rintro r w1 ⟨⟨fv, j, rfl, ⟨fb, rfl, hfb, hfo⟩, h1⟩, k1⟩
    have HF := hide hfo
    clear hfo h1
    go_wp2
    go_ret
    rw [HM.out]
    exact ⟨⟨ptrTo fb, rfl, fb, rfl, hfb, HF.out⟩, H.out.lowRd k1⟩
  | .ok (n, j), HM, HB, hlt =>
    have hn := (hlt n j rfl).1
    clear hlt
    go_enter Tryz.func78, Tryz.ntmps78
    go_wp2_with fail
    refine HB.out.mono ?_
    rintro r w1 ⟨⟨v, rfl, rfl, h1⟩, k1⟩
    have H1 := hide (H.out.read k1 h1)
    have HK1 := hide (H.out.lowRd k1)
    clear h1 k1 hc hf
    go_wp2
    go_loopw [18] (fun kv wr => ∃ (k jj : Nat) (l : List ((UInt8 × Bool) × Nat)), k ≤ n ∧ kv = .int .i64 k ∧ l.length = k ∧ LSt I wr { s with i := jj, gl := s.gl ++ l.map (·.1), vals := s.vals ++ l.map (·.2) } ∧ Kp (upl I) w wr ∧ manyM (globM I.D) n j = preR l (manyM (globM I.D) (n - k) jj)) (fun kv _ => n - (intOf kv).toNat)
    case atStart => exact ⟨0, j, [], by omega, rfl, rfl, by simpa using H1.out, HK1.out, by rw [preR_nil]; rfl⟩
    case round =>
      obtain ⟨k, jj, l, hk, rfl, hlk, hst, hkp, hlab⟩ := hrel
      have HS := hide hst
      have HK := hide hkp
      have HLk := hide hlk
      have hszr := hkp.size
      by_cases hkn : k < n
      · rw [show n - k = (n - k - 1) + 1 by omega, preR_step] at hlab
        have hone := readGlobal_any hst (by simp [hlk]; omega) (by simp [hlk]; omega)
        unfold globL at hone
        simp only at hone
        generalize globM I.D jj = Q2 at *
        have HO := hide hone
        have HL := hide hlab
        clear hone hlab hst hkp hlk
        match Q2, HL, HO with
        | .error e, HL, HO =>
          go_wp2_with fail
          refine HO.out.mono ?_
          rintro r w3 ⟨⟨fv, rfl, fb, rfl, hfb, hfo⟩, k3⟩
          have HF := hide hfo
          have hfb' : w.heap.size ≤ fb := Nat.le_trans hszr hfb
          have HK3 := hide (HK.out.trans k3)
          clear hfo k3
          go_wp2
          go_ret
          rw [HM.out]
          show LDone _ _ _ (match manyM (globM I.D) n j with | .error e => .error e | .ok (l, k) => .ok { s with gl := s.gl ++ l.map (·.1), vals := s.vals ++ l.map (·.2), i := k }) _ ∧ _
          rw [HL.out]
          exact ⟨⟨ptrTo fb, rfl, fb, rfl, hfb', HF.out⟩, HK3.out⟩
        | .ok ((x, v), j2), HL, HO =>
          go_wp2_with fail
          refine HO.out.mono ?_
          rintro r w3 ⟨⟨rfl, h3⟩, k3⟩
          have H3 := hide h3
          have HK3 := hide (HK.out.trans k3)
          clear h3 k3
          go_wp2
          go_roundw
          case rel => exact ⟨k + 1, j2, l ++ [(x, v)], by omega, by go_num, by simp [HLk.out], by simpa using H3.out, HK3.out, by rw [HL.out, show n - (k + 1) = n - k - 1 by omega]⟩
          case measure => simp [intOf]; omega
      · obtain rfl : k = n := by omega
        rw [Nat.sub_self] at hlab
        have HL := hide hlab
        clear hlab hst hkp hlk
        go_wp2
        go_ret
        rw [HM.out]
        show LDone _ _ _ (match manyM (globM I.D) k j with | .error e => .error e | .ok (l, k) => .ok { s with gl := s.gl ++ l.map (·.1), vals := s.vals ++ l.map (·.2), i := k }) _ ∧ _
        rw [HL.out, manyM, preR, List.append_nil]
        exact ⟨⟨rfl, HS.out⟩, HK.out⟩
end

theorem look_len {c : Ctx} (hres : ∀ k, k < c.funcs.length → (c.funcs.getD k ([], [])).1.length ≤ 8 ∧ (c.funcs.getD k ([], [])).2.length ≤ 1) : ∀ (F N : Nat) (s s' : Bd), Sz N s → lookM c F s = .ok s' → s.i ≤ s'.i ∧ s'.code.length ≤ N + 18 * (s'.i - s.i) := by
  intro F
  induction F with
  | zero => intro N s s' z h; cases h; exact ⟨Nat.le_refl _, Nat.le_trans z.cd (Nat.le_add_right _ _)⟩
  | succ F ih =>
    intro N s s' z h
    rw [lookM] at h
    split at h
    · split at h
      · cases h
      · cases h; exact ⟨Nat.le_refl _, Nat.le_trans z.cd (Nat.le_add_right _ _)⟩
    · rename_i hb
      split at h
      · cases h
      · rename_i s1 h1
        obtain ⟨z1, hi⟩ := step_keep hb z hres h1
        obtain ⟨h2, h3⟩ := ih _ _ _ z1 h
        exact ⟨by omega, by omega⟩

end Go.Proofs.YtdeplgkhmebalaaGreatDoor

namespace Go.Proofs.YtdeplgkhmebalaaGreatDoor
open Go.RowKit

theorem heap_alloc_at {w : World} {n : Nat} (h : w.heap.size = n) (o : Obj) : (w.alloc o).heap[n]? = some o := by
  subst h; exact heap_alloc_new w o

set_option maxRecDepth 100000 in
set_option maxHeartbeats 2000000 in
theorem newBody_any {w : World} {kb pb mb : Nat} {rv0 tv gv : Value} {ad1 ad2 : Option Addr} {l1 c1 l2 c2 : Nat} (hk : w.heap[kb]? = some (.cells #[rv0, tv, gv, ptrTo mb] 182)) (hgv : ∃ ad n cap, gv = .slice ad n cap) :
    Calls Tryz.prog 144 #[ptrTo kb, ptrTo pb, .agg #[.slice ad1 l1 c1, .slice ad2 l2 c2]] w fun r w' => ∃ bb g, r = .returned (ptrTo bb) ∧ w.heap.size ≤ bb ∧ w.heap.size ≤ g ∧ bb ≠ g ∧ g < w'.heap.size ∧
      w'.heap[bb]? = some (.cells #[ptrTo pb, ptrTo mb, gv, .slice none 0 0, .slice none 0 0, .slice (some ⟨g, 0, none⟩) 1 1, .int .i64 0, .bool false] 263) ∧
      w'.heap[g]? = some (.cells #[.int .i64 0, .slice ad2 l2 c2, .int .i64 0, .int .i64 0, .slice none 0 0] 298) ∧ Kp no w w' := by
  obtain ⟨ad, n, cap, rfl⟩ := hgv
  have hlt := lt_of_blk hk
  have hS : ∀ W, Kp no w W → ∀ q, W.cell? ⟨kb, q, none⟩ = #[rv0, tv, .slice ad n cap, ptrTo mb][q]? := fun W k => (cells_of (k.blk hk (fun h => h))).1
  have HS := hide hS
  clear hS hk
  go_enter Tryz.func144, Tryz.ntmps144
  go_wp2_with fail
  refine wp_region_S 12 (fun w' => ∀ q, w'.cell? ⟨kb, q, none⟩ = #[rv0, tv, .slice ad n cap, ptrTo mb][q]?) (by kernel_rfl) (n := 12) (listed := #[false, false, false, false, false, false, false, false, false, false, false, false]) rfl (by kernel_rfl) ?hS (fun hS => ?_)
  case hS => exact HS.out _ ((((Kp.refl no w).alloc _)).drew)
  refine wpAnyS_take 0 [] (v := ?v1) (listed' := #[true, false, false, false, false, false, false, false, false, false, false, false]) rfl (by kernel_rfl) (by kernel_rfl) rfl (fun _ _ _ h => h) hS (fun _ hSw => ?hy1) ?rest1
  case hy1 => (try dsimp only at hSw); go_simp; all_goals (with_reducible rfl)
  simp only [Act.put, List.setIfInBounds_toArray, List.set_cons_zero, List.set_cons_succ]
  refine wpAnyS_take 1 [] (v := ?v2) (listed' := #[true, true, false, false, false, false, false, false, false, false, false, false]) rfl (by kernel_rfl) (by kernel_rfl) rfl (fun _ _ _ h => h) hS (fun _ hSw => ?hy2) ?rest2
  case hy2 => (try dsimp only at hSw); go_simp; all_goals (with_reducible rfl)
  simp only [Act.put, List.setIfInBounds_toArray, List.set_cons_zero, List.set_cons_succ]
  refine wpAnyS_take 2 [] (v := ?v3) (listed' := #[true, true, true, false, false, false, false, false, false, false, false, false]) rfl (by kernel_rfl) (by kernel_rfl) rfl (fun _ _ _ h => h) hS (fun _ hSw => ?hy3) ?rest3
  case hy3 => (try dsimp only at hSw); go_simp; all_goals (with_reducible rfl)
  simp only [Act.put, List.setIfInBounds_toArray, List.set_cons_zero, List.set_cons_succ]
  refine wpAnyS_take 3 [] (v := ?v4) (listed' := #[true, true, true, true, false, false, false, false, false, false, false, false]) rfl (by kernel_rfl) (by kernel_rfl) rfl (fun _ _ _ h => h) hS (fun _ hSw => ?hy4) ?rest4
  case hy4 => (try dsimp only at hSw); go_simp; all_goals (with_reducible rfl)
  simp only [Act.put, List.setIfInBounds_toArray, List.set_cons_zero, List.set_cons_succ]
  refine wpAnyS_take 4 [] (v := ?v5) (listed' := #[true, true, true, true, true, false, false, false, false, false, false, false]) rfl (by kernel_rfl) (by kernel_rfl) rfl (fun _ _ _ h => h) hS (fun _ hSw => ?hy5) ?rest5
  case hy5 => (try dsimp only at hSw); go_simp; all_goals (with_reducible rfl)
  simp only [Act.put, List.setIfInBounds_toArray, List.set_cons_zero, List.set_cons_succ]
  refine wpAnyS_take 5 [] (v := ?v6) (listed' := #[true, true, true, true, true, true, false, false, false, false, false, false]) rfl (by kernel_rfl) (by kernel_rfl) rfl (fun _ _ _ h => h) hS (fun _ hSw => ?hy6) ?rest6
  case hy6 => (try dsimp only at hSw); go_simp; all_goals (with_reducible rfl)
  simp only [Act.put, List.setIfInBounds_toArray, List.set_cons_zero, List.set_cons_succ]
  refine wpAnyS_take 6 [] (v := ?v7) (listed' := #[true, true, true, true, true, true, true, false, false, false, false, false]) rfl (by kernel_rfl) (by kernel_rfl) rfl (fun _ _ _ h => h) hS (fun _ hSw => ?hy7) ?rest7
  case hy7 => (try dsimp only at hSw); go_simp; all_goals (with_reducible rfl)
  simp only [Act.put, List.setIfInBounds_toArray, List.set_cons_zero, List.set_cons_succ]
  refine wpAnyS_take 7 [] (v := ?v8) (listed' := #[true, true, true, true, true, true, true, true, false, false, false, false]) rfl (by kernel_rfl) (by kernel_rfl) rfl (fun _ _ _ h => h) hS (fun _ hSw => ?hy8) ?rest8
  case hy8 => (try dsimp only at hSw); go_simp; all_goals (with_reducible rfl)
  simp only [Act.put, List.setIfInBounds_toArray, List.set_cons_zero, List.set_cons_succ]
  refine wpAnyS_take 8 [] (v := ?v9) (listed' := #[true, true, true, true, true, true, true, true, true, false, false, false]) rfl (by kernel_rfl) (by kernel_rfl) rfl (fun _ _ _ h => h) hS (fun _ hSw => ?hy9) ?rest9
  case hy9 => (try dsimp only at hSw); go_simp; all_goals (with_reducible rfl)
  simp only [Act.put, List.setIfInBounds_toArray, List.set_cons_zero, List.set_cons_succ]
  refine wpAnyS_take 9 [] (v := ?v10) (listed' := #[true, true, true, true, true, true, true, true, true, true, false, false]) rfl (by kernel_rfl) (by kernel_rfl) rfl (fun _ _ _ h => h) hS (fun _ hSw => ?hy10) ?rest10
  case hy10 => (try dsimp only at hSw); go_simp; all_goals (with_reducible rfl)
  simp only [Act.put, List.setIfInBounds_toArray, List.set_cons_zero, List.set_cons_succ]
  refine wpAnyS_one 10 (listed' := #[true, true, true, true, true, true, true, true, true, true, true, false]) rfl (by kernel_rfl) (by kernel_rfl) (fun K hK => ?_)
  go_simp
  refine hK _ _ (HS.out _ (((((Kp.refl no w).alloc _)).drew).alloc _)) (fun hS => ?_)
  clear hK K
  refine wpAnyS_take 11 [] (v := ?v12) (listed' := #[true, true, true, true, true, true, true, true, true, true, true, true]) rfl (by kernel_rfl) (by kernel_rfl) rfl (fun _ _ _ h => h) hS (fun _ hSw => ?hy12) ?rest12
  case hy12 => (try dsimp only at hSw); go_simp; all_goals (with_reducible rfl)
  simp only [Act.put, List.setIfInBounds_toArray, List.set_cons_zero, List.set_cons_succ]
  refine wpAnyS_done (by kernel_rfl) ?_ _
  clear hS HS
  go_wp2
  go_ret
  refine ⟨w.heap.size + 1, w.heap.size + 2, rfl, by omega, by omega, by omega, by simp, ?_, ?_, ?_⟩
  · exact heap_alloc_old (w := (w.alloc _).alloc _) (heap_alloc_at (by simp) _)
  · exact heap_alloc_at (w := (w.alloc _).alloc _) (by simp) _
  · exact ((((Kp.refl no w).alloc _).alloc _).alloc _).drew

end Go.Proofs.YtdeplgkhmebalaaGreatDoor

namespace Go.Proofs.YtdeplgkhmebalaaGreatDoor
open Go.RowKit
section
variable {I : LIds} {w w' : World} {s : Lkr} {role : Nat → Nat} {tv gv fv glv cv : Value} {tys : List TyV} {fs : List FnV}

theorem LStG.far (h : LStG I w s role tv gv fv glv cv tys fs) (k' : Kp (fun b => (fun r => r = 9) (role b)) w w') : LStG I w' s role tv gv fv glv cv tys fs :=
  ⟨Nat.le_trans h.base k'.size, (h.kRd (X := fun r => r = 9) k' (by decide) (by decide) :), (h.kLook (X := fun r => r = 9) k' (by decide) :), (h.kMod (X := fun r => r = 9) k' (by decide) :), (h.kTypes (X := fun r => r = 9) k' (by decide) :), (h.kGlobs (X := fun r => r = 9) k' (by decide) :), (h.kFuncs (X := fun r => r = 9) k' (by decide) :), (h.kVals (X := fun r => r = 9) k' (by decide) :), (h.kCode (X := fun r => r = 9) k' (by decide) :), h.eqT, h.eqF,
    h.kTyB (X := fun r => r = 9) k' (by decide), h.kFnB (X := fun r => r = 9) k' (by decide), h.r1, h.r2, h.r3, h.r4, h.r5, h.r6, h.r7, h.r8, h.kTyR (X := fun r => r = 9) k', h.kFnR (X := fun r => r = 9) k', h.low, h.dvB, h.tyN, h.fnN⟩

/-- One function of the list: where it lies. -/
theorem LStG.fn (h : LStG I w s role tv gv fv glv cv tys fs) {n : Nat} (hn : n < s.fns.length) : ∃ a cap x, fv = .slice (some ⟨a, 0, none⟩) s.fns.length cap ∧ s.fns.length ≤ cap ∧ fs[n]? = some x ∧ x.1 = s.fns.getD n ⟨([], []), 0, 0⟩ ∧ x ∈ fs ∧
    w.cell? ⟨a, n * 4, none⟩ = some x.2.1 ∧ w.cell? ⟨a, n * 4 + 1, none⟩ = some x.2.2 ∧ w.cell? ⟨a, n * 4 + 2, none⟩ = some (.int .i64 x.1.locals) ∧ w.cell? ⟨a, n * 4 + 3, none⟩ = some (.int .i64 x.1.entry) ∧ (∀ k, w.frozen? ⟨a, k, none⟩ = false) := by
  have hl : s.fns.length = fs.length := by rw [h.eqF, List.length_map]
  obtain ⟨x, hx⟩ : ∃ x, fs[n]? = some x := ⟨fs[n]'(by omega), by simp [List.getElem?_eq_getElem (show n < fs.length by omega)]⟩
  have hm : x ∈ fs := List.mem_of_getElem? hx
  have hty : s.fns.getD n ⟨([], []), 0, 0⟩ = x.1 := by rw [h.eqF]; simp [List.getD_eq_getElem?_getD, List.getElem?_map, hx]
  obtain ⟨a, cap, hfv, -, -⟩ := h.funcs.form (by omega)
  obtain ⟨ad', cap', hfv', hcap'⟩ := (RowAt.own h.funcs).shape
  subst hfv
  cases hfv'
  have hc : ∀ j, j < 4 → w.cell? ⟨a, n * 4 + j, none⟩ = (fnCells x)[j]? := by
    intro j hj
    rw [h.funcs.cellAt (n * 4 + j) (by omega), flat_get fnLen fs n j hj, hx]; rfl
  exact ⟨a, cap, x, rfl, hcap', hx, hty.symm, hm, hc 0 (by decide), hc 1 (by decide), hc 2 (by decide), hc 3 (by decide), fun k => h.funcs.frozenAt k⟩

theorem LStG.setFn (h : LStG I w s role tv gv fv glv cv tys fs) {n a cap : Nat} {x : FnV} (hfv : fv = .slice (some ⟨a, 0, none⟩) s.fns.length cap) (hx : fs[n]? = some x) (L En : Nat) :
    LStG I ((w.setCell ⟨a, n * 4 + 2, none⟩ (.int .i64 L)).setCell ⟨a, n * 4 + 3, none⟩ (.int .i64 En)) { s with fns := s.fns.set n ⟨x.1.typ, L, En⟩ } role tv gv fv glv cv tys (fs.set n (⟨x.1.typ, L, En⟩, x.2.1, x.2.2)) := by
  subst hfv
  have hm : x ∈ fs := List.mem_of_getElem? hx
  have k : Kp (fun b => (fun r => r = 6) (role b)) w ((w.setCell ⟨a, n * 4 + 2, none⟩ (.int .i64 L)).setCell ⟨a, n * 4 + 3, none⟩ (.int .i64 En)) :=
    Kp.setAt (S := fun b => (fun r => r = 6) (role b)) (Kp.setAt (S := fun b => (fun r => r = 6) (role b)) (Kp.refl _ w) (b := a) (h.r6 a rfl) _ _) (b := a) (h.r6 a rfl) _ _
  have s1 := (h.funcs.stored (n * 4 + 2) (.int .i64 L)).1
  have s2 := (s1.stored (n * 4 + 3) (.int .i64 En)).1
  have e1 : (fs.flatMap fnCells).set (n * 4 + 2) (.int .i64 (L : Nat)) = (fs.set n (⟨x.1.typ, L, x.1.entry⟩, x.2.1, x.2.2)).flatMap fnCells := flat_set fnLen fs n 2 (by decide) x _ _ hx rfl
  have hx' : (fs.set n (⟨x.1.typ, L, x.1.entry⟩, x.2.1, x.2.2))[n]? = some (⟨x.1.typ, L, x.1.entry⟩, x.2.1, x.2.2) := by
    rw [List.getElem?_set_self (List.getElem?_eq_some_iff.1 hx).1]
  have e2 := flat_set fnLen (fs.set n (⟨x.1.typ, L, x.1.entry⟩, x.2.1, x.2.2)) n 3 (by decide) _ (⟨x.1.typ, L, En⟩, x.2.1, x.2.2) (.int .i64 (En : Nat)) hx' rfl
  rw [e1, e2, List.set_set] at s2
  refine ⟨Nat.le_trans h.base k.size, (h.kRd (X := fun r => r = 6) k (by decide) (by decide) :), (h.kLook (X := fun r => r = 6) k (by decide) :), (h.kMod (X := fun r => r = 6) k (by decide) :), (h.kTypes (X := fun r => r = 6) k (by decide) :), (h.kGlobs (X := fun r => r = 6) k (by decide) :), ?_, (h.kVals (X := fun r => r = 6) k (by decide) :), (h.kCode (X := fun r => r = 6) k (by decide) :), h.eqT, ?_,
    h.kTyB (X := fun r => r = 6) k (by decide), ?_, h.r1, h.r2, h.r3, h.r4, h.r5, h.r6, h.r7, h.r8, h.kTyR (X := fun r => r = 6) k, ?_, h.low, h.dvB, h.tyN, ?_⟩
  · simpa using s2
  · rw [h.eqF, List.map_set]
  · intro y hy
    rcases List.mem_or_eq_of_mem_set hy with hy | rfl
    · exact h.kFnB (X := fun r => r = 6) k (by decide) y hy
    · exact h.kFnB (X := fun r => r = 6) k (by decide) x hm
  · intro y hy
    rcases List.mem_or_eq_of_mem_set hy with hy | rfl
    · exact h.kFnR (X := fun r => r = 6) k y hy
    · exact h.kFnR (X := fun r => r = 6) k x hm
  · intro y hy
    rcases List.mem_or_eq_of_mem_set hy with hy | rfl
    · exact h.fnN y hy
    · exact h.fnN x hm

/-- The roles of a body's look. -/
def bRole (pb mb bb g : Nat) (cv : Value) : Nat → Nat := fun b => if b = pb then 1 else if b = mb then 2 else if b = bb then 3 else if b = g then 5 else if cv.ownBlock = some b then 6 else 0

structure BodyAt (role : Nat → Nat) (pb bb g : Nat) : Prop where
  p9 : role pb = 9
  b9 : role bb = 9
  g9 : role g = 9
  d1 : pb ≠ bb
  d2 : pb ≠ g
  d3 : bb ≠ g

def bEnv (I : LIds) (w : World) (s : Lkr) (cv fv glv gv dv lv : Value) (pb bb g : Nat) (P lo : List UInt8) : Env :=
  { B := I.B, rb := pb, bb := bb, mb := I.mb, dv := dv, fv := fv, glv := glv, gv := gv, lv := lv, ro := fun b => b < w.heap.size ∧ bRole pb I.mb bb g cv b = 0, pages := s.pages,
    c := ⟨P, s.fns.map (·.typ), s.gl, lo⟩ }

theorem bRole_far {pb bb g : Nat} (hA : BodyAt role pb bb g) (h : LStG I w s role tv gv fv glv cv tys fs) {b : Nat} (h9 : role b ≠ 9) (h2 : role b ≠ 2) (h8 : role b ≠ 8) : bRole pb I.mb bb g cv b = 0 := by
  unfold bRole
  rw [if_neg (fun e => h9 (by rw [e]; exact hA.p9)), if_neg (fun e => h2 (by rw [e]; exact h.r2)), if_neg (fun e => h9 (by rw [e]; exact hA.b9)), if_neg (fun e => h9 (by rw [e]; exact hA.g9)), if_neg (fun e => h8 (h.r8 b e))]

theorem toBody {pb bb g : Nat} {dv lv rv : Value} {P lo res : List UInt8} {i : Nat} (hA : BodyAt role pb bb g) (h : LStG I w s role tv gv fv glv cv tys fs) (hr : RSt w pb dv P i) (hd : ∀ b, dv.ownBlock = some b → I.dv.ownBlock = some b)
    (hb : w.heap[bb]? = some (.cells #[ptrTo pb, ptrTo I.mb, gv, lv, .slice none 0 0, .slice (some ⟨g, 0, none⟩) 1 1, .int .i64 0, .bool false] 263))
    (hg : w.heap[g]? = some (.cells #[.int .i64 0, rv, .int .i64 0, .int .i64 0, .slice none 0 0] 298)) (hgB : I.B ≤ g)
    (hl : BytesAt w lv lo) (hlv : ∀ b, lv.ownBlock = some b → b < w.heap.size ∧ b ≠ pb ∧ b ≠ I.mb ∧ b ≠ bb ∧ b ≠ g ∧ cv.ownBlock ≠ some b) (hres : BytesAt w rv res) (hrv : ∀ b, rv.ownBlock = some b → role b = 0 ∧ b < w.heap.size)
    (nf : s.fns.length ≤ 16) (ng : s.gl.length ≤ 8) (nl : lo.length ≤ 32) (ht : ∀ x ∈ s.fns, x.typ.1.length ≤ 8 ∧ x.typ.2.length ≤ 1) :
    BSt (bEnv I w s cv fv glv gv dv lv pb bb g P lo) g w ⟨i, s.code, [], [⟨0, res, 0, 0, []⟩], 0, false⟩ := by
  have hm9 : ∀ {b : Nat}, role b = 2 → b ≠ pb ∧ b ≠ bb ∧ b ≠ g := fun {b} e => ⟨fun x => (by rw [x, hA.p9] at e; cases e), fun x => (by rw [x, hA.b9] at e; cases e), fun x => (by rw [x, hA.g9] at e; cases e)⟩
  have hm8 : ∀ {b : Nat}, role b = 8 → b ≠ pb ∧ b ≠ bb ∧ b ≠ g := fun {b} e => ⟨fun x => (by rw [x, hA.p9] at e; cases e), fun x => (by rw [x, hA.b9] at e; cases e), fun x => (by rw [x, hA.g9] at e; cases e)⟩
  obtain ⟨m1, m2, m3⟩ := hm9 h.r2
  have c8 : ∀ b, cv.ownBlock = some b → b ≠ I.mb := fun b hb e => by have := h.r8 b hb; rw [e, h.r2] at this; cases this
  have hfar : ∀ {b : Nat}, role b ≠ 9 → role b ≠ 2 → role b ≠ 8 → bRole pb I.mb bb g cv b = 0 := fun h9 h2 h8 => bRole_far hA h h9 h2 h8
  have hrow : ∀ {v : Value} {k : Nat}, (∀ b, v.ownBlock = some b → role b = k) → k ≠ 9 → k ≠ 2 → k ≠ 8 → ∀ b, v.ownBlock = some b → bRole pb I.mb bb g cv b = 0 := fun hv h9 h2 h8 b hb => hfar (by rw [hv b hb]; exact h9) (by rw [hv b hb]; exact h2) (by rw [hv b hb]; exact h8)
  have hz : ∀ {v : Value}, RoV (fun b => role b = 0 ∧ b < w.heap.size) v → RoV (fun b => b < w.heap.size ∧ bRole pb I.mb bb g cv b = 0) v := fun hv b hb => ⟨(hv b hb).2, hfar (by rw [(hv b hb).1]; decide) (by rw [(hv b hb).1]; decide) (by rw [(hv b hb).1]; decide)⟩
  have hdv : RoV (fun b => b < w.heap.size ∧ bRole pb I.mb bb g cv b = 0) dv := hz (fun b hb => ⟨h.low b (h.dvB b (hd b hb)), Nat.lt_of_lt_of_le (I.hlo b (h.dvB b (hd b hb))) h.base⟩)
  refine ⟨bRole pb I.mb bb g cv, .slice none 0 0, cv, 1, [(⟨0, res, 0, 0, []⟩, rv, .slice none 0 0)], ?_⟩
  refine ⟨⟨Nat.le_trans I.hBC h.base, hdv, ?_, ?_, hl, fun b hb => ⟨(hlv b hb).1, ?_⟩, by simpa [bEnv] using nf, by simpa [bEnv] using ng, nl, ?_⟩, hr, hb, h.mod, World.ownsRow_nil _ _ _ _, ?_, h.code, rfl, ?_, ?_, ?_, ?_, ?_, fun b hb => (by cases hb), ?_, ?_, ?_, ?_, fun b hb => hb.2, fun b hb => hb.1⟩
  · obtain ⟨ad, cap, hfv, hcap⟩ := (RowAt.own h.funcs).shape
    refine ⟨ad, cap, by rw [hfv]; simp [bEnv], by simpa [bEnv] using hcap, fun k hk => ?_⟩
    have hk' : k < s.fns.length := by simpa [bEnv] using hk
    obtain ⟨a, cap', x, hfv', -, hx, hxe, hxm, c0, c1, -, -, -⟩ := h.fn hk'
    rw [hfv] at hfv'
    cases hfv'
    have hty : ((bEnv I w s cv fv glv gv dv lv pb bb g P lo).c.funcs.getD k ([], [])) = x.1.typ := by
      show ((s.fns.map (·.typ)).getD k ([], [])) = _
      rw [h.eqF, List.getD_eq_getElem?_getD, List.getElem?_map, List.getElem?_map, hx]; rfl
    refine ⟨a, 0, x.2.1, x.2.2, rfl, ⟨own_lt h.funcs (by rw [hfv]; rfl), hrow h.r6 (by decide) (by decide) (by decide) a (by rw [hfv]; rfl)⟩, by simpa using c0, by simpa using c1, ?_, hz (h.fnR x hxm).1, ?_, hz (h.fnR x hxm).2⟩
    · rw [hty]; exact (h.fnB x hxm).1
    · rw [hty]; exact (h.fnB x hxm).2
  · obtain ⟨ad, cap, hgv, hcap⟩ := (RowAt.own h.globs).shape
    refine ⟨ad, cap, hgv, hcap, fun k hk => ?_⟩
    have hk' : k < s.gl.length := hk
    obtain ⟨a, cap', hgv', -, -⟩ := h.globs.form (by omega)
    have hcell : ∀ j, j < 2 → w.cell? ⟨a, k * 2 + j, none⟩ = (glCells (s.gl.getD k (0, false)))[j]? := by
      intro j hj
      have := h.globs
      rw [hgv'] at this
      rw [this.cellAt (k * 2 + j) (by omega), flat_get glLen s.gl k j hj, List.getD_eq_getElem?_getD, List.getElem?_eq_getElem hk']; rfl
    rw [hgv] at hgv'
    cases hgv'
    exact ⟨a, 0, rfl, ⟨own_lt h.globs (by rw [hgv]; rfl), hrow h.r5 (by decide) (by decide) (by decide) a (by rw [hgv]; rfl)⟩, (by rw [Nat.zero_add]; exact hcell 0 (by decide)), (by rw [Nat.zero_add]; exact hcell 1 (by decide))⟩
  · obtain ⟨l1, l2, l3, l4, l5, l6⟩ := hlv b hb
    unfold bRole
    rw [if_neg l2, if_neg l3, if_neg l4, if_neg l5, if_neg l6]
  · intro k hk
    have hk' : k < s.fns.length := by simpa [bEnv] using hk
    have hty : ((bEnv I w s cv fv glv gv dv lv pb bb g P lo).c.funcs.getD k ([], [])) = s.fns[k].typ := by
      show ((s.fns.map (·.typ)).getD k ([], [])) = _
      simp [List.getD_eq_getElem?_getD, hk']
    rw [hty]
    exact ht _ (List.getElem_mem _)
  · exact ⟨rfl, .inr ⟨g, 1, _, rfl, hgB, hg, Nat.le_refl _, by simp [maxLen], rfl, rfl⟩⟩
  · intro k x hx
    match k with
    | 0 => cases hx; exact World.ownsRow_nil _ _ _ _
    | k + 1 => cases hx
  · intro k x hx
    match k with
    | 0 => cases hx; exact hres
    | k + 1 => cases hx
  · exact if_pos rfl
  · show bRole pb I.mb bb g cv I.mb = 2
    unfold bRole; rw [if_neg m1, if_pos rfl]
  · show bRole pb I.mb bb g cv bb = 3
    unfold bRole; rw [if_neg (Ne.symm hA.d1), if_neg (Ne.symm m2), if_pos rfl]
  · unfold bRole; rw [if_neg (Ne.symm hA.d2), if_neg (Ne.symm m3), if_neg (Ne.symm hA.d3), if_pos rfl]
  · intro b hb
    obtain ⟨n1, n2, n3⟩ := hm8 (h.r8 b hb)
    unfold bRole; rw [if_neg n1, if_neg (c8 b hb), if_neg n2, if_neg n3, if_pos hb]
  · intro k x hx b hb
    match k with
    | 0 => cases hx; cases hb
    | k + 1 => cases hx
  · intro k x hx b hb
    match k with
    | 0 =>
      cases hx
      obtain ⟨z1, z2⟩ := hrv b hb
      exact ⟨hfar (by rw [z1]; decide) (by rw [z1]; decide) (by rw [z1]; decide), z2⟩
    | k + 1 => cases hx

theorem fromBody {pb bb g g' : Nat} {dv lv : Value} {P lo : List UInt8} {s' : Bd} (hA : BodyAt role pb bb g) (h : LStG I w s role tv gv fv glv cv tys fs) (k : Kp (nro (bEnv I w s cv fv glv gv dv lv pb bb g P lo).ro) w w') (hs : BSt (bEnv I w s cv fv glv gv dv lv pb bb g P lo) g' w' s') :
    LSt I w' { s with code := s'.code } := by
  obtain ⟨ρ, sv, cv', kc, bs, hs⟩ := hs
  have hro : ∀ b, b < w.heap.size → role b ≠ 9 → role b ≠ 2 → role b ≠ 8 → (bEnv I w s cv fv glv gv dv lv pb bb g P lo).ro b := fun b hb h9 h2 h8 => ⟨hb, bRole_far hA h h9 h2 h8⟩
  have hm2 : ρ I.mb = 2 := hs.r2
  have hne : ∀ b, (bEnv I w s cv fv glv gv dv lv pb bb g P lo).ro b → cv'.ownBlock ≠ some b := fun b hr e => by have h0 := hs.ro b hr; rw [hs.r6 b e] at h0; cases h0
  have hmne : cv'.ownBlock ≠ some I.mb := fun e => by have := hs.r6 _ e; rw [hm2] at this; cases this
  obtain ⟨role', hro'⟩ : ∃ role' : Nat → Nat, role' = fun b => if cv'.ownBlock = some b then 8 else if b < w.heap.size ∧ role b ≠ 8 then role b else 0 := ⟨_, rfl⟩
  have hk0 : ∀ {b : Nat} {n : Nat}, role b = n → b < w.heap.size → n ≠ 9 → n ≠ 2 → n ≠ 8 → role' b = n := by
    intro b n e hlt h9 h2 h8
    subst e
    rw [hro']
    simp only [if_neg (hne b (hro b hlt h9 h2 h8)), if_pos (And.intro hlt h8)]
  have hin : ∀ {b : Nat} {n : Nat}, role b = n → b < w.heap.size → n ≠ 9 → n ≠ 2 → n ≠ 8 → ¬ nro (bEnv I w s cv fv glv gv dv lv pb bb g P lo).ro b := fun e hlt h9 h2 h8 hn => hn (hro _ hlt (e ▸ h9) (e ▸ h2) (e ▸ h8))
  have hz : ∀ {v : Value}, RoV (fun b => role b = 0 ∧ b < w.heap.size) v → RoV (fun b => role' b = 0 ∧ b < w'.heap.size) v := fun hv b hb => ⟨hk0 (hv b hb).1 (hv b hb).2 (by decide) (by decide) (by decide), Nat.lt_of_lt_of_le (hv b hb).2 k.size⟩
  have hy : ∀ {v : Value} {l : List UInt8}, RoV (fun b => role b = 0 ∧ b < w.heap.size) v → BytesAt w v l → BytesAt w' v l := fun hv hl => hl.kp k (fun b hb => hin (hv b hb).1 (hv b hb).2 (by decide) (by decide) (by decide))
  have lR := lt_of_blk h.rd.blk
  have lL := lt_of_blk h.look
  refine ⟨role', tv, gv, fv, glv, cv', tys, fs, ?_⟩
  refine ⟨Nat.le_trans h.base k.size, h.rd.kp k (hin h.r1 lR (by decide) (by decide) (by decide)) (fun b hb hlt => hin (h.low b (h.dvB b hb)) hlt (by decide) (by decide) (by decide)), k.blk h.look (hin h.r3 lL (by decide) (by decide) (by decide)), hs.mod,
    k.own h.types (fun b hb => hin (h.r4 b hb) (own_lt h.types hb) (by decide) (by decide) (by decide)), k.own h.globs (fun b hb => hin (h.r5 b hb) (own_lt h.globs hb) (by decide) (by decide) (by decide)),
    k.own h.funcs (fun b hb => hin (h.r6 b hb) (own_lt h.funcs hb) (by decide) (by decide) (by decide)), k.own h.vals (fun b hb => hin (h.r7 b hb) (own_lt h.vals hb) (by decide) (by decide) (by decide)), hs.code, h.eqT, h.eqF,
    fun x hx => ⟨hy (h.tyR x hx).1 (h.tyB x hx).1, hy (h.tyR x hx).2 (h.tyB x hx).2⟩, fun x hx => ⟨hy (h.fnR x hx).1 (h.fnB x hx).1, hy (h.fnR x hx).2 (h.fnB x hx).2⟩,
    hk0 h.r1 lR (by decide) (by decide) (by decide), ?_, hk0 h.r3 lL (by decide) (by decide) (by decide),
    fun b hb => hk0 (h.r4 b hb) (own_lt h.types hb) (by decide) (by decide) (by decide), fun b hb => hk0 (h.r5 b hb) (own_lt h.globs hb) (by decide) (by decide) (by decide), fun b hb => hk0 (h.r6 b hb) (own_lt h.funcs hb) (by decide) (by decide) (by decide), fun b hb => hk0 (h.r7 b hb) (own_lt h.vals hb) (by decide) (by decide) (by decide), ?_,
    fun x hx => ⟨hz (h.tyR x hx).1, hz (h.tyR x hx).2⟩, fun x hx => ⟨hz (h.fnR x hx).1, hz (h.fnR x hx).2⟩, fun b hb => hk0 (h.low b hb) (Nat.lt_of_lt_of_le (I.hlo b hb) h.base) (by decide) (by decide) (by decide), h.dvB, h.tyN, h.fnN⟩
  · rw [hro']
    simp only [if_neg hmne, if_pos (And.intro (lt_of_blk h.mod) (show role I.mb ≠ 8 by rw [h.r2]; decide))]
    exact h.r2
  · intro b hb
    rw [hro']
    simp only [if_pos hb]
end

end Go.Proofs.YtdeplgkhmebalaaGreatDoor
