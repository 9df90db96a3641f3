/- The program's look at a body: what END leaves. -/
import Derived.Test.YtdeplgkhmebalaaGreatDoorP05

namespace Go.Proofs.YtdeplgkhmebalaaGreatDoor
open Go.RowKit

/-- The block that the list lies in. -/
def CodeB (E : Env) (w : World) (b : Nat) : Prop := ∃ n c, w.cell? ⟨E.mb, 3, none⟩ = some (.slice (some ⟨b, 0, none⟩) n c)

section
variable {E : Env} {g N : Nat} {w : World} {s : Bd}

set_option maxRecDepth 100000 in
set_option maxHeartbeats 1000000 in
theorem aim_any2 (h : BSt E g w s) {n : Nat} (hn : n < s.code.length) (hc : s.code.length ≤ 1000000) :
    Calls Tryz.prog 282 #[ptrTo E.bb, .int .i64 n] w fun r w' => r = .returned (.tuple #[]) ∧ BSt E g w' (aimM s n) ∧ Kp (CodeB E w) w w' := by
  have hhere := fun W (k : Kp no w W) => here_any (h.quiet k) hc
  obtain ⟨role, sv, cv, kc, bs, h⟩ := h
  obtain ⟨hcb, -⟩ := cells_of h.body
  obtain ⟨hm, hmf⟩ := cells_of h.mod
  obtain ⟨a, cap, hcv, -, -⟩ := h.code.form (by omega)
  have hcap := RowAt.own h.code
  obtain ⟨ad', cap', hcv', hcap'⟩ := hcap.shape
  have hend := fun W (k : Kp no w W) => (aim_end h hcv hn k).1
  have hab : a ≠ E.bb := fun e => by have := h.r6 a (by rw [hcv]; rfl); rw [e, h.r3] at this; cases this
  have ham : a ≠ E.mb := fun e => by have := h.r6 a (by rw [hcv]; rfl); rw [e, h.r2] at this; cases this
  have hcell := fun W (k : Kp no w W) => (k.own h.code (fun _ _ h => h))
  have HBo := hide h.body
  have HMo := hide h.mod
  subst hcv
  cases hcv'
  have hCB : CodeB E w a := ⟨_, _, (cells_of h.mod).1 3⟩
  have HCB := hide hCB
  have hce : ∀ W, Kp no w W → W.cell? ⟨a, n * 5 + 2, none⟩ = some (.int .i64 (s.code.getD n ⟨0, 0, 0, 0, 0⟩).goal) ∧ W.frozen? ⟨a, n * 5 + 2, none⟩ = false := by
    intro W k
    refine ⟨?_, (hcell W k).frozenAt _⟩
    rw [(hcell W k).cellAt (n * 5 + 2) (by omega), flat_get Ins.len s.code n 2 (by decide), List.getD, List.getElem?_eq_getElem hn]; rfl
  generalize (s.code.getD n ⟨0, 0, 0, 0, 0⟩).goal = gl0 at *
  have HH := hide hhere
  have HE := hide hend
  have HC := hide hce
  have hi0 : (0 : Int) ≤ (n : Int) := by omega
  have hi1 : (n : Int) < (s.code.length : Int) := by omega
  obtain ⟨hc0, hf0⟩ := hce w (Kp.refl no w)
  clear h hhere hend hcell hce hcap hCB
  go_enter Tryz.func282, Tryz.ntmps282
  go_wp2_with fail
  go_region_held3 (fun w' => w'.cell? ⟨E.bb, 1, none⟩ = some (ptrTo E.mb) ∧ w'.cell? ⟨E.mb, 3, none⟩ = some (.slice (some ⟨a, 0, none⟩) s.code.length cap)) (go_keep) (first | (go_at_call 278; refine (HH.out w.drew ((Kp.refl no w).drew)).mono ?_; rintro e w1 ⟨rfl, k1⟩; obtain ⟨hc1, hf1⟩ := cells_of (k1.blk (show w.drew.heap[E.bb]? = _ from HBo.out) (fun h => h)); obtain ⟨hm1, hmf1⟩ := cells_of (k1.blk (show w.drew.heap[E.mb]? = _ from HMo.out) (fun h => h)); obtain ⟨hcc1, hcf1⟩ := HC.out w1 ((Kp.refl no w).drew.trans k1)))
  have HK := hide ((Kp.refl no w).drew.trans k1)
  go_end0
  exact ⟨rfl, HE.out w1 HK.out, Kp.setAt HK.out.any HCB.out _ _⟩

/-- The row that the waiting places lie in, as it was loaded, and what keeps it. -/
theorem BSt.waitsAt (h : BSt E g w s) {k : Nat} (hk : k < s.blocks.length) : ∃ wv, w.cell? ⟨g, k * 5 + 4, none⟩ = some wv ∧ RowAt w wv 1 (s.bk k).waits.length ((s.bk k).waits.map fun n => Value.int .i64 ((n : Nat) : Int)) ∧ (∀ b, wv.ownBlock = some b → ¬ CodeB E w b) ∧ ¬ CodeB E w E.mb ∧ ¬ CodeB E w g ∧ ¬ CodeB E w E.bb := by
  obtain ⟨role, sv, cv, kc, bs, h⟩ := h
  obtain ⟨rv, wv, hbs, h1, h2, h3, h4, h5⟩ := h.bk hk
  have key : ∀ b, CodeB E w b → role b = 6 := by
    rintro b ⟨n, c, hb⟩
    rw [(cells_of h.mod).1 3] at hb
    have hb' : cv = .slice (some ⟨b, 0, none⟩) n c := by simpa using hb
    exact h.r6 b (by rw [hb']; rfl)
  refine ⟨wv, h5, RowAt.own (h.waits k _ hbs), fun b hb hc => ?_, fun hc => ?_, fun hc => ?_, fun hc => ?_⟩
  · have := key b hc; rw [h.rw k _ hbs b hb] at this; omega
  · have := key _ hc; rw [h.r2] at this; cases this
  · have := key _ hc; rw [h.r5] at this; cases this
  · have := key _ hc; rw [h.r3] at this; cases this
theorem BSt.nroCode (h : BSt E g w s) {w' : World} (k : Kp (CodeB E w) w w') : Kp (nro E.ro) w w' := by
  obtain ⟨role, sv, cv, kc, bs, h⟩ := h
  refine k.mono (fun b _ hc hr => ?_)
  obtain ⟨n, c, hb⟩ := hc
  rw [(cells_of h.mod).1 3] at hb
  have hb' : cv = .slice (some ⟨b, 0, none⟩) n c := by simpa using hb
  have := h.r6 b (by rw [hb']; rfl)
  rw [h.ro b hr] at this; cases this

theorem aimAll_same (l : List Nat) : ∀ s : Bd, (aimAll l s).stack = s.stack ∧ (aimAll l s).blocks = s.blocks ∧ (aimAll l s).pos = s.pos ∧ (aimAll l s).i = s.i ∧ (aimAll l s).closed = s.closed ∧ (aimAll l s).code.length = s.code.length := by
  induction l with
  | nil => intro s; exact ⟨rfl, rfl, rfl, rfl, rfl, rfl⟩
  | cons a l ih =>
    intro s
    obtain ⟨a1, a2, a3, a4, a5, a6⟩ := ih (aimM s a)
    exact ⟨a1, a2, a3, a4, a5, a6.trans (by simp [aimM])⟩
theorem aimAll_snoc (l : List Nat) (a : Nat) (s : Bd) : aimAll (l ++ [a]) s = aimM (aimAll l s) a := by simp [aimAll]

/-- The stack cut down and the result put on it. -/
theorem endstack_end {role : Nat → Nat} {sv cv : Value} {kc : Nat} {bs : List BkV} (h : BStG E g w s role sv cv kc bs) {n : Nat} (hn : n ≤ s.stack.length) (res : List UInt8) {W w1 : World} {v0 v1 : Value} (hv0 : v0.ownBlock = sv.ownBlock) (kW : Kp no w W) {m : Nat} {xs : List Value} (hm : m = n + res.length)
    (hxs : xs = ((s.stack.take n).map fun c => .int .u8 c.toNat) ++ (res.map fun c => .int .u8 c.toNat))
    (hown1 : w1.ownsRow E.B 5 1 v1 m xs) (hgrow : W.grownBy w1 v0.ownBlock) (hat : v1.ownBlock = v0.ownBlock ∨ v1.ownBlock = some W.heap.size) :
    BSt E g (w1.setCell ⟨E.bb, 4, none⟩ v1) { s with stack := s.stack.take n ++ res } ∧ Kp (nro E.ro) w (w1.setCell ⟨E.bb, 4, none⟩ v1) := by
  subst hm hxs
  rw [hv0] at hgrow hat
  have h' := h.renew 4
  have hm := lt_of_blk h.body
  have k1 : Kp (fun b => (fun r => r = 3 ∨ r = 4) (newRole role w.heap.size 4 b)) w w1 := (kW.any).grown hgrow (fun b hb => .inl (.inr (h'.r4 b hb)))
  have k2 : Kp (fun b => (fun r => r = 3 ∨ r = 4) (newRole role w.heap.size 4 b)) w (w1.setCell ⟨E.bb, 4, none⟩ v1) := k1.setAt (.inl h'.r3) 4 v1
  have hr : ∀ b, v1.ownBlock = some b → newRole role w.heap.size 4 b = 4 := by
    intro b hb
    rcases hat with e | e
    · exact h'.r4 b (e ▸ hb)
    · rw [hb] at e; cases e; exact newRole_new kW.size
  have hbody : w1.heap[E.bb]? = some (bodyObj E g s sv kc) := (hgrow.block E.bb (Nat.lt_of_lt_of_le hm kW.size) (fun e => by have := h.r4 _ e.symm; rw [h.r3] at this; cases this)).trans (kW.blk h.body (fun h => h))
  refine ⟨⟨_, v1, cv, kc, bs, h'.setStack (l := s.stack.take n ++ res) k2 (heap_setCell hbody v1) ?_ hr⟩, h'.nro (X := fun r => r = 3 ∨ r = 4) k2 (by decide)⟩
  have ho : (w1.setCell ⟨E.bb, 4, none⟩ v1).ownsRow E.B 5 1 v1 (n + res.length) (((s.stack.take n).map fun c => .int .u8 c.toNat) ++ (res.map fun c => .int .u8 c.toNat)) :=
    ((Kp.refl (one E.bb) w1).set1 4 v1).own hown1 (fun b hb (e : b = E.bb) => by subst e; have := hr _ hb; rw [h'.r3] at this; cases this)
  have e : (s.stack.take n ++ res).length = n + res.length := by simp; omega
  rw [e]; simpa using ho

/-- The innermost block taken away. -/
theorem pop_end {role : Nat → Nat} {sv cv : Value} {kc : Nat} {bs : List BkV} (h : BStG E g w s role sv cv kc bs) {n : Nat} (hn : n ≤ s.blocks.length) {W : World} (kW : Kp no w W) :
    BSt E g (W.setCell ⟨E.bb, 5, none⟩ (.slice (some ⟨g, 0, none⟩) n kc)) { s with blocks := s.blocks.take n } ∧ Kp (one E.bb) w (W.setCell ⟨E.bb, 5, none⟩ (.slice (some ⟨g, 0, none⟩) n kc)) := by
  have hq := h.quiet kW
  have k2 : Kp (fun b => (fun r => r = 3) (role b)) W (W.setCell ⟨E.bb, 5, none⟩ (.slice (some ⟨g, 0, none⟩) n kc)) := Kp.setAt (S := fun b => (fun r => r = 3) (role b)) (Kp.refl _ W) (b := E.bb) h.r3 _ _
  have hlen : (s.blocks.take n).length = n := by simp; omega
  have hget : ∀ (j : Nat) (x : BkV), (bs.take n)[j]? = some x → bs[j]? = some x := by
    intro j x hx
    rw [List.getElem?_take] at hx
    split at hx
    · exact hx
    · cases hx
  refine ⟨⟨role, sv, cv, kc, bs.take n, ?_⟩, Kp.set1 kW.any _ _⟩
  refine ⟨hq.kEnv (X := fun r => r = 3) k2 (by omega), (hq.kRd (X := fun r => r = 3) k2 (by omega) (by omega) :), ?_, (hq.kMod (X := fun r => r = 3) k2 (by omega) :), (hq.kStack (X := fun r => r = 3) k2 (by omega) :), ?_, (hq.kCode (X := fun r => r = 3) k2 (by omega) :), ?_, ?_, ?_, h.r1, h.r2, h.r3, h.r4, h.r5, h.r6, fun j x hx => h.rw j x (hget j x hx), fun j x hx => hq.kRr (X := fun r => r = 3) k2 j x (hget j x hx), h.ro, hq.kLt (X := fun r => r = 3) k2⟩
  · have := heap_setCell (o := 5) hq.body (.slice (some ⟨g, 0, none⟩) n kc)
    simpa [bodyObj, hlen] using this
  · have ho := hq.kBlocks (X := fun r => r = 3) k2 (by omega)
    obtain ⟨h1, ⟨h2, h3⟩ | ⟨g', cap', cur, hv, hb, hh, hc, hm, hsz, ht⟩⟩ := ho
    · cases h2
    · cases hv
      refine ⟨?_, .inr ⟨g, kc, cur, by simp [hlen], hb, hh, by simp only [hlen]; omega, hm, hsz, ?_⟩⟩
      · rw [flat_take bkLen, List.length_take, h1]; simp only [hlen]; rw [Nat.min_eq_left (Nat.mul_le_mul_right 5 hn)]
      · rw [flat_take bkLen, ← ht, List.take_take]; simp only [hlen]; congr 1; rw [Nat.min_eq_left (Nat.mul_le_mul_right 5 hn)]
  · simp only [h.eq, List.map_take]
  · exact fun j x hx => hq.kWaits (X := fun r => r = 3) k2 j x (hget j x hx) (by omega)
  · exact fun j x hx => hq.kResults (X := fun r => r = 3) k2 (by omega) j x (hget j x hx)
end

end Go.Proofs.YtdeplgkhmebalaaGreatDoor

namespace Go.Proofs.YtdeplgkhmebalaaGreatDoor
open Go.RowKit

section
variable {E : Env} {g N : Nat} {w : World} {s : Bd}

theorem info_block : (Tryz.prog.info? 298).map (fun i => (i.zero, i.size, i.bytes)) = some (some (.agg #[.int .i64 0, .slice none 0 0, .int .i64 0, .int .i64 0, .slice none 0 0]), 5, 72) := by kernel_rfl

/-- One block more. -/
theorem push_end {role : Nat → Nat} {sv cv : Value} {kc : Nat} {bs : List BkV} (h : BStG E g w s role sv cv kc bs) (b : Bk) (hw0 : b.waits = []) {rv : Value} {W w1 : World} (kW : Kp no w W) (hrv : BytesAt W rv b.result) (hrn : ∀ c, rv.ownBlock = some c → E.ro c)
    {g1 kc1 : Nat} {n : Nat} {xs : List Value} (hn : n = s.blocks.length + 1) (hxs : xs = bs.flatMap bkCells ++ bkCells (b, rv, .slice none 0 0))
    (hown1 : w1.ownsRow E.B 298 5 (.slice (some ⟨g1, 0, none⟩) n kc1) n xs) (hgrow : W.grownBy w1 (some g)) (hat : some g1 = some g ∨ some g1 = some W.heap.size) :
    BSt E g1 (w1.setCell ⟨E.bb, 5, none⟩ (.slice (some ⟨g1, 0, none⟩) n kc1)) { s with blocks := s.blocks ++ [b] } ∧ Kp (nro E.ro) w (w1.setCell ⟨E.bb, 5, none⟩ (.slice (some ⟨g1, 0, none⟩) n kc1)) := by
  subst hn hxs
  obtain ⟨role', hro⟩ : ∃ role' : Nat → Nat, role' = newRole role w.heap.size 5 := ⟨_, rfl⟩
  have h' : BStG E g w s role' sv cv kc bs := h.rerole (fun k hk => by rw [hro]; exact newRole_old hk)
  have hlg := own_lt h.blocks rfl
  have hlb := lt_of_blk h.body
  have hnr : ∀ c, rv.ownBlock = some c → role' c = 0 := fun c hc => h'.ro c (hrn c hc)
  have hg1 : role' g1 = 5 := by
    rcases hat with e | e
    · cases e; exact h'.r5
    · cases e
      rw [hro]
      exact newRole_new kW.size
  have k1 : Kp (fun b => (fun r => r = 3 ∨ r = 5) (role' b)) w w1 := (kW.any).grown hgrow (fun b hb => .inl (.inr (by cases hb; exact h'.r5)))
  have k2 : Kp (fun b => (fun r => r = 3 ∨ r = 5) (role' b)) w (w1.setCell ⟨E.bb, 5, none⟩ (.slice (some ⟨g1, 0, none⟩) (s.blocks.length + 1) kc1)) := k1.setAt (.inl h'.r3) 5 _
  have hgb : g ≠ E.bb := fun e => by have := h.r5; rw [e, h.r3] at this; cases this
  have hg1b : g1 ≠ E.bb := fun e => by rw [e, h'.r3] at hg1; cases hg1
  have hbody : w1.heap[E.bb]? = some (bodyObj E g s sv kc) := (hgrow.block E.bb (Nat.lt_of_lt_of_le hlb kW.size) (fun e => by cases e; exact hgb rfl)).trans (kW.blk h.body (fun h => h))
  have hlen : s.blocks.length = bs.length := by rw [h.eq, List.length_map]
  have hget : ∀ (j : Nat) (x : BkV), (bs ++ [(b, rv, Value.slice none 0 0)])[j]? = some x → bs[j]? = some x ∨ x = (b, rv, .slice none 0 0) := by
    intro j x hx
    rcases Nat.lt_or_ge j bs.length with hj | hj
    · rw [List.getElem?_append_left hj] at hx; exact .inl hx
    · rw [List.getElem?_append_right hj] at hx
      rcases Nat.eq_zero_or_pos (j - bs.length) with e | e
      · rw [e] at hx; cases hx; exact .inr rfl
      · rw [List.getElem?_eq_none (by simp; omega)] at hx; cases hx
  have hrF : BytesAt (w1.setCell ⟨E.bb, 5, none⟩ (.slice (some ⟨g1, 0, none⟩) (s.blocks.length + 1) kc1)) rv b.result := by
    have kk : Kp (fun k => k = g ∨ k = E.bb) W (w1.setCell ⟨E.bb, 5, none⟩ (.slice (some ⟨g1, 0, none⟩) (s.blocks.length + 1) kc1)) := ((Kp.refl _ W).grown hgrow (fun k hk => .inl (.inl (by cases hk; rfl)))).setAt (.inr rfl) _ _
    refine hrv.kp kk (fun c hc e => ?_)
    have h1 := hnr c hc
    rcases e with e | e
    · rw [e, h'.r5] at h1; cases h1
    · rw [e, h'.r3] at h1; cases h1
  have ho : (w1.setCell ⟨E.bb, 5, none⟩ (.slice (some ⟨g1, 0, none⟩) (s.blocks.length + 1) kc1)).ownsRow E.B 298 5 (.slice (some ⟨g1, 0, none⟩) (s.blocks.length + 1) kc1) (s.blocks.length + 1) (bs.flatMap bkCells ++ bkCells (b, rv, .slice none 0 0)) :=
    ((Kp.refl (one E.bb) w1).set1 _ _).own hown1 (fun c hc (e : c = E.bb) => by cases hc; exact hg1b e)
  refine ⟨⟨role', sv, cv, kc1, bs ++ [(b, rv, .slice none 0 0)], ?_⟩, h'.nro (X := fun r => r = 3 ∨ r = 5) k2 (by omega)⟩
  refine ⟨h'.kEnv (X := fun r => r = 3 ∨ r = 5) k2 (by omega), (h'.kRd (X := fun r => r = 3 ∨ r = 5) k2 (by omega) (by omega) :), ?_, (h'.kMod (X := fun r => r = 3 ∨ r = 5) k2 (by omega) :), (h'.kStack (X := fun r => r = 3 ∨ r = 5) k2 (by omega) :), ?_, (h'.kCode (X := fun r => r = 3 ∨ r = 5) k2 (by omega) :), ?_, ?_, ?_, h'.r1, h'.r2, h'.r3, h'.r4, hg1, h'.r6, ?_, ?_, h'.ro, h'.kLt (X := fun r => r = 3 ∨ r = 5) k2⟩
  · have := heap_setCell (o := 5) hbody (.slice (some ⟨g1, 0, none⟩) (s.blocks.length + 1) kc1)
    simpa [bodyObj] using this
  · simpa [List.flatMap_append] using ho
  · simp [h.eq]
  · intro j x hx
    rcases hget j x hx with hx | rfl
    · exact h'.kWaits (X := fun r => r = 3 ∨ r = 5) k2 j x hx (by omega)
    · simp only [hw0]; exact World.ownsRow_nil _ _ _ _
  · intro j x hx
    rcases hget j x hx with hx | rfl
    · exact h'.kResults (X := fun r => r = 3 ∨ r = 5) k2 (by omega) j x hx
    · exact hrF
  · intro j x hx
    rcases hget j x hx with hx | rfl
    · exact h'.rw j x hx
    · intro c hc; cases hc
  · intro j x hx
    rcases hget j x hx with hx | rfl
    · exact h'.kRr (X := fun r => r = 3 ∨ r = 5) k2 j x hx
    · intro c hc
      exact ⟨hnr c hc, Nat.lt_of_lt_of_le (h.lt c (hrn c hc)) k2.size⟩
theorem BSt.push (h : BSt E g w s) : ∃ sv kc xs, w.heap[E.bb]? = some (bodyObj E g s sv kc) ∧ (∃ ad cap, sv = .slice ad s.stack.length cap) ∧ some E.bb ≠ some g ∧ (∀ W, Kp no w W → W.ownsRow E.B 298 5 (.slice (some ⟨g, 0, none⟩) s.blocks.length kc) s.blocks.length xs) ∧
    ∀ (b : Bk) rv W w1 g1 kc1 n ys, b.waits = [] → Kp no w W → BytesAt W rv b.result → (∀ c, rv.ownBlock = some c → E.ro c) → n = s.blocks.length + 1 → ys = xs ++ bkCells (b, rv, .slice none 0 0) → w1.ownsRow E.B 298 5 (.slice (some ⟨g1, 0, none⟩) n kc1) n ys → W.grownBy w1 (some g) → (some g1 = some g ∨ some g1 = some W.heap.size) →
      BSt E g1 (w1.setCell ⟨E.bb, 5, none⟩ (.slice (some ⟨g1, 0, none⟩) n kc1)) { s with blocks := s.blocks ++ [b] } ∧ Kp (nro E.ro) w (w1.setCell ⟨E.bb, 5, none⟩ (.slice (some ⟨g1, 0, none⟩) n kc1)) := by
  obtain ⟨role, sv, cv, kc, bs, h⟩ := h
  refine ⟨sv, kc, bs.flatMap bkCells, h.body, own_shape h.stack, fun e => ?_, fun W k => k.own h.blocks (fun _ _ h => h), fun b rv W w1 g1 kc1 n ys h0 kW h1 h2 h3 h4 h5 h6 h7 => push_end h b h0 kW h1 h2 h3 h4 h5 h6 h7⟩
  have := h.r5; cases e; rw [h.r3] at this; cases this

end

end Go.Proofs.YtdeplgkhmebalaaGreatDoor

namespace Go.Proofs.YtdeplgkhmebalaaGreatDoor
open Go.RowKit

section
variable {E : Env} {g N : Nat} {w : World} {s : Bd}

set_option maxRecDepth 100000 in
set_option maxHeartbeats 3000000 in
theorem global_any (h : BSt E g w s) (z : Sz N s) (hN : N ≤ 500000) (hne : s.blocks ≠ []) (op : UInt8) (hop : op = 35 ∨ op = 36) : Calls Tryz.prog 264 #[ptrTo E.bb, .int .u8 op.toNat] w fun r w' => Done E w w' (globalM E.c op s) r ∧ Kp (nro E.ro) w w' := by
  have hM : globalM E.c op s = (match belowM E.c.D E.c.gl.length s.i with
    | .error e => .error e
    | .ok (n, j) =>
      if op = 36 then
        if (E.c.gl.getD n (0, false)).2 then
          match takeM { s with i := j } (E.c.gl.getD n (0, false)).1 with
          | none => wrongM s
          | some s1 => .ok (emitM s1 ⟨op, n, 0, 0, 0⟩)
        else wrongM s
      else .ok (putM (emitM { s with i := j } ⟨op, n, 0, 0, 0⟩) [(E.c.gl.getD n (0, false)).1])) := rfl
  generalize globalM E.c op s = R at *
  have hst := z.st
  have hcd := z.cd
  have hen := h.env
  have hng := hen.ng
  obtain ⟨gad, gcap, hgv, hgc, -⟩ := hen.gl
  have hbe := fun W (k : Kp no w W) => below_any (h.quiet k).rd E.c.gl.length (by omega) (by omega)
  have hlt := fun n j => below_lt (D := E.c.D) (lim := (E.c.gl.length : Int)) (i := s.i) (n := n) (j := j)
  generalize belowM E.c.D E.c.gl.length s.i = Q at *
  have H := hide h
  obtain ⟨sv, kc, hbo, -⟩ := h.bodyAt
  obtain ⟨cv, hmo, hnb, hnm, hmb⟩ := h.modAt
  simp only [bodyObj] at hbo
  rw [hgv] at hbo
  obtain ⟨hc, hf⟩ := cells_of hbo
  obtain ⟨hm, hmf⟩ := cells_of hmo
  have HBo := hide hbo
  have HMo := hide hmo
  have HB := hide hbe
  have HGV := hide hgv
  have q35 : ((op.toNat : Int) == 35) = (op == 35) := u8_eq op 35
  have q36 : ((op.toNat : Int) == 36) = (op == 36) := u8_eq op 36
  clear h hbe hbo hmo hgv hen
  match Q, hM, HB, hlt with
  | .error e, hM, HB, _ =>
    clear hop q35 q36
    have HM := hide hM
    clear hM
    go_enter Tryz.func264, Tryz.ntmps264
    go_wp2_with fail
    go_region_held3 (fun w' => w'.cell? ⟨E.bb, 0, none⟩ = some (ptrTo E.rb) ∧ w'.cell? ⟨E.bb, 2, none⟩ = some (.slice gad E.c.gl.length gcap)) (go_keep) (first | (go_at_call 105; refine (HB.out w.drew ((Kp.refl no w).drew)).mono ?_; rintro e w1 ⟨⟨fv, j, rfl, ⟨fb, rfl, hfb, hfo⟩, h1⟩, k1⟩; obtain ⟨hc1, hf1⟩ := cells_of (k1.blk (show w.drew.heap[E.bb]? = _ from HBo.out) hnb); obtain ⟨hm1, hmf1⟩ := cells_of (k1.blk (show w.drew.heap[E.mb]? = _ from HMo.out) hnm)))
    have HF := hide hfo
    clear hfo h1
    go_wp2
    go_ret
    rw [HM.out]
    exact ⟨⟨ptrTo fb, rfl, fb, rfl, hfb, HF.out⟩, H.out.nroRb ((Kp.refl (one E.rb) w).drew.trans k1)⟩
  | .ok (n, j), hM, HB, hlt =>
    have hn := (hlt n j rfl).1
    clear hlt
    simp only at hM
    have hcell : ∀ W, E.Ok W → ∃ a o, gad = some ⟨a, o, none⟩ ∧ W.cell? ⟨a, o + n * 2, none⟩ = some (.int .u8 (E.c.gl.getD n (0, false)).1.toNat) ∧ W.cell? ⟨a, o + n * 2 + 1, none⟩ = some (.bool (E.c.gl.getD n (0, false)).2) := by
      intro W hW
      obtain ⟨ad, cap, hv, _, hce⟩ := hW.gl
      obtain ⟨a, o, h1, -, h2, h3⟩ := hce n (by omega)
      rw [HGV.out] at hv
      simp only [Value.slice.injEq] at hv
      exact ⟨a, o, hv.1.trans h1, h2, h3⟩
    have HCe := hide hcell
    clear hcell
    have z0 : Sz N { s with i := j } := z.read j s.pos s.closed
    generalize E.c.gl.getD n (0, false) = gg at *
    obtain ⟨t, st⟩ := gg
    simp only at hM HCe
    obtain ⟨a0, o0, had, hp0, hr0⟩ := HCe.out w H.out.env
    subst had
    rcases hop with hop | hop
    · have b35 : (op == 35) = true := by rw [hop]; rfl
      have b36 : (op == 36) = false := by rw [hop]; rfl
      have e36 : op ≠ 36 := by rw [hop]; decide
      rw [if_neg e36] at hM
      rw [b35] at q35
      rw [b36] at q36
      have HM := hide hM
      clear hM hop b35 b36 e36
      go_enter Tryz.func264, Tryz.ntmps264
      go_wp2_with fail
      go_region_held3 (fun w' => w'.cell? ⟨E.bb, 0, none⟩ = some (ptrTo E.rb) ∧ w'.cell? ⟨E.bb, 2, none⟩ = some (.slice (some ⟨a0, o0, none⟩) E.c.gl.length gcap)) (go_keep) (first | (go_at_call 105; refine (HB.out w.drew ((Kp.refl no w).drew)).mono ?_; rintro e w1 ⟨⟨v, rfl, rfl, h1⟩, k1⟩; obtain ⟨hc1, hf1⟩ := cells_of (k1.blk (show w.drew.heap[E.bb]? = _ from HBo.out) hnb); obtain ⟨hm1, hmf1⟩ := cells_of (k1.blk (show w.drew.heap[E.mb]? = _ from HMo.out) hnm)))
      have HK1 := hide ((Kp.refl (one E.rb) w).drew.trans k1)
      have H1 := hide (H.out.read HK1.out h1)
      clear h1 k1
      obtain ⟨a1, o1, had, hp1, hr1⟩ := HCe.out w1 H1.out.env
      cases had
      have HG := hide (H1.out.guard ((Kp.refl no w1).alloc (.cells #[.int .u8 t.toNat, .bool st] 256)) (one w1.heap.size) (fun b (hb : b = _) => by subst hb; simp))
      have HE := hide (emit_any HG.out ⟨op, n, 0, 0, 0⟩ (by simp only; omega))
      clear hc hf hm hmf hp0 hr0
      go_wp2_with fail
      refine HE.out.mono ?_
      rintro e w4 ⟨rfl, h4, k4⟩
      obtain ⟨htc, htf⟩ := cells_of (k4.blk (heap_alloc_new w1 (.cells #[.int .u8 t.toNat, .bool st] 256)) (fun hn => hn (.inr rfl)))
      have HP := hide (put_any (h4.quiet ((Kp.refl no w4).alloc (.cells #[.int .u8 t.toNat] 5))) (one_byte w4 t) (by simp only; omega) (by simp))
      have HK4 := hide (Kp.trans (Kp.alloc (Kp.refl (nro (E.plus (one w1.heap.size)).ro) w1) (.cells #[.int .u8 t.toNat, .bool st] 256)) k4)
      clear h4 k4
      go_wp2_with fail
      refine HP.out.mono ?_
      rintro e w5 ⟨rfl, h5, k5⟩
      have HK5 := hide ((HK4.out.alloc _).trans k5)
      have H5 := hide (h5.unguard (H1.out.env.kp HK5.out.unguard))
      clear h5 k5
      go_wp2
      go_ret
      rw [HM.out]
      exact ⟨⟨rfl, g, H5.out⟩, (H.out.nroRb HK1.out).trans HK5.out.unguard⟩
    · have b35 : (op == 35) = false := by rw [hop]; rfl
      have b36 : (op == 36) = true := by rw [hop]; rfl
      rw [if_pos hop] at hM
      rw [b35] at q35
      rw [b36] at q36
      clear hop b35 b36
      cases st
      · have hM2 : R = wrongM s := hM
        have HM := hide hM2
        clear hM hM2
        go_enter Tryz.func264, Tryz.ntmps264
        go_wp2_with fail
        go_region_held3 (fun w' => w'.cell? ⟨E.bb, 0, none⟩ = some (ptrTo E.rb) ∧ w'.cell? ⟨E.bb, 2, none⟩ = some (.slice (some ⟨a0, o0, none⟩) E.c.gl.length gcap)) (go_keep) (first | (go_at_call 105; refine (HB.out w.drew ((Kp.refl no w).drew)).mono ?_; rintro e w1 ⟨⟨v, rfl, rfl, h1⟩, k1⟩; obtain ⟨hc1, hf1⟩ := cells_of (k1.blk (show w.drew.heap[E.bb]? = _ from HBo.out) hnb); obtain ⟨hm1, hmf1⟩ := cells_of (k1.blk (show w.drew.heap[E.mb]? = _ from HMo.out) hnm)))
        have HK1 := hide ((Kp.refl (one E.rb) w).drew.trans k1)
        have H1 := hide (H.out.read HK1.out h1)
        clear h1 k1
        obtain ⟨a1, o1, had, hp1, hr1⟩ := HCe.out w1 H1.out.env
        cases had
        have HW := hide (wrong_any (H1.out.quiet ((Kp.refl no w1).alloc (.cells #[.int .u8 t.toNat, .bool false] 256))))
        have HK := hide ((H.out.nroRb HK1.out).alloc (.cells #[.int .u8 t.toNat, .bool false] 256))
        clear hc hf hm hmf hp0 hr0
        go_wp2_with fail
        refine HW.out.mono ?_
        rintro e w8 ⟨⟨fv, rfl, fb, rfl, hfb, hfo⟩, k8⟩
        have HF := hide hfo
        clear hfo
        go_wp2
        go_ret
        rw [HM.out]
        exact ⟨⟨ptrTo fb, rfl, fb, rfl, by have := HK.out.size; omega, HF.out⟩, HK.out.trans k8.any⟩
      · have hM2 : R = (match takeM { s with i := j } t with | none => wrongM s | some s1 => .ok (emitM s1 ⟨op, n, 0, 0, 0⟩)) := hM
        clear hM
        have hta := fun W (h1 : BSt E g W { s with i := j }) => take_any' h1 hne z.bl (by simp only; omega) t
        have hzz : ∀ s2, takeM { s with i := j } t = some s2 → Sz N s2 ∧ Sunk { s with i := j } s2 := fun s2 h2 => ⟨take_sz z0 h2, take_sunk h2⟩
        generalize takeM { s with i := j } t = Q2 at *
        have HT := hide hta
        clear hta
        match Q2, hM2, HT, hzz with
        | none, hM2, HT, _ =>
          have HM := hide hM2
          clear hM2
          go_enter Tryz.func264, Tryz.ntmps264
          go_wp2_with fail
          go_region_held3 (fun w' => w'.cell? ⟨E.bb, 0, none⟩ = some (ptrTo E.rb) ∧ w'.cell? ⟨E.bb, 2, none⟩ = some (.slice (some ⟨a0, o0, none⟩) E.c.gl.length gcap)) (go_keep) (first | (go_at_call 105; refine (HB.out w.drew ((Kp.refl no w).drew)).mono ?_; rintro e w1 ⟨⟨v, rfl, rfl, h1⟩, k1⟩; obtain ⟨hc1, hf1⟩ := cells_of (k1.blk (show w.drew.heap[E.bb]? = _ from HBo.out) hnb); obtain ⟨hm1, hmf1⟩ := cells_of (k1.blk (show w.drew.heap[E.mb]? = _ from HMo.out) hnm)))
          have HK1 := hide ((Kp.refl (one E.rb) w).drew.trans k1)
          have H1 := hide (H.out.read HK1.out h1)
          clear h1 k1
          obtain ⟨a1, o1, had, hp1, hr1⟩ := HCe.out w1 H1.out.env
          cases had
          have H2 := hide (H1.out.quiet ((Kp.refl no w1).alloc (.cells #[.int .u8 t.toNat, .bool true] 256)))
          have HT1 := hide (HT.out _ H2.out)
          clear hc hf hm hmf hp0 hr0
          go_wp2_with fail
          refine HT1.out.mono ?_
          rintro r w2 ⟨⟨rfl, s2, h1, hs2⟩, k2⟩
          have hp : s2.pos = s.pos := hs2.pos
          have HK := hide (((H.out.nroRb HK1.out).alloc _).trans (H2.out.nroBb k2))
          clear hs2
          have HP := hide hp
          have HW := hide (wrong_any h1)
          clear h1 hp
          go_wp2_with fail
          refine HW.out.mono ?_
          rintro e w8 ⟨⟨fv, rfl, fb, rfl, hfb, hfo⟩, k8⟩
          have HF := hide hfo
          clear hfo
          go_wp2
          go_ret
          rw [HM.out]
          exact ⟨⟨ptrTo fb, rfl, fb, rfl, by have := HK.out.size; omega, by rw [← HP.out]; exact HF.out⟩, HK.out.trans k8.any⟩
        | some s1, hM2, HT, hzz =>
          have HM := hide hM2
          have HZ := hide (hzz s1 rfl)
          have hz2 := HZ.out.1.cd
          clear hM2 hzz
          go_enter Tryz.func264, Tryz.ntmps264
          go_wp2_with fail
          go_region_held3 (fun w' => w'.cell? ⟨E.bb, 0, none⟩ = some (ptrTo E.rb) ∧ w'.cell? ⟨E.bb, 2, none⟩ = some (.slice (some ⟨a0, o0, none⟩) E.c.gl.length gcap)) (go_keep) (first | (go_at_call 105; refine (HB.out w.drew ((Kp.refl no w).drew)).mono ?_; rintro e w1 ⟨⟨v, rfl, rfl, h1⟩, k1⟩; obtain ⟨hc1, hf1⟩ := cells_of (k1.blk (show w.drew.heap[E.bb]? = _ from HBo.out) hnb); obtain ⟨hm1, hmf1⟩ := cells_of (k1.blk (show w.drew.heap[E.mb]? = _ from HMo.out) hnm)))
          have HK1 := hide ((Kp.refl (one E.rb) w).drew.trans k1)
          have H1 := hide (H.out.read HK1.out h1)
          clear h1 k1
          obtain ⟨a1, o1, had, hp1, hr1⟩ := HCe.out w1 H1.out.env
          cases had
          have H2 := hide (H1.out.quiet ((Kp.refl no w1).alloc (.cells #[.int .u8 t.toNat, .bool true] 256)))
          have HT1 := hide (HT.out _ H2.out)
          clear hc hf hm hmf hp0 hr0
          go_wp2_with fail
          refine HT1.out.mono ?_
          rintro r w2 ⟨⟨rfl, h2⟩, k2⟩
          have HE := hide (emit_any h2 ⟨op, n, 0, 0, 0⟩ (by omega))
          have HK2 := hide (((H.out.nroRb HK1.out).alloc _).trans (H2.out.nroBb k2))
          clear h2
          go_wp2_with fail
          refine HE.out.mono ?_
          rintro e w3 ⟨rfl, h3, k3⟩
          have H3 := hide h3
          have HK3 := hide (HK2.out.trans k3)
          clear h3 k3
          go_wp2
          go_ret
          rw [HM.out]
          exact ⟨⟨rfl, g, H3.out⟩, HK3.out⟩
end

end Go.Proofs.YtdeplgkhmebalaaGreatDoor
