/- Whatever is accepted is tame: what is known of the stack at each place of the flat list. -/
import Derived.Test.YtdeplgkhmebalaaGreatDoorP23
import Derived.Test.YtdeplgkhmebalaaGreatDoorP24

namespace Go.Proofs.YtdeplgkhmebalaaGreatDoor
open Go.RowKit
structure Pt where
  lo : List UInt8
  res : List UInt8
  st : List UInt8
  dp : Nat
abbrev Typing := Nat → Option Pt
def Goes (T : Typing) (p : Pt) (q : Nat) (st : List UInt8) : Prop := ∃ d, T q = some ⟨p.lo, p.res, st, d⟩
def Jumps (T : Typing) (p : Pt) (st : List UInt8) (x : Ins) : Prop :=
  x.height + x.keep ≤ st.length ∧ ∃ d, T x.goal = some ⟨p.lo, p.res, st.take x.height ++ st.drop (st.length - x.keep), d⟩ ∧ (x.op = 5 → d < p.dp)
inductive InsOk (fs : List Ty) (gl : List (UInt8 × Bool)) (T : Typing) (code : List Ins) (q : Nat) (p : Pt) (x : Ins) : Prop
  | stop (h : x.op = 0)
  | into (h : x.op = 2 ∨ x.op = 3) (g : Goes T p (q + 1) p.st)
  | cond4 (st : List UInt8) (h : x.op = 4) (e : p.st = st ++ [127]) (g : Goes T p (q + 1) st) (j : Jumps T p st x)
  | jump (h : x.op = 5 ∨ x.op = 12) (j : Jumps T p p.st x)
  | leave (h : x.op = 11) (e : p.st = p.res)
  | cond (st : List UInt8) (h : x.op = 13) (e : p.st = st ++ [127]) (g : Goes T p (q + 1) st) (j : Jumps T p st x)
  | table (st : List UInt8) (h : x.op = 14) (e : p.st = st ++ [127]) (g : ∀ k, k ≤ x.num → Goes T p (q + 1 + k) st ∧ q + 1 + k < code.length ∧ (code.getD (q + 1 + k) ins0).op = 12)
  | call (st : List UInt8) (h : x.op = 16) (hn : x.num < fs.length) (e : p.st = st ++ (fs.getD x.num ([], [])).1) (g : Goes T p (q + 1) (st ++ (fs.getD x.num ([], [])).2))
  | drop (st : List UInt8) (t : UInt8) (h : x.op = 26) (e : p.st = st ++ [t]) (g : Goes T p (q + 1) st)
  | choose (st : List UInt8) (t : UInt8) (h : x.op = 27) (e : p.st = st ++ [t] ++ [t] ++ [127]) (g : Goes T p (q + 1) (st ++ [t]))
  | getL (h : x.op = 32) (hn : x.num < p.lo.length) (g : Goes T p (q + 1) (p.st ++ [p.lo.getD x.num 0]))
  | setL (st : List UInt8) (h : x.op = 33) (hn : x.num < p.lo.length) (e : p.st = st ++ [p.lo.getD x.num 0]) (g : Goes T p (q + 1) st)
  | teeL (st : List UInt8) (h : x.op = 34) (hn : x.num < p.lo.length) (e : p.st = st ++ [p.lo.getD x.num 0]) (g : Goes T p (q + 1) (st ++ [p.lo.getD x.num 0]))
  | getG (h : x.op = 35) (hn : x.num < gl.length) (g : Goes T p (q + 1) (p.st ++ [(gl.getD x.num (0, false)).1]))
  | setG (st : List UInt8) (h : x.op = 36) (hn : x.num < gl.length) (e : p.st = st ++ [(gl.getD x.num (0, false)).1]) (g : Goes T p (q + 1) st)
  | plain (r : RowT) (st : List UInt8) (hr : findM x.op = some r) (h4 : r.behind ≠ 4) (e : p.st = st ++ r.takes) (g : Goes T p (q + 1) (st ++ r.gives)) (hn : x.num < 18446744073709551616) (hn' : r.behind ≠ 3 → x.num < 4294967296)
def TLe (T T' : Typing) : Prop := ∀ q p, T q = some p → ∃ d, d ≤ p.dp ∧ T' q = some ⟨p.lo, p.res, p.st, d⟩
def CodeLe (a b : List Ins) : Prop := a.length ≤ b.length ∧ ∀ q, q < a.length → (b.getD q ins0).op = (a.getD q ins0).op ∧ (b.getD q ins0).num = (a.getD q ins0).num ∧ (b.getD q ins0).height = (a.getD q ins0).height ∧ (b.getD q ins0).keep = (a.getD q ins0).keep
theorem CodeLe.refl (a : List Ins) : CodeLe a a := ⟨Nat.le_refl _, fun _ _ => ⟨rfl, rfl, rfl, rfl⟩⟩
theorem CodeLe.trans {a b c : List Ins} (h : CodeLe a b) (k : CodeLe b c) : CodeLe a c :=
  ⟨Nat.le_trans h.1 k.1, fun q hq => by
    have h1 := h.2 q hq
    have h2 := k.2 q (Nat.lt_of_lt_of_le hq h.1)
    exact ⟨h2.1.trans h1.1, h2.2.1.trans h1.2.1, h2.2.2.1.trans h1.2.2.1, h2.2.2.2.trans h1.2.2.2⟩⟩
theorem gd_left {l r : List Ins} {q : Nat} (h : q < l.length) : (l ++ r).getD q ins0 = l.getD q ins0 := by
  rw [List.getD_eq_getElem?_getD, List.getD_eq_getElem?_getD, List.getElem?_append_left h]
theorem gd_new (l : List Ins) (x : Ins) : (l ++ [x]).getD l.length ins0 = x := by simp
theorem CodeLe.app (a : List Ins) (r : List Ins) : CodeLe a (a ++ r) := ⟨by simp, fun q hq => by rw [gd_left hq]; exact ⟨rfl, rfl, rfl, rfl⟩⟩
theorem gd_set {l : List Ins} {n q : Nat} {y : Ins} : (l.set n y).getD q ins0 = if n = q ∧ q < l.length then y else l.getD q ins0 := by
  rw [List.getD_eq_getElem?_getD, List.getD_eq_getElem?_getD, List.getElem?_set]
  by_cases h : n = q
  · subst h
    by_cases hl : n < l.length
    · simp [hl]
    · simp [hl]
  · simp [h]
theorem aim_len (s : Bd) (n : Nat) : (aimM s n).code.length = s.code.length := by simp [aimM]
theorem aim_at (s : Bd) (n : Nat) {q : Nat} (hq : q < s.code.length) : (aimM s n).code.getD q ins0 = if n = q then { s.code.getD q ins0 with goal := s.code.length } else s.code.getD q ins0 := by
  show ((s.code.set n { s.code.getD n ⟨0, 0, 0, 0, 0⟩ with goal := s.code.length }).getD q ins0) = _
  rw [gd_set]
  by_cases h : n = q
  · rw [if_pos ⟨h, hq⟩, if_pos h, h]; rfl
  · rw [if_neg (fun e => h e.1), if_neg h]
theorem CodeLe.aim (s : Bd) (n : Nat) : CodeLe s.code (aimM s n).code := by
  refine ⟨Nat.le_of_eq (aim_len s n).symm, fun q hq => ?_⟩
  rw [aim_at s n hq]
  split <;> exact ⟨rfl, rfl, rfl, rfl⟩
theorem aims_same (l : List Nat) : ∀ s : Bd, (aimAll l s).code.length = s.code.length ∧ (aimAll l s).stack = s.stack ∧ (aimAll l s).blocks = s.blocks ∧ (aimAll l s).i = s.i ∧ (aimAll l s).pos = s.pos ∧ (aimAll l s).closed = s.closed ∧ CodeLe s.code (aimAll l s).code ∧
    ∀ q, q < s.code.length → (aimAll l s).code.getD q ins0 = if q ∈ l then { s.code.getD q ins0 with goal := s.code.length } else s.code.getD q ins0 := by
  induction l with
  | nil => intro s; exact ⟨rfl, rfl, rfl, rfl, rfl, rfl, CodeLe.refl _, fun q _ => by simp [aimAll]⟩
  | cons a l ih =>
    intro s
    have e : aimAll (a :: l) s = aimAll l (aimM s a) := rfl
    obtain ⟨h1, h2, h3, h4, h5, h6, h7, h8⟩ := ih (aimM s a)
    rw [e]
    have hl := aim_len s a
    refine ⟨h1.trans hl, h2, h3, h4, h5, h6, (CodeLe.aim s a).trans h7, fun q hq => ?_⟩
    rw [h8 q (by rw [hl]; exact hq), aim_at s a hq, hl]
    by_cases hm : q ∈ l
    · rw [if_pos hm, if_pos (List.mem_cons_of_mem _ hm)]
      split <;> rfl
    · rw [if_neg hm]
      by_cases ha : a = q
      · subst ha; rw [if_pos rfl, if_pos List.mem_cons_self]
      · rw [if_neg ha, if_neg (by simp only [List.mem_cons, not_or]; exact ⟨fun h => ha h.symm, hm⟩)]
theorem Goes.mono {T T' : Typing} (h : TLe T T') {p : Pt} {q : Nat} {st : List UInt8} (g : Goes T p q st) : Goes T' p q st := by
  obtain ⟨d, hd⟩ := g
  obtain ⟨d', -, h'⟩ := h _ _ hd
  exact ⟨d', h'⟩
theorem Jumps.mono {T T' : Typing} (h : TLe T T') {p : Pt} {st : List UInt8} {x : Ins} (g : Jumps T p st x) : Jumps T' p st x := by
  obtain ⟨h1, d, hd, h5⟩ := g
  obtain ⟨d', hle, h'⟩ := h _ _ hd
  exact ⟨h1, d', h', fun e => Nat.lt_of_le_of_lt hle (h5 e)⟩
theorem InsOk.mono {fs : List Ty} {gl : List (UInt8 × Bool)} {T T' : Typing} (h : TLe T T') {code code' : List Ins} (hc : CodeLe code code') {q : Nat} {p : Pt} {x : Ins} (g : InsOk fs gl T code q p x) : InsOk fs gl T' code' q p x := by
  cases g with
  | stop h0 => exact .stop h0
  | into h0 g => exact .into h0 (g.mono h)
  | cond4 st h0 e g j => exact .cond4 st h0 e (g.mono h) (j.mono h)
  | jump h0 j => exact .jump h0 (j.mono h)
  | leave h0 e => exact .leave h0 e
  | cond st h0 e g j => exact .cond st h0 e (g.mono h) (j.mono h)
  | table st h0 e g => exact .table st h0 e (fun k hk => ⟨(g k hk).1.mono h, Nat.lt_of_lt_of_le (g k hk).2.1 hc.1, ((hc.2 _ (g k hk).2.1).1).trans (g k hk).2.2⟩)
  | call st h0 hn e g => exact .call st h0 hn e (g.mono h)
  | drop st t h0 e g => exact .drop st t h0 e (g.mono h)
  | choose st t h0 e g => exact .choose st t h0 e (g.mono h)
  | getL h0 hn g => exact .getL h0 hn (g.mono h)
  | setL st h0 hn e g => exact .setL st h0 hn e (g.mono h)
  | teeL st h0 hn e g => exact .teeL st h0 hn e (g.mono h)
  | getG h0 hn g => exact .getG h0 hn (g.mono h)
  | setG st h0 hn e g => exact .setG st h0 hn e (g.mono h)
  | plain r st hr h4 e g hn hn' => exact .plain r st hr h4 e (g.mono h) hn hn'
structure Pend (T : Typing) (lo res : List UInt8) (code : List Ins) (pre : List UInt8) (k : Nat) (b : Bk) (q : Nat) : Prop where
  lt : q < code.length
  ht : (code.getD q ins0).height = b.height
  kp : (code.getD q ins0).keep = b.result.length
  ex : T q = none ∨ ∃ d st, (((code.getD q ins0).op = 5 ∨ (code.getD q ins0).op = 12) ∧ T q = some ⟨lo, res, st, d⟩ ∧ ((code.getD q ins0).op = 5 → k < d) ∨ (code.getD q ins0).op = 13 ∧ T q = some ⟨lo, res, st ++ [127], d⟩ ∧ ∃ d', T (q + 1) = some ⟨lo, res, st, d'⟩) ∧
    b.height + b.result.length ≤ st.length ∧ st.take b.height = pre ∧ st.drop (st.length - b.result.length) = b.result
theorem Pend.of {T : Typing} {lo res : List UInt8} {code : List Ins} {pre : List UInt8} {k : Nat} {b : Bk} {q : Nat} {y : Ins} (hy : code.getD q ins0 = y) (lt : q < code.length) (ht : y.height = b.height) (kp : y.keep = b.result.length)
    (ex : T q = none ∨ ∃ d st, ((y.op = 5 ∨ y.op = 12) ∧ T q = some ⟨lo, res, st, d⟩ ∧ (y.op = 5 → k < d) ∨ y.op = 13 ∧ T q = some ⟨lo, res, st ++ [127], d⟩ ∧ ∃ d', T (q + 1) = some ⟨lo, res, st, d'⟩) ∧
      b.height + b.result.length ≤ st.length ∧ st.take b.height = pre ∧ st.drop (st.length - b.result.length) = b.result) : Pend T lo res code pre k b q := by
  subst hy; exact ⟨lt, ht, kp, ex⟩
structure BlkOk (T : Typing) (lo res : List UInt8) (code : List Ins) (pre : List UInt8) (k : Nat) (b : Bk) : Prop where
  w : ∀ q ∈ b.waits, b.kind ≠ 2 ∧ Pend T lo res code pre k b q
  i : b.kind = 3 → ∃ q d d', b.start = q + 1 ∧ q < code.length ∧ (code.getD q ins0).op = 4 ∧ (code.getD q ins0).height = b.height ∧ (code.getD q ins0).keep = 0 ∧ T q = some ⟨lo, res, pre ++ [127], d⟩ ∧ T (q + 1) = some ⟨lo, res, pre, d'⟩
  l : b.kind = 2 → ∃ d, T b.start = some ⟨lo, res, pre, d⟩
  z : b.kind = 0 ↔ k = 0
  r : k = 0 → b.result = res ∧ b.height = 0
theorem Pend.mono {T T' : Typing} (h : TLe T T') {code code' : List Ins} (hc : CodeLe code code') (he : ∀ q, q < code.length → T' q = T q) {lo res pre : List UInt8} {k : Nat} {b : Bk} {q : Nat} (g : Pend T lo res code pre k b q) : Pend T' lo res code' pre k b q := by
  obtain ⟨h1, h2, h3, h0⟩ := g
  obtain ⟨c1, c2, c3, c4⟩ := hc.2 q h1
  refine ⟨Nat.lt_of_lt_of_le h1 hc.1, c3.trans h2, c4.trans h3, ?_⟩
  rw [c1, he q h1]
  rcases h0 with h0 | ⟨d, st, h4, h5⟩
  · exact .inl h0
  · refine .inr ⟨d, st, ?_, h5⟩
    rcases h4 with h4 | ⟨h4, h6, d', h7⟩
    · exact .inl h4
    · obtain ⟨d2, -, h8⟩ := h _ _ h7
      exact .inr ⟨h4, h6, d2, h8⟩
theorem Pend.like {T : Typing} {code : List Ins} {lo res pre : List UInt8} {k : Nat} {b b' : Bk} {q : Nat} (g : Pend T lo res code pre k b q) (hh : b'.height = b.height) (hr : b'.result = b.result) : Pend T lo res code pre k b' q :=
  ⟨g.lt, g.ht.trans hh.symm, by rw [g.kp, hr], by rw [hh, hr]; exact g.ex⟩
theorem BlkOk.mono {T T' : Typing} (h : TLe T T') {code code' : List Ins} (hc : CodeLe code code') (he : ∀ q, q < code.length → T' q = T q) {lo res pre : List UInt8} {k : Nat} {b : Bk} (g : BlkOk T lo res code pre k b) : BlkOk T' lo res code' pre k b := by
  refine ⟨fun q hq => ⟨(g.w q hq).1, (g.w q hq).2.mono h hc he⟩, fun hk => ?_, fun hk => ?_, g.z, g.r⟩
  · obtain ⟨q, d, d', h1, h2, h3, h4, h5, h6, h7⟩ := g.i hk
    obtain ⟨c1, c2, c3, c4⟩ := hc.2 q h2
    obtain ⟨d2, -, h8⟩ := h _ _ h7
    exact ⟨q, d, d2, h1, Nat.lt_of_lt_of_le h2 hc.1, c1.trans h3, c3.trans h4, c4.trans h5, (he q h2).trans h6, h8⟩
  · obtain ⟨d, h1⟩ := g.l hk
    obtain ⟨d2, -, h8⟩ := h _ _ h1
    exact ⟨d2, h8⟩
def curPt (lo res : List UInt8) (s : Bd) : Option Pt := if s.closed = true ∨ s.blocks.length = 0 then none else some ⟨lo, res, s.stack, s.blocks.length⟩
structure TInv (fs : List Ty) (gl : List (UInt8 × Bool)) (lo res : List UInt8) (M : Nat) (X : Nat → Prop) (T : Typing) (s : Bd) : Prop where
  ins : ∀ q p, q < s.code.length → T q = some p → X q ∨ (∃ k, k < s.blocks.length ∧ (q ∈ (s.bk k).waits ∨ ((s.bk k).kind = 3 ∧ (s.bk k).start = q + 1))) ∨ InsOk fs gl T s.code q p (s.code.getD q ins0)
  cur : T s.code.length = curPt lo res s
  far : ∀ q, s.code.length < q → T q = none
  blk : ∀ k, k < s.blocks.length → BlkOk T lo res s.code (s.stack.take (s.bk k).height) k (s.bk k)
  bd : ∀ q p, T q = some p → p.st.length ≤ M ∧ p.dp ≤ 17 ∧ p.lo.length ≤ 32
theorem TInv.read {fs : List Ty} {gl : List (UInt8 × Bool)} {lo res : List UInt8} {M : Nat} {X : Nat → Prop} {T : Typing} {s : Bd} (h : TInv fs gl lo res M X T s) (i p : Nat) : TInv fs gl lo res M X T { s with i := i, pos := p } := ⟨h.ins, h.cur, h.far, h.blk, h.bd⟩
def upd (T : Typing) (q : Nat) (o : Option Pt) : Typing := fun j => if j = q then o else T j
theorem upd_at (T : Typing) (q : Nat) (o : Option Pt) : upd T q o q = o := if_pos rfl
theorem upd_ne (T : Typing) {q j : Nat} (o : Option Pt) (h : j ≠ q) : upd T q o j = T j := if_neg h
theorem take_keep {a b : List UInt8} {h k : Nat} (hk : k ≤ h) (e : a.take h = b.take h) : a.take k = b.take k := by
  have := congrArg (List.take k) e
  rwa [List.take_take, List.take_take, Nat.min_eq_left hk] at this
section
variable {fs : List Ty} {gl : List (UInt8 × Bool)} {lo res : List UInt8} {M N : Nat} {X : Nat → Prop} {T : Typing} {s : Bd}
theorem curPt_open {s : Bd} (hc : s.closed = false) (hb : 0 < s.blocks.length) : curPt lo res s = some ⟨lo, res, s.stack, s.blocks.length⟩ := by
  unfold curPt
  rw [if_neg (fun h => h.elim (fun e => by rw [hc] at e; cases e) (fun e => by omega))]
theorem goes_new {T' : Typing} {q : Nat} {s' : Bd} {st a : List UInt8} {b : Nat} (hnew : T' q = curPt lo res s') (hc : s'.closed = false) (hb : 0 < s'.blocks.length) (hst : s'.stack = st) : Goes T' ⟨lo, res, a, b⟩ q st :=
  ⟨s'.blocks.length, by rw [hnew, curPt_open hc hb, hst]⟩
theorem curPt_some {s : Bd} {p : Pt} (h : curPt lo res s = some p) : s.closed = false ∧ p = ⟨lo, res, s.stack, s.blocks.length⟩ := by
  unfold curPt at h
  split at h
  · cases h
  · rename_i hn
    refine ⟨?_, by cases h; rfl⟩
    cases hc : s.closed with
    | false => rfl
    | true => exact absurd (.inl hc) hn
theorem TInv.emitG (h : TInv fs gl lo res M X T s) (z : Sz N s) (hlo : lo.length ≤ 32) (hne : 0 < s.blocks.length) {s' : Bd} {x : Ins}
    (hcode : s'.code = s.code ++ [x]) (hlen : s'.blocks.length = s.blocks.length) (hM : s'.stack.length ≤ M) (hst : s'.stack.take s.top.height = s.stack.take s.top.height)
    (hb : ∀ j, j < s.blocks.length → ∃ ws, s'.bk j = { s.bk j with waits := (s.bk j).waits ++ ws } ∧ ∀ q ∈ ws, q = s.code.length ∧ (s.bk j).kind ≠ 2 ∧ ∀ T', TLe T T' → T' s.code.length = T s.code.length → T' (s.code.length + 1) = curPt lo res s' → Pend T' lo res s'.code (s.stack.take (s.bk j).height) j (s.bk j) q)
    (hx : X s.code.length ∨ (∃ j, j < s.blocks.length ∧ s.code.length ∈ (s'.bk j).waits) ∨ (s.closed = false → ∀ T', TLe T T' → T' (s.code.length + 1) = curPt lo res s' → InsOk fs gl T' s'.code s.code.length ⟨lo, res, s.stack, s.blocks.length⟩ x)) :
    ∃ T', TInv fs gl lo res M X T' s' ∧ ∀ q, q ≤ s.code.length → T' q = T q := by
  refine ⟨upd T (s.code.length + 1) (curPt lo res s'), ?_, fun q hq => upd_ne _ _ (by omega)⟩
  have hle : TLe T (upd T (s.code.length + 1) (curPt lo res s')) := fun q p hq => ⟨p.dp, Nat.le_refl _, by
    rw [upd_ne]
    · exact hq
    · intro e; rw [e, h.far _ (by omega)] at hq; cases hq⟩
  have hcl : CodeLe s.code s'.code := by rw [hcode]; exact CodeLe.app _ _
  have he : ∀ q, q < s.code.length → upd T (s.code.length + 1) (curPt lo res s') q = T q := fun q hq => upd_ne _ _ (by omega)
  have hl' : s'.code.length = s.code.length + 1 := by rw [hcode]; simp
  refine ⟨fun q p hq hp => ?_, ?_, ?_, ?_, ?_⟩
  · by_cases hlt : q < s.code.length
    · rw [he q hlt] at hp
      rcases h.ins q p hlt hp with hX | ⟨k, hk, hw⟩ | hi
      · exact .inl hX
      · refine .inr (.inl ⟨k, by omega, ?_⟩)
        obtain ⟨ws, e, -⟩ := hb k hk
        rw [e]
        rcases hw with hw | hw
        · exact .inl (List.mem_append_left _ hw)
        · exact .inr hw
      · right; right
        have hgd : s'.code.getD q ins0 = s.code.getD q ins0 := by rw [hcode, gd_left hlt]
        rw [hgd]
        exact hi.mono hle hcl
    · have : q = s.code.length := by omega
      subst this
      rw [upd_ne _ _ (by omega), h.cur] at hp
      obtain ⟨hc, rfl⟩ := curPt_some hp
      rcases hx with hX | ⟨j, hj, hw⟩ | hx
      · exact .inl hX
      · exact .inr (.inl ⟨j, by omega, .inl hw⟩)
      · right; right
        have hgd : s'.code.getD s.code.length ins0 = x := by rw [hcode, gd_new]
        rw [hgd]
        exact hx hc _ hle (upd_at _ _ _)
  · rw [hl']; exact upd_at _ _ _
  · intro q hq; rw [upd_ne _ _ (by omega)]; exact h.far q (by omega)
  · intro k hk
    have hk' : k < s.blocks.length := by omega
    obtain ⟨ws, e, hws⟩ := hb k hk'
    have ht : s'.stack.take (s.bk k).height = s.stack.take (s.bk k).height := take_keep (z.mono k (s.blocks.length - 1) (by omega) (by omega)) hst
    have hbk := (h.blk k hk').mono hle hcl he
    rw [e]
    show BlkOk _ lo res s'.code (s'.stack.take (s.bk k).height) k _
    rw [ht]
    refine ⟨fun q hq => ?_, hbk.i, hbk.l, hbk.z, hbk.r⟩
    rcases List.mem_append.1 hq with hq | hq
    · exact ⟨(hbk.w q hq).1, (hbk.w q hq).2.like rfl rfl⟩
    · obtain ⟨-, h2, h3⟩ := hws q hq
      exact ⟨h2, (h3 _ hle (upd_ne _ _ (by omega)) (upd_at _ _ _)).like rfl rfl⟩
  · intro q p hp
    by_cases hq : q = s.code.length + 1
    · subst hq
      rw [upd_at] at hp
      obtain ⟨-, rfl⟩ := curPt_some hp
      exact ⟨hM, by show s'.blocks.length ≤ 17; rw [hlen]; exact z.bl, hlo⟩
    · rw [upd_ne _ _ hq] at hp
      exact h.bd q p hp
theorem TInv.emit (h : TInv fs gl lo res M X T s) (z : Sz N s) (hlo : lo.length ≤ 32) (hne : 0 < s.blocks.length) {s' : Bd} {x : Ins}
    (hcode : s'.code = s.code ++ [x]) (hbk : s'.blocks = s.blocks) (hM : s'.stack.length ≤ M) (hst : s'.stack.take s.top.height = s.stack.take s.top.height)
    (hx : X s.code.length ∨ ∀ T', TLe T T' → T' (s.code.length + 1) = curPt lo res s' → InsOk fs gl T' s'.code s.code.length ⟨lo, res, s.stack, s.blocks.length⟩ x) :
    ∃ T', TInv fs gl lo res M X T' s' ∧ ∀ q, q ≤ s.code.length → T' q = T q := by
  refine h.emitG z hlo hne hcode (by rw [hbk]) hM hst (fun j hj => ⟨[], ?_, fun q hq => by cases hq⟩) (hx.imp id (fun hx => .inr (fun _ => hx)))
  show s'.blocks.getD j noBk = _
  rw [hbk, List.append_nil]
  rfl
theorem last_split (l : List UInt8) (h : 0 < l.length) : l = l.take (l.length - 1) ++ [l.getD (l.length - 1) 0] := by
  have e : l.getD (l.length - 1) 0 = l[l.length - 1]'(by omega) := by simp [List.getD_eq_getElem?_getD, List.getElem?_eq_getElem (show l.length - 1 < l.length by omega)]
  rw [e, List.take_append_getElem, List.take_of_length_le (by omega)]
theorem takeAny_spec {s s' : Bd} {u : UInt8} (h : takeAnyM s = some (u, s')) : s.stack = s'.stack ++ [u] ∧ s.top.height ≤ s'.stack.length ∧ s' = { s with stack := s'.stack } := by
  unfold takeAnyM at h
  split at h
  · cases h
  · rename_i hc
    cases h
    exact ⟨last_split _ (by omega), by simp; omega, rfl⟩
theorem take_spec {s s' : Bd} {u : UInt8} (h : takeM s u = some s') : s.stack = s'.stack ++ [u] ∧ s.top.height ≤ s'.stack.length ∧ s' = { s with stack := s'.stack } := by
  unfold takeM at h
  split at h
  · cases h
  · rename_i v s1 h1
    split at h
    · rename_i e; cases h; rw [← e]; exact takeAny_spec h1
    · cases h
theorem takeN_spec {ts : List UInt8} (k : Nat) : ∀ {s s' : Bd}, s.top.height ≤ s.stack.length → k ≤ ts.length → takeN ts k s = some s' → s.stack = s'.stack ++ ts.take k ∧ s.top.height ≤ s'.stack.length ∧ s' = { s with stack := s'.stack } := by
  induction k with
  | zero => intro s s' h0 _ h; cases h; exact ⟨by simp, h0, rfl⟩
  | succ k ih =>
    intro s s' h0 hk h
    rw [takeN] at h
    split at h
    · cases h
    · rename_i s1 h1
      obtain ⟨a, b, c⟩ := take_spec h1
      have htop : s1.top = s.top := by rw [c]; rfl
      obtain ⟨a', b', c'⟩ := ih (by rw [htop]; exact b) (by omega) h
      rw [htop] at b'
      refine ⟨?_, b', ?_⟩
      · rw [a, a', List.append_assoc]
        congr 1
        rw [List.take_add_one, List.getElem?_eq_getElem (by omega)]
        simp [List.getD_eq_getElem?_getD, List.getElem?_eq_getElem (show k < ts.length by omega)]
      · rw [c', c]
theorem takeAll_spec {s s' : Bd} {ts : List UInt8} (h0 : s.top.height ≤ s.stack.length) (h : takeAllM s ts = some s') : s.stack = s'.stack ++ ts ∧ s.top.height ≤ s'.stack.length ∧ s' = { s with stack := s'.stack } := by
  have := takeN_spec ts.length h0 (Nat.le_refl _) h
  rwa [List.take_length] at this
theorem carries_spec {s s' : Bd} {k : Nat} (h0 : s.top.height ≤ s.stack.length) (h : carriesM s k = some s') : s' = s ∧ ∃ l, s.stack = l ++ valueM (s.bk k) ∧ s.top.height ≤ l.length := by
  unfold carriesM at h
  rw [Option.map_eq_some_iff] at h
  obtain ⟨s1, h1, rfl⟩ := h
  obtain ⟨a, b, c⟩ := takeAll_spec h0 h1
  refine ⟨?_, s1.stack, a, b⟩
  unfold putM
  rw [← a, c]
theorem keep_below {l a b : List UInt8} {h : Nat} (hl : h ≤ l.length) : (l ++ a).take h = (l ++ b).take h := by
  rw [List.take_append_of_le_length hl, List.take_append_of_le_length hl]
theorem TInv.jump (h : TInv fs gl lo res M X T s) (z : Sz N s) (hlo : lo.length ≤ 32) {s1 : Bd} {st : List UInt8} (es : s1 = { s with stack := st, i := s1.i, pos := s1.pos, closed := s1.closed }) {op : UInt8} {k : Nat} (hk : k < s.blocks.length) (cl : Bool) (hM : st.length ≤ M)
    (hv : s.closed = false → ∃ l, st = l ++ valueM (s.bk k) ∧ s.top.height ≤ l.length) (hth : s.top.height ≤ st.length)
    (hop : (op = 12 ∧ s.closed = false ∧ s.stack = st) ∨ (op = 5 ∧ (s.bk k).kind ≠ 2 ∧ k + 1 = s.blocks.length ∧ s.stack = st) ∨ (op = 13 ∧ s.closed = false ∧ cl = false ∧ s.stack = st ++ [127])) :
    ∃ T', TInv fs gl lo res M X T' { jumpM s1 op k with closed := cl } ∧ ∀ q, q ≤ s.code.length → T' q = T q := by
  have hne : 0 < s.blocks.length := by omega
  have hbk : s1.bk k = s.bk k := by rw [es]; rfl
  have hcd : s1.code = s.code := by rw [es]
  have hbs : s1.blocks = s.blocks := by rw [es]
  have hst1 : s1.stack = st := by rw [es]
  have hpre : st.take s.top.height = s.stack.take s.top.height := by
    rcases hop with ⟨-, -, e⟩ | ⟨-, -, -, e⟩ | ⟨-, -, -, e⟩
    · rw [e]
    · rw [e]
    · rw [e, List.take_append_of_le_length hth]
  have hprek : st.take (s.bk k).height = s.stack.take (s.bk k).height := take_keep (z.mono k (s.blocks.length - 1) (by omega) (by omega)) hpre
  have hkh : (s.bk k).height ≤ s.top.height := z.mono k (s.blocks.length - 1) (by omega) (by omega)
  by_cases hk2 : (s.bk k).kind = 2
  · have hval : valueM (s.bk k) = [] := by unfold valueM; rw [if_pos hk2]
    have hj : jumpM s1 op k = emitM s1 ⟨op, 0, (s.bk k).start, (s.bk k).height, 0⟩ := by
      unfold jumpM; rw [hbk, if_pos hk2, hval]; rfl
    rw [hj]
    refine h.emit z hlo hne (x := ⟨op, 0, (s.bk k).start, (s.bk k).height, 0⟩) (by show s1.code ++ _ = _; rw [hcd]) hbs (by show s1.stack.length ≤ M; rw [hst1]; exact hM) (by show s1.stack.take _ = _; rw [hst1]; exact hpre) (.inr (fun T' hle hnew => ?_))
    obtain ⟨d, hd⟩ := (h.blk k hk).l hk2
    obtain ⟨d', -, hd'⟩ := hle _ _ hd
    have hJ : ∀ o : UInt8, o ≠ 5 → Jumps T' ⟨lo, res, s.stack, s.blocks.length⟩ st ⟨o, 0, (s.bk k).start, (s.bk k).height, 0⟩ := fun o ho => ⟨by show (s.bk k).height + 0 ≤ st.length; omega, d', by
      show T' (s.bk k).start = some ⟨lo, res, st.take (s.bk k).height ++ st.drop (st.length - 0), d'⟩
      rw [hd', Nat.sub_zero, List.drop_length, List.append_nil, hprek], fun e => absurd e ho⟩
    rcases hop with ⟨rfl, -, e⟩ | ⟨-, hn, -, -⟩ | ⟨rfl, -, hcl, e⟩
    · refine .jump (.inr rfl) ?_
      show Jumps T' _ s.stack _
      rw [e]
      have := hJ 12 (by decide)
      rwa [e] at this
    · exact absurd hk2 hn
    · exact .cond st rfl e (goes_new hnew hcl (by show 0 < s1.blocks.length; rw [hbs]; exact hne) hst1) (hJ 13 (by decide))
  · have hval : valueM (s.bk k) = (s.bk k).result := by unfold valueM; rw [if_neg hk2]
    have hj : jumpM s1 op k = emitM { s1 with blocks := s1.blocks.set k { s.bk k with waits := (s.bk k).waits ++ [s1.code.length] } } ⟨op, 0, 0, (s.bk k).height, (s.bk k).result.length⟩ := by
      unfold jumpM; rw [hbk, if_neg hk2, hval]
    rw [hj]
    have hbj : ∀ j, Bd.bk { emitM { s1 with blocks := s1.blocks.set k { s.bk k with waits := (s.bk k).waits ++ [s1.code.length] } } ⟨op, 0, 0, (s.bk k).height, (s.bk k).result.length⟩ with closed := cl } j = if k = j then { s.bk k with waits := (s.bk k).waits ++ [s1.code.length] } else s.bk j := by
      intro j
      refine (bk_set (s := s1) (by rw [hbs]; exact hk) _ j).trans ?_
      show _ = _
      rw [show s1.bk j = s.bk j by rw [es]; rfl]
    refine h.emitG z hlo hne (x := ⟨op, 0, 0, (s.bk k).height, (s.bk k).result.length⟩) (by show s1.code ++ _ = _; rw [hcd]) (by show (s1.blocks.set _ _).length = _; rw [List.length_set, hbs]) (by show s1.stack.length ≤ M; rw [hst1]; exact hM) (by show s1.stack.take _ = _; rw [hst1]; exact hpre) (fun j hj => ?_) (.inr (.inl ⟨k, hk, ?_⟩))
    · rw [hbj]
      split
      · rename_i e
        subst e
        refine ⟨[s1.code.length], rfl, fun q hq => ?_⟩
        have : q = s.code.length := by rw [← hcd]; exact List.mem_singleton.1 hq
        subst this
        refine ⟨rfl, hk2, fun T' hle hT' hnew => ?_⟩
        show Pend T' lo res (s1.code ++ [_]) _ _ _ _
        rw [hcd]
        refine Pend.of (gd_new _ _) (by simp) rfl rfl ?_
        cases hcs : s.closed with
        | true => left; rw [hT', h.cur]; unfold curPt; rw [if_pos (.inl hcs)]
        | false =>
            right
            have hcur : T' s.code.length = some ⟨lo, res, s.stack, s.blocks.length⟩ := by rw [hT', h.cur]; exact curPt_open hcs hne
            obtain ⟨l, hl, hll⟩ := hv hcs
            rw [hval] at hl
            refine ⟨s.blocks.length, st, ?_, by rw [hl, List.length_append]; omega, hprek, by rw [hl, List.length_append, Nat.add_sub_cancel, List.drop_left]⟩
            rcases hop with ⟨rfl, -, e⟩ | ⟨rfl, -, hk1, e⟩ | ⟨rfl, -, hcl, e⟩
            · exact .inl ⟨.inr rfl, by rw [hcur, e], fun h => by cases h⟩
            · exact .inl ⟨.inl rfl, by rw [hcur, e], fun _ => by omega⟩
            · refine .inr ⟨rfl, by rw [hcur, e], s.blocks.length, hnew.trans (curPt_open hcl (by show 0 < (s1.blocks.set _ _).length; rw [List.length_set, hbs]; exact hne)) |>.trans ?_⟩
              show some (Pt.mk lo res s1.stack (s1.blocks.set _ _).length) = _
              rw [hst1, List.length_set, hbs]
      · exact ⟨[], by rw [List.append_nil], fun q hq => by cases hq⟩
    · rw [hbj, if_pos rfl]
      show s.code.length ∈ (s.bk k).waits ++ [s1.code.length]
      rw [hcd]
      simp
end
section
variable {fs : List Ty} {gl : List (UInt8 × Bool)} {lo res : List UInt8} {M N : Nat} {X : Nat → Prop} {T : Typing} {s : Bd}
theorem bk_left {l : List Bk} {b : Bk} {j : Nat} (h : j < l.length) : (l ++ [b]).getD j noBk = l.getD j noBk := by
  rw [List.getD_eq_getElem?_getD, List.getD_eq_getElem?_getD, List.getElem?_append_left h]
theorem bk_new (l : List Bk) (b : Bk) : (l ++ [b]).getD l.length noBk = b := by simp
theorem TLe.upd {q : Nat} {o : Option Pt} (h : ∀ p, T q = some p → ∃ d, d ≤ p.dp ∧ o = some ⟨p.lo, p.res, p.st, d⟩) : TLe T (upd T q o) := by
  intro j p hj
  by_cases e : j = q
  · subst e
    obtain ⟨d, h1, h2⟩ := h p hj
    exact ⟨d, h1, by rw [upd_at]; exact h2⟩
  · exact ⟨p.dp, Nat.le_refl _, by rw [upd_ne _ _ e]; exact hj⟩
theorem TInv.begin (h : TInv fs gl lo res M X T s) (z : Sz N s) (hlo : lo.length ≤ 32) (hne : 0 < s.blocks.length) (hc : s.closed = false) {s1 : Bd} {st : List UInt8} (es : s1 = { s with stack := st, i := s1.i, pos := s1.pos }) {op : UInt8}
    (hop : (op = 2 ∨ op = 3) ∧ s.stack = st ∨ op = 4 ∧ s.stack = st ++ [127]) (hth : s.top.height ≤ st.length) (h16 : s.blocks.length ≤ 16) (hM : st.length ≤ M) (r : List UInt8) :
    ∃ T', TInv fs gl lo res M X T' { emitM s1 ⟨op, 0, 0, if op = 4 then s1.stack.length else 0, 0⟩ with blocks := s1.blocks ++ [⟨if op = 3 then 2 else if op = 4 then 3 else 1, r, s1.stack.length, s1.code.length + 1, []⟩] } ∧ ∀ q, q ≤ s.code.length → T' q = T q := by
  have hcd : s1.code = s.code := by rw [es]
  have hbs : s1.blocks = s.blocks := by rw [es]
  have hst1 : s1.stack = st := by rw [es]
  have hcl1 : s1.closed = false := by rw [es]; exact hc
  have hcur : T s.code.length = some ⟨lo, res, s.stack, s.blocks.length⟩ := by rw [h.cur]; exact curPt_open hc hne
  have hpre : st.take s.top.height = s.stack.take s.top.height := by
    rcases hop with ⟨-, e⟩ | ⟨-, e⟩
    · rw [e]
    · rw [e, List.take_append_of_le_length hth]
  rw [hcd, hbs, hst1]
  obtain ⟨x, hx⟩ : ∃ x : Ins, x = ⟨op, 0, 0, if op = 4 then st.length else 0, 0⟩ := ⟨_, rfl⟩
  obtain ⟨b, hbb⟩ : ∃ b : Bk, b = ⟨if op = 3 then 2 else if op = 4 then 3 else 1, r, st.length, s.code.length + 1, []⟩ := ⟨_, rfl⟩
  rw [← hx, ← hbb]
  have ecode : ({ emitM s1 x with blocks := s.blocks ++ [b] } : Bd).code = s.code ++ [x] := by show s1.code ++ [x] = _; rw [hcd]
  have estack : ({ emitM s1 x with blocks := s.blocks ++ [b] } : Bd).stack = st := hst1
  have eclosed : ({ emitM s1 x with blocks := s.blocks ++ [b] } : Bd).closed = false := hcl1
  have eblocks : ({ emitM s1 x with blocks := s.blocks ++ [b] } : Bd).blocks = s.blocks ++ [b] := rfl
  generalize ({ emitM s1 x with blocks := s.blocks ++ [b] } : Bd) = s' at *
  have ebk : ∀ j, j < s.blocks.length → s'.bk j = s.bk j := fun j hj => by show s'.blocks.getD j noBk = _; rw [eblocks]; exact bk_left hj
  have ebn : s'.bk s.blocks.length = b := by show s'.blocks.getD _ noBk = _; rw [eblocks]; exact bk_new _ _
  have eblen : s'.blocks.length = s.blocks.length + 1 := by rw [eblocks]; simp
  have elen : s'.code.length = s.code.length + 1 := by rw [ecode]; simp
  refine ⟨upd T (s.code.length + 1) (some ⟨lo, res, st, s.blocks.length + 1⟩), ?_, fun q hq => upd_ne _ _ (by omega)⟩
  have hle : TLe T (upd T (s.code.length + 1) (some ⟨lo, res, st, s.blocks.length + 1⟩)) := TLe.upd fun p hp => by rw [h.far _ (by omega)] at hp; cases hp
  have hcl : CodeLe s.code s'.code := by rw [ecode]; exact CodeLe.app _ _
  have he : ∀ q, q < s.code.length → upd T (s.code.length + 1) (some ⟨lo, res, st, s.blocks.length + 1⟩) q = T q := fun q hq => upd_ne _ _ (by omega)
  have hnew : upd T (s.code.length + 1) (some ⟨lo, res, st, s.blocks.length + 1⟩) (s.code.length + 1) = some ⟨lo, res, st, s.blocks.length + 1⟩ := upd_at _ _ _
  have hold : upd T (s.code.length + 1) (some ⟨lo, res, st, s.blocks.length + 1⟩) s.code.length = some ⟨lo, res, s.stack, s.blocks.length⟩ := by rw [upd_ne _ _ (by omega)]; exact hcur
  have hgd : s'.code.getD s.code.length ins0 = x := by rw [ecode, gd_new]
  refine ⟨fun q p hq hp => ?_, ?_, fun q hq => ?_, fun k hk => ?_, fun q p hp => ?_⟩
  · by_cases hlt : q < s.code.length
    · rw [he q hlt] at hp
      rcases h.ins q p hlt hp with hX | ⟨k, hk, hw⟩ | hi
      · exact .inl hX
      · exact .inr (.inl ⟨k, by omega, by rw [ebk k hk]; exact hw⟩)
      · right; right
        have hgq : s'.code.getD q ins0 = s.code.getD q ins0 := by rw [ecode, gd_left hlt]
        rw [hgq]
        exact hi.mono hle hcl
    · have : q = s.code.length := by omega
      subst this
      rw [hold] at hp
      cases hp
      rcases hop with ⟨h23, e⟩ | ⟨h4, e⟩
      · right; right
        rw [hgd, hx]
        exact .into h23 ⟨_, by rw [hnew]; show _ = some (Pt.mk lo res s.stack _); rw [e]⟩
      · right; left
        refine ⟨s.blocks.length, by omega, .inr ?_⟩
        rw [ebn, hbb, h4]
        exact ⟨rfl, rfl⟩
  · rw [elen, hnew, curPt_open eclosed (by omega), estack, eblen]
  · rw [upd_ne _ _ (by omega)]; exact h.far q (by omega)
  · by_cases hk' : k < s.blocks.length
    · rw [ebk k hk', estack, take_keep (z.mono k (s.blocks.length - 1) (by omega) (by omega)) hpre]
      exact (h.blk k hk').mono hle hcl he
    · have : k = s.blocks.length := by omega
      subst this
      rw [ebn, estack, hbb]
      refine ⟨fun q hq => (by cases hq), fun hk => ?_, fun _ => ⟨s.blocks.length + 1, (by show upd _ _ _ _ = some (Pt.mk _ _ (st.take st.length) _); rw [hnew, List.take_length])⟩, ?_, fun e => (by omega)⟩
      · rcases hop with ⟨h23, e⟩ | ⟨h4, e⟩
        · rcases h23 with rfl | rfl <;> cases hk
        · refine ⟨s.code.length, s.blocks.length, s.blocks.length + 1, rfl, by omega, ?_, ?_, ?_, ?_, ?_⟩
          · rw [hgd, hx]; exact h4
          · rw [hgd, hx, h4]; rfl
          · rw [hgd, hx]
          · rw [hold, e]; show _ = some (Pt.mk _ _ (st.take st.length ++ _) _); rw [List.take_length]
          · rw [hnew]; show _ = some (Pt.mk _ _ (st.take st.length) _); rw [List.take_length]
      · constructor
        · intro hk
          exfalso
          revert hk
          show (if op = 3 then 2 else if op = 4 then 3 else 1) = 0 → False
          split
          · omega
          · split <;> omega
        · intro e; omega
  · by_cases hq : q = s.code.length + 1
    · subst hq
      rw [hnew] at hp
      cases hp
      exact ⟨hM, by show s.blocks.length + 1 ≤ 17; omega, hlo⟩
    · rw [upd_ne _ _ hq] at hp
      exact h.bd q p hp
theorem Pend.done {T' : Typing} {code : List Ins} {pre : List UInt8} {k : Nat} {b : Bk} {q : Nat} (g : Pend T lo res code pre k b q) (hle : TLe T T') {G d0 : Nat} (hG : T' G = some ⟨lo, res, pre ++ b.result, d0⟩) (hd0 : d0 ≤ k) {code' : List Ins} {p : Pt} (hp : T q = some p) :
    InsOk fs gl T' code' q p { code.getD q ins0 with goal := G } := by
  obtain ⟨h1, h2, h3, h0⟩ := g
  rcases h0 with h0 | ⟨d, st, h4, h5, h6, h7⟩
  · rw [h0] at hp; cases hp
  have hJ : ∀ d1, ((code.getD q ins0).op = 5 → d0 < d1) → ∀ st0, Jumps T' ⟨lo, res, st0, d1⟩ st { code.getD q ins0 with goal := G } := by
    intro d1 hd st0
    refine ⟨?_, d0, ?_, hd⟩
    · show (code.getD q ins0).height + (code.getD q ins0).keep ≤ _
      rw [h2, h3]; exact h5
    · show T' G = some ⟨lo, res, st.take (code.getD q ins0).height ++ st.drop (st.length - (code.getD q ins0).keep), d0⟩
      rw [h2, h3, h6, h7, hG]
  rcases h4 with ⟨ho, hT, h5'⟩ | ⟨ho, hT, d', hn⟩
  · rw [hT] at hp
    cases hp
    exact .jump ho (hJ d (fun e => Nat.lt_of_le_of_lt hd0 (h5' e)) st)
  · rw [hT] at hp
    cases hp
    obtain ⟨d2, -, hn'⟩ := hle _ _ hn
    exact .cond st ho rfl ⟨d2, hn'⟩ (hJ d (fun e => by rw [ho] at e; cases e) _)
theorem full_eq {s : Bd} {k : Nat} (hc : s.closed = false) (h : fullM s k = true) : s.stack.drop (s.bk k).height = (s.bk k).result := by
  unfold fullM at h
  rw [hc, Bool.false_or, beq_iff_eq] at h
  exact h
def endL (b : Bk) : List Nat := if b.kind = 3 then (b.start - 1) :: b.waits else b.waits
theorem TInv.fin (h : TInv fs gl lo res M X T s) (z : Sz N s) (hlo : lo.length ≤ 32) (hne : 0 < s.blocks.length) (hX : ∀ q, ¬ X q) (hf : fullM s (s.blocks.length - 1) = true) (h3 : s.top.kind = 3 → s.top.result = [])
    {s' : Bd} {code' : List Ins} {tail : List Ins} (hcd : code' = (aimAll (endL s.top) s).code) (ecode : s'.code = code' ++ tail) (htail : tail = if s.top.kind = 0 then [⟨11, 0, 0, 0, 0⟩] else []) (estack : s'.stack = s.stack.take s.top.height ++ s.top.result) (eblocks : s'.blocks = s.blocks.take (s.blocks.length - 1)) (eclosed : s'.closed = false) (hM : s'.stack.length ≤ M) :
    ∃ T', TInv fs gl lo res M X T' s' ∧ (∀ q, q < s.code.length → T' q = T q) ∧ TLe T T' := by
  obtain ⟨k, hk⟩ : ∃ k, s.blocks.length = k + 1 := ⟨s.blocks.length - 1, by omega⟩
  have htop : s.top = s.bk k := by show s.bk (s.blocks.length - 1) = _; rw [hk]; rfl
  have hkf : fullM s k = true := by rw [hk] at hf; exact hf
  obtain ⟨a1, a2, a3, a4, a5, a6, a7, a8⟩ := aims_same (endL s.top) s
  rw [htop] at h3 hcd htail estack a1 a2 a3 a4 a5 a6 a7 a8
  generalize hbdef : s.bk k = b at h3 hcd htail estack a1 a2 a3 a4 a5 a6 a7 a8
  have ebk : ∀ j, j < k → s'.bk j = s.bk j := fun j hj => by
    show s'.blocks.getD j noBk = s.blocks.getD j noBk
    rw [eblocks, hk, List.getD_eq_getElem?_getD, List.getElem?_take, if_pos (by omega), List.getD_eq_getElem?_getD]
  have eblen : s'.blocks.length = k := by rw [eblocks, List.length_take, hk]; omega
  have hclen : code'.length = s.code.length := by rw [hcd]; exact a1
  have hbO := h.blk k (by omega)
  rw [hbdef] at hbO
  have hth : b.height ≤ s.stack.length := by rw [← hbdef]; exact z.height (by omega)
  have hkz := hbO.z
  obtain ⟨P, hP⟩ : ∃ P : Pt, P = ⟨lo, res, s.stack.take b.height ++ b.result, k⟩ := ⟨_, rfl⟩
  have hle : TLe T (upd T s.code.length (some P)) := TLe.upd fun p hp => by
    rw [h.cur] at hp
    obtain ⟨hc, rfl⟩ := curPt_some hp
    refine ⟨k, by show k ≤ s.blocks.length; omega, ?_⟩
    have := full_eq hc hkf
    rw [hbdef] at this
    rw [hP, ← this, List.take_append_drop]
  refine ⟨upd T s.code.length (some P), ?_, fun q hq => upd_ne _ _ (by omega), hle⟩
  have hcl0 : CodeLe s.code code' := by rw [hcd]; exact a7
  have hcl : CodeLe s.code s'.code := by rw [ecode]; exact hcl0.trans (CodeLe.app _ _)
  have he : ∀ q, q < s.code.length → upd T s.code.length (some P) q = T q := fun q hq => upd_ne _ _ (by omega)
  have hat : upd T s.code.length (some P) s.code.length = some P := upd_at _ _ _
  have hgd : ∀ q, q < s.code.length → s'.code.getD q ins0 = if q ∈ endL b then { s.code.getD q ins0 with goal := s.code.length } else s.code.getD q ins0 := fun q hq => by
    rw [ecode, gd_left (by rw [hclen]; exact hq), hcd]
    exact a8 q hq
  have holdIns : ∀ q p, q < s.code.length → T q = some p → (∃ j, j < k ∧ (q ∈ (s.bk j).waits ∨ ((s.bk j).kind = 3 ∧ (s.bk j).start = q + 1))) ∨ InsOk fs gl (upd T s.code.length (some P)) s'.code q p (s'.code.getD q ins0) := by
    intro q p hq hp
    rw [hgd q hq]
    by_cases hm : q ∈ endL b
    · rw [if_pos hm]
      right
      have hG : upd T s.code.length (some P) s.code.length = some ⟨lo, res, s.stack.take b.height ++ b.result, k⟩ := by rw [hat, hP]
      by_cases hw : q ∈ b.waits
      · exact (hbO.w q hw).2.done hle hG (Nat.le_refl _) hp
      · unfold endL at hm
        split at hm
        · rename_i hk3
          have hqs : q = b.start - 1 := (List.mem_cons.1 hm).resolve_right hw
          obtain ⟨q', d, d', i1, i2, i3, i4, i5, i6, i7⟩ := hbO.i hk3
          have : q' = q := by omega
          subst this
          rw [i6] at hp
          cases hp
          obtain ⟨d2, -, hn'⟩ := hle _ _ i7
          refine .cond4 (s.stack.take b.height) i3 rfl ⟨d2, hn'⟩ ⟨?_, k, ?_, fun e => ?_⟩
          · show (s.code.getD q' ins0).height + (s.code.getD q' ins0).keep ≤ _
            rw [i4, i5, List.length_take]; omega
          · show upd T s.code.length (some P) s.code.length = some ⟨lo, res, (s.stack.take b.height).take (s.code.getD q' ins0).height ++ (s.stack.take b.height).drop ((s.stack.take b.height).length - (s.code.getD q' ins0).keep), k⟩
            rw [hG, i4, i5, Nat.sub_zero, List.drop_length, List.take_take, Nat.min_self, h3 hk3]
          · have e' : (s.code.getD q' ins0).op = 5 := e
            rw [i3] at e'; cases e'
        · exact absurd hm hw
    · rw [if_neg hm]
      rcases h.ins q p hq hp with hx | ⟨j, hj, hw⟩ | hi
      · exact absurd hx (hX q)
      · by_cases hjk : j < k
        · exact .inl ⟨j, hjk, hw⟩
        · exfalso
          have : j = k := by omega
          subst this
          rw [hbdef] at hw
          apply hm
          unfold endL
          rcases hw with hw | ⟨hk3, hs⟩
          · split
            · exact List.mem_cons_of_mem _ hw
            · exact hw
          · rw [if_pos hk3]
            have : q = b.start - 1 := by omega
            rw [this]; exact List.mem_cons_self
      · exact .inr (hi.mono hle hcl)
  have hbd : ∀ q p, upd T s.code.length (some P) q = some p → p.st.length ≤ M ∧ p.dp ≤ 17 ∧ p.lo.length ≤ 32 := by
    intro q p hp
    by_cases hq : q = s.code.length
    · subst hq
      rw [hat] at hp
      cases hp
      rw [hP]
      exact ⟨by rw [← estack]; exact hM, by have := z.bl; show k ≤ 17; omega, hlo⟩
    · rw [upd_ne _ _ hq] at hp; exact h.bd q p hp
  by_cases hk0 : b.kind = 0
  · have hkk : k = 0 := hkz.1 hk0
    rw [if_pos hk0] at htail
    subst htail
    have elen : s'.code.length = s.code.length + 1 := by rw [ecode]; simp [hclen]
    obtain ⟨hr1, hr2⟩ := hbO.r hkk
    refine ⟨fun q p hq hp => ?_, ?_, fun q hq => ?_, fun j hj => by omega, hbd⟩
    · right; right
      by_cases hlt : q < s.code.length
      · rw [he q hlt] at hp
        rcases holdIns q p hlt hp with ⟨j, hj, -⟩ | hi
        · omega
        · exact hi
      · have : q = s.code.length := by omega
        subst this
        rw [hat] at hp
        cases hp
        have hgn : s'.code.getD s.code.length ins0 = ⟨11, 0, 0, 0, 0⟩ := by rw [ecode, ← hclen, gd_new]
        rw [hgn, hP]
        exact .leave rfl (by show s.stack.take b.height ++ b.result = res; rw [hr1, hr2]; simp)
    · rw [elen, upd_ne _ _ (by omega), h.far _ (by omega)]
      unfold curPt
      rw [if_pos (.inr (by omega))]
    · rw [upd_ne _ _ (by omega)]; exact h.far q (by omega)
  · have hkk : 0 < k := by
      rcases Nat.eq_zero_or_pos k with e | e
      · exact absurd (hkz.2 e) hk0
      · exact e
    rw [if_neg hk0] at htail
    subst htail
    have elen : s'.code.length = s.code.length := by rw [ecode]; simp [hclen]
    refine ⟨fun q p hq hp => ?_, ?_, fun q hq => ?_, fun j hj => ?_, hbd⟩
    · have hlt : q < s.code.length := by omega
      rw [he q hlt] at hp
      rcases holdIns q p hlt hp with ⟨j, hj, hw⟩ | hi
      · exact .inr (.inl ⟨j, by omega, by rw [ebk j hj]; exact hw⟩)
      · exact .inr (.inr hi)
    · rw [elen, hat, curPt_open eclosed (by omega), hP, estack, eblen]
    · rw [upd_ne _ _ (by omega)]; exact h.far q (by omega)
    · have hjk : j < k := by omega
      have hhj : (s.bk j).height ≤ b.height := by rw [← hbdef]; exact z.mono j k (by omega) (by omega)
      have e1 : s'.stack.take (s.bk j).height = s.stack.take (s.bk j).height := by
        rw [estack, List.take_append_of_le_length (by rw [List.length_take]; omega), List.take_take, Nat.min_eq_left hhj]
      rw [ebk j hjk, e1]
      exact (h.blk j (by omega)).mono hle hcl he
end
section
variable {fs : List Ty} {gl : List (UInt8 × Bool)} {lo res : List UInt8} {M N : Nat} {X : Nat → Prop} {T : Typing} {s : Bd}
theorem TInv.turn2 (h : TInv fs gl lo res M X T s) (z : Sz N s) (hlo : lo.length ≤ 32) (hne : 0 < s.blocks.length) (hc : s.closed = true) (h3 : s.top.kind = 3)
    {s' : Bd} (ecode : s'.code = (aimM s (s.top.start - 1)).code) (estack : s'.stack = s.stack.take s.top.height) (eblocks : s'.blocks = s.blocks.set (s.blocks.length - 1) { s.top with kind := 4 }) (eclosed : s'.closed = false) (hM : s'.stack.length ≤ M) :
    ∃ T', TInv fs gl lo res M X T' s' ∧ ∀ q, q < s.code.length → T' q = T q := by
  obtain ⟨k, hk⟩ : ∃ k, s.blocks.length = k + 1 := ⟨s.blocks.length - 1, by omega⟩
  have htop : s.top = s.bk k := by show s.bk (s.blocks.length - 1) = _; rw [hk]; rfl
  have hkl : s.blocks.length - 1 = k := by omega
  rw [hkl] at eblocks
  rw [htop] at h3 ecode estack eblocks
  have ebj : ∀ j, s'.bk j = if k = j then { s.bk k with kind := 4 } else s.bk j := by
    intro j
    have := bk_set (s := s) (k := k) (by omega) { s.bk k with kind := 4 } j
    rw [← this]
    show s'.blocks.getD j noBk = _
    rw [eblocks]
    rfl
  have eblen : s'.blocks.length = s.blocks.length := by rw [eblocks, List.length_set]
  have elen : s'.code.length = s.code.length := by rw [ecode]; exact aim_len _ _
  have hbO := h.blk k (by omega)
  have hth : (s.bk k).height ≤ s.stack.length := z.height (by omega)
  have hkz : k ≠ 0 := fun e => by have := hbO.z.2 e; omega
  have hdead : T s.code.length = none := by rw [h.cur]; unfold curPt; rw [if_pos (.inl hc)]
  obtain ⟨P, hP⟩ : ∃ P : Pt, P = ⟨lo, res, s.stack.take (s.bk k).height, s.blocks.length⟩ := ⟨_, rfl⟩
  refine ⟨upd T s.code.length (some P), ?_, fun q hq => upd_ne _ _ (by omega)⟩
  have hle : TLe T (upd T s.code.length (some P)) := TLe.upd fun p hp => by rw [hdead] at hp; cases hp
  have hcl : CodeLe s.code s'.code := by rw [ecode]; exact CodeLe.aim _ _
  have he : ∀ q, q < s.code.length → upd T s.code.length (some P) q = T q := fun q hq => upd_ne _ _ (by omega)
  have hat : upd T s.code.length (some P) s.code.length = some P := upd_at _ _ _
  have hgd : ∀ q, q < s.code.length → s'.code.getD q ins0 = if (s.bk k).start - 1 = q then { s.code.getD q ins0 with goal := s.code.length } else s.code.getD q ins0 := fun q hq => by
    rw [ecode]; exact aim_at _ _ hq
  refine ⟨fun q p hq hp => ?_, ?_, fun q hq => ?_, fun j hj => ?_, fun q p hp => ?_⟩
  · have hlt : q < s.code.length := by omega
    rw [he q hlt] at hp
    rw [hgd q hlt]
    split
    · rename_i hqs
      right; right
      obtain ⟨q', d, d', i1, i2, i3, i4, i5, i6, i7⟩ := hbO.i h3
      have : q' = q := by omega
      subst this
      rw [i6] at hp
      cases hp
      obtain ⟨d2, -, hn'⟩ := hle _ _ i7
      refine .cond4 (s.stack.take (s.bk k).height) i3 rfl ⟨d2, hn'⟩ ⟨?_, s.blocks.length, ?_, fun e => ?_⟩
      · show (s.code.getD q' ins0).height + (s.code.getD q' ins0).keep ≤ _
        rw [i4, i5, List.length_take]; omega
      · show upd T s.code.length (some P) s.code.length = some ⟨lo, res, (s.stack.take (s.bk k).height).take (s.code.getD q' ins0).height ++ (s.stack.take (s.bk k).height).drop ((s.stack.take (s.bk k).height).length - (s.code.getD q' ins0).keep), s.blocks.length⟩
        rw [hat, hP, i4, i5, Nat.sub_zero, List.drop_length, List.take_take, Nat.min_self, List.append_nil]
      · have e' : (s.code.getD q' ins0).op = 5 := e
        rw [i3] at e'; cases e'
    · rename_i hqs
      rcases h.ins q p hlt hp with hx | ⟨j, hj, hw⟩ | hi
      · exact .inl hx
      · right; left
        refine ⟨j, by omega, ?_⟩
        rw [ebj]
        split
        · rename_i e
          subst e
          rcases hw with hw | ⟨-, hw⟩
          · exact .inl hw
          · omega
        · exact hw
      · exact .inr (.inr (hi.mono hle hcl))
  · rw [elen, hat, curPt_open eclosed (by omega), hP, estack, eblen]
  · rw [upd_ne _ _ (by omega)]; exact h.far q (by omega)
  · have hjk : j < s.blocks.length := by omega
    have hhj : (s.bk j).height ≤ (s.bk k).height := z.mono j k (by omega) (by omega)
    have e1 : s'.stack.take (s.bk j).height = s.stack.take (s.bk j).height := by rw [estack, List.take_take, Nat.min_eq_left hhj]
    have hb' := (h.blk j hjk).mono hle hcl he
    rw [ebj]
    split
    · rename_i e
      subst e
      show BlkOk _ _ _ _ (s'.stack.take (s.bk k).height) _ _
      rw [e1]
      exact ⟨fun q hq => ⟨fun e => (by cases e), (hb'.w q hq).2.like rfl rfl⟩, fun e => (by cases e), fun e => (by cases e), ⟨fun e => (by cases e), fun e => absurd e hkz⟩, fun e => absurd e hkz⟩
    · rw [e1]; exact hb'
  · by_cases hq : q = s.code.length
    · subst hq
      rw [hat] at hp
      cases hp
      rw [hP]
      exact ⟨by rw [← estack]; exact hM, z.bl, hlo⟩
    · rw [upd_ne _ _ hq] at hp; exact h.bd q p hp
theorem TInv.turn (h : TInv fs gl lo res M X T s) (z : Sz N s) (hlo : lo.length ≤ 32) (hne : 0 < s.blocks.length) (hM : N + 1 ≤ M) {s' : Bd} (ht : turnM s = .ok s') : ∃ T', TInv fs gl lo res M X T' s' ∧ ∀ q, q ≤ s.code.length → T' q = T q := by
  unfold turnM at ht
  split at ht
  · cases ht
  · rename_i hn
    have h3 : s.top.kind = 3 := Decidable.byContradiction fun e => hn (.inl e)
    have hf : fullM s (s.blocks.length - 1) = true := by
      cases e : fullM s (s.blocks.length - 1) with
      | true => rfl
      | false => exact absurd (.inr e) hn
    cases ht
    have hkl : s.blocks.length - 1 < s.blocks.length := by omega
    have hval : valueM (s.bk (s.blocks.length - 1)) = (s.bk (s.blocks.length - 1)).result := by
      unfold valueM; rw [if_neg]; intro e; have e' : s.top.kind = 2 := e; omega
    obtain ⟨T1, h1, hT1⟩ := h.jump z hlo (s1 := s) (st := s.stack) rfl (op := 5) (k := s.blocks.length - 1) hkl true (Nat.le_trans z.st (by omega)) (fun hc => ⟨s.stack.take s.top.height, by
        rw [hval, ← full_eq hc hf]; exact (List.take_append_drop _ _).symm, by rw [List.length_take]; have := z.top; omega⟩) z.top (.inr (.inl ⟨rfl, fun e => by have e' : s.top.kind = 2 := e; omega, by omega, rfl⟩))
    obtain ⟨j1, j2, -, j4⟩ := jump_same (s := s) 5 hkl
    have zj : Sz (N + 1) { jumpM s 5 (s.blocks.length - 1) with closed := true } := (jump_sz z 5 hkl).read (jumpM s 5 (s.blocks.length - 1)).i (jumpM s 5 (s.blocks.length - 1)).pos true
    have htj : (jumpM s 5 (s.blocks.length - 1)).top.kind = 3 ∧ (jumpM s 5 (s.blocks.length - 1)).top.start = s.top.start := by
      have := j4 (s.blocks.length - 1)
      unfold Bd.top
      rw [j2]
      exact ⟨this.1.trans h3, this.2.2.1⟩
    have hcj : ∃ x, (jumpM s 5 (s.blocks.length - 1)).code = s.code ++ [x] := by
      unfold jumpM; split
      · exact ⟨_, rfl⟩
      · exact ⟨_, rfl⟩
    generalize jumpM s 5 (s.blocks.length - 1) = sj at *
    obtain ⟨x, hx⟩ := hcj
    obtain ⟨T2, h2, hT2⟩ := h1.turn2 zj hlo (by show 0 < sj.blocks.length; omega) rfl htj.1 (s' := { aimM sj (s.top.start - 1) with blocks := sj.blocks.set (sj.blocks.length - 1) { sj.top with kind := 4 }, stack := sj.stack.take sj.top.height, closed := false })
      (by show _ = (aimM _ (sj.top.start - 1)).code; rw [htj.2]; rfl) rfl rfl rfl (by show (sj.stack.take _).length ≤ M; rw [List.length_take, j1]; have := z.st; omega)
    refine ⟨T2, h2, fun q hq => (hT2 q ?_).trans (hT1 q (by omega))⟩
    show q < sj.code.length
    rw [hx, List.length_append]
    simp only [List.length_cons, List.length_nil]
    omega
theorem closed_eta {s : Bd} {b : Bool} (h : s.closed = b) : { s with closed := b } = s := by
  obtain ⟨a1, a2, a3, a4, a5, a6⟩ := s
  simp only at h
  subst h
  rfl
theorem jump_code (s : Bd) (op : UInt8) (k : Nat) : (∃ x, (jumpM s op k).code = s.code ++ [x] ∧ x.op = op) ∧ (jumpM s op k).closed = s.closed := by
  unfold jumpM
  split
  · exact ⟨⟨_, rfl, rfl⟩, rfl⟩
  · exact ⟨⟨_, rfl, rfl⟩, rfl⟩
theorem TInv.jumps (hlo : lo.length ≤ 32) (l : List Nat) : ∀ {N : Nat} {T : Typing} {s : Bd}, TInv fs gl lo res M X T s → Sz N s → s.closed = false → l ≠ [] → s.stack.length ≤ M → (∀ k ∈ l, k < s.blocks.length ∧ ∃ l0, s.stack = l0 ++ valueM (s.bk k) ∧ s.top.height ≤ l0.length) →
    ∃ T', TInv fs gl lo res M X T' { jumpAll l s with closed := true } ∧ (∀ q, q ≤ s.code.length → T' q = T q) ∧ CodeLe s.code (jumpAll l s).code ∧ (jumpAll l s).code.length = s.code.length + l.length ∧
      ∀ j, j < l.length → T' (s.code.length + j) = some ⟨lo, res, s.stack, s.blocks.length⟩ ∧ ((jumpAll l s).code.getD (s.code.length + j) ins0).op = 12 := by
  induction l with
  | nil => intro N T s _ _ _ hn; exact absurd rfl hn
  | cons k l ih =>
    intro N T s h z hc _ hM hv
    obtain ⟨hk, l0, hl0, hll0⟩ := hv k List.mem_cons_self
    have hne : 0 < s.blocks.length := by omega
    have hcur : T s.code.length = some ⟨lo, res, s.stack, s.blocks.length⟩ := by rw [h.cur]; exact curPt_open hc hne
    have hth : s.top.height ≤ s.stack.length := z.top
    obtain ⟨⟨x, hx, hxo⟩, hcc⟩ := jump_code s 12 k
    have hjl : (jumpM s 12 k).code.length = s.code.length + 1 := by rw [hx]; simp
    by_cases hl : l = []
    · subst hl
      obtain ⟨T1, h1, hT1⟩ := h.jump z hlo (s1 := s) (st := s.stack) rfl (op := 12) hk true hM (fun _ => ⟨l0, hl0, hll0⟩) hth (.inl ⟨rfl, hc, rfl⟩)
      refine ⟨T1, h1, hT1, by show CodeLe s.code (jumpM s 12 k).code; rw [hx]; exact CodeLe.app _ _, hjl, fun j hj => ?_⟩
      have : j = 0 := by simpa using hj
      subst this
      refine ⟨(hT1 _ (Nat.le_refl _)).trans hcur, ?_⟩
      show ((jumpM s 12 k).code.getD s.code.length ins0).op = 12
      rw [hx, gd_new]; exact hxo
    · obtain ⟨T1, h1, hT1⟩ := h.jump z hlo (s1 := s) (st := s.stack) rfl (op := 12) hk false hM (fun _ => ⟨l0, hl0, hll0⟩) hth (.inl ⟨rfl, hc, rfl⟩)
      rw [closed_eta (by rw [hcc]; exact hc)] at h1
      obtain ⟨j1, j2, -, j4⟩ := jump_same (s := s) 12 hk
      have hvj : ∀ j, valueM ((jumpM s 12 k).bk j) = valueM (s.bk j) := fun j => by unfold valueM; rw [(j4 j).1, (j4 j).2.2.2]
      have htj : (jumpM s 12 k).top.height = s.top.height := by unfold Bd.top; rw [j2]; exact (j4 _).2.1
      obtain ⟨T2, h2, hT2, hcl2, hlen2, hjs⟩ := ih h1 (jump_sz z 12 hk) (by rw [hcc]; exact hc) hl (by rw [j1]; exact hM) (fun k' hk' => by
        obtain ⟨a, b, c, d⟩ := hv k' (List.mem_cons_of_mem _ hk')
        exact ⟨by omega, b, by rw [j1, hvj]; exact c, by rw [htj]; exact d⟩)
      have hcl1 : CodeLe s.code (jumpM s 12 k).code := by rw [hx]; exact CodeLe.app _ _
      refine ⟨T2, h2, fun q hq => (hT2 q (by omega)).trans (hT1 q hq), hcl1.trans hcl2, by show (jumpAll l (jumpM s 12 k)).code.length = _; rw [hlen2, hjl, List.length_cons]; omega, fun j hj => ?_⟩
      cases j with
      | zero =>
        refine ⟨(hT2 _ (by omega)).trans ((hT1 _ (Nat.le_refl _)).trans hcur), ?_⟩
        have := hcl2.2 s.code.length (by omega)
        show ((jumpAll l (jumpM s 12 k)).code.getD s.code.length ins0).op = 12
        rw [this.1, hx, gd_new]; exact hxo
      | succ j =>
        obtain ⟨a, b⟩ := hjs j (by simpa using hj)
        rw [hjl] at a b
        rw [j1, j2] at a
        rw [show s.code.length + (j + 1) = s.code.length + 1 + j by omega]
        exact ⟨a, b⟩
end
section
variable {c : Ctx} {res : List UInt8} {M N : Nat} {T : Typing} {s s' : Bd}
def Ext (c : Ctx) (res : List UInt8) (M : Nat) (T : Typing) (s s' : Bd) : Prop := ∃ T', TInv c.funcs c.gl c.locals res M (fun _ => False) T' s' ∧ (∀ q, q < s.code.length → T' q = T q) ∧ TLe T T'
theorem Ext.of {X : Nat → Prop} (h : TInv c.funcs c.gl c.locals res M X T s) (g : ∃ T', TInv c.funcs c.gl c.locals res M (fun _ => False) T' s' ∧ ∀ q, q ≤ s.code.length → T' q = T q) : Ext c res M T s s' := by
  obtain ⟨T', h1, h2⟩ := g
  refine ⟨T', h1, fun q hq => h2 q (by omega), fun q p hp => ⟨p.dp, Nat.le_refl _, ?_⟩⟩
  by_cases hq : q ≤ s.code.length
  · rw [h2 q hq]; exact hp
  · rw [h.far q (by omega)] at hp; cases hp
variable (h : TInv c.funcs c.gl c.locals res M (fun _ => False) T s) (z : Sz N s) (hlo : c.locals.length ≤ 32) (hne : 0 < s.blocks.length) (hM : N + 18 ≤ M)
include h z hlo hne hM
theorem ty_stop (hs : stopM s = .ok s') : Ext c res M T s s' := by
  cases hs
  exact Ext.of h (h.emit z hlo hne (x := ⟨0, 0, 0, 0, 0⟩) rfl rfl (Nat.le_trans z.st (by omega)) rfl (.inr fun T' _ _ => .stop rfl))
theorem ty_open (hc : s.closed = false) {op : UInt8} (hop : op = 2 ∨ op = 3 ∨ op = 4) (hs : openM c op s = .ok s') : Ext c res M T s s' := by
  unfold openM at hs
  split at hs
  · cases hs
  · rename_i t j ho
    split at hs
    · cases hs
    · rename_i s1 hs1
      split at hs
      · cases hs
      · rename_i h16
        cases hs
        have hz : ∃ st, s1 = { s with stack := st, i := s1.i, pos := s1.pos } ∧ ((op = 2 ∨ op = 3) ∧ s.stack = st ∨ op = 4 ∧ s.stack = st ++ [127]) ∧ s.top.height ≤ st.length ∧ st.length ≤ s.stack.length := by
          split at hs1
          · rename_i h4
            obtain ⟨a, b, e⟩ := take_spec hs1
            have a' : s.stack = s1.stack ++ [127] := a
            exact ⟨s1.stack, by rw [e], .inr ⟨h4, a'⟩, b, by rw [a']; simp⟩
          · rename_i h4
            cases hs1
            exact ⟨s.stack, rfl, .inl ⟨hop.imp id (fun h => h.resolve_right h4), rfl⟩, z.top, Nat.le_refl _⟩
        obtain ⟨st, e, hst, hth, hle⟩ := hz
        have hb : s1.blocks = s.blocks := by rw [e]
        rw [hb] at h16
        have := z.bl
        have := z.st
        exact Ext.of h (h.begin z hlo hne hc e hst hth (by omega) (by omega) (if t = 64 then [] else [t]))
theorem ty_turn (hs : turnM s = .ok s') : Ext c res M T s s' := Ext.of h (h.turn z hlo hne (by omega) hs)
theorem ty_end (hs : endM s = .ok s') : Ext c res M T s s' := by
  unfold endM at hs
  split at hs
  · cases hs
  · rename_i hn
    cases hs
    have hf : fullM s (s.blocks.length - 1) = true := by
      cases e : fullM s (s.blocks.length - 1) with
      | true => rfl
      | false => exact absurd (.inl e) hn
    have h3 : s.top.kind = 3 → s.top.result = [] := fun hk => Decidable.byContradiction fun e => hn (.inr ⟨hk, e⟩)
    have e2 : aimAll s.top.waits (if s.top.kind = 3 then aimM s (s.top.start - 1) else s) = aimAll (endL s.top) s := by
      unfold endL
      split
      · rfl
      · rfl
    rw [e2]
    obtain ⟨a1, a2, a3, a4, a5, a6, a7, a8⟩ := aims_same (endL s.top) s
    have hr : s.top.result.length ≤ 1 := (z.wt (s.blocks.length - 1) (by omega)).2.2.1
    have hstk : ∀ b : Bool, (if b = true then emitM (aimAll (endL s.top) s) ⟨11, 0, 0, 0, 0⟩ else aimAll (endL s.top) s).stack = s.stack ∧ (if b = true then emitM (aimAll (endL s.top) s) ⟨11, 0, 0, 0, 0⟩ else aimAll (endL s.top) s).blocks = s.blocks := by
      intro b; split
      · exact ⟨a2, a3⟩
      · exact ⟨a2, a3⟩
    have hk0 := hstk (decide (s.top.kind = 0))
    simp only [decide_eq_true_eq] at hk0
    refine h.fin z hlo hne (fun q hq => hq) hf h3 (code' := (aimAll (endL s.top) s).code) (tail := if s.top.kind = 0 then [⟨11, 0, 0, 0, 0⟩] else []) rfl ?_ rfl ?_ ?_ rfl ?_
    · show (if s.top.kind = 0 then emitM (aimAll (endL s.top) s) ⟨11, 0, 0, 0, 0⟩ else aimAll (endL s.top) s).code = _
      split
      · rfl
      · rw [List.append_nil]
    · show (if s.top.kind = 0 then emitM (aimAll (endL s.top) s) ⟨11, 0, 0, 0, 0⟩ else aimAll (endL s.top) s).stack.take _ ++ _ = _
      rw [hk0.1]
    · show (if s.top.kind = 0 then emitM (aimAll (endL s.top) s) ⟨11, 0, 0, 0, 0⟩ else aimAll (endL s.top) s).blocks.take ((if s.top.kind = 0 then emitM (aimAll (endL s.top) s) ⟨11, 0, 0, 0, 0⟩ else aimAll (endL s.top) s).blocks.length - 1) = _
      rw [hk0.2]
    · show ((if s.top.kind = 0 then emitM (aimAll (endL s.top) s) ⟨11, 0, 0, 0, 0⟩ else aimAll (endL s.top) s).stack.take _ ++ _).length ≤ M
      rw [hk0.1, List.length_append, List.length_take]
      have := z.st
      omega
theorem ty_branch (hc : s.closed = false) {op : UInt8} (hop : op = 12 ∨ op = 13) (hs : branchM c op s = .ok s') : Ext c res M T s s' := by
  unfold branchM at hs
  split at hs
  · cases hs
  · rename_i k s1 hl
    obtain ⟨hk, j, rfl⟩ := label_ok (by intro e; rw [e] at hne; cases hne) hl
    split at hs
    · cases hs
    · rename_i s2 hs2
      split at hs
      · cases hs
      · rename_i s3 hs3
        cases hs
        have hst := z.st
        have hz : ∃ st, s2 = { s with stack := st, i := s2.i, pos := s2.pos, closed := s2.closed } ∧ ((op = 12 ∧ s.stack = st) ∨ (op = 13 ∧ s.stack = st ++ [127])) ∧ s.top.height ≤ st.length ∧ st.length ≤ s.stack.length := by
          split at hs2
          · rename_i h13
            obtain ⟨a, b, e⟩ := take_spec hs2
            have a' : s.stack = s2.stack ++ [127] := a
            exact ⟨s2.stack, by rw [e], .inr ⟨h13, a'⟩, b, by rw [a']; simp⟩
          · rename_i h13
            cases hs2
            exact ⟨s.stack, rfl, .inl ⟨hop.resolve_right h13, rfl⟩, z.top, Nat.le_refl _⟩
        obtain ⟨st, e, hst', hth, hle⟩ := hz
        have e1 : s2.stack = st := by rw [e]
        have e2 : s2.top = s.top := by rw [e]; rfl
        have e3 : s2.bk k = s.bk k := by rw [e]; rfl
        obtain ⟨rfl, l, hl1, hl2⟩ := carries_spec (by rw [e2, e1]; exact hth) hs3
        rw [e1, e3] at hl1
        rw [e2] at hl2
        refine Ext.of h (h.jump z hlo e (op := op) hk (op == 12) (by omega) (fun _ => ⟨l, hl1, hl2⟩) hth ?_)
        rcases hst' with ⟨h1, h2⟩ | ⟨h1, h2⟩
        · exact .inl ⟨h1, hc, h2⟩
        · exact .inr (.inr ⟨h1, hc, by rw [h1]; rfl, h2⟩)
theorem ty_leave (hc : s.closed = false) (hs : leaveM s = .ok s') : Ext c res M T s s' := by
  unfold leaveM at hs
  split at hs
  · cases hs
  · rename_i s1 hs1
    cases hs
    obtain ⟨rfl, l, hl1, hl2⟩ := carries_spec z.top hs1
    have hst := z.st
    exact Ext.of h (h.jump z hlo (s1 := s1) (st := s1.stack) rfl (op := 12) (k := 0) hne true (by omega) (fun _ => ⟨l, hl1, hl2⟩) z.top (.inl ⟨rfl, hc, rfl⟩))
theorem ty_table (hc : s.closed = false) (hs : tableM c s = .ok s') : Ext c res M T s s' := by
  unfold tableM at hs
  split at hs
  · cases hs
  · rename_i n j hb
    split at hs
    · cases hs
    · rename_i l s1 hl
      have hne' : s.blocks ≠ [] := by intro e; rw [e] at hne; cases hne
      have hlk := labels_keep (N := N) (c := c) (n + 1) (s := { s with i := j }) hne' (z.read j s.pos s.closed) hl
      have hs1 : ∃ i', s1 = { s with i := i' } := by
        have : ∀ m {s s1 : Bd} {l : List Nat}, s.blocks ≠ [] → labelsM c m s = .ok (l, s1) → ∃ i', s1 = { s with i := i' } := by
          intro m
          induction m with
          | zero => intro s s1 l _ h; cases h; exact ⟨s.i, rfl⟩
          | succ m ih =>
            intro s s1 l hb h
            rw [labelsM] at h
            split at h
            · cases h
            · rename_i k s2 h2
              obtain ⟨-, j, rfl⟩ := label_ok hb h2
              split at h
              · cases h
              · rename_i l3 s3 h3
                cases h
                obtain ⟨i', rfl⟩ := ih (s := { s with i := j }) hb h3
                exact ⟨i', rfl⟩
        obtain ⟨i', e⟩ := this (n + 1) (s := { s with i := j }) hne' hl
        exact ⟨i', e⟩
      obtain ⟨i', rfl⟩ := hs1
      obtain ⟨-, -, -, hll, hlm⟩ := hlk
      split at hs
      · cases hs
      · rename_i s2 hs2
        obtain ⟨a, b, e⟩ := take_spec hs2
        have a' : s.stack = s2.stack ++ [127] := a
        have b' : s.top.height ≤ s2.stack.length := b
        split at hs
        · cases hs
        · rename_i s3 hs3
          have e2 : s2.top = s.top := by rw [e]; rfl
          obtain ⟨e3, l0, hl1, hl2⟩ := carries_spec (by rw [e2]; exact b') hs3
          subst e3
          split at hs
          · rename_i hal
            cases hs
            have hst := z.st
            have hsl : s3.stack.length ≤ M := by rw [a', List.length_append] at hst; omega
            have hX : TInv c.funcs c.gl c.locals res M (fun q => q = s.code.length) T s := ⟨fun q p hq hp => (h.ins q p hq hp).elim (fun f => f.elim) .inr, h.cur, h.far, h.blk, h.bd⟩
            have hcode3 : s3.code = s.code := by rw [e]
            have hbl3 : s3.blocks = s.blocks := by rw [e]
            have hcl3 : s3.closed = false := by rw [e]; exact hc
            obtain ⟨T1, h1, hT1⟩ := hX.emit z hlo hne (s' := emitM s3 ⟨14, n, 0, 0, 0⟩) (x := ⟨14, n, 0, 0, 0⟩) (by show s3.code ++ _ = _; rw [hcode3]) hbl3 hsl (by show s3.stack.take _ = _; rw [a', List.take_append_of_le_length b']) (.inl rfl)
            have z3 : Sz N s3 := ⟨by rw [hbl3]; exact z.bl, by rw [a', List.length_append] at hst; omega, by rw [hcode3]; exact z.cd, by rw [e2]; exact b', by rw [e]; exact z.mono, by rw [e]; exact z.wt⟩
            have hvals : ∀ k ∈ l, k < (emitM s3 ⟨14, n, 0, 0, 0⟩).blocks.length ∧ ∃ l0, (emitM s3 ⟨14, n, 0, 0, 0⟩).stack = l0 ++ valueM ((emitM s3 ⟨14, n, 0, 0, 0⟩).bk k) ∧ (emitM s3 ⟨14, n, 0, 0, 0⟩).top.height ≤ l0.length := by
              intro k hk
              refine ⟨by show k < s3.blocks.length; rw [hbl3]; exact hlm k hk, l0, ?_, hl2⟩
              have hall := List.all_eq_true.1 hal
              have q1 := hall k hk
              have hmem : l.getD n 0 ∈ l := by
                rw [List.getD_eq_getElem?_getD, List.getElem?_eq_getElem (by omega)]
                exact List.getElem_mem (by omega)
              have q2 := hall _ hmem
              simp only [beq_iff_eq] at q1 q2
              show s3.stack = l0 ++ valueM (s3.bk k)
              rw [q1, ← q2]; exact hl1
            obtain ⟨T2, h2, hT2, hcl2, hlen2, hjs⟩ := h1.jumps hlo l (N := N + 1) (emit_sz z3 _) hcl3 (by intro e0; rw [e0] at hll; cases hll) hsl hvals
            have hel : (emitM s3 ⟨14, n, 0, 0, 0⟩).code.length = s.code.length + 1 := by show (s3.code ++ [_]).length = _; rw [hcode3]; simp
            have hcur : T s.code.length = some ⟨c.locals, res, s.stack, s.blocks.length⟩ := by rw [h.cur]; exact curPt_open hc hne
            have h0 : T2 s.code.length = some ⟨c.locals, res, s.stack, s.blocks.length⟩ := by rw [hT2 _ (by omega), hT1 _ (Nat.le_refl _)]; exact hcur
            have hbl4 : (emitM s3 ⟨14, n, 0, 0, 0⟩).blocks.length = s.blocks.length := by show s3.blocks.length = _; rw [hbl3]
            refine Ext.of h ⟨T2, ⟨fun q p hq hp => ?_, h2.cur, h2.far, h2.blk, h2.bd⟩, fun q hq => (hT2 q (by omega)).trans (hT1 q hq)⟩
            rcases h2.ins q p hq hp with rfl | h' | h'
            · right; right
              rw [h0] at hp
              cases hp
              have hgd := hcl2.2 s.code.length (by omega)
              have hge : (emitM s3 ⟨14, n, 0, 0, 0⟩).code.getD s.code.length ins0 = ⟨14, n, 0, 0, 0⟩ := by show (s3.code ++ [_]).getD _ _ = _; rw [hcode3, gd_new]
              rw [hge] at hgd
              show InsOk _ _ T2 (jumpAll l (emitM s3 ⟨14, n, 0, 0, 0⟩)).code _ _ ((jumpAll l (emitM s3 ⟨14, n, 0, 0, 0⟩)).code.getD s.code.length ins0)
              refine .table s3.stack hgd.1 a' (fun k hk => ?_)
              have hk' : k ≤ n := by rw [hgd.2.1] at hk; exact hk
              obtain ⟨q1, q2⟩ := hjs k (by omega)
              rw [hel] at q1 q2
              refine ⟨⟨_, q1⟩, ?_, q2⟩
              rw [hlen2, hel]; omega
            · exact .inr (.inl h')
            · exact .inr (.inr h')
          · cases hs
end
end Go.Proofs.YtdeplgkhmebalaaGreatDoor
