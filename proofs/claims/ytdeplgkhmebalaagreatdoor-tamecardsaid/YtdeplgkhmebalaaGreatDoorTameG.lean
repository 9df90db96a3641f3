/- Whatever is accepted is tame: the machine's stack, and what is known of it. -/
import Derived.Test.YtdeplgkhmebalaaGreatDoorTameC
import Derived.Test.YtdeplgkhmebalaaGreatDoorP26
import Derived.Test.YtdeplgkhmebalaaGreatDoorTameD
import Derived.Test.YtdeplgkhmebalaaGreatDoorTameE

namespace Go.Proofs.YtdeplgkhmebalaaGreatDoor
open Go.RowKit
def Seg : List Int → List UInt8 → Prop
  | [], [] => True
  | v :: vs, t :: ts => InTy t v ∧ Seg vs ts
  | _, _ => False
theorem Seg.len : ∀ {v : List Int} {t : List UInt8}, Seg v t → v.length = t.length
  | [], [], _ => rfl
  | _ :: _, _ :: _, h => by rw [List.length_cons, List.length_cons, h.2.len]
  | [], _ :: _, h => h.elim
  | _ :: _, [], h => h.elim
theorem Seg.app : ∀ {a : List Int} {x : List UInt8} {b : List Int} {y : List UInt8}, Seg a x → Seg b y → Seg (a ++ b) (x ++ y)
  | [], [], _, _, _, k => k
  | _ :: _, _ :: _, _, _, h, k => ⟨h.1, h.2.app k⟩
  | [], _ :: _, _, _, h, _ => h.elim
  | _ :: _, [], _, _, h, _ => h.elim
theorem Seg.split : ∀ {x : List UInt8} {v : List Int} {y : List UInt8}, Seg v (x ++ y) → ∃ a b, v = a ++ b ∧ Seg a x ∧ Seg b y
  | [], v, _, h => ⟨[], v, rfl, trivial, h⟩
  | _ :: _, [], _, h => h.elim
  | t :: x, n :: v, _, h => by
    obtain ⟨a, b, rfl, h1, h2⟩ := Seg.split (x := x) h.2
    exact ⟨n :: a, b, rfl, ⟨h.1, h1⟩, h2⟩
theorem Seg.one {v : List Int} {t : UInt8} (h : Seg v [t]) : ∃ n, v = [n] ∧ InTy t n := by
  match v, h with
  | [n], h => exact ⟨n, rfl, h.1⟩
theorem Seg.mk1 {n : Int} {t : UInt8} (h : InTy t n) : Seg [n] [t] := ⟨h, trivial⟩
theorem Seg.take : ∀ (k : Nat) {v : List Int} {x : List UInt8}, Seg v x → Seg (v.take k) (x.take k)
  | 0, _, _, _ => trivial
  | _ + 1, [], [], _ => trivial
  | k + 1, _ :: _, _ :: _, h => ⟨h.1, Seg.take k h.2⟩
  | _ + 1, [], _ :: _, h => h.elim
  | _ + 1, _ :: _, [], h => h.elim
theorem Seg.drop : ∀ (k : Nat) {v : List Int} {x : List UInt8}, Seg v x → Seg (v.drop k) (x.drop k)
  | 0, _, _, h => h
  | _ + 1, [], [], _ => trivial
  | k + 1, _ :: _, _ :: _, h => Seg.drop k h.2
  | _ + 1, [], _ :: _, h => h.elim
  | _ + 1, _ :: _, [], h => h.elim
theorem Seg.get : ∀ {k : Nat} {v : List Int} {x : List UInt8}, Seg v x → k < x.length → InTy (x.getD k 0) (v.getD k 0)
  | _, [], [], _, hk => by cases hk
  | 0, _ :: _, _ :: _, h, _ => h.1
  | k + 1, _ :: v, _ :: x, h, hk => by
    have := Seg.get (k := k) h.2 (by simpa using hk)
    simpa using this
  | _, [], _ :: _, h, _ => h.elim
  | _, _ :: _, [], h, _ => h.elim
theorem Seg.set : ∀ {k : Nat} {v : List Int} {x : List UInt8} {n : Int}, Seg v x → InTy (x.getD k 0) n → Seg (v.set k n) x
  | _, [], [], _, h, _ => by simpa using h
  | 0, _ :: _, _ :: _, _, h, hn => ⟨by simpa using hn, h.2⟩
  | k + 1, _ :: v, _ :: x, n, h, hn => ⟨h.1, Seg.set (k := k) h.2 (by simpa using hn)⟩
  | _, [], _ :: _, _, h, _ => h.elim
  | _, _ :: _, [], _, h, _ => h.elim
theorem inTy0 (t : UInt8) : InTy t 0 := ⟨Int.le_refl _, by split <;> decide⟩
theorem Seg.zeros : ∀ (x : List UInt8), Seg (List.replicate x.length 0) x
  | [] => trivial
  | t :: x => ⟨inTy0 t, Seg.zeros x⟩
def Susp (T : Typing) (fin : List UInt8) : List (Nat × Nat × Nat) → List Int → Nat → List UInt8 → Prop
  | [], below, _, res => below = [] ∧ res = fin
  | c :: cs, below, back, res => ∃ low locs ops p st, below = low ++ locs ++ ops ∧ low.length = c.1 ∧ c.2.1 = c.1 + locs.length ∧ T back = some p ∧ p.st = st ++ res ∧ Seg locs p.lo ∧ Seg ops st ∧ Susp T fin cs low c.2.2 p.res
structure FrG (T : Typing) (fin lo res st : List UInt8) (s : Mc) (c : Nat × Nat × Nat) (cs : List (Nat × Nat × Nat)) (low locs ops : List Int) : Prop where
  calls : s.calls = cs.reverse ++ [c]
  stack : s.stack = low ++ locs ++ ops
  base : low.length = c.1
  inner : c.2.1 = c.1 + locs.length
  seg1 : Seg locs lo
  seg2 : Seg ops st
  susp : Susp T fin cs low c.2.2 res
def Fr (T : Typing) (fin lo res st : List UInt8) (s : Mc) : Prop := ∃ c cs low locs ops, FrG T fin lo res st s c cs low locs ops
section
variable {T : Typing} {fin lo res st : List UInt8} {s : Mc} {c : Nat × Nat × Nat} {cs : List (Nat × Nat × Nat)} {low locs ops : List Int}
theorem FrG.cur (h : FrG T fin lo res st s c cs low locs ops) : curR s = c ∧ 0 < s.calls.length := by
  unfold curR
  rw [h.calls]
  simp
theorem Fr.same (h : Fr T fin lo res st s) {s' : Mc} (e1 : s'.stack = s.stack) (e2 : s'.calls = s.calls) : Fr T fin lo res st s' := by
  obtain ⟨c, cs, low, locs, ops, h⟩ := h
  exact ⟨c, cs, low, locs, ops, e2.trans h.calls, e1.trans h.stack, h.base, h.inner, h.seg1, h.seg2, h.susp⟩
theorem top_of {s : Mc} {l : List Int} {v : Int} (h : s.stack = l ++ [v]) : topR s = v ∧ (popR s).stack = l ∧ s.stack.length = l.length + 1 := by
  unfold topR popR
  rw [h]
  simp
theorem Fr.pop {t : UInt8} (h : Fr T fin lo res (st ++ [t]) s) : 0 < s.stack.length ∧ InTy t (topR s) ∧ Fr T fin lo res st (popR s) := by
  obtain ⟨c, cs, low, locs, ops, h⟩ := h
  obtain ⟨a, b, rfl, h1, h2⟩ := h.seg2.split
  obtain ⟨n, rfl, hn⟩ := h2.one
  have hs : s.stack = (low ++ locs ++ a) ++ [n] := by rw [h.stack]; simp
  obtain ⟨t1, t2, t3⟩ := top_of hs
  exact ⟨by omega, by rw [t1]; exact hn, c, cs, low, locs, a, h.calls, t2, h.base, h.inner, h.seg1, h1, h.susp⟩
theorem Fr.put {t : UInt8} {v : Int} (h : Fr T fin lo res st s) (hv : InTy t v) : Fr T fin lo res (st ++ [t]) (putR s v) := by
  obtain ⟨c, cs, low, locs, ops, h⟩ := h
  exact ⟨c, cs, low, locs, ops ++ [v], h.calls, by show s.stack ++ [v] = _; rw [h.stack]; simp, h.base, h.inner, h.seg1, h.seg2.app (Seg.mk1 hv), h.susp⟩
theorem Fr.jump (h : Fr T fin lo res st s) {x : Ins} (hx : x.height + x.keep ≤ st.length) : jumpOk s x = true ∧ Fr T fin lo res (st.take x.height ++ st.drop (st.length - x.keep)) (jumpR s x) ∧ (jumpR s x).calls = s.calls := by
  obtain ⟨c, cs, low, locs, ops, h⟩ := h
  obtain ⟨hc, hc0⟩ := h.cur
  have hol := h.seg2.len
  have hsl : s.stack.length = c.2.1 + ops.length := by rw [h.stack, List.length_append, List.length_append, h.base, h.inner]
  refine ⟨?_, ⟨c, cs, low, locs, ops.take x.height ++ ops.drop (ops.length - x.keep), h.calls, ?_, h.base, h.inner, h.seg1, ?_, h.susp⟩, rfl⟩
  · unfold jumpOk
    rw [hc]
    simp only [Bool.and_eq_true, decide_eq_true_eq]
    omega
  · show s.stack.take ((curR s).2.1 + x.height) ++ s.stack.drop (s.stack.length - x.keep) = _
    rw [hc, hsl, h.stack]
    have hl : (low ++ locs).length = c.2.1 := by rw [List.length_append, h.base, h.inner]
    rw [show c.2.1 + x.height = (low ++ locs).length + x.height by rw [hl], List.take_length_add_append, show c.2.1 + ops.length - x.keep = (low ++ locs).length + (ops.length - x.keep) by rw [hl]; omega, List.drop_length_add_append]
    simp
  · rw [← hol]
    exact (h.seg2.take _).app (h.seg2.drop _)
theorem Fr.getL (h : Fr T fin lo res st s) {n : Nat} (hn : n < lo.length) : 0 < s.calls.length ∧ (curR s).1 + n < s.stack.length ∧ InTy (lo.getD n 0) (s.stack.getD ((curR s).1 + n) 0) := by
  obtain ⟨c, cs, low, locs, ops, h⟩ := h
  obtain ⟨hc, hc0⟩ := h.cur
  have hll := h.seg1.len
  refine ⟨hc0, ?_, ?_⟩
  · rw [hc, h.stack, List.length_append, List.length_append, h.base]; omega
  · have e : s.stack.getD ((curR s).1 + n) 0 = locs.getD n 0 := by
      rw [hc, h.stack, ← h.base, List.append_assoc, List.getD_eq_getElem?_getD, List.getElem?_append_right (by omega), Nat.add_sub_cancel_left, List.getElem?_append_left (by omega), ← List.getD_eq_getElem?_getD]
    rw [e]
    exact h.seg1.get hn
theorem Fr.setL (h : Fr T fin lo res st s) {n : Nat} (hn : n < lo.length) {v : Int} (hv : InTy (lo.getD n 0) v) : Fr T fin lo res st { s with stack := s.stack.set ((curR s).1 + n) v } := by
  obtain ⟨c, cs, low, locs, ops, h⟩ := h
  obtain ⟨hc, hc0⟩ := h.cur
  have hll := h.seg1.len
  refine ⟨c, cs, low, locs.set n v, ops, h.calls, ?_, h.base, by rw [List.length_set]; exact h.inner, h.seg1.set hv, h.seg2, h.susp⟩
  show s.stack.set _ _ = _
  rw [hc, h.stack, ← h.base, List.append_assoc, List.set_append_right _ _ (by omega), Nat.add_sub_cancel_left, List.set_append_left _ _ (by omega), ← List.append_assoc]
theorem Fr.leave (h : Fr T fin lo res res s) : (0 < s.calls.length ∧ (curR s).1 ≤ (curR s).2.1 ∧ (curR s).2.1 ≤ s.stack.length) ∧ (leaveR s).calls.length + 1 = s.calls.length ∧
    (((leaveR s).calls = [] ∧ Seg (leaveR s).stack fin) ∨ ∃ p, T (leaveR s).pos = some p ∧ Fr T fin p.lo p.res p.st (leaveR s)) := by
  obtain ⟨c, cs, low, locs, ops, h⟩ := h
  obtain ⟨hc, hc0⟩ := h.cur
  have hsl : s.stack.length = c.2.1 + ops.length := by rw [h.stack, List.length_append, List.length_append, h.base, h.inner]
  have hi := h.inner
  have hst : (leaveR s).stack = low ++ ops := by
    show s.stack.take (curR s).1 ++ s.stack.drop (s.stack.length - (s.stack.length - (curR s).2.1)) = _
    rw [hc, hsl, h.stack, show c.2.1 + ops.length - (c.2.1 + ops.length - c.2.1) = (low ++ locs).length by rw [List.length_append, h.base, hi]; omega, List.drop_left, List.append_assoc, ← h.base, List.take_left]
  have hca : (leaveR s).calls = cs.reverse := by
    show s.calls.take (s.calls.length - 1) = _
    rw [h.calls]; simp
  have hpo : (leaveR s).pos = c.2.2 := by show (curR s).2.2 = _; rw [hc]
  refine ⟨⟨hc0, by rw [hc]; omega, by rw [hc]; omega⟩, by rw [hca, h.calls]; simp, ?_⟩
  have hs := h.susp
  cases cs with
  | nil =>
    left
    obtain ⟨e1, e2⟩ := hs
    refine ⟨hca, ?_⟩
    rw [hst, e1, ← e2]
    exact h.seg2
  | cons c' cs =>
    right
    obtain ⟨low', locs', ops', p, st', e1, e2, e3, e4, e5, e6, e7, e8⟩ := hs
    refine ⟨p, by rw [hpo]; exact e4, c', cs, low', locs', ops' ++ ops, by rw [hca]; simp, by rw [hst, e1]; simp, e2, e3, e6, by rw [e5]; exact e7.app h.seg2, e8⟩
theorem Fr.enter {f : Flat} {n : Nat} (h : Fr T fin lo res (st ++ (f.funcs.getD n fn0).typ.1) s) {d : Nat} (hT : T s.pos = some ⟨lo, res, st ++ (f.funcs.getD n fn0).typ.2, d⟩) (hf : FnAt T (f.funcs.getD n fn0)) :
    (f.funcs.getD n fn0).typ.1.length ≤ s.stack.length ∧ ∃ p, T (enterR f s n).pos = some p ∧ Fr T fin p.lo p.res p.st (enterR f s n) := by
  unfold enterR
  generalize f.funcs.getD n fn0 = g at *
  obtain ⟨c, cs, low, locs, ops, h⟩ := h
  obtain ⟨hg1, more, d', hg2, hg3⟩ := hf
  obtain ⟨o1, args, rfl, h1, h2⟩ := h.seg2.split
  have hal := h2.len
  have hsl : s.stack.length = (low ++ locs ++ o1).length + args.length := by rw [h.stack]; simp; omega
  refine ⟨by omega, ⟨g.typ.1 ++ more, g.typ.2, [], d'⟩, hg2, (s.stack.length - g.typ.1.length, s.stack.length + (g.locals - g.typ.1.length), s.pos), c :: cs, low ++ locs ++ o1, args ++ List.replicate (g.locals - g.typ.1.length) 0, [], ?_, ?_, ?_, ?_, ?_, trivial, ?_⟩
  · show s.calls ++ _ = _
    rw [h.calls]; simp
  · show s.stack ++ _ = _
    rw [h.stack]; simp
  · show _ = s.stack.length - g.typ.1.length
    omega
  · show s.stack.length + (g.locals - g.typ.1.length) = s.stack.length - g.typ.1.length + _
    rw [List.length_append, List.length_replicate]; omega
  · refine h2.app ?_
    have : g.locals - g.typ.1.length = more.length := by omega
    rw [this]
    exact Seg.zeros more
  · exact ⟨low, locs, o1, _, st, rfl, h.base, h.inner, hT, rfl, h.seg1, h1, h.susp⟩
end
theorem inTy_nar {v : Int} (h0 : 0 ≤ v) (h1 : v < 4294967296) : InTy 127 v := ⟨h0, by rw [if_pos rfl]; exact h1⟩
theorem inTy_wide {v : Int} (h0 : 0 ≤ v) (h1 : v < 18446744073709551616) : InTy 126 v := ⟨h0, by rw [if_neg (by decide)]; exact h1⟩
theorem InTy.nar {v : Int} (h : InTy 127 v) : 0 ≤ v ∧ v < 4294967296 := by have := h; unfold InTy at this; rw [if_pos rfl] at this; exact this
theorem InTy.wide {v : Int} (h : InTy 126 v) : 0 ≤ v ∧ v < 18446744073709551616 := by have := h; unfold InTy at this; rw [if_neg (by decide)] at this; exact this
theorem InTy.any {t : UInt8} {v : Int} (h : InTy t v) : 0 ≤ v ∧ v < 18446744073709551616 := by
  unfold InTy at h
  split at h <;> omega
def tyW (wd : Bool) : UInt8 := if wd then 126 else 127
theorem cutR_ty (wd : Bool) (n : Int) : InTy (tyW wd) (cutR wd n) := by
  cases wd
  · show InTy 127 (IntKind.u64.wrap (n * 4294967296) / 4294967296)
    rw [IntKind.wrap_u64]
    exact inTy_nar (by omega) (by omega)
  · show InTy 126 (IntKind.u64.wrap n)
    rw [IntKind.wrap_u64]
    exact inTy_wide (by omega) (by omega)
theorem InTy.w {wd : Bool} {v : Int} (h : InTy (tyW wd) v) : 0 ≤ v ∧ v < (if wd then 18446744073709551616 else 4294967296) := by
  cases wd
  · exact InTy.nar h
  · exact InTy.wide h
theorem inTy_w {wd : Bool} {v : Int} (h0 : 0 ≤ v) (h1 : v < (if wd then 18446744073709551616 else 4294967296)) : InTy (tyW wd) v := by
  cases wd
  · exact inTy_nar h0 h1
  · exact inTy_wide h0 h1
theorem inTy_le {wd : Bool} {v a : Int} (h : InTy (tyW wd) a) (h0 : 0 ≤ v) (h1 : v ≤ a) : InTy (tyW wd) v := inTy_w h0 (Int.lt_of_le_of_lt h1 h.w.2)
theorem truth_ty (b : Bool) : InTy 127 (truth b) := by
  cases b
  · exact inTy_nar (by decide) (by decide)
  · exact inTy_nar (by decide) (by decide)
theorem wrap_id {a : Int} (h0 : 0 ≤ a) (h1 : a < 18446744073709551616) : IntKind.u64.wrap a = a := by rw [IntKind.wrap_u64]; omega
theorem sign_ne {wd : Bool} {b : Int} (hb : InTy (tyW wd) b) (h : b ≠ 0) : signR wd b ≠ 0 := by
  have hw := hb.w
  cases wd
  · show wrap64 (IntKind.u64.wrap (b * 4294967296)) / 4294967296 ≠ 0
    have hw' : b < 4294967296 := hw.2
    rw [wrap_id (by omega) (by omega)]
    unfold wrap64
    omega
  · show wrap64 (IntKind.u64.wrap b) ≠ 0
    have hw' : b < 18446744073709551616 := hw.2
    rw [wrap_id (by omega) hw']
    unfold wrap64
    omega
theorem bits_ty {wd : Bool} {a b : Int} (ha : InTy (tyW wd) a) (hb : InTy (tyW wd) b) : InTy (tyW wd) (bits BinOp.and IntKind.u64 a b) ∧ InTy (tyW wd) (bits BinOp.or IntKind.u64 a b) ∧ InTy (tyW wd) (bits BinOp.xor IntKind.u64 a b) := by
  obtain ⟨m, rfl⟩ : ∃ m : Nat, a = (m : Int) := ⟨a.toNat, by have := ha.1; omega⟩
  obtain ⟨n, rfl⟩ : ∃ n : Nat, b = (n : Int) := ⟨b.toNat, by have := hb.1; omega⟩
  have ha' := ha.any
  have hb' := hb.any
  have hx : bits .xor .u64 (m : Int) (n : Int) = ((m ^^^ n : Nat) : Int) := by
    have hx : m ^^^ n < 2 ^ 64 := Nat.xor_lt_two_pow (by omega) (by omega)
    have h1 : (BitVec.ofInt 64 (m : Int)).toNat = m := by
      rw [BitVec.ofInt_natCast, BitVec.toNat_ofNat]; exact Nat.mod_eq_of_lt (by omega)
    have h2 : (BitVec.ofInt 64 (n : Int)).toNat = n := by
      rw [BitVec.ofInt_natCast, BitVec.toNat_ofNat]; exact Nat.mod_eq_of_lt (by omega)
    show IntKind.u64.wrap ((BitVec.ofInt 64 (m : Int) ^^^ BitVec.ofInt 64 (n : Int)).toNat : Int) = _
    rw [BitVec.toNat_xor, h1, h2, IntKind.wrap_u64]
    omega
  rw [bits_and_u64_nat m n (by omega) (by omega), bits_or_u64_nat m n (by omega) (by omega), hx]
  cases wd
  · have h1 := ha.nar
    have h2 := hb.nar
    have e1 : m < 2 ^ 32 := by omega
    have e2 : n < 2 ^ 32 := by omega
    have r1 : m &&& n < 2 ^ 32 := Nat.and_lt_two_pow _ e2
    have r2 : m ||| n < 2 ^ 32 := Nat.or_lt_two_pow e1 e2
    have r3 : m ^^^ n < 2 ^ 32 := Nat.xor_lt_two_pow e1 e2
    exact ⟨inTy_nar (by omega) (by omega), inTy_nar (by omega) (by omega), inTy_nar (by omega) (by omega)⟩
  · have h1 := ha.wide
    have h2 := hb.wide
    have e1 : m < 2 ^ 64 := by omega
    have e2 : n < 2 ^ 64 := by omega
    have r1 : m &&& n < 2 ^ 64 := Nat.and_lt_two_pow _ e2
    have r2 : m ||| n < 2 ^ 64 := Nat.or_lt_two_pow e1 e2
    have r3 : m ^^^ n < 2 ^ 64 := Nat.xor_lt_two_pow e1 e2
    exact ⟨inTy_wide (by omega) (by omega), inTy_wide (by omega) (by omega), inTy_wide (by omega) (by omega)⟩
theorem combine_ty {wd : Bool} {k : Nat} (hk : k < 15) {a b : Int} (ha : InTy (tyW wd) a) (hb : InTy (tyW wd) b) : ∃ v t, combineR wd k a b = some (v, t) ∧ InTy (tyW wd) v ∧ (t = 0 ∨ t = 2 ∨ t = 3) := by
  have hb0 : ¬ b < 0 := by have := hb.1; omega
  have ha0 := ha.1
  match k, hk with
  | 0, _ => exact ⟨_, _, rfl, cutR_ty _ _, .inl rfl⟩
  | 1, _ => exact ⟨_, _, rfl, cutR_ty _ _, .inl rfl⟩
  | 2, _ => exact ⟨_, _, rfl, cutR_ty _ _, .inl rfl⟩
  | 3, _ =>
    unfold combineR
    simp only
    by_cases h : b = 0
    · rw [if_pos h]; exact ⟨_, _, rfl, inTy0 _, .inr (.inl rfl)⟩
    · rw [if_neg h, if_neg (sign_ne hb h)]
      split
      · exact ⟨_, _, rfl, inTy0 _, .inr (.inr rfl)⟩
      · exact ⟨_, _, rfl, cutR_ty _ _, .inl rfl⟩
  | 4, _ =>
    unfold combineR
    simp only
    by_cases h : b = 0
    · rw [if_pos h]; exact ⟨_, _, rfl, inTy0 _, .inr (.inl rfl)⟩
    · rw [if_neg h]
      refine ⟨_, _, rfl, ?_, .inl rfl⟩
      have h1 : 0 ≤ a.tdiv b := Int.tdiv_nonneg ha0 (by omega)
      have h2 : a.tdiv b ≤ a := Int.tdiv_le_self b ha0
      have := ha.any
      rw [wrap_id h1 (by omega)]
      exact inTy_le ha h1 h2
  | 5, _ =>
    unfold combineR
    simp only
    by_cases h : b = 0
    · rw [if_pos h]; exact ⟨_, _, rfl, inTy0 _, .inr (.inl rfl)⟩
    · rw [if_neg h, if_neg (sign_ne hb h)]
      exact ⟨_, _, rfl, cutR_ty _ _, .inl rfl⟩
  | 6, _ =>
    unfold combineR
    simp only
    by_cases h : b = 0
    · rw [if_pos h]; exact ⟨_, _, rfl, inTy0 _, .inr (.inl rfl)⟩
    · rw [if_neg h]
      refine ⟨_, _, rfl, inTy_le hb (Int.tmod_nonneg _ ha0) ?_, .inl rfl⟩
      have := Int.tmod_lt_of_pos a (b := b) (by omega)
      omega
  | 7, _ => exact ⟨_, _, rfl, (bits_ty ha hb).1, .inl rfl⟩
  | 8, _ => exact ⟨_, _, rfl, (bits_ty ha hb).2.1, .inl rfl⟩
  | 9, _ => exact ⟨_, _, rfl, (bits_ty ha hb).2.2, .inl rfl⟩
  | 10, _ =>
    unfold combineR
    simp only
    rw [if_neg hb0]
    exact ⟨_, _, rfl, cutR_ty _ _, .inl rfl⟩
  | 11, _ =>
    unfold combineR
    simp only
    rw [if_neg hb0]
    exact ⟨_, _, rfl, cutR_ty _ _, .inl rfl⟩
  | 12, _ =>
    unfold combineR
    simp only
    rw [if_neg hb0]
    refine ⟨_, _, rfl, inTy_le ha (Int.ediv_nonneg ha0 ?_) (Int.ediv_le_self _ ha0), .inl rfl⟩
    exact Int.le_of_lt (Int.pow_pos (by decide))
  | 13, _ =>
    unfold combineR
    simp only
    rw [if_neg hb0]
    exact ⟨_, _, rfl, cutR_ty _ _, .inl rfl⟩
  | 14, _ =>
    unfold combineR
    simp only
    rw [if_neg hb0]
    exact ⟨_, _, rfl, cutR_ty _ _, .inl rfl⟩
theorem count_ty {wd : Bool} {k : Nat} (hk : k < 3) {a : Int} (ha : InTy (tyW wd) a) : InTy (tyW wd) (IntKind.u64.wrap (countR wd k a)) := by
  have h1 := ha.any
  match k, hk with
  | 0, _ =>
    rw [countR_0]
    cases wd
    · have hl := Lib.bitLen_le a.toNat 32 (by decide) (by have := ha.nar; omega)
      show InTy 127 (IntKind.u64.wrap (64 - (Lib.bitLen a.toNat : Int) - (64 - 32)))
      rw [IntKind.wrap_u64]
      exact inTy_nar (by omega) (by omega)
    · have hl := bitLen_64 a h1.2
      show InTy 126 (IntKind.u64.wrap (64 - (Lib.bitLen a.toNat : Int) - (64 - 64)))
      rw [IntKind.wrap_u64]
      exact inTy_wide (by omega) (by omega)
  | 1, _ =>
    rw [countR_1]
    have hc := ctz_le a h1.2
    have hm : 0 ≤ min (Lib.ctz 64 a.toNat : Int) (wN wd : Int) ∧ min (Lib.ctz 64 a.toNat : Int) (wN wd : Int) ≤ 64 := by
      rw [Int.min_def]
      split <;> omega
    rw [wrap_id hm.1 (by omega)]
    exact inTy_w hm.1 (by cases wd <;> simp <;> omega)
  | 2, _ =>
    rw [countR_2]
    have hm := onesR_le a
    rw [wrap_id hm.1 (by omega)]
    exact inTy_w hm.1 (by cases wd <;> simp <;> omega)
theorem sgn_ty (v : Int) : InTy 127 (sgnV v) := cutR_ty false _
theorem leTo_lt4 (s : Mc) (p : Nat) : leTo s p 4 < 4294967296 := by
  have b : ∀ k, (memAt s p k).toNat < 256 := fun k => (memAt s p k).toNat_lt
  have st : ∀ n k, n < 2 ^ (8 * k) → k < 4 → n ||| (memAt s p k).toNat * 2 ^ (8 * k) % 18446744073709551616 < 2 ^ (8 * (k + 1)) := by
    intro n k hn hk
    refine Nat.or_lt_two_pow (Nat.lt_of_lt_of_le hn (Nat.pow_le_pow_right (by decide) (by omega))) ?_
    refine Nat.lt_of_le_of_lt (Nat.mod_le _ _) ?_
    rw [show 8 * (k + 1) = 8 + 8 * k by omega, Nat.pow_add]
    exact Nat.mul_lt_mul_of_pos_right (b k) (Nat.pow_pos (by decide))
  have h0 : leTo s p 0 < 2 ^ (8 * 0) := by rw [leTo]; decide
  have h1 : leTo s p 1 < 2 ^ (8 * 1) := by rw [leTo]; exact st _ 0 h0 (by decide)
  have h2 : leTo s p 2 < 2 ^ (8 * 2) := by rw [leTo]; exact st _ 1 h1 (by decide)
  have h3 : leTo s p 3 < 2 ^ (8 * 3) := by rw [leTo]; exact st _ 2 h2 (by decide)
  rw [leTo]
  exact st _ 3 h3 (by decide)
theorem leTo_lt1 (s : Mc) (p : Nat) : leTo s p 1 < 4294967296 := by
  have b := (memAt s p 0).toNat_lt
  rw [leTo, leTo]
  simp
  omega
structure StT (gl : List (UInt8 × Bool)) (s : Mc) : Prop where
  gl : Seg s.gl (gl.map (·.1))
  mem : s.mem.length % 64 = 0 ∧ s.mem.length ≤ 256
  keys : s.keys.length ≤ 8
theorem StT.same {gl : List (UInt8 × Bool)} {s s' : Mc} (h : StT gl s) (e1 : s'.gl = s.gl) (e2 : s'.mem = s.mem) (e3 : s'.keys = s.keys) : StT gl s' := ⟨by rw [e1]; exact h.gl, by rw [e2]; exact h.mem, by rw [e3]; exact h.keys⟩
def Good (gl : List (UInt8 × Bool)) (T : Typing) (fin : List UInt8) (s : Mc) : Prop := (∃ p, T s.pos = some p ∧ Fr T fin p.lo p.res p.st s) ∧ StT gl s ∧ s.calls.length ≤ 16
def Through (gl : List (UInt8 × Bool)) (fin : List UInt8) (s : Mc) : Prop := s.calls = [] ∧ Seg s.stack fin ∧ StT gl s
structure Next (gl : List (UInt8 × Bool)) (T : Typing) (fin : List UInt8) (dp : Nat) (op : UInt8) (s s' : Mc) : Prop where
  good : Good gl T fin s' ∨ Through gl fin s'
  up : s'.calls.length ≤ s.calls.length + 1
  o5 : op = 5 → s'.calls.length = s.calls.length ∧ ∃ p', T s'.pos = some p' ∧ p'.dp < dp
  o11 : op = 11 → s'.calls.length + 1 = s.calls.length
def Goes1 (gl : List (UInt8 × Bool)) (T : Typing) (fin : List UInt8) (dp : Nat) (op : UInt8) (s : Mc) (m : Option (Nat × Mc)) : Prop :=
  ∃ t s', m = some (t, s') ∧ s'.fuel = s.fuel ∧ t ≠ 5 ∧ (t = 0 → Next gl T fin dp op s s') ∧ (t ≠ 0 → s'.stack.length ≤ s.stack.length ∧ s'.mem = s.mem ∧ s'.gl = s.gl ∧ s'.keys = s.keys)
section
variable {gl : List (UInt8 × Bool)} {T : Typing} {fin : List UInt8} {dp : Nat} {op : UInt8} {s s' : Mc} {p : Pt}
theorem Goes1.trap {t : Nat} {m : Option (Nat × Mc)} (hm : m = some (t, s')) (ht0 : t ≠ 0) (ht : t ≠ 5) (hf : s'.fuel = s.fuel) (hl : s'.stack.length ≤ s.stack.length) (he : s'.mem = s.mem ∧ s'.gl = s.gl ∧ s'.keys = s.keys := by exact ⟨rfl, rfl, rfl⟩) : Goes1 gl T fin dp op s m := ⟨t, s', hm, hf, ht, fun h => absurd h ht0, fun _ => ⟨hl, he⟩⟩
theorem Goes1.on {m : Option (Nat × Mc)} {st : List UInt8} (hm : m = some (0, s')) (hc : s.calls.length ≤ 16) (h5 : op ≠ 5) (h11 : op ≠ 11) (g : Goes T p s.pos st) (fr : Fr T fin p.lo p.res st s') (hS : StT gl s') (ep : s'.pos = s.pos) (ef : s'.fuel = s.fuel) (ec : s'.calls = s.calls) : Goes1 gl T fin dp op s m := by
  obtain ⟨d, hd⟩ := g
  exact ⟨0, s', hm, ef, by decide, fun _ => ⟨.inl ⟨⟨_, by rw [ep]; exact hd, fr⟩, hS, by rw [ec]; exact hc⟩, by rw [ec]; omega, fun e => absurd e h5, fun e => absurd e h11⟩, fun h => absurd rfl h⟩
theorem Goes1.jump {s1 : Mc} {x : Ins} {st : List UInt8} (hc : s.calls.length ≤ 16) (h11 : x.op ≠ 11) (j : Jumps T p st x) (fr : Fr T fin p.lo p.res st s1) (hS : StT gl s1) (ef : s1.fuel = s.fuel) (ec : s1.calls = s.calls) : Goes1 gl T fin p.dp x.op s (jumpB s1 x) := by
  obtain ⟨h1, d, hd, h5⟩ := j
  obtain ⟨k1, k2, k3⟩ := fr.jump h1
  have hm : jumpB s1 x = some (0, jumpR s1 x) := by unfold jumpB; rw [if_pos k1]
  exact ⟨0, _, hm, ef, by decide, fun _ => ⟨.inl ⟨⟨_, hd, k2⟩, hS.same rfl rfl rfl, by rw [k3, ec]; exact hc⟩, by rw [k3, ec]; omega, fun e => ⟨by rw [k3, ec], _, hd, h5 e⟩, fun e => absurd e h11⟩, fun h => absurd rfl h⟩
end
theorem stepT_old {f : Flat} {s : Mc} {x : Ins} (h : x.op.toNat ≠ 44 ∧ ¬ (103 ≤ x.op.toNat ∧ x.op.toNat ≤ 105) ∧ ¬ (121 ≤ x.op.toNat ∧ x.op.toNat ≤ 123)) : stepT f s x = stepR f s x := by
  unfold stepT
  rw [if_neg (fun e => h.1 (by rw [e]; rfl)), if_neg h.2.1, if_neg h.2.2]
theorem stepT_ctl {f : Flat} {s : Mc} {x : Ins} (h : x.op.toNat ≤ 16) : stepT f s x = controlR f s x := by
  rw [stepT_old ⟨by omega, by omega, by omega⟩]
  unfold stepR
  rw [if_pos h]
theorem getD_typ (fs : List FnM) (n : Nat) : (fs.map (·.typ)).getD n ([], []) = (fs.getD n fn0).typ := by
  rw [List.getD_eq_getElem?_getD, List.getD_eq_getElem?_getD, List.getElem?_map]
  cases fs[n]? <;> rfl
section
variable {f : Flat} {gl : List (UInt8 × Bool)} {T : Typing} {fin : List UInt8} {s : Mc} {p : Pt} {x : Ins} {q : Nat}
variable (hF : FlatT f gl T) (fr : Fr T fin p.lo p.res p.st s) (hS : StT gl s) (hc : s.calls.length ≤ 16) (hp : s.pos = q + 1)
include hF fr hS hc hp
theorem ctl_typed (hi : InsOk (f.funcs.map (·.typ)) gl T f.code q p x) (ho : x.op.toNat ≤ 16) : Goes1 gl T fin p.dp x.op s (stepT f s x) := by
  rw [stepT_ctl ho]
  cases hi with
  | stop h => exact Goes1.trap (t := 1) (s' := s) (by unfold controlR; rw [if_pos h]) (by decide) (by decide) rfl (Nat.le_refl _)
  | into h g =>
    rw [← hp] at g
    refine Goes1.on (s' := s) (st := p.st) (by unfold controlR; rcases h with h | h <;> simp [h]) hc (by rcases h with h | h <;> rw [h] <;> decide) (by rcases h with h | h <;> rw [h] <;> decide) g fr hS rfl rfl rfl
  | cond4 st h e g j =>
    rw [← hp] at g
    rw [e] at fr
    obtain ⟨h0, -, fr'⟩ := fr.pop
    have hm : controlR f s x = if topR s = 0 then jumpB (popR s) x else some (0, popR s) := by unfold controlR; simp [h]; intro e0; rw [e0] at h0; cases h0
    rw [hm]
    split
    · exact Goes1.jump hc (by rw [h]; decide) j fr' (hS.same rfl rfl rfl) rfl rfl
    · exact Goes1.on rfl hc (by rw [h]; decide) (by rw [h]; decide) g fr' (hS.same rfl rfl rfl) rfl rfl rfl
  | jump h j =>
    have hm : controlR f s x = jumpB s x := by unfold controlR; rcases h with h | h <;> simp [h]
    rw [hm]
    exact Goes1.jump hc (by rcases h with h | h <;> rw [h] <;> decide) j fr hS rfl rfl
  | leave h e =>
    rw [e] at fr
    obtain ⟨h1, h2, h3⟩ := fr.leave
    have hm : controlR f s x = some (0, leaveR s) := by unfold controlR; simp [h]; exact h1
    refine ⟨0, _, hm, rfl, by decide, fun _ => ⟨?_, by omega, fun e => (by rw [h] at e; cases e), fun _ => h2⟩, fun h => absurd rfl h⟩
    rcases h3 with ⟨h3, h4⟩ | ⟨p', h3, h4⟩
    · exact .inr ⟨h3, h4, hS.same rfl rfl rfl⟩
    · exact .inl ⟨⟨p', h3, h4⟩, hS.same rfl rfl rfl, by omega⟩
  | cond st h e g j =>
    rw [← hp] at g
    rw [e] at fr
    obtain ⟨h0, -, fr'⟩ := fr.pop
    have hm : controlR f s x = if topR s = 0 then some (0, popR s) else jumpB (popR s) x := by unfold controlR; simp [h]; intro e0; rw [e0] at h0; cases h0
    rw [hm]
    split
    · exact Goes1.on rfl hc (by rw [h]; decide) (by rw [h]; decide) g fr' (hS.same rfl rfl rfl) rfl rfl rfl
    · exact Goes1.jump hc (by rw [h]; decide) j fr' (hS.same rfl rfl rfl) rfl rfl
  | table st h e g =>
    rw [e] at fr
    obtain ⟨h0, hv, fr'⟩ := fr.pop
    have hv0 := hv.1
    obtain ⟨k, hk⟩ : ∃ k, (min (topR s) (x.num : Int)).toNat = k := ⟨_, rfl⟩
    have hkn : k ≤ x.num := by
      rw [← hk, Int.min_def]
      split <;> omega
    obtain ⟨⟨d, hd⟩, hlt, ho12⟩ := g k hkn
    rw [show q + 1 + k = s.pos + k by omega] at hd hlt ho12
    have hm : controlR f s x = jumpB (popR s) (f.code.getD (s.pos + k) ins0) := by
      unfold controlR
      simp only [h]
      rw [if_neg (by decide), if_neg (by decide), if_neg (by decide), if_neg (by decide), if_neg (by decide), if_neg (by decide), if_pos trivial, if_neg (by omega), hk, if_pos hlt]
    rw [hm]
    have hok := hF.all.ins _ _ hlt hd
    cases hok with
    | jump h' j =>
      have := Goes1.jump (s := s) (gl := gl) (fin := fin) hc (by rw [ho12]; decide) j fr' (hS.same rfl rfl rfl) rfl rfl
      obtain ⟨t, s', a1, a2, a3, a4, a5⟩ := this
      exact ⟨t, s', a1, a2, a3, fun ht => ⟨(a4 ht).good, (a4 ht).up, fun e => (by rw [h] at e; cases e), fun e => (by rw [h] at e; cases e)⟩, a5⟩
    | stop h' => rw [ho12] at h'; cases h'
    | into h' => rw [ho12] at h'; rcases h' with h' | h' <;> cases h'
    | cond4 _ h' => rw [ho12] at h'; cases h'
    | leave h' => rw [ho12] at h'; cases h'
    | cond _ h' => rw [ho12] at h'; cases h'
    | table _ h' => rw [ho12] at h'; cases h'
    | call _ h' => rw [ho12] at h'; cases h'
    | drop _ _ h' => rw [ho12] at h'; cases h'
    | choose _ _ h' => rw [ho12] at h'; cases h'
    | getL h' => rw [ho12] at h'; cases h'
    | setL _ h' => rw [ho12] at h'; cases h'
    | teeL _ h' => rw [ho12] at h'; cases h'
    | getG h' => rw [ho12] at h'; cases h'
    | setG _ h' => rw [ho12] at h'; cases h'
    | plain r _ hr h4 => rw [ho12] at hr; rw [show findM 12 = some ⟨0x0b, 0x10, 4, [], []⟩ from rfl] at hr; cases hr; exact absurd rfl h4
  | call st h hn e g =>
    rw [getD_typ] at e g
    rw [← hp] at g
    rw [e] at fr
    obtain ⟨d, hd⟩ := g
    have hn' : x.num < f.funcs.length := by simpa using hn
    have hmem : f.funcs.getD x.num fn0 ∈ f.funcs := by rw [List.getD_eq_getElem?_getD, List.getElem?_eq_getElem hn']; exact List.getElem_mem hn'
    obtain ⟨hfa, hl8, hl1⟩ := hF.fns _ hmem
    have hm : controlR f s x = enterB f s x.num := by unfold controlR; simp [h]
    rw [hm]
    unfold enterB
    by_cases h16 : s.calls.length = 16
    · rw [if_pos h16]
      exact Goes1.trap (t := 6) (s' := s) rfl (by decide) (by decide) rfl (Nat.le_refl _)
    · rw [if_neg h16]
      obtain ⟨k1, p', k2, k3⟩ := fr.enter hd hfa
      obtain ⟨l1, more, d', -, l2⟩ := hfa
      rw [if_pos ⟨hn', k1, by omega, by omega⟩]
      have hcl : (enterR f s x.num).calls.length = s.calls.length + 1 := by show (s.calls ++ [_]).length = _; simp
      exact ⟨0, _, rfl, rfl, by decide, fun _ => ⟨.inl ⟨⟨p', k2, k3⟩, hS.same rfl rfl rfl, by omega⟩, by omega, fun e => (by rw [h] at e; cases e), fun e => (by rw [h] at e; cases e)⟩, fun h => absurd rfl h⟩
  | drop _ _ h => rw [h] at ho; exact absurd ho (by decide)
  | choose _ _ h => rw [h] at ho; exact absurd ho (by decide)
  | getL h => rw [h] at ho; exact absurd ho (by decide)
  | setL _ h => rw [h] at ho; exact absurd ho (by decide)
  | teeL _ h => rw [h] at ho; exact absurd ho (by decide)
  | getG h => rw [h] at ho; exact absurd ho (by decide)
  | setG _ h => rw [h] at ho; exact absurd ho (by decide)
  | plain r st hr h4 e g =>
    have h1 : x.op = 1 ∧ r = ⟨1, 1, 0, [], []⟩ := by
      have key : ∀ y : Fin 256, y.val ≤ 16 → (match findM (UInt8.ofNat y.val) with | none => true | some r => r.behind == 4 || y.val == 1) = true := by decide +kernel
      have := key ⟨x.op.toNat, x.op.toNat_lt⟩ ho
      simp only [UInt8.ofNat_toNat, hr, Bool.or_eq_true, beq_iff_eq] at this
      have h1 : x.op = 1 := by
        rcases this with h | h
        · exact absurd h h4
        · exact UInt8.toNat_inj.1 h
      rw [h1, show findM 1 = some ⟨1, 1, 0, [], []⟩ from rfl] at hr
      cases hr
      exact ⟨h1, rfl⟩
    obtain ⟨h1, rfl⟩ := h1
    rw [← hp] at g
    have e' : st = p.st := by rw [e]; simp
    subst e'
    have g' : Goes T p s.pos p.st := by simpa using g
    exact Goes1.on (s' := s) (by unfold controlR; simp [h1]) hc (by rw [h1]; decide) (by rw [h1]; decide) g' fr hS rfl rfl rfl
end
theorem popl (s : Mc) : (popR s).stack.length = s.stack.length - 1 := by unfold popR; simp
theorem row_mem {op : UInt8} {r : RowT} (h : findM op = some r) : r ∈ rowsM ∧ r.fr.toNat ≤ op.toNat ∧ op.toNat ≤ r.upto.toNat := by
  unfold findM at h
  have h1 := List.find?_some h
  have h2 := List.mem_of_find?_eq_some h
  simp only [Bool.and_eq_true, decide_eq_true_eq] at h1
  exact ⟨h2, UInt8.le_iff_toNat_le.1 h1.1, UInt8.le_iff_toNat_le.1 h1.2⟩
section
variable {f : Flat} {gl : List (UInt8 × Bool)} {T : Typing} {fin : List UInt8} {s : Mc} {p : Pt} {x : Ins} {q : Nat}
variable (fr : Fr T fin p.lo p.res p.st s) (hS : StT gl s) (hc : s.calls.length ≤ 16) (hp : s.pos = q + 1)
include fr hS hc hp
theorem var_typed (hi : InsOk (f.funcs.map (·.typ)) gl T f.code q p x) (ho : x.op.toNat = 26 ∨ x.op.toNat = 27 ∨ (32 ≤ x.op.toNat ∧ x.op.toNat ≤ 36)) : Goes1 gl T fin p.dp x.op s (stepT f s x) := by
  rw [stepT_old ⟨by omega, by omega, by omega⟩]
  have h5 : x.op ≠ 5 := fun e => by rw [e] at ho; revert ho; decide
  have h11 : x.op ≠ 11 := fun e => by rw [e] at ho; revert ho; decide
  have no : ∀ c : UInt8, x.op = c → c.toNat ≤ 16 → False := fun c e h => by rw [e] at ho; omega
  cases hi with
  | drop st t h e g =>
    rw [← hp] at g
    rw [e] at fr
    obtain ⟨h0, -, fr'⟩ := fr.pop
    have hn : x.op.toNat = 26 := by rw [h]; rfl
    refine Goes1.on (s' := popR s) ?_ hc h5 h11 g fr' (hS.same rfl rfl rfl) rfl rfl rfl
    unfold stepR
    rw [if_neg (by omega), if_pos hn, if_neg (by omega)]
  | choose st t h e g =>
    rw [← hp] at g
    rw [e] at fr
    obtain ⟨h0, -, fr1⟩ := fr.pop
    obtain ⟨h1, v1, fr2⟩ := fr1.pop
    obtain ⟨h2, v2, fr3⟩ := fr2.pop
    have hn : x.op.toNat = 27 := by rw [h]; rfl
    have l1 : (popR s).stack.length = s.stack.length - 1 := by unfold popR; simp
    have l2 : (popR (popR s)).stack.length = (popR s).stack.length - 1 := popl (popR s)
    refine Goes1.on (s' := chooseR s) ?_ hc h5 h11 g ?_ (hS.same rfl rfl rfl) rfl rfl rfl
    · unfold stepR
      rw [if_neg (by omega), if_neg (by omega), if_pos hn, if_neg (by omega)]
    · unfold chooseR
      refine fr3.put ?_
      split
      · exact v1
      · exact v2
  | getL h hn g =>
    rw [← hp] at g
    have ho : x.op.toNat = 32 := by rw [h]; rfl
    obtain ⟨k1, k2, k3⟩ := fr.getL hn
    refine Goes1.on (s' := putR s (s.stack.getD ((curR s).1 + x.num) 0)) ?_ hc h5 h11 g (fr.put k3) (hS.same rfl rfl rfl) rfl rfl rfl
    unfold stepR variableR
    rw [if_neg (by omega), if_neg (by omega), if_neg (by omega), if_pos (by omega), if_pos h, if_pos ⟨k1, k2⟩]
    rfl
  | setL st h hn e g =>
    rw [← hp] at g
    have ho : x.op.toNat = 33 := by rw [h]; rfl
    rw [e] at fr
    obtain ⟨h0, v, fr'⟩ := fr.pop
    obtain ⟨k1, k2, -⟩ := fr'.getL hn
    have l1 : (popR s).stack.length = s.stack.length - 1 := by unfold popR; simp
    have k2' : (curR s).1 + x.num < (popR s).stack.length := k2
    refine Goes1.on (s' := { popR s with stack := (popR s).stack.set ((curR s).1 + x.num) (topR s) }) ?_ hc h5 h11 g (fr'.setL hn v) (hS.same rfl rfl rfl) rfl rfl rfl
    unfold stepR variableR
    rw [if_neg (by omega), if_neg (by omega), if_neg (by omega), if_pos (by omega), if_neg (by rw [h]; decide), if_pos h, if_pos ⟨k1, by omega⟩]
    rfl
  | teeL st h hn e g =>
    rw [← hp] at g
    have ho : x.op.toNat = 34 := by rw [h]; rfl
    rw [e] at fr
    obtain ⟨h0, v, fr'⟩ := fr.pop
    obtain ⟨k1, k2, -⟩ := fr'.getL hn
    have l1 : (popR s).stack.length = s.stack.length - 1 := by unfold popR; simp
    have k2' : (curR s).1 + x.num < (popR s).stack.length := k2
    refine Goes1.on (s' := putR { popR s with stack := (popR s).stack.set ((curR s).1 + x.num) (topR s) } (topR s)) ?_ hc h5 h11 g ((fr'.setL hn v).put v) (hS.same rfl rfl rfl) rfl rfl rfl
    unfold stepR variableR
    rw [if_neg (by omega), if_neg (by omega), if_neg (by omega), if_pos (by omega), if_neg (by rw [h]; decide), if_neg (by rw [h]; decide), if_pos h, if_pos ⟨k1, by omega⟩]
    rfl
  | getG h hn g =>
    rw [← hp] at g
    have ho : x.op.toNat = 35 := by rw [h]; rfl
    have hgl := hS.gl.len
    rw [List.length_map] at hgl
    have hv := hS.gl.get (k := x.num) (by simpa using hn)
    have e1 : (gl.map (·.1)).getD x.num 0 = (gl.getD x.num (0, false)).1 := by
      rw [List.getD_eq_getElem?_getD, List.getD_eq_getElem?_getD, List.getElem?_map]
      cases gl[x.num]? <;> rfl
    rw [e1] at hv
    refine Goes1.on (s' := putR s (s.gl.getD x.num 0)) ?_ hc h5 h11 g (fr.put hv) (hS.same rfl rfl rfl) rfl rfl rfl
    unfold stepR variableR
    rw [if_neg (by omega), if_neg (by omega), if_neg (by omega), if_pos (by omega), if_neg (by rw [h]; decide), if_neg (by rw [h]; decide), if_neg (by rw [h]; decide), if_pos h, if_pos (by omega)]
    rfl
  | setG st h hn e g =>
    rw [← hp] at g
    have ho : x.op.toNat = 36 := by rw [h]; rfl
    have hgl := hS.gl.len
    rw [List.length_map] at hgl
    rw [e] at fr
    obtain ⟨h0, v, fr'⟩ := fr.pop
    have e1 : (gl.map (·.1)).getD x.num 0 = (gl.getD x.num (0, false)).1 := by
      rw [List.getD_eq_getElem?_getD, List.getD_eq_getElem?_getD, List.getElem?_map]
      cases gl[x.num]? <;> rfl
    rw [← e1] at v
    refine Goes1.on (s' := { popR s with gl := s.gl.set x.num (topR s) }) ?_ hc h5 h11 g (fr'.same rfl rfl) ⟨hS.gl.set v, hS.mem, hS.keys⟩ rfl rfl rfl
    unfold stepR variableR
    rw [if_neg (by omega), if_neg (by omega), if_neg (by omega), if_pos (by omega), if_neg (by rw [h]; decide), if_neg (by rw [h]; decide), if_neg (by rw [h]; decide), if_neg (by rw [h]; decide), if_pos h, if_pos ⟨by omega, h0⟩]
    rfl
  | stop h => exact (no _ h (by decide)).elim
  | into h => rcases h with h | h <;> exact (no _ h (by decide)).elim
  | cond4 _ h => exact (no _ h (by decide)).elim
  | jump h => rcases h with h | h <;> exact (no _ h (by decide)).elim
  | leave h => exact (no _ h (by decide)).elim
  | cond _ h => exact (no _ h (by decide)).elim
  | table _ h => exact (no _ h (by decide)).elim
  | call _ h => exact (no _ h (by decide)).elim
  | plain r st hr h4 =>
    have key : ∀ y : Fin 256, (y.val = 26 ∨ y.val = 27 ∨ (32 ≤ y.val ∧ y.val ≤ 36)) → (match findM (UInt8.ofNat y.val) with | none => true | some r => r.behind == 4) = true := by decide +kernel
    have := key ⟨x.op.toNat, x.op.toNat_lt⟩ ho
    simp only [UInt8.ofNat_toNat, hr, beq_iff_eq] at this
    exact absurd this h4
end
section
variable {f : Flat} {gl : List (UInt8 × Bool)} {T : Typing} {fin : List UInt8} {s : Mc} {p : Pt} {x : Ins} {st : List UInt8}
theorem get_typed {z : Nat} {t : UInt8} {V : Nat → Int} {m : Option (Nat × Mc)} (fr : Fr T fin p.lo p.res (st ++ [127]) s) (hS : StT gl s) (hc : s.calls.length ≤ 16) (h5 : x.op ≠ 5) (h11 : x.op ≠ 11) (hn : x.num < 4294967296) (g : Goes T p s.pos (st ++ [t])) (hV : ∀ a, InTy t (V a))
    (hm : m = if addrOk s x.num = false then none else if s.mem.length < (topR s).toNat + x.num + z then some (4, popR s) else some (0, putR (popR s) (V ((topR s).toNat + x.num)))) : Goes1 gl T fin p.dp x.op s m := by
  obtain ⟨h0, v, fr'⟩ := fr.pop
  have hv := v.nar
  have hml := hS.mem.2
  have hok : addrOk s x.num = true := by unfold addrOk; simp only [Bool.and_eq_true, decide_eq_true_eq]; omega
  rw [hok, if_neg (by decide)] at hm
  split at hm
  · exact Goes1.trap hm (by decide) (by decide) rfl (pop_len s)
  · exact Goes1.on hm hc h5 h11 g (fr'.put (hV _)) (hS.same rfl rfl rfl) rfl rfl rfl
theorem set_typed {z : Nat} {t : UInt8} (fr : Fr T fin p.lo p.res (st ++ [127] ++ [t]) s) (hS : StT gl s) (hc : s.calls.length ≤ 16) (h5 : x.op ≠ 5) (h11 : x.op ≠ 11) (hn : x.num < 4294967296) (g : Goes T p s.pos st) : Goes1 gl T fin p.dp x.op s (setMemR s x.num z) := by
  obtain ⟨h0, v, fr1⟩ := fr.pop
  obtain ⟨h1, v1, fr2⟩ := fr1.pop
  have hv := v.any
  have hv1 := v1.nar
  have hml := hS.mem.2
  have hml' : (popR s).mem.length ≤ 256 := hml
  have l1 : (popR s).stack.length = s.stack.length - 1 := by unfold popR; simp
  have hok : addrOk (popR s) x.num = true := by unfold addrOk; simp only [Bool.and_eq_true, decide_eq_true_eq]; omega
  obtain ⟨m, hm⟩ : ∃ m, m = setMemR s x.num z := ⟨_, rfl⟩
  rw [← hm]
  unfold setMemR at hm
  rw [if_neg (by rw [hok]; simp; omega)] at hm
  split at hm
  · exact Goes1.trap hm (by decide) (by decide) rfl (Nat.le_trans (pop_len _) (pop_len s))
  · refine Goes1.on hm hc h5 h11 g (fr2.same rfl rfl) ⟨hS.gl, ?_, hS.keys⟩ rfl rfl rfl
    show (stTo _ _ _ _).length % 64 = 0 ∧ (stTo _ _ _ _).length ≤ 256
    rw [stTo_len]; exact hS.mem
theorem two_typed {t1 t2 t3 : UInt8} {m : Option (Nat × Mc)} (fr : Fr T fin p.lo p.res (st ++ [t1] ++ [t2]) s) (hS : StT gl s) (hc : s.calls.length ≤ 16) (h5 : x.op ≠ 5) (h11 : x.op ≠ 11) (g : Goes T p s.pos (st ++ [t3]))
    (hm : ∀ a b, topR (popR s) = a → topR s = b → InTy t1 a → InTy t2 b → 2 ≤ s.stack.length → ∃ v t, m = (if t = 0 then some (0, putR (popR (popR s)) v) else some (t, popR (popR s))) ∧ InTy t3 v ∧ t ≠ 5) : Goes1 gl T fin p.dp x.op s m := by
  obtain ⟨h0, v, fr1⟩ := fr.pop
  obtain ⟨h1, v1, fr2⟩ := fr1.pop
  have l1 : (popR s).stack.length = s.stack.length - 1 := by unfold popR; simp
  obtain ⟨w, t, e, hw, ht⟩ := hm _ _ rfl rfl v1 v (by omega)
  by_cases h : t = 0
  · rw [if_pos h] at e
    exact Goes1.on e hc h5 h11 g (fr2.put hw) (hS.same rfl rfl rfl) rfl rfl rfl
  · rw [if_neg h] at e
    exact Goes1.trap e h ht rfl (Nat.le_trans (pop_len _) (pop_len s))
theorem one_typed {t1 t3 : UInt8} {m : Option (Nat × Mc)} (fr : Fr T fin p.lo p.res (st ++ [t1]) s) (hS : StT gl s) (hc : s.calls.length ≤ 16) (h5 : x.op ≠ 5) (h11 : x.op ≠ 11) (g : Goes T p s.pos (st ++ [t3]))
    (hm : ∀ a, topR s = a → InTy t1 a → 0 < s.stack.length → ∃ v, m = some (0, putR (popR s) v) ∧ InTy t3 v) : Goes1 gl T fin p.dp x.op s m := by
  obtain ⟨h0, v, fr1⟩ := fr.pop
  obtain ⟨w, e, hw⟩ := hm _ rfl v h0
  exact Goes1.on e hc h5 h11 g (fr1.put hw) (hS.same rfl rfl rfl) rfl rfl rfl
end
theorem put_pop {s : Mc} (h : 0 < s.stack.length) : putR (popR s) (topR s) = s := by
  obtain ⟨st, ca, po, fu, me, gl, ke⟩ := s
  have h' : 0 < st.length := h
  show Mc.mk (st.take (st.length - 1) ++ [st.getD (st.length - 1) 0]) ca po fu me gl ke = Mc.mk st ca po fu me gl ke
  congr 1
  have e : st.getD (st.length - 1) 0 = st[st.length - 1]'(by omega) := by simp [List.getD_eq_getElem?_getD, List.getElem?_eq_getElem (show st.length - 1 < st.length by omega)]
  rw [e, List.take_append_getElem, List.take_of_length_le (by omega)]
section
variable {f : Flat} {gl : List (UInt8 × Bool)} {T : Typing} {fin : List UInt8} {s : Mc} {p : Pt} {x : Ins} {st : List UInt8} (hS : StT gl s) (hc : s.calls.length ≤ 16) (h5 : x.op ≠ 5) (h11 : x.op ≠ 11)
include hS hc h5 h11
theorem row_28 (_hn : x.num < 18446744073709551616) (fr : Fr T fin p.lo p.res (st ++ [127]) s) (g : Goes T p s.pos (st ++ [127])) (hn' : (1 : Nat) ≠ 3 → x.num < 4294967296) (hlo : 40 ≤ x.op.toNat) (hhi : x.op.toNat ≤ 40) : Goes1 gl T fin p.dp x.op s (stepT f s x) := by
  have hn0 : x.op.toNat = 40 := by omega
  have hop : x.op = 40 := UInt8.toNat_inj.1 hn0
  refine get_typed (z := 4) (t := 127) (V := fun a => (leTo s a 4 : Int)) fr hS hc h5 h11 (hn' (by decide)) g (fun a => inTy_nar (by omega) (by have := leTo_lt4 s a; omega)) ?_
  rw [stepT_old ⟨by omega, by omega, by omega⟩]
  unfold stepR memoryR
  rw [if_neg (by omega), if_neg (by omega), if_neg (by omega), if_neg (by omega), if_pos (by omega), if_neg (by rw [hop]; decide), if_pos hop]
  rfl
theorem row_29 (_hn : x.num < 18446744073709551616) (fr : Fr T fin p.lo p.res (st ++ [127]) s) (g : Goes T p s.pos (st ++ [126])) (hn' : (1 : Nat) ≠ 3 → x.num < 4294967296) (hlo : 41 ≤ x.op.toNat) (hhi : x.op.toNat ≤ 41) : Goes1 gl T fin p.dp x.op s (stepT f s x) := by
  have hn0 : x.op.toNat = 41 := by omega
  have hop : x.op = 41 := UInt8.toNat_inj.1 hn0
  refine get_typed (z := 8) (t := 126) (V := fun a => (leTo s a 8 : Int)) fr hS hc h5 h11 (hn' (by decide)) g (fun a => inTy_wide (by omega) (by have := leTo_lt s a 8; omega)) ?_
  rw [stepT_old ⟨by omega, by omega, by omega⟩]
  unfold stepR memoryR
  rw [if_neg (by omega), if_neg (by omega), if_neg (by omega), if_neg (by omega), if_pos (by omega), if_neg (by rw [hop]; decide), if_neg (by rw [hop]; decide), if_pos hop]
  rfl
theorem row_2c (_hn : x.num < 18446744073709551616) (fr : Fr T fin p.lo p.res (st ++ [127]) s) (g : Goes T p s.pos (st ++ [127])) (hn' : (1 : Nat) ≠ 3 → x.num < 4294967296) (hlo : 44 ≤ x.op.toNat) (hhi : x.op.toNat ≤ 45) : Goes1 gl T fin p.dp x.op s (stepT f s x) := by
  rcases (by omega : x.op.toNat = 44 ∨ x.op.toNat = 45) with hn0 | hn0
  · have hop : x.op = 44 := UInt8.toNat_inj.1 hn0
    refine get_typed (z := 1) (t := 127) (V := fun a => sgnV (leTo s a 1 : Int)) fr hS hc h5 h11 (hn' (by decide)) g (fun a => sgn_ty _) ?_
    unfold stepT
    rw [if_pos hop]
    rfl
  · have hop : x.op = 45 := UInt8.toNat_inj.1 hn0
    refine get_typed (z := 1) (t := 127) (V := fun a => (leTo s a 1 : Int)) fr hS hc h5 h11 (hn' (by decide)) g (fun a => inTy_nar (by omega) (by have := leTo_lt1 s a; omega)) ?_
    rw [stepT_old ⟨by omega, by omega, by omega⟩]
    unfold stepR memoryR
    rw [if_neg (by omega), if_neg (by omega), if_neg (by omega), if_neg (by omega), if_pos (by omega), if_pos hop]
    rfl
theorem row_36 (_hn : x.num < 18446744073709551616) (fr : Fr T fin p.lo p.res (st ++ [127, 127]) s) (g : Goes T p s.pos (st ++ [])) (hn' : (1 : Nat) ≠ 3 → x.num < 4294967296) (hlo : 54 ≤ x.op.toNat) (hhi : x.op.toNat ≤ 54) : Goes1 gl T fin p.dp x.op s (stepT f s x) := by
  have hn0 : x.op.toNat = 54 := by omega
  have hop : x.op = 54 := UInt8.toNat_inj.1 hn0
  have fr2 : Fr T fin p.lo p.res (st ++ [127] ++ [127]) s := by rw [List.append_assoc]; exact fr
  have hm : stepT f s x = setMemR s x.num 4 := by
    rw [stepT_old ⟨by omega, by omega, by omega⟩]
    unfold stepR memoryR
    rw [if_neg (by omega), if_neg (by omega), if_neg (by omega), if_neg (by omega), if_pos (by omega), if_neg (by rw [hop]; decide), if_neg (by rw [hop]; decide), if_neg (by rw [hop]; decide), if_neg (by rw [hop]; decide), if_pos hop]
  rw [hm]
  exact set_typed fr2 hS hc h5 h11 (hn' (by decide)) (by rwa [List.append_nil] at g)
theorem row_37 (_hn : x.num < 18446744073709551616) (fr : Fr T fin p.lo p.res (st ++ [127, 126]) s) (g : Goes T p s.pos (st ++ [])) (hn' : (1 : Nat) ≠ 3 → x.num < 4294967296) (hlo : 55 ≤ x.op.toNat) (hhi : x.op.toNat ≤ 55) : Goes1 gl T fin p.dp x.op s (stepT f s x) := by
  have hn0 : x.op.toNat = 55 := by omega
  have hop : x.op = 55 := UInt8.toNat_inj.1 hn0
  have fr2 : Fr T fin p.lo p.res (st ++ [127] ++ [126]) s := by rw [List.append_assoc]; exact fr
  have hm : stepT f s x = setMemR s x.num 8 := by
    rw [stepT_old ⟨by omega, by omega, by omega⟩]
    unfold stepR memoryR
    rw [if_neg (by omega), if_neg (by omega), if_neg (by omega), if_neg (by omega), if_pos (by omega), if_neg (by rw [hop]; decide), if_neg (by rw [hop]; decide), if_neg (by rw [hop]; decide), if_neg (by rw [hop]; decide), if_neg (by rw [hop]; decide), if_pos hop]
  rw [hm]
  exact set_typed fr2 hS hc h5 h11 (hn' (by decide)) (by rwa [List.append_nil] at g)
theorem row_3a (_hn : x.num < 18446744073709551616) (fr : Fr T fin p.lo p.res (st ++ [127, 127]) s) (g : Goes T p s.pos (st ++ [])) (hn' : (1 : Nat) ≠ 3 → x.num < 4294967296) (hlo : 58 ≤ x.op.toNat) (hhi : x.op.toNat ≤ 58) : Goes1 gl T fin p.dp x.op s (stepT f s x) := by
  have hn0 : x.op.toNat = 58 := by omega
  have hop : x.op = 58 := UInt8.toNat_inj.1 hn0
  have fr2 : Fr T fin p.lo p.res (st ++ [127] ++ [127]) s := by rw [List.append_assoc]; exact fr
  have hm : stepT f s x = setMemR s x.num 1 := by
    rw [stepT_old ⟨by omega, by omega, by omega⟩]
    unfold stepR memoryR
    rw [if_neg (by omega), if_neg (by omega), if_neg (by omega), if_neg (by omega), if_pos (by omega), if_neg (by rw [hop]; decide), if_neg (by rw [hop]; decide), if_neg (by rw [hop]; decide), if_pos hop]
  rw [hm]
  exact set_typed fr2 hS hc h5 h11 (hn' (by decide)) (by rwa [List.append_nil] at g)
theorem row_3f (_hn : x.num < 18446744073709551616) (fr : Fr T fin p.lo p.res (st ++ []) s) (g : Goes T p s.pos (st ++ [127])) (_hn' : (0 : Nat) ≠ 3 → x.num < 4294967296) (hlo : 63 ≤ x.op.toNat) (hhi : x.op.toNat ≤ 63) : Goes1 gl T fin p.dp x.op s (stepT f s x) := by
  have hn0 : x.op.toNat = 63 := by omega
  have hop : x.op = 63 := UInt8.toNat_inj.1 hn0
  have fr2 : Fr T fin p.lo p.res st s := by rwa [List.append_nil] at fr
  have hml := hS.mem.2
  refine Goes1.on (s' := putR s ((s.mem.length / 64 : Nat) : Int)) ?_ hc h5 h11 g (fr2.put (inTy_nar (by omega) (by omega))) (hS.same rfl rfl rfl) rfl rfl rfl
  rw [stepT_old ⟨by omega, by omega, by omega⟩]
  unfold stepR memoryR
  rw [if_neg (by omega), if_neg (by omega), if_neg (by omega), if_neg (by omega), if_pos (by omega), if_neg (by rw [hop]; decide), if_neg (by rw [hop]; decide), if_neg (by rw [hop]; decide), if_neg (by rw [hop]; decide), if_neg (by rw [hop]; decide), if_neg (by rw [hop]; decide), if_pos hop, if_pos (by omega)]
theorem row_40 (_hn : x.num < 18446744073709551616) (fr : Fr T fin p.lo p.res (st ++ [127]) s) (g : Goes T p s.pos (st ++ [127])) (_hn' : (0 : Nat) ≠ 3 → x.num < 4294967296) (hlo : 64 ≤ x.op.toNat) (hhi : x.op.toNat ≤ 64) : Goes1 gl T fin p.dp x.op s (stepT f s x) := by
  have hn0 : x.op.toNat = 64 := by omega
  have hop : x.op = 64 := UInt8.toNat_inj.1 hn0
  obtain ⟨k0, v, fr1⟩ := fr.pop
  have hv := v.nar
  obtain ⟨hm1, hm2⟩ := hS.mem
  have hm : stepT f s x = (growR s).map (fun s' => (0, s')) := by
    rw [stepT_old ⟨by omega, by omega, by omega⟩]
    unfold stepR memoryR
    rw [if_neg (by omega), if_neg (by omega), if_neg (by omega), if_neg (by omega), if_pos (by omega), if_neg (by rw [hop]; decide), if_neg (by rw [hop]; decide), if_neg (by rw [hop]; decide), if_neg (by rw [hop]; decide), if_neg (by rw [hop]; decide), if_neg (by rw [hop]; decide), if_neg (by rw [hop]; decide), if_pos hop]
  rw [hm]
  unfold growR
  rw [if_neg (by omega)]
  split
  · exact Goes1.on rfl hc h5 h11 g (fr1.put (inTy_nar (by decide) (by decide))) (hS.same rfl rfl rfl) rfl rfl rfl
  · refine Goes1.on rfl hc h5 h11 g ((fr1.same (s' := { popR s with mem := s.mem ++ List.replicate ((topR s).toNat * 64) 0 }) rfl rfl).put (inTy_nar (by omega) (by omega))) ⟨hS.gl, ?_, hS.keys⟩ rfl rfl rfl
    show (s.mem ++ List.replicate ((topR s).toNat * 64) 0).length % 64 = 0 ∧ (s.mem ++ List.replicate ((topR s).toNat * 64) 0).length ≤ 256
    rw [List.length_append, List.length_replicate]
    omega
theorem row_41 (hn : x.num < 18446744073709551616) (fr : Fr T fin p.lo p.res (st ++ []) s) (g : Goes T p s.pos (st ++ [127])) (hn' : (2 : Nat) ≠ 3 → x.num < 4294967296) (hlo : 65 ≤ x.op.toNat) (hhi : x.op.toNat ≤ 65) : Goes1 gl T fin p.dp x.op s (stepT f s x) := by
  have hn0 : x.op.toNat = 65 := by omega
  have hop : x.op = 65 := UInt8.toNat_inj.1 hn0
  have fr2 : Fr T fin p.lo p.res st s := by rwa [List.append_nil] at fr
  refine Goes1.on (s' := putR s x.num) ?_ hc h5 h11 g (fr2.put (inTy_nar (by omega) (by have := hn' (by decide); omega))) (hS.same rfl rfl rfl) rfl rfl rfl
  rw [stepT_old ⟨by omega, by omega, by omega⟩]
  unfold stepR
  rw [if_neg (by omega), if_neg (by omega), if_neg (by omega), if_neg (by omega), if_neg (by omega), if_pos (by omega)]
theorem row_42 (hn : x.num < 18446744073709551616) (fr : Fr T fin p.lo p.res (st ++ []) s) (g : Goes T p s.pos (st ++ [126])) (_hn' : (3 : Nat) ≠ 3 → x.num < 4294967296) (hlo : 66 ≤ x.op.toNat) (hhi : x.op.toNat ≤ 66) : Goes1 gl T fin p.dp x.op s (stepT f s x) := by
  have hn0 : x.op.toNat = 66 := by omega
  have hop : x.op = 66 := UInt8.toNat_inj.1 hn0
  have fr2 : Fr T fin p.lo p.res st s := by rwa [List.append_nil] at fr
  refine Goes1.on (s' := putR s x.num) ?_ hc h5 h11 g (fr2.put (inTy_wide (by omega) (by omega))) (hS.same rfl rfl rfl) rfl rfl rfl
  rw [stepT_old ⟨by omega, by omega, by omega⟩]
  unfold stepR
  rw [if_neg (by omega), if_neg (by omega), if_neg (by omega), if_neg (by omega), if_neg (by omega), if_pos (by omega)]
theorem row_45 (_hn : x.num < 18446744073709551616) (fr : Fr T fin p.lo p.res (st ++ [127]) s) (g : Goes T p s.pos (st ++ [127])) (_hn' : (0 : Nat) ≠ 3 → x.num < 4294967296) (hlo : 69 ≤ x.op.toNat) (hhi : x.op.toNat ≤ 69) : Goes1 gl T fin p.dp x.op s (stepT f s x) := by
  have hn0 : x.op.toNat = 69 := by omega
  have hop : x.op = 69 := UInt8.toNat_inj.1 hn0
  refine one_typed (t3 := 127) fr hS hc h5 h11 g (fun a ea va h0 => ⟨truth (topR s == 0), ?_, truth_ty _⟩)
  rw [stepT_old ⟨by omega, by omega, by omega⟩]
  unfold stepR reckonR
  rw [if_neg (by omega), if_neg (by omega), if_neg (by omega), if_neg (by omega), if_neg (by omega), if_neg (by omega), if_neg (by omega), if_neg (by omega), if_pos (by omega), if_neg (by omega)]
theorem row_46 (_hn : x.num < 18446744073709551616) (fr : Fr T fin p.lo p.res (st ++ [127, 127]) s) (g : Goes T p s.pos (st ++ [127])) (_hn' : (0 : Nat) ≠ 3 → x.num < 4294967296) (hlo : 70 ≤ x.op.toNat) (hhi : x.op.toNat ≤ 79) : Goes1 gl T fin p.dp x.op s (stepT f s x) := by
  have fr2 : Fr T fin p.lo p.res (st ++ [127] ++ [127]) s := by rw [List.append_assoc]; exact fr
  refine two_typed (t3 := 127) fr2 hS hc h5 h11 g (fun a b ea eb va vb h2 => ⟨truth (compareR false (x.op.toNat - 70) (topR (popR s)) (topR s)), 0, ?_, truth_ty _, by decide⟩)
  rw [stepT_old ⟨by omega, by omega, by omega⟩]
  unfold stepR reckonR
  rw [if_neg (by omega), if_neg (by omega), if_neg (by omega), if_neg (by omega), if_neg (by omega), if_neg (by omega), if_neg (by omega), if_neg (by omega), if_neg (by omega), if_pos (by omega)]
  unfold compareB
  rw [if_pos h2, if_pos rfl]
theorem row_50 (_hn : x.num < 18446744073709551616) (fr : Fr T fin p.lo p.res (st ++ [126]) s) (g : Goes T p s.pos (st ++ [127])) (_hn' : (0 : Nat) ≠ 3 → x.num < 4294967296) (hlo : 80 ≤ x.op.toNat) (hhi : x.op.toNat ≤ 80) : Goes1 gl T fin p.dp x.op s (stepT f s x) := by
  have hn0 : x.op.toNat = 80 := by omega
  have hop : x.op = 80 := UInt8.toNat_inj.1 hn0
  refine one_typed (t3 := 127) fr hS hc h5 h11 g (fun a ea va h0 => ⟨truth (topR s == 0), ?_, truth_ty _⟩)
  rw [stepT_old ⟨by omega, by omega, by omega⟩]
  unfold stepR reckonR
  rw [if_neg (by omega), if_neg (by omega), if_neg (by omega), if_neg (by omega), if_neg (by omega), if_neg (by omega), if_neg (by omega), if_neg (by omega), if_pos (by omega), if_neg (by omega)]
theorem row_51 (_hn : x.num < 18446744073709551616) (fr : Fr T fin p.lo p.res (st ++ [126, 126]) s) (g : Goes T p s.pos (st ++ [127])) (_hn' : (0 : Nat) ≠ 3 → x.num < 4294967296) (hlo : 81 ≤ x.op.toNat) (hhi : x.op.toNat ≤ 90) : Goes1 gl T fin p.dp x.op s (stepT f s x) := by
  have fr2 : Fr T fin p.lo p.res (st ++ [126] ++ [126]) s := by rw [List.append_assoc]; exact fr
  refine two_typed (t3 := 127) fr2 hS hc h5 h11 g (fun a b ea eb va vb h2 => ⟨truth (compareR true (x.op.toNat - 81) (topR (popR s)) (topR s)), 0, ?_, truth_ty _, by decide⟩)
  rw [stepT_old ⟨by omega, by omega, by omega⟩]
  unfold stepR reckonR
  rw [if_neg (by omega), if_neg (by omega), if_neg (by omega), if_neg (by omega), if_neg (by omega), if_neg (by omega), if_neg (by omega), if_neg (by omega), if_neg (by omega), if_neg (by omega), if_pos (by omega)]
  unfold compareB
  rw [if_pos h2, if_pos rfl]
theorem row_67 (_hn : x.num < 18446744073709551616) (fr : Fr T fin p.lo p.res (st ++ [127]) s) (g : Goes T p s.pos (st ++ [127])) (_hn' : (0 : Nat) ≠ 3 → x.num < 4294967296) (hlo : 103 ≤ x.op.toNat) (hhi : x.op.toNat ≤ 105) : Goes1 gl T fin p.dp x.op s (stepT f s x) := by
  refine one_typed (t3 := 127) fr hS hc h5 h11 g (fun a ea va h0 => ?_)
  refine ⟨_, ?_, count_ty (wd := false) (k := x.op.toNat - 103) (by omega) (a := topR s) (by rw [ea]; exact va)⟩
  unfold stepT countB
  have hr := va.any
  rw [if_neg (fun e => by rw [e] at hlo hhi; revert hlo hhi; decide), if_pos (by omega), if_neg (by omega)]
theorem row_6a (_hn : x.num < 18446744073709551616) (fr : Fr T fin p.lo p.res (st ++ [127, 127]) s) (g : Goes T p s.pos (st ++ [127])) (_hn' : (0 : Nat) ≠ 3 → x.num < 4294967296) (hlo : 106 ≤ x.op.toNat) (hhi : x.op.toNat ≤ 120) : Goes1 gl T fin p.dp x.op s (stepT f s x) := by
  have fr2 : Fr T fin p.lo p.res (st ++ [127] ++ [127]) s := by rw [List.append_assoc]; exact fr
  refine two_typed (t3 := 127) fr2 hS hc h5 h11 g (fun a b ea eb va vb h2 => ?_)
  obtain ⟨v, tt, e1, e2, e3⟩ := combine_ty (wd := false) (k := x.op.toNat - 106) (by omega) va vb
  refine ⟨v, tt, ?_, e2, by omega⟩
  rw [stepT_old ⟨by omega, by omega, by omega⟩]
  unfold stepR reckonR
  rw [if_neg (by omega), if_neg (by omega), if_neg (by omega), if_neg (by omega), if_neg (by omega), if_neg (by omega), if_neg (by omega), if_neg (by omega), if_neg (by omega), if_neg (by omega), if_neg (by omega), if_pos (by omega)]
  unfold combineB
  rw [if_pos h2, ea, eb, e1]
theorem row_79 (_hn : x.num < 18446744073709551616) (fr : Fr T fin p.lo p.res (st ++ [126]) s) (g : Goes T p s.pos (st ++ [126])) (_hn' : (0 : Nat) ≠ 3 → x.num < 4294967296) (hlo : 121 ≤ x.op.toNat) (hhi : x.op.toNat ≤ 123) : Goes1 gl T fin p.dp x.op s (stepT f s x) := by
  refine one_typed (t3 := 126) fr hS hc h5 h11 g (fun a ea va h0 => ?_)
  refine ⟨_, ?_, count_ty (wd := true) (k := x.op.toNat - 121) (by omega) (a := topR s) (by rw [ea]; exact va)⟩
  unfold stepT countB
  have hr := va.any
  rw [if_neg (fun e => by rw [e] at hlo hhi; revert hlo hhi; decide), if_neg (by omega), if_pos (by omega), if_neg (by omega)]
theorem row_7c (_hn : x.num < 18446744073709551616) (fr : Fr T fin p.lo p.res (st ++ [126, 126]) s) (g : Goes T p s.pos (st ++ [126])) (_hn' : (0 : Nat) ≠ 3 → x.num < 4294967296) (hlo : 124 ≤ x.op.toNat) (hhi : x.op.toNat ≤ 138) : Goes1 gl T fin p.dp x.op s (stepT f s x) := by
  have fr2 : Fr T fin p.lo p.res (st ++ [126] ++ [126]) s := by rw [List.append_assoc]; exact fr
  refine two_typed (t3 := 126) fr2 hS hc h5 h11 g (fun a b ea eb va vb h2 => ?_)
  obtain ⟨v, tt, e1, e2, e3⟩ := combine_ty (wd := true) (k := x.op.toNat - 124) (by omega) va vb
  refine ⟨v, tt, ?_, e2, by omega⟩
  rw [stepT_old ⟨by omega, by omega, by omega⟩]
  unfold stepR reckonR
  rw [if_neg (by omega), if_neg (by omega), if_neg (by omega), if_neg (by omega), if_neg (by omega), if_neg (by omega), if_neg (by omega), if_neg (by omega), if_neg (by omega), if_neg (by omega), if_neg (by omega), if_neg (by omega), if_pos (by omega)]
  unfold combineB
  rw [if_pos h2, ea, eb, e1]
theorem row_a7 (_hn : x.num < 18446744073709551616) (fr : Fr T fin p.lo p.res (st ++ [126]) s) (g : Goes T p s.pos (st ++ [127])) (_hn' : (0 : Nat) ≠ 3 → x.num < 4294967296) (hlo : 167 ≤ x.op.toNat) (hhi : x.op.toNat ≤ 167) : Goes1 gl T fin p.dp x.op s (stepT f s x) := by
  have hn0 : x.op.toNat = 167 := by omega
  have hop : x.op = 167 := UInt8.toNat_inj.1 hn0
  refine one_typed (t3 := 127) fr hS hc h5 h11 g (fun a ea va h0 => ⟨cutR false (topR s), ?_, cutR_ty false _⟩)
  rw [stepT_old ⟨by omega, by omega, by omega⟩]
  unfold stepR reckonR
  rw [if_neg (by omega), if_neg (by omega), if_neg (by omega), if_neg (by omega), if_neg (by omega), if_neg (by omega), if_neg (by omega), if_neg (by omega), if_neg (by omega), if_neg (by omega), if_neg (by omega), if_neg (by omega), if_neg (by omega), if_pos (by omega), if_neg (by omega)]
theorem row_ac (_hn : x.num < 18446744073709551616) (fr : Fr T fin p.lo p.res (st ++ [127]) s) (g : Goes T p s.pos (st ++ [126])) (_hn' : (0 : Nat) ≠ 3 → x.num < 4294967296) (hlo : 172 ≤ x.op.toNat) (hhi : x.op.toNat ≤ 173) : Goes1 gl T fin p.dp x.op s (stepT f s x) := by
  rcases (by omega : x.op.toNat = 172 ∨ x.op.toNat = 173) with hn0 | hn0
  · refine one_typed (t3 := 126) fr hS hc h5 h11 g (fun a ea va h0 => ⟨IntKind.u64.wrap (signR false (topR s)), ?_, ?_⟩)
    · rw [stepT_old ⟨by omega, by omega, by omega⟩]
      unfold stepR reckonR
      rw [if_neg (by omega), if_neg (by omega), if_neg (by omega), if_neg (by omega), if_neg (by omega), if_neg (by omega), if_neg (by omega), if_neg (by omega), if_neg (by omega), if_neg (by omega), if_neg (by omega), if_neg (by omega), if_neg (by omega), if_neg (by omega), if_pos (by omega), if_neg (by omega)]
    · rw [IntKind.wrap_u64]; exact inTy_wide (by omega) (by omega)
  · obtain ⟨k0, v, fr1⟩ := fr.pop
    have hv := v.nar
    have e0 := put_pop k0
    refine Goes1.on (s' := s) ?_ hc h5 h11 g (by rw [← e0]; exact fr1.put (inTy_wide hv.1 (by omega))) hS rfl rfl rfl
    rw [stepT_old ⟨by omega, by omega, by omega⟩]
    unfold stepR reckonR
    rw [if_neg (by omega), if_neg (by omega), if_neg (by omega), if_neg (by omega), if_neg (by omega), if_neg (by omega), if_neg (by omega), if_neg (by omega), if_neg (by omega), if_neg (by omega), if_neg (by omega), if_neg (by omega), if_neg (by omega), if_neg (by omega), if_neg (by omega), if_pos (by omega)]
theorem row_e0 (_hn : x.num < 18446744073709551616) (fr : Fr T fin p.lo p.res (st ++ [126]) s) (g : Goes T p s.pos (st ++ [126])) (_hn' : (0 : Nat) ≠ 3 → x.num < 4294967296) (hlo : 224 ≤ x.op.toNat) (hhi : x.op.toNat ≤ 224) : Goes1 gl T fin p.dp x.op s (stepT f s x) := by
  have hn0 : x.op.toNat = 224 := by omega
  have hop : x.op = 224 := UInt8.toNat_inj.1 hn0
  refine one_typed (t3 := 126) fr hS hc h5 h11 g (fun a ea va h0 => ⟨IntKind.u64.wrap ((look s.keys (wrap64 (topR s))).getD 0), ?_, ?_⟩)
  · rw [stepT_old ⟨by omega, by omega, by omega⟩]
    unfold stepR getKeyR
    rw [if_neg (by omega), if_neg (by omega), if_neg (by omega), if_neg (by omega), if_neg (by omega), if_neg (by omega), if_pos hn0, if_neg (by omega)]
    rfl
  · rw [IntKind.wrap_u64]; exact inTy_wide (by omega) (by omega)
theorem row_e1 (_hn : x.num < 18446744073709551616) (fr : Fr T fin p.lo p.res (st ++ [126, 126]) s) (g : Goes T p s.pos (st ++ [])) (_hn' : (0 : Nat) ≠ 3 → x.num < 4294967296) (hlo : 225 ≤ x.op.toNat) (hhi : x.op.toNat ≤ 225) : Goes1 gl T fin p.dp x.op s (stepT f s x) := by
  have hn0 : x.op.toNat = 225 := by omega
  have hop : x.op = 225 := UInt8.toNat_inj.1 hn0
  have fr2 : Fr T fin p.lo p.res (st ++ [126] ++ [126]) s := by rw [List.append_assoc]; exact fr
  obtain ⟨k0, v, fr3⟩ := fr2.pop
  obtain ⟨k1, v1, fr4⟩ := fr3.pop
  have l1 := popl s
  have hk := hS.keys
  have hm : stepT f s x = setKeyR s := by
    rw [stepT_old ⟨by omega, by omega, by omega⟩]
    unfold stepR
    rw [if_neg (by omega), if_neg (by omega), if_neg (by omega), if_neg (by omega), if_neg (by omega), if_neg (by omega), if_neg (by omega), if_pos hn0]
  rw [hm]
  unfold setKeyR
  rw [if_neg (by omega)]
  split
  · exact Goes1.trap rfl (by decide) (by decide) rfl (Nat.le_trans (pop_len _) (pop_len s))
  · rename_i hnk
    refine Goes1.on rfl hc h5 h11 (by rwa [List.append_nil] at g) (fr4.same rfl rfl) ⟨hS.gl, hS.mem, ?_⟩ rfl rfl rfl
    show (putKey _ _ _).length ≤ 8
    unfold putKey
    split
    · rw [List.length_map]; exact hk
    · rename_i h1
      rw [List.length_append]
      simp only [List.length_cons, List.length_nil]
      have : ¬ s.keys.length = 8 := fun e => hnk ⟨by simpa using h1, e⟩
      omega
end
section
variable {f : Flat} {gl : List (UInt8 × Bool)} {T : Typing} {fin : List UInt8} {s : Mc} {p : Pt} {x : Ins} {st : List UInt8}
theorem row_typed (hS : StT gl s) (hc : s.calls.length ≤ 16) {r : RowT} (hr : findM x.op = some r) (h4 : r.behind ≠ 4) (fr : Fr T fin p.lo p.res (st ++ r.takes) s) (g : Goes T p s.pos (st ++ r.gives)) (hn : x.num < 18446744073709551616) (hn' : r.behind ≠ 3 → x.num < 4294967296) (ho : 17 ≤ x.op.toNat) :
    Goes1 gl T fin p.dp x.op s (stepT f s x) := by
  have h5 : x.op ≠ 5 := fun e => by rw [e] at ho; revert ho; decide
  have h11 : x.op ≠ 11 := fun e => by rw [e] at ho; revert ho; decide
  obtain ⟨hm, hlo, hhi⟩ := row_mem hr
  clear hr
  unfold rowsM at hm
  simp only [List.mem_cons, List.not_mem_nil, or_false] at hm
  rcases hm with rfl | rfl | rfl | rfl | rfl | rfl | rfl | rfl | rfl | rfl | rfl | rfl | rfl | rfl | rfl | rfl | rfl | rfl | rfl | rfl | rfl | rfl | rfl | rfl | rfl | rfl | rfl | rfl
  · exact absurd rfl h4
  · exact absurd (Nat.le_trans ho hhi) (by decide)
  · exact absurd rfl h4
  · exact absurd rfl h4
  · exact absurd rfl h4
  · exact absurd rfl h4
  · exact row_28 hS hc h5 h11 hn fr g hn' hlo hhi
  · exact row_29 hS hc h5 h11 hn fr g hn' hlo hhi
  · exact row_2c hS hc h5 h11 hn fr g hn' hlo hhi
  · exact row_36 hS hc h5 h11 hn fr g hn' hlo hhi
  · exact row_37 hS hc h5 h11 hn fr g hn' hlo hhi
  · exact row_3a hS hc h5 h11 hn fr g hn' hlo hhi
  · exact row_3f hS hc h5 h11 hn fr g hn' hlo hhi
  · exact row_40 hS hc h5 h11 hn fr g hn' hlo hhi
  · exact row_41 hS hc h5 h11 hn fr g hn' hlo hhi
  · exact row_42 hS hc h5 h11 hn fr g hn' hlo hhi
  · exact row_45 hS hc h5 h11 hn fr g hn' hlo hhi
  · exact row_46 hS hc h5 h11 hn fr g hn' hlo hhi
  · exact row_50 hS hc h5 h11 hn fr g hn' hlo hhi
  · exact row_51 hS hc h5 h11 hn fr g hn' hlo hhi
  · exact row_67 hS hc h5 h11 hn fr g hn' hlo hhi
  · exact row_6a hS hc h5 h11 hn fr g hn' hlo hhi
  · exact row_79 hS hc h5 h11 hn fr g hn' hlo hhi
  · exact row_7c hS hc h5 h11 hn fr g hn' hlo hhi
  · exact row_a7 hS hc h5 h11 hn fr g hn' hlo hhi
  · exact row_ac hS hc h5 h11 hn fr g hn' hlo hhi
  · exact row_e0 hS hc h5 h11 hn fr g hn' hlo hhi
  · exact row_e1 hS hc h5 h11 hn fr g hn' hlo hhi
theorem ins_typed (hF : FlatT f gl T) (fr : Fr T fin p.lo p.res p.st s) (hS : StT gl s) (hc : s.calls.length ≤ 16) {q : Nat} (hp : s.pos = q + 1) (hi : InsOk (f.funcs.map (·.typ)) gl T f.code q p x) : Goes1 gl T fin p.dp x.op s (stepT f s x) := by
  by_cases h16 : x.op.toNat ≤ 16
  · exact ctl_typed hF fr hS hc hp hi h16
  by_cases hv : x.op.toNat = 26 ∨ x.op.toNat = 27 ∨ (32 ≤ x.op.toNat ∧ x.op.toNat ≤ 36)
  · exact var_typed fr hS hc hp hi hv
  have no : ∀ c : UInt8, x.op = c → (c.toNat ≤ 16 ∨ c.toNat = 26 ∨ c.toNat = 27 ∨ (32 ≤ c.toNat ∧ c.toNat ≤ 36)) → False := fun c e h => by rw [e] at h16 hv; omega
  cases hi with
  | plain r st hr h4 e g hn hn' =>
    rw [← hp] at g
    rw [e] at fr
    exact row_typed hS hc hr h4 fr g hn hn' (by omega)
  | stop h => exact (no _ h (by decide)).elim
  | into h => rcases h with h | h <;> exact (no _ h (by decide)).elim
  | cond4 _ h => exact (no _ h (by decide)).elim
  | jump h => rcases h with h | h <;> exact (no _ h (by decide)).elim
  | leave h => exact (no _ h (by decide)).elim
  | cond _ h => exact (no _ h (by decide)).elim
  | table _ h => exact (no _ h (by decide)).elim
  | call _ h => exact (no _ h (by decide)).elim
  | drop _ _ h => exact (no _ h (by decide)).elim
  | choose _ _ h => exact (no _ h (by decide)).elim
  | getL h => exact (no _ h (by decide)).elim
  | setL _ h => exact (no _ h (by decide)).elim
  | teeL _ h => exact (no _ h (by decide)).elim
  | getG h => exact (no _ h (by decide)).elim
  | setG _ h => exact (no _ h (by decide)).elim
theorem susp_len (hF : FlatT f gl T) : ∀ (cs : List (Nat × Nat × Nat)) (low : List Int) (back : Nat) (res : List UInt8), Susp T fin cs low back res → low.length ≤ cs.length * 36032
  | [], low, back, res, h => by obtain ⟨rfl, -⟩ := h; simp
  | c :: cs, below, back, res, h => by
    obtain ⟨low, locs, ops, p, st, rfl, -, -, hT, hst, h1, h2, h3⟩ := h
    have := susp_len hF cs low _ _ h3
    have l1 := h1.len
    have l2 := h2.len
    obtain ⟨b1, -, b3⟩ := hF.all.bd _ _ hT
    rw [hst, List.length_append] at b1
    rw [List.length_append, List.length_append, List.length_cons]
    omega
theorem Good.len (hF : FlatT f gl T) (h : Good gl T fin s) : s.stack.length ≤ 576512 := by
  obtain ⟨⟨p, hT, c, cs, low, locs, ops, fr⟩, -, hc⟩ := h
  have h1 := susp_len hF cs low _ _ fr.susp
  obtain ⟨b1, -, b3⟩ := hF.all.bd _ _ hT
  have l1 := fr.seg1.len
  have l2 := fr.seg2.len
  have hcl : s.calls.length = cs.length + 1 := by rw [fr.calls]; simp
  rw [fr.stack, List.length_append, List.length_append]
  omega
theorem Good.calls (h : Good gl T fin s) : 0 < s.calls.length := by
  obtain ⟨⟨p, hT, c, cs, low, locs, ops, fr⟩, -, -⟩ := h
  exact fr.cur.2
structure Ended (gl : List (UInt8 × Bool)) (fin : List UInt8) (fuel t : Nat) (s' : Mc) : Prop where
  fu : s'.fuel ≤ fuel
  st : s'.stack.length ≤ 1000000
  ok : t = 0 → Through gl fin s'
  f5 : t = 5 → s'.fuel = 0
  mem : s'.mem.length ≤ 256
  glo : s'.gl.length = gl.length
  keys : s'.keys.length ≤ 8
theorem run_typed (hF : FlatT f gl T) (hfin : fin.length ≤ 1) : ∀ (K : Nat) (s : Mc) (p : Pt), Good gl T fin s → T s.pos = some p → s.fuel * 40 + s.calls.length * 18 + p.dp < K → ∃ t s', runT f K s = some (t, s') ∧ Ended gl fin s.fuel t s' := by
  intro K
  induction K with
  | zero => intro s p _ _ h; omega
  | succ K ih =>
    intro s p hG hT hK
    have hc0 := hG.calls
    have hlen := hG.len hF
    obtain ⟨⟨p', hT', fr⟩, hS, hc⟩ := hG
    rw [hT] at hT'
    cases hT'
    have hpos : s.pos < f.code.length := by
      rcases Nat.lt_or_ge s.pos f.code.length with h | h
      · exact h
      · rw [hF.all.far _ h] at hT; cases hT
    have hi := hF.all.ins _ _ hpos hT
    have hgl := hS.gl.len
    rw [List.length_map] at hgl
    have hmm := hS.mem.2
    have hkk := hS.keys
    rw [runT, if_neg (by omega), if_pos hpos]
    generalize f.code.getD s.pos ins0 = x at hi ⊢
    have key : ∀ g : Nat, (g = s.fuel ∧ burnsR x.op = false ∨ g + 1 = s.fuel) → ∃ t s', afterR (stepT f { s with pos := s.pos + 1, fuel := g } x) (runT f K) = some (t, s') ∧ Ended gl fin s.fuel t s' := by
      intro g hg
      obtain ⟨t, s', hm, hfu, ht5, hz, hnz⟩ := ins_typed (s := { s with pos := s.pos + 1, fuel := g }) hF (fr.same rfl rfl) (hS.same rfl rfl rfl) hc rfl hi
      have hfu' : s'.fuel = g := hfu
      rw [hm]
      unfold afterR
      simp only
      by_cases ht : t = 0
      · rw [if_pos ht]
        obtain ⟨good, hup, h5, h11⟩ := hz ht
        have hup' : s'.calls.length ≤ s.calls.length + 1 := hup
        rcases good with hG' | hD
        · obtain ⟨⟨p2, hT2, -⟩, -, -⟩ := id hG'
          have hdp := (hF.all.bd _ _ hT2).2.1
          have hlt : s'.fuel * 40 + s'.calls.length * 18 + p2.dp < K := by
            rcases hg with ⟨rfl, hb⟩ | hg
            · have hb' : x.op = 5 ∨ x.op = 11 := by
                unfold burnsR at hb
                simp only [Bool.and_eq_false_iff, bne_eq_false_iff_eq] at hb
                exact hb
              rcases hb' with e | e
              · obtain ⟨c1, p3, c2, c3⟩ := h5 e
                rw [hT2] at c2
                cases c2
                have c1' : s'.calls.length = s.calls.length := c1
                omega
              · have c1 : s'.calls.length + 1 = s.calls.length := h11 e
                omega
            · omega
          obtain ⟨t2, s2, r1, r2⟩ := ih s' p2 hG' hT2 hlt
          exact ⟨t2, s2, r1, ⟨Nat.le_trans r2.fu (by rcases hg with ⟨e, -⟩ | e <;> omega), r2.st, r2.ok, r2.f5, r2.mem, r2.glo, r2.keys⟩⟩
        · obtain ⟨d1, d2, d3⟩ := id hD
          obtain ⟨K', rfl⟩ : ∃ K', K = K' + 1 := ⟨K - 1, by
            rcases hg with ⟨rfl, hb⟩ | hg <;> omega⟩
          have hr : runT f (K' + 1) s' = some (0, s') := by rw [runT, if_pos (by rw [d1]; rfl)]
          refine ⟨0, s', hr, ⟨by rcases hg with ⟨e, -⟩ | e <;> omega, ?_, fun _ => hD, fun e => (by cases e), d3.mem.2, ?_, d3.keys⟩⟩
          · have := d2.len; omega
          · have := d3.gl.len; rwa [List.length_map] at this
      · rw [if_neg ht]
        obtain ⟨l1, l2, l3, l4⟩ := hnz ht
        have l1' : s'.stack.length ≤ s.stack.length := l1
        exact ⟨t, s', rfl, ⟨by rcases hg with ⟨e, -⟩ | e <;> omega, by omega, fun e => absurd e ht, fun e => absurd e ht5, by rw [l2]; exact hmm, by rw [l3]; exact hgl, by rw [l4]; exact hkk⟩⟩
    cases hb : burnsR x.op with
    | true =>
      rw [if_pos rfl]
      by_cases hf0 : s.fuel = 0
      · rw [if_pos hf0]
        exact ⟨5, _, rfl, ⟨Nat.le_refl _, by show s.stack.length ≤ _; omega, fun e => (by cases e), fun _ => hf0, hmm, hgl, hkk⟩⟩
      · rw [if_neg hf0]
        exact key (s.fuel - 1) (.inr (by omega))
    | false =>
      rw [if_neg (by decide)]
      exact key s.fuel (.inl ⟨rfl, hb⟩)
end
end Go.Proofs.YtdeplgkhmebalaaGreatDoor
