/- Whatever is accepted is tame: a step of the look, the look at a body. -/
import Derived.Test.YtdeplgkhmebalaaGreatDoorTameB
import Derived.Test.YtdeplgkhmebalaaGreatDoorP23
import Derived.Test.YtdeplgkhmebalaaGreatDoorP32

namespace Go.Proofs.YtdeplgkhmebalaaGreatDoor
open Go.RowKit
section
variable {c : Ctx} {res : List UInt8} {M N : Nat} {T : Typing} {s s' : Bd}
variable (h : TInv c.funcs c.gl c.locals res M (fun _ => False) T s) (z : Sz N s) (hlo : c.locals.length ≤ 32) (hne : 0 < s.blocks.length) (hM : N + 18 ≤ M)
include h z hlo hne hM
theorem ty_plain (_hc : s.closed = false) {st gives : List UInt8} {x : Ins} (hs' : s'.code = s.code ++ [x] ∧ s'.blocks = s.blocks ∧ s'.closed = false ∧ s'.stack = st ++ gives) {takes : List UInt8} (hst : s.stack = st ++ takes) (hth : s.top.height ≤ st.length) (hg : gives.length ≤ 1)
    (hx : ∀ T', Goes T' ⟨c.locals, res, s.stack, s.blocks.length⟩ (s.code.length + 1) (st ++ gives) → InsOk c.funcs c.gl T' s'.code s.code.length ⟨c.locals, res, s.stack, s.blocks.length⟩ x) : Ext c res M T s s' := by
  obtain ⟨e1, e2, e3, e4⟩ := hs'
  have hstl := z.st
  rw [hst, List.length_append] at hstl
  refine Ext.of h (h.emit z hlo hne e1 e2 (by rw [e4, List.length_append]; omega) (by rw [e4, hst]; exact keep_below hth) (.inr fun T' _ hn => hx T' (goes_new hn e3 (by rw [e2]; exact hne) e4)))
theorem ty_call (hc : s.closed = false) (hres : ∀ k, k < c.funcs.length → (c.funcs.getD k ([], [])).1.length ≤ 8 ∧ (c.funcs.getD k ([], [])).2.length ≤ 1) (hs : callM c s = .ok s') : Ext c res M T s s' := by
  unfold callM at hs
  split at hs
  · cases hs
  · rename_i n j hb
    have hn := (below_lt hb).1
    split at hs
    · cases hs
    · rename_i s1 hs1
      cases hs
      obtain ⟨a, b, e⟩ := takeAll_spec (s := { s with i := j }) z.top hs1
      have hn' : n < c.funcs.length := by omega
      exact ty_plain h z hlo hne hM hc (x := ⟨16, n, 0, 0, 0⟩) ⟨by show s1.code ++ _ = _; rw [e], by show s1.blocks = _; rw [e], by show s1.closed = _; rw [e]; exact hc, rfl⟩ a b (hres n hn').2 (fun T' g => .call s1.stack rfl hn' a g)
theorem ty_drop (hc : s.closed = false) (hs : dropM s = .ok s') : Ext c res M T s s' := by
  unfold dropM at hs
  split at hs
  · cases hs
  · rename_i t s1 hs1
    cases hs
    obtain ⟨a, b, e⟩ := takeAny_spec hs1
    exact ty_plain h z hlo hne hM hc (x := ⟨26, 0, 0, 0, 0⟩) (gives := []) ⟨by show s1.code ++ _ = _; rw [e], by show s1.blocks = _; rw [e], by show s1.closed = _; rw [e]; exact hc, (List.append_nil _).symm⟩ a b (by simp) (fun T' g => .drop s1.stack t rfl a (by rwa [List.append_nil] at g))
theorem ty_choose (hc : s.closed = false) (hs : chooseM s = .ok s') : Ext c res M T s s' := by
  unfold chooseM at hs
  split at hs
  · cases hs
  · rename_i s1 hs1
    obtain ⟨a, b, e⟩ := take_spec hs1
    split at hs
    · cases hs
    · rename_i t s2 hs2
      obtain ⟨a2, b2, e2⟩ := takeAny_spec hs2
      split at hs
      · cases hs
      · rename_i s3 hs3
        obtain ⟨a3, b3, e3⟩ := take_spec hs3
        cases hs
        have hfull : s.stack = s3.stack ++ [t] ++ [t] ++ [127] := by rw [a, a2, a3]
        have t1 : s1.top = s.top := by rw [e]; rfl
        have t2 : s2.top = s.top := by rw [e2]; exact t1
        rw [t2] at b3
        exact ty_plain h z hlo hne hM hc (x := ⟨27, 0, 0, 0, 0⟩) (st := s3.stack) (gives := [t]) (takes := [t] ++ [t] ++ [127]) ⟨by show s3.code ++ _ = _; rw [e3, e2, e], by show s3.blocks = _; rw [e3, e2, e], by show s3.closed = _; rw [e3, e2, e]; exact hc, rfl⟩ (by rw [hfull]; simp) b3 (by simp) (fun T' g => .choose s3.stack t rfl hfull g)
theorem ty_local (hc : s.closed = false) {op : UInt8} (hop : op = 32 ∨ op = 33 ∨ op = 34) (hs : localM c op s = .ok s') : Ext c res M T s s' := by
  unfold localM at hs
  split at hs
  · cases hs
  · rename_i n j hb
    have hn : n < c.locals.length := by have := (below_lt hb).1; omega
    split at hs
    · cases hs
    · rename_i s1 hs1
      cases hs
      rcases hop with rfl | rfl | rfl
      · rw [if_pos rfl] at hs1
        cases hs1
        exact ty_plain h z hlo hne hM hc (x := ⟨32, n, 0, 0, 0⟩) (st := s.stack) (gives := [c.locals.getD n 0]) (takes := []) ⟨rfl, rfl, hc, rfl⟩ (List.append_nil _).symm z.top (by simp) (fun T' g => .getL rfl hn g)
      · rw [if_neg (by decide)] at hs1
        obtain ⟨a, b, e⟩ := take_spec (s := { s with i := j }) hs1
        exact ty_plain h z hlo hne hM hc (x := ⟨33, n, 0, 0, 0⟩) (st := s1.stack) (gives := []) ⟨by show s1.code ++ _ = _; rw [e], by show s1.blocks = _; rw [e], by show s1.closed = _; rw [e]; exact hc, (List.append_nil _).symm⟩ a b (by simp) (fun T' g => .setL s1.stack rfl hn a (by rwa [List.append_nil] at g))
      · rw [if_neg (by decide)] at hs1
        obtain ⟨a, b, e⟩ := take_spec (s := { s with i := j }) hs1
        exact ty_plain h z hlo hne hM hc (x := ⟨34, n, 0, 0, 0⟩) (st := s1.stack) (gives := [c.locals.getD n 0]) ⟨by show s1.code ++ _ = _; rw [e], by show s1.blocks = _; rw [e], by show s1.closed = _; rw [e]; exact hc, rfl⟩ a b (by simp) (fun T' g => .teeL s1.stack rfl hn a g)
theorem ty_global (hc : s.closed = false) {op : UInt8} (hop : op = 35 ∨ op = 36) (hs : globalM c op s = .ok s') : Ext c res M T s s' := by
  unfold globalM at hs
  split at hs
  · cases hs
  · rename_i n j hb
    have hn : n < c.gl.length := by have := (below_lt hb).1; omega
    rcases hop with rfl | rfl
    · rw [if_neg (by decide)] at hs
      cases hs
      exact ty_plain h z hlo hne hM hc (x := ⟨35, n, 0, 0, 0⟩) (st := s.stack) (gives := [(c.gl.getD n (0, false)).1]) (takes := []) ⟨rfl, rfl, hc, rfl⟩ (List.append_nil _).symm z.top (by simp) (fun T' g => .getG rfl hn g)
    · rw [if_pos rfl] at hs
      split at hs
      · split at hs
        · cases hs
        · rename_i s1 hs1
          cases hs
          obtain ⟨a, b, e⟩ := take_spec (s := { s with i := j }) hs1
          exact ty_plain h z hlo hne hM hc (x := ⟨36, n, 0, 0, 0⟩) (st := s1.stack) (gives := []) ⟨by show s1.code ++ _ = _; rw [e], by show s1.blocks = _; rw [e], by show s1.closed = _; rw [e]; exact hc, (List.append_nil _).symm⟩ a b (by simp) (fun T' g => .setG s1.stack rfl hn a (by rwa [List.append_nil] at g))
      · cases hs
omit h z hlo hne hM in
theorem behind_num {D : List UInt8} {b i n j : Nat} (h : behindM D b i = .ok (n, j)) : n < 18446744073709551616 ∧ (b ≠ 3 → n < 4294967296) := by
  unfold behindM at h
  split at h
  · have := (UM_le h).1
    exact ⟨by omega, fun _ => by omega⟩
  · split at h
    · split at h
      · cases h
      · cases h
        exact ⟨by omega, fun _ => by omega⟩
    · split at h
      · rename_i h3
        split at h
        · cases h
        · cases h
          exact ⟨by omega, fun e => absurd h3 e⟩
      · cases h
        exact ⟨by omega, fun _ => by omega⟩
theorem ty_row (hc : s.closed = false) {op : UInt8} {r : RowT} (hr : findM op = some r) (h4 : r.behind ≠ 4) (hg : r.gives.length ≤ 1) (hs : plainB c op r s = .ok s') : Ext c res M T s s' := by
  unfold plainB at hs
  split at hs
  · cases hs
  · rename_i n j hb
    obtain ⟨n1, n2⟩ := behind_num hb
    split at hs
    · cases hs
    · rename_i s1 hs1
      cases hs
      obtain ⟨a, b, e⟩ := takeAll_spec (s := { s with i := j }) z.top hs1
      exact ty_plain h z hlo hne hM hc (x := ⟨op, n, 0, 0, 0⟩) ⟨by show s1.code ++ _ = _; rw [e], by show s1.blocks = _; rw [e], by show s1.closed = _; rw [e]; exact hc, rfl⟩ a b hg (fun T' g => .plain r s1.stack hr h4 a g n1 n2)
omit h z hlo hne hM in
theorem special_rest {op : UInt8} (hm : op ∈ ([0, 2, 3, 4, 5, 11, 12, 13, 14, 15, 16, 26, 27, 32, 33, 34, 35, 36] : List UInt8)) (h0 : ¬ op = 0) (h2 : ¬ (op = 2 ∨ op = 3 ∨ op = 4)) (h5 : ¬ op = 5) (h11 : ¬ op = 11) (h12 : ¬ (op = 12 ∨ op = 13)) (h14 : ¬ op = 14) (h15 : ¬ op = 15) (h16 : ¬ op = 16) (h26 : ¬ op = 26) (h27 : ¬ op = 27) (h35 : ¬ (op = 35 ∨ op = 36)) : op = 32 ∨ op = 33 ∨ op = 34 := by
  simp only [List.mem_cons, List.not_mem_nil, or_false] at hm
  rcases hm with e | e | e | e | e | e | e | e | e | e | e | e | e | e | e | e | e | e <;> subst e <;>
    first
      | decide
      | exact absurd (by decide) h0
      | exact absurd (by decide) h2
      | exact absurd (by decide) h5
      | exact absurd (by decide) h11
      | exact absurd (by decide) h12
      | exact absurd (by decide) h14
      | exact absurd (by decide) h15
      | exact absurd (by decide) h16
      | exact absurd (by decide) h26
      | exact absurd (by decide) h27
      | exact absurd (by decide) h35
set_option maxHeartbeats 4000000 in
theorem ty_special (hres : ∀ k, k < c.funcs.length → (c.funcs.getD k ([], [])).1.length ≤ 8 ∧ (c.funcs.getD k ([], [])).2.length ≤ 1) {op : UInt8} (hmem : op ∈ ([0, 2, 3, 4, 5, 11, 12, 13, 14, 15, 16, 26, 27, 32, 33, 34, 35, 36] : List UInt8)) (hop : op ≠ 5 → op ≠ 11 → s.closed = false) (hs : specialM c op s = .ok s') : Ext c res M T s s' := by
  unfold specialM at hs
  split at hs
  · exact ty_stop h z hlo hne hM hs
  split at hs
  · rename_i ho
    exact ty_open h z hlo hne hM (hop (by rintro rfl; revert ho; decide) (by rintro rfl; revert ho; decide)) ho hs
  split at hs
  · exact ty_turn h z hlo hne hM hs
  split at hs
  · exact ty_end h z hlo hne hM hs
  rename_i h5 h11
  have hc := hop h5 h11
  split at hs
  · rename_i ho
    exact ty_branch h z hlo hne hM hc ho hs
  split at hs
  · exact ty_table h z hlo hne hM hc hs
  split at hs
  · exact ty_leave h z hlo hne hM hc hs
  split at hs
  · exact ty_call h z hlo hne hM hc hres hs
  split at hs
  · exact ty_drop h z hlo hne hM hc hs
  split at hs
  · exact ty_choose h z hlo hne hM hc hs
  split at hs
  · rename_i ho
    exact ty_global h z hlo hne hM hc ho hs
  · rename_i q0 q2 q3 q4 q5 q6 q7 q8 q9
    refine ty_local h z hlo hne hM hc ?_ hs
    exact special_rest hmem q0 q2 h5 h11 q3 q4 q5 q6 q7 q8 q9
theorem ty_step (hres : ∀ k, k < c.funcs.length → (c.funcs.getD k ([], [])).1.length ≤ 8 ∧ (c.funcs.getD k ([], [])).2.length ≤ 1) (hs : stepM c s = .ok s') : Ext c res M T s s' := by
  unfold stepM at hs
  split at hs
  · cases hs
  · rename_i op j hb
    have hfit := rowFit_at op
    split at hs
    · cases hs
    · rename_i r hr
      rw [hr] at hfit
      split at hs
      · cases hs
      · rename_i hcl
        have h' : TInv c.funcs c.gl c.locals res M (fun _ => False) T { s with pos := s.i, i := j } := h.read j s.i
        have z' : Sz N { s with pos := s.i, i := j } := z.read j s.i s.closed
        have up : Ext c res M T { s with pos := s.i, i := j } s' → Ext c res M T s s' := fun h => h
        apply up
        have hop : op ≠ 5 → op ≠ 11 → s.closed = false := fun h5 h11 => by
          cases e : s.closed with
          | false => rfl
          | true => exact absurd ⟨e, h5, h11⟩ hcl
        split at hs
        · rename_i hb4
          have hmem : op ∈ ([0, 2, 3, 4, 5, 11, 12, 13, 14, 15, 16, 26, 27, 32, 33, 34, 35, 36] : List UInt8) := by simpa [rowFit, hb4] using hfit
          exact ty_special h' z' hlo hne hM hres hmem hop hs
        · rename_i hb4
          have hg : r.gives.length ≤ 1 := by
            simp only [rowFit, if_neg hb4, Bool.and_eq_true, decide_eq_true_eq] at hfit
            exact hfit.2
          have h5 : op ≠ 5 := by rintro rfl; rw [show findM 5 = some ⟨2, 5, 4, [], []⟩ from rfl] at hr; cases hr; exact hb4 rfl
          have h11 : op ≠ 11 := by rintro rfl; rw [show findM 11 = some ⟨0x0b, 0x10, 4, [], []⟩ from rfl] at hr; cases hr; exact hb4 rfl
          exact ty_row h' z' hlo hne hM (hop h5 h11) hr hb4 hg hs
end
theorem look_typed {c : Ctx} {res : List UInt8} {M : Nat} (hlo : c.locals.length ≤ 32) (hres : ∀ k, k < c.funcs.length → (c.funcs.getD k ([], [])).1.length ≤ 8 ∧ (c.funcs.getD k ([], [])).2.length ≤ 1) : ∀ (F N : Nat) (s s' : Bd) (T : Typing),
    TInv c.funcs c.gl c.locals res M (fun _ => False) T s → Sz N s → c.D.length - s.i < F → N + 18 * (c.D.length - s.i) ≤ M → lookM c F s = .ok s' →
    (∃ T', TInv c.funcs c.gl c.locals res M (fun _ => False) T' s' ∧ TLe T T') ∧ s'.blocks = [] ∧ s'.code.length ≤ N + 18 * (c.D.length - s.i) := by
  intro F
  induction F with
  | zero => intro N s s' T _ _ hF; omega
  | succ F ih =>
    intro N s s' T h z hF hM hs
    rw [lookM] at hs
    split at hs
    · rename_i hb
      split at hs
      · cases hs
      · cases hs
        exact ⟨⟨T, h, fun q p hp => ⟨p.dp, Nat.le_refl _, hp⟩⟩, hb, Nat.le_trans z.cd (Nat.le_add_right _ _)⟩
    · rename_i hb
      split at hs
      · cases hs
      · rename_i s1 h1
        obtain ⟨z1, hi⟩ := step_keep hb z hres h1
        have hiD : s.i < c.D.length := by
          unfold stepM at h1
          split at h1
          · cases h1
          · rename_i op j hbt
            unfold byteM at hbt
            split at hbt
            · rename_i h0
              exact h0
            · cases hbt
        obtain ⟨T1, t1, -, l1⟩ := ty_step h z hlo (List.length_pos_iff.2 hb) (by omega) hres h1
        obtain ⟨⟨T2, t2, l2⟩, hb2, hl2⟩ := ih _ _ _ _ t1 z1 (by omega) (by omega) hs
        refine ⟨⟨T2, t2, fun q p hp => ?_⟩, hb2, by omega⟩
        obtain ⟨d, hd, hp1⟩ := l1 q p hp
        obtain ⟨d', hd', hp2⟩ := l2 q _ hp1
        exact ⟨d', Nat.le_trans hd' hd, hp2⟩
structure AllOk (fs : List Ty) (gl : List (UInt8 × Bool)) (M : Nat) (T : Typing) (code : List Ins) : Prop where
  ins : ∀ q p, q < code.length → T q = some p → InsOk fs gl T code q p (code.getD q ins0)
  far : ∀ q, code.length ≤ q → T q = none
  bd : ∀ q p, T q = some p → p.st.length ≤ M ∧ p.dp ≤ 17 ∧ p.lo.length ≤ 32
def FnAt (T : Typing) (f : FnM) : Prop := f.locals ≤ 32 ∧ ∃ more d, T f.entry = some ⟨f.typ.1 ++ more, f.typ.2, [], d⟩ ∧ f.locals = f.typ.1.length + more.length
theorem FnAt.mono {T T' : Typing} (h : TLe T T') {f : FnM} (g : FnAt T f) : FnAt T' f := by
  obtain ⟨h1, more, d, h2, h3⟩ := g
  obtain ⟨d', -, h4⟩ := h _ _ h2
  exact ⟨h1, more, d', h4, h3⟩
theorem TLe.trans {T T' T'' : Typing} (h : TLe T T') (k : TLe T' T'') : TLe T T'' := fun q p hp => by
  obtain ⟨d, hd, h1⟩ := h q p hp
  obtain ⟨d', hd', h2⟩ := k q _ h1
  exact ⟨d', Nat.le_trans hd' hd, h2⟩
section
variable {D : List UInt8} {fs : List Ty} {gl : List (UInt8 × Bool)} {M : Nat} {T : Typing}
theorem body_typed (hres : ∀ k, k < fs.length → (fs.getD k ([], [])).1.length ≤ 8 ∧ (fs.getD k ([], [])).2.length ≤ 1) {typ : Ty} (ht : typ.1.length ≤ 8 ∧ typ.2.length ≤ 1) {code code' : List Ins} {i i' : Nat} {f : FnM} (h : AllOk fs gl M T code) (hc : code.length ≤ 18 * i) (hD : D.length ≤ 2000) (hM : 18 * D.length ≤ M)
    (hb : bodyM D fs gl typ code i = .ok ((f, code'), i')) : ∃ T', AllOk fs gl M T' code' ∧ TLe T T' ∧ code'.length ≤ 18 * i' ∧ i' ≤ D.length ∧ f.typ = typ ∧ FnAt T' f := by
  unfold bodyM at hb
  split at hb
  · cases hb
  · rename_i size j hU
    obtain ⟨-, hij, hjD⟩ := UM_le hU
    split at hb
    · cases hb
    · rename_i hsz
      simp only at hb
      have hPl : (D.take (j + size)).length = j + size := by rw [List.length_take]; omega
      generalize D.take (j + size) = P at *
      split at hb
      · cases hb
      · rename_i more k hl
        have hml := list_len hl
        have hjk := list_fwd hl
        split at hb
        · cases hb
        · rename_i s' hlk
          cases hb
          obtain ⟨P0, hP0⟩ : ∃ P0 : Pt, P0 = ⟨typ.1 ++ more, typ.2, [], 1⟩ := ⟨_, rfl⟩
          have hlo : (typ.1 ++ more).length ≤ 32 := by rw [List.length_append]; omega
          have hle : TLe T (upd T code.length (some P0)) := TLe.upd fun p hp => by rw [h.far _ (Nat.le_refl _)] at hp; cases hp
          have hat : upd T code.length (some P0) code.length = some P0 := upd_at _ _ _
          have h0 : TInv fs gl (typ.1 ++ more) typ.2 M (fun _ => False) (upd T code.length (some P0)) ⟨k, code, [], [⟨0, typ.2, 0, 0, []⟩], 0, false⟩ := by
            refine ⟨fun q p hq hp => ?_, ?_, fun q hq => ?_, fun j hj => ?_, fun q p hp => ?_⟩
            · have hq' : q < code.length := hq
              rw [upd_ne _ _ (by omega)] at hp
              exact .inr (.inr ((h.ins q p hq' hp).mono hle (CodeLe.refl _)))
            · show upd T code.length (some P0) code.length = _
              rw [hat, hP0]; rfl
            · have hq' : code.length < q := hq
              rw [upd_ne _ _ (by omega)]; exact h.far q (by omega)
            · have : j = 0 := by simpa using hj
              subst this
              refine ⟨fun q hq => (by cases hq), fun e => (by cases e), fun e => (by cases e), ⟨fun _ => rfl, fun _ => rfl⟩, fun _ => ⟨rfl, rfl⟩⟩
            · by_cases hq : q = code.length
              · subst hq
                rw [hat] at hp
                cases hp
                rw [hP0]
                exact ⟨Nat.zero_le _, by show 1 ≤ 17; decide, hlo⟩
              · rw [upd_ne _ _ hq] at hp; exact h.bd q p hp
          obtain ⟨⟨T', t', l'⟩, hb', hlen⟩ := look_typed (c := ⟨P, fs, gl, typ.1 ++ more⟩) (res := typ.2) (M := M) hlo hres 2001 (18 * i) _ _ _ h0 (sz0 k code typ.2 (18 * i) hc ht.2) (by show P.length - k < 2001; omega) (by show 18 * i + 18 * (P.length - k) ≤ M; omega) hlk
          refine ⟨T', ⟨fun q p hq hp => ?_, fun q hq => ?_, t'.bd⟩, hle.trans l', ?_, by omega, rfl, ?_⟩
          · rcases t'.ins q p hq hp with hx | ⟨k, hk, -⟩ | hi
            · exact hx.elim
            · rw [hb'] at hk; cases hk
            · exact hi
          · rcases Nat.eq_or_lt_of_le hq with e | e
            · rw [← e, t'.cur]; unfold curPt; rw [if_pos (.inr (by rw [hb']; rfl))]
            · exact t'.far q e
          · have : s'.code.length ≤ 18 * i + 18 * (P.length - k) := hlen
            omega
          · refine ⟨by show typ.1.length + more.length ≤ 32; rw [List.length_append] at hlo; exact hlo, more, ?_⟩
            obtain ⟨d, -, hd⟩ := l' code.length P0 hat
            rw [hP0] at hd
            exact ⟨d, hd, rfl⟩
theorem bodies_typed (hres : ∀ k, k < fs.length → (fs.getD k ([], [])).1.length ≤ 8 ∧ (fs.getD k ([], [])).2.length ≤ 1) (hD : D.length ≤ 2000) (hM : 18 * D.length ≤ M) : ∀ (l : List Ty) (T : Typing) (code code' : List Ins) (i i' : Nat) (fns : List FnM), (∀ t ∈ l, t.1.length ≤ 8 ∧ t.2.length ≤ 1) → AllOk fs gl M T code → code.length ≤ 18 * i →
    i ≤ D.length → bodiesM D fs gl l code i = .ok ((fns, code'), i') → ∃ T', AllOk fs gl M T' code' ∧ TLe T T' ∧ code'.length ≤ 18 * i' ∧ i' ≤ D.length ∧ fns.map (·.typ) = l ∧ ∀ f ∈ fns, FnAt T' f := by
  intro l
  induction l with
  | nil =>
    intro T code code' i i' fns _ h hc hi hb
    cases hb
    exact ⟨T, h, fun q p hp => ⟨p.dp, Nat.le_refl _, hp⟩, hc, hi, rfl, fun f hf => by cases hf⟩
  | cons t l ih =>
    intro T code code' i i' fns hl h hc hi hb
    rw [bodiesM] at hb
    split at hb
    · cases hb
    · rename_i f code1 j hb1
      obtain ⟨T1, a1, l1, c1, i1, e1, f1⟩ := body_typed hres (hl t List.mem_cons_self) h hc hD hM hb1
      split at hb
      · cases hb
      · rename_i fs2 code2 k hb2
        cases hb
        obtain ⟨T2, a2, l2, c2, i2, e2, f2⟩ := ih T1 code1 _ j _ _ (fun x hx => hl x (List.mem_cons_of_mem _ hx)) a1 c1 i1 hb2
        refine ⟨T2, a2, l1.trans l2, c2, i2, by rw [List.map_cons, e1, e2], fun g hg => ?_⟩
        rcases List.mem_cons.1 hg with rfl | hg
        · exact f1.mono l2
        · exact f2 g hg
end
def InTy (t : UInt8) (v : Int) : Prop := 0 ≤ v ∧ v < (if t = 127 then 4294967296 else 18446744073709551616)
structure FlatT (f : Flat) (gl : List (UInt8 × Bool)) (T : Typing) : Prop where
  all : AllOk (f.funcs.map (·.typ)) gl 36000 T f.code
  fns : ∀ g ∈ f.funcs, FnAt T g ∧ g.typ.1.length ≤ 8 ∧ g.typ.2.length ≤ 1
  nf : f.funcs.length ≤ 16
  nc : f.code.length ≤ 36000
  ng : f.globals.length = gl.length ∧ gl.length ≤ 8
  vals : ∀ k, k < gl.length → InTy (gl.getD k (0, false)).1 ((f.globals.getD k 0 : Nat) : Int)
  pg : f.pages ≤ 4
theorem glob_val {D : List UInt8} (i : Nat) (x : (UInt8 × Bool) × Nat) (j : Nat) (h : globM D i = .ok (x, j)) : InTy x.1.1 (x.2 : Int) := by
  unfold globM at h
  split at h
  · cases h
  · rename_i t j1 h1
    split at h
    · cases h
    · rename_i f k h2
      split at h
      · cases h
      · rename_i v m h3
        cases h
        unfold valueAtM at h3
        obtain ⟨n1, n2⟩ := behind_num h3
        unfold InTy
        show 0 ≤ (v : Int) ∧ (v : Int) < (if t = 127 then 4294967296 else 18446744073709551616)
        split
        · rename_i ht
          rw [if_pos ht] at n2
          have := n2 (by decide)
          omega
        · omega
theorem load_typed {D : List UInt8} {f : Flat} (h : loadM D = .ok f) : ∃ gl T, FlatT f gl T := by
  unfold loadM at h
  split at h
  · cases h
  rename_i hD
  split at h
  · cases h
  rename_i i1 hm
  split at h
  · cases h
  rename_i ts i2 hts
  split at h
  · cases h
  rename_i fs i3 hfs
  split at h
  · cases h
  rename_i gs i4 hgs
  split at h
  · cases h
  rename_i pages i5 hpg
  split at h
  · cases h
  rename_i fns code i6 hbs
  split at h
  · cases h
  cases h
  have htl : ∀ x ∈ ts, x.1.length ≤ 8 ∧ x.2.length ≤ 1 := by
    unfold typesM at hts
    split at hts
    · cases hts
    · exact (manyM_all typeM_ok _ _ _ _ hts).2
  have hfl : fs.length ≤ 16 ∧ ∀ x ∈ fs, x.1.length ≤ 8 ∧ x.2.length ≤ 1 := by
    unfold funcsM at hfs
    split at hfs
    · cases hfs
    · rename_i n j hb
      have hn := (below_lt hb).1
      obtain ⟨a, b⟩ := manyM_all (p := fun x : Ty => x.1.length ≤ 8 ∧ x.2.length ≤ 1) (fun i x j hx => by
        split at hx
        · cases hx
        · rename_i q j' hq
          cases hx
          have hlt := (below_lt hq).1
          exact htl _ (by rw [List.getD_eq_getElem?_getD, List.getElem?_eq_getElem (by omega)]; exact List.getElem_mem _)) n _ _ _ hfs
      exact ⟨by omega, b⟩
  have hgl : gs.length ≤ 8 ∧ ∀ x ∈ gs, InTy x.1.1 (x.2 : Int) := by
    unfold globsM at hgs
    split at hgs
    · cases hgs
    · rename_i n j hb
      have hn := (below_lt hb).1
      obtain ⟨a, b⟩ := manyM_all glob_val n _ _ _ hgs
      exact ⟨by omega, b⟩
  have hpl := (below_lt hpg).1
  have hpD := (below_lt hpg).2.2
  have hres : ∀ k, k < fs.length → (fs.getD k ([], [])).1.length ≤ 8 ∧ (fs.getD k ([], [])).2.length ≤ 1 := fun k hk => hfl.2 _ (by rw [List.getD_eq_getElem?_getD, List.getElem?_eq_getElem hk]; exact List.getElem_mem _)
  have h0 : AllOk fs (gs.map (·.1)) 36000 (fun _ => none) [] := ⟨fun q p hq => (by cases hq), fun _ _ => rfl, fun q p hp => by cases hp⟩
  obtain ⟨T, a, -, c, i6D, e, fo⟩ := bodies_typed hres (by omega) (by omega) fs _ [] _ i5 _ _ hfl.2 h0 (Nat.zero_le _) hpD hbs
  refine ⟨gs.map (·.1), T, ⟨by show AllOk (fns.map _) _ _ _ _; rw [e]; exact a, fun g hg => ?_, ?_, by show code.length ≤ _; omega, ⟨by simp, by simp; exact hgl.1⟩, fun k hk => ?_, by show pages ≤ 4; omega⟩⟩
  · refine ⟨fo g hg, ?_⟩
    have : g.typ ∈ fs := by rw [← e]; exact List.mem_map_of_mem hg
    exact hfl.2 _ this
  · have := congrArg List.length e
    rw [List.length_map] at this
    show fns.length ≤ 16
    omega
  · have hk' : k < gs.length := by simpa using hk
    have := hgl.2 _ (List.getElem_mem hk')
    simp only [List.getD_eq_getElem?_getD, List.getElem?_map, List.getElem?_eq_getElem hk', Option.map_some, Option.getD_some]
    exact this
def P16 (code : List Ins) : Prop := ∀ x ∈ code, x.op = 16 → x.num < 1000000
theorem P16.app {code : List Ins} (h : P16 code) {x : Ins} (hx : x.op = 16 → x.num < 1000000) : P16 (code ++ [x]) := fun y hy ho => by
  rcases List.mem_append.1 hy with hy | hy
  · exact h y hy ho
  · rw [List.mem_singleton.1 hy] at ho ⊢; exact hx ho
theorem P16.aim {s : Bd} (h : P16 s.code) (n : Nat) : P16 (aimM s n).code := fun y hy ho => by
  have hy' : y ∈ s.code.set n { s.code.getD n ⟨0, 0, 0, 0, 0⟩ with goal := s.code.length } := hy
  rcases List.mem_or_eq_of_mem_set hy' with hy' | rfl
  · exact h y hy' ho
  · by_cases hn : n < s.code.length
    · refine h (s.code.getD n ⟨0, 0, 0, 0, 0⟩) ?_ ho
      rw [List.getD_eq_getElem?_getD, List.getElem?_eq_getElem hn]; exact List.getElem_mem hn
    · have ho' : (s.code.getD n ⟨0, 0, 0, 0, 0⟩).op = 16 := ho
      rw [List.getD_eq_getElem?_getD, List.getElem?_eq_none (by omega)] at ho'
      cases ho'
theorem P16.aims (l : List Nat) : ∀ {s : Bd}, P16 s.code → P16 (aimAll l s).code := by
  induction l with
  | nil => intro s h; exact h
  | cons a l ih => intro s h; exact ih (h.aim a)
theorem P16.jump {s : Bd} (h : P16 s.code) (op : UInt8) (k : Nat) : P16 (jumpM s op k).code := by
  unfold jumpM
  split
  · exact h.app (fun _ => by show 0 < 1000000; decide)
  · exact h.app (fun _ => by show 0 < 1000000; decide)
theorem P16.jumps (l : List Nat) : ∀ {s : Bd}, P16 s.code → P16 (jumpAll l s).code := by
  induction l with
  | nil => intro s h; exact h
  | cons a l ih => intro s h; exact ih (h.jump 12 a)
theorem tkp {s s' : Bd} {u : UInt8} (h : takeM s u = some s') : s'.code = s.code := by rw [(take_spec h).2.2]
theorem tka {s s' : Bd} {u : UInt8} (h : takeAnyM s = some (u, s')) : s'.code = s.code := by rw [(takeAny_spec h).2.2]
theorem tkn {ts : List UInt8} (k : Nat) : ∀ {s s' : Bd}, takeN ts k s = some s' → s'.code = s.code := by
  induction k with
  | zero => intro s s' h; cases h; rfl
  | succ k ih =>
    intro s s' h
    rw [takeN] at h
    split at h
    · cases h
    · rename_i s1 h1
      rw [ih h, tkp h1]
theorem tkl {s s' : Bd} {ts : List UInt8} (h : takeAllM s ts = some s') : s'.code = s.code := tkn _ h
theorem tkc {s s' : Bd} {k : Nat} (h : carriesM s k = some s') : s'.code = s.code := by
  unfold carriesM at h
  rw [Option.map_eq_some_iff] at h
  obtain ⟨s1, h1, rfl⟩ := h
  show s1.code = _
  exact tkl h1
theorem lbl {c : Ctx} {s s1 : Bd} {k : Nat} (h : labelM c s = .ok (k, s1)) : s1.code = s.code := by
  unfold labelM at h
  split at h
  · cases h
  · cases h; rfl
theorem lbls {c : Ctx} (n : Nat) : ∀ {s s1 : Bd} {l : List Nat}, labelsM c n s = .ok (l, s1) → s1.code = s.code := by
  induction n with
  | zero => intro s s1 l h; cases h; rfl
  | succ n ih =>
    intro s s1 l h
    rw [labelsM] at h
    split at h
    · cases h
    · rename_i k s2 h2
      split at h
      · cases h
      · rename_i l3 s3 h3
        cases h
        rw [ih h3, lbl h2]
theorem special_p16 {c : Ctx} {op : UInt8} {s s' : Bd} (hf : c.funcs.length ≤ 1000000) (h : P16 s.code) (hs : specialM c op s = .ok s') : P16 s'.code := by
  unfold specialM at hs
  split at hs
  · cases hs
    exact h.app (fun e => by cases e)
  split at hs
  · rename_i ho
    unfold openM at hs
    split at hs
    · cases hs
    split at hs
    · cases hs
    rename_i s1 hs1
    split at hs
    · cases hs
    cases hs
    refine P16.app ?_ (fun _ => by show 0 < 1000000; decide)
    split at hs1
    · rw [tkp hs1]; exact h
    · cases hs1; exact h
  split at hs
  · unfold turnM at hs
    split at hs
    · cases hs
    cases hs
    exact (h.jump 5 _).aim _
  split at hs
  · unfold endM at hs
    split at hs
    · cases hs
    cases hs
    show P16 (if s.top.kind = 0 then emitM _ _ else _ : Bd).code
    have h2 : P16 (aimAll s.top.waits (if s.top.kind = 3 then aimM s (s.top.start - 1) else s)).code := by
      refine P16.aims _ ?_
      split
      · exact h.aim _
      · exact h
    split
    · exact h2.app (fun e => by cases e)
    · exact h2
  split at hs
  · unfold branchM at hs
    split at hs
    · cases hs
    rename_i k s1 hl
    split at hs
    · cases hs
    rename_i s2 hs2
    split at hs
    · cases hs
    rename_i s3 hs3
    cases hs
    have h2 : s2.code = s.code := by
      split at hs2
      · rw [tkp hs2, lbl hl]
      · cases hs2; exact lbl hl
    refine P16.jump ?_ op k
    rw [tkc hs3, h2]; exact h
  split at hs
  · unfold tableM at hs
    split at hs
    · cases hs
    split at hs
    · cases hs
    rename_i l s1 hl
    split at hs
    · cases hs
    rename_i s2 hs2
    split at hs
    · cases hs
    rename_i s3 hs3
    split at hs
    · cases hs
      refine P16.jumps l (P16.app ?_ (fun e => by cases e))
      rw [tkc hs3, tkp hs2, lbls _ hl]; exact h
    · cases hs
  split at hs
  · unfold leaveM at hs
    split at hs
    · cases hs
    rename_i s1 hs1
    cases hs
    refine P16.jump ?_ 12 0
    rw [tkc hs1]; exact h
  split at hs
  · unfold callM at hs
    split at hs
    · cases hs
    rename_i n j hb
    have hn := (below_lt hb).1
    split at hs
    · cases hs
    rename_i s1 hs1
    cases hs
    refine P16.app ?_ (fun _ => by show n < 1000000; omega)
    rw [tkl hs1]; exact h
  split at hs
  · unfold dropM at hs
    split at hs
    · cases hs
    rename_i hs1
    cases hs
    refine P16.app ?_ (fun e => by cases e)
    rw [tka hs1]; exact h
  split at hs
  · unfold chooseM at hs
    split at hs
    · cases hs
    rename_i s1 hs1
    split at hs
    · cases hs
    rename_i t s2 hs2
    split at hs
    · cases hs
    rename_i s3 hs3
    cases hs
    refine P16.app ?_ (fun e => by cases e)
    rw [tkp hs3, tka hs2, tkp hs1]; exact h
  rename_i h16 _ _
  split at hs
  · rename_i ho
    unfold globalM at hs
    split at hs
    · cases hs
    split at hs
    · split at hs
      · split at hs
        · cases hs
        rename_i s1 hs1
        cases hs
        refine P16.app ?_ (fun e => absurd e h16)
        rw [tkp hs1]; exact h
      · cases hs
    · cases hs
      exact h.app (fun e => absurd e h16)
  · unfold localM at hs
    split at hs
    · cases hs
    split at hs
    · cases hs
    rename_i s1 hs1
    cases hs
    have h1 : s1.code = s.code := by
      split at hs1
      · cases hs1; rfl
      · exact (tkp hs1).trans rfl
    have h2 : ∀ m, P16 (emitM s1 ⟨op, m, 0, 0, 0⟩).code := fun m => P16.app (by rw [h1]; exact h) (fun e => absurd e h16)
    split
    · exact h2 _
    · exact h2 _
theorem step_p16 {c : Ctx} {s s' : Bd} (hf : c.funcs.length ≤ 1000000) (h : P16 s.code) (hs : stepM c s = .ok s') : P16 s'.code := by
  unfold stepM at hs
  split at hs
  · cases hs
  rename_i op j hb
  split at hs
  · cases hs
  rename_i r hr
  split at hs
  · cases hs
  split at hs
  · exact special_p16 (s := { s with pos := s.i, i := j }) hf h hs
  · rename_i h4
    unfold plainB at hs
    split at hs
    · cases hs
    split at hs
    · cases hs
    rename_i s1 hs1
    cases hs
    refine P16.app ?_ (fun e => ?_)
    · rw [tkl hs1]; exact h
    · have e' : op = 16 := e
      subst e'
      rw [show findM 16 = some ⟨0x0b, 0x10, 4, [], []⟩ from rfl] at hr
      cases hr
      exact absurd rfl h4
theorem look_p16 {c : Ctx} (hf : c.funcs.length ≤ 1000000) : ∀ (F : Nat) (s s' : Bd), P16 s.code → lookM c F s = .ok s' → P16 s'.code := by
  intro F
  induction F with
  | zero => intro s s' h hs; cases hs; exact h
  | succ F ih =>
    intro s s' h hs
    rw [lookM] at hs
    split at hs
    · split at hs
      · cases hs
      · cases hs; exact h
    · split at hs
      · cases hs
      · rename_i s1 h1
        exact ih _ _ (step_p16 hf h h1) hs
theorem bodies_p16 {D : List UInt8} {fs : List Ty} {gl : List (UInt8 × Bool)} (hf : fs.length ≤ 1000000) : ∀ (l : List Ty) (code code' : List Ins) (i i' : Nat) (fns : List FnM), P16 code → bodiesM D fs gl l code i = .ok ((fns, code'), i') → P16 code' := by
  intro l
  induction l with
  | nil => intro code code' i i' fns h hb; cases hb; exact h
  | cons t l ih =>
    intro code code' i i' fns h hb
    rw [bodiesM] at hb
    split at hb
    · cases hb
    rename_i f code1 j hb1
    have h1 : P16 code1 := by
      unfold bodyM at hb1
      split at hb1
      · cases hb1
      split at hb1
      · cases hb1
      simp only at hb1
      split at hb1
      · cases hb1
      split at hb1
      · cases hb1
      rename_i s' hlk
      cases hb1
      exact look_p16 hf _ _ _ h hlk
    split at hb
    · cases hb
    rename_i hb2
    cases hb
    exact ih _ _ _ _ _ h1 hb2
theorem load_p16 {D : List UInt8} {f : Flat} (h : loadM D = .ok f) : P16 f.code := by
  obtain ⟨gl, T, hT⟩ := load_typed h
  unfold loadM at h
  split at h
  · cases h
  split at h
  · cases h
  split at h
  · cases h
  split at h
  · cases h
  rename_i fs i3 hfs
  split at h
  · cases h
  split at h
  · cases h
  split at h
  · cases h
  rename_i fns code i6 hbs
  split at h
  · cases h
  cases h
  have hfl : fs.length ≤ 16 := by
    unfold funcsM at hfs
    split at hfs
    · cases hfs
    · rename_i n j hb
      have hn := (below_lt hb).1
      obtain ⟨a, -⟩ := manyM_all (p := fun _ => True) (fun _ _ _ _ => trivial) n _ _ _ hfs
      omega
  exact bodies_p16 (by omega) fs [] _ _ _ _ (fun x hx => by cases hx) hbs
theorem load_flatOk {D : List UInt8} {f : Flat} (h : loadM D = .ok f) : FlatOk f := by
  obtain ⟨gl, T, hT⟩ := load_typed h
  refine ⟨⟨by have := hT.nf; omega, by have := hT.nc; omega, load_p16 h⟩, fun k hk => ?_, by have := hT.pg; omega, by have := hT.ng; omega⟩
  have hm : f.funcs.getD k fn0 ∈ f.funcs := by rw [List.getD_eq_getElem?_getD, List.getElem?_eq_getElem hk]; exact List.getElem_mem hk
  obtain ⟨⟨a, more, d, -, b⟩, -⟩ := hT.fns _ hm
  omega
def Rb {α : Type} (n : Nat) (m : Except (Int × Int) (α × Nat)) : Prop := match m with
  | .ok x => x.2 ≤ n
  | .error e => 1 ≤ e.1 ∧ e.1 ≤ 3 ∧ 0 ≤ e.2 ∧ e.2 ≤ n
def Eb (n : Nat) (e : Int × Int) : Prop := 1 ≤ e.1 ∧ e.1 ≤ 3 ∧ 0 ≤ e.2 ∧ e.2 ≤ n
theorem eb2 {n i : Nat} (h : i ≤ n) : Eb n (2, (i : Int)) := ⟨by show (1 : Int) ≤ 2; decide, by show (2 : Int) ≤ 3; decide, by show (0 : Int) ≤ (i : Int); omega, by show (i : Int) ≤ (n : Int); omega⟩
theorem eb3 {n i : Nat} (h : i ≤ n) : Eb n (3, (i : Int)) := ⟨by show (1 : Int) ≤ 3; decide, by show (3 : Int) ≤ 3; decide, by show (0 : Int) ≤ (i : Int); omega, by show (i : Int) ≤ (n : Int); omega⟩
theorem Rb.err {α : Type} {n : Nat} {m : Except (Int × Int) (α × Nat)} (h : Rb n m) {e : Int × Int} (he : m = .error e) : Eb n e := by rw [he] at h; exact h
theorem Rb.ok {α : Type} {n : Nat} {m : Except (Int × Int) (α × Nat)} (h : Rb n m) {x : α} {j : Nat} (he : m = .ok (x, j)) : j ≤ n := by rw [he] at h; exact h
theorem Eb.le {n m : Nat} {e : Int × Int} (h : Eb n e) (hm : n ≤ m) : Eb m e := ⟨h.1, h.2.1, h.2.2.1, by have := h.2.2.2; omega⟩
section
variable {D : List UInt8} {i : Nat}
theorem byte_rb (h : i ≤ D.length) : Rb D.length (byteM D i) := by
  unfold byteM
  split
  · rename_i h1; exact h1
  · exact eb2 h
theorem grp_rb (st : Nat) (hs : st ≤ D.length) : ∀ (r i : Nat), i ≤ D.length → (∀ j, grpGo D (st : Int) r i = .ok j → j ≤ D.length) ∧ (∀ e, grpGo D (st : Int) r i = .error e → Eb D.length e) := by
  intro r
  induction r with
  | zero => intro i _; exact ⟨fun j h => (by cases h), fun e h => (by cases h; exact eb2 hs)⟩
  | succ r ih =>
    intro i hi
    rw [grpGo]
    by_cases h1 : i < D.length
    · rw [if_pos h1]
      by_cases h2 : (D.getD i 0).toNat < 128
      · rw [if_pos h2]; exact ⟨fun j h => (by cases h; exact h1), fun e h => (by cases h)⟩
      · rw [if_neg h2]; exact ih (i + 1) h1
    · rw [if_neg h1]; exact ⟨fun j h => (by cases h), fun e h => (by cases h; exact eb2 hi)⟩
theorem groups_rb (m : Nat) (h : i ≤ D.length) : Rb D.length (groupsM D m i) := by
  have := grp_rb i h m i h
  unfold groupsM
  split
  · rename_i j hj; exact this.1 _ hj
  · rename_i e he; exact this.2 _ he
theorem U_rb (h : i ≤ D.length) : Rb D.length (UM D i) := by
  have hg := groups_rb 5 h
  unfold UM
  split
  · rename_i e he; exact hg.err he
  · rename_i g j he
    split
    · exact eb2 h
    · exact hg.ok he
theorem below_rb (lim : Int) (h : i ≤ D.length) : Rb D.length (belowM D lim i) := by
  have hg := U_rb h
  unfold belowM
  split
  · rename_i e he; exact hg.err he
  · rename_i n j he
    split
    · exact eb2 h
    · exact hg.ok he
theorem oneOf_rb (al : List UInt8) (h : i ≤ D.length) : Rb D.length (oneOfM D al i) := by
  have hg := byte_rb h
  unfold oneOfM
  split
  · rename_i e he; exact hg.err he
  · rename_i c j he
    split
    · exact hg.ok he
    · exact eb2 h
theorem behind_rb (b : Nat) (h : i ≤ D.length) : Rb D.length (behindM D b i) := by
  unfold behindM
  split
  · exact U_rb h
  split
  · split
    · rename_i e he
      unfold S32M at he
      split at he
      · rename_i e' he'; cases he; exact (groups_rb 5 h).err he'
      · rename_i g j he'
        split at he
        · cases he; exact eb2 h
        · cases he
    · rename_i n j he
      unfold S32M at he
      split at he
      · cases he
      · rename_i g j' he'
        split at he
        · cases he
        · cases he; exact (groups_rb 5 h).ok he'
  split
  · split
    · rename_i e he
      unfold S64M at he
      split at he
      · rename_i e' he'; cases he; exact (groups_rb 10 h).err he'
      · rename_i g j he'
        split at he
        · cases he; exact eb2 h
        · cases he
    · rename_i n j he
      unfold S64M at he
      split at he
      · cases he
      · rename_i g j' he'
        split at he
        · cases he
        · cases he; exact (groups_rb 10 h).ok he'
  · exact h
theorem many_rb {α : Type} {n : Nat} {one : Nat → Rd α} (h1 : ∀ i, i ≤ n → Rb n (one i)) : ∀ (k i : Nat), i ≤ n → Rb n (manyM one k i) := by
  intro k
  induction k with
  | zero => intro i h; exact h
  | succ k ih =>
    intro i h
    have hg := h1 i h
    rw [manyM]
    split
    · rename_i e he; exact hg.err he
    · rename_i x j he
      have hk := ih j (hg.ok he)
      split
      · rename_i e he2; exact hk.err he2
      · rename_i l k2 he2; exact hk.ok he2
theorem list_rb (most : Nat) (h : i ≤ D.length) : Rb D.length (listM D most i) := by
  have hg := below_rb (D := D) ((most + 1 : Nat) : Int) h
  unfold listM
  split
  · rename_i e he; exact hg.err he
  · rename_i n j he; exact many_rb (fun i hi => oneOf_rb _ hi) n j (hg.ok he)
theorem type_rb (h : i ≤ D.length) : Rb D.length (typeM D i) := by
  have hg := list_rb (D := D) 8 h
  unfold typeM
  split
  · rename_i e he; exact hg.err he
  · rename_i p j he
    have hk := list_rb (D := D) 1 (hg.ok he)
    split
    · rename_i e he2; exact hk.err he2
    · rename_i r k he2; exact hk.ok he2
theorem types_rb (h : i ≤ D.length) : Rb D.length (typesM D i) := by
  have hg := below_rb (D := D) 17 h
  unfold typesM
  split
  · rename_i e he; exact hg.err he
  · rename_i n j he; exact many_rb (fun i hi => type_rb hi) n j (hg.ok he)
theorem funcs_rb (ts : List Ty) (h : i ≤ D.length) : Rb D.length (funcsM D ts i) := by
  have hg := below_rb (D := D) 17 h
  unfold funcsM
  split
  · rename_i e he; exact hg.err he
  · rename_i n j he
    refine many_rb (fun i hi => ?_) n j (hg.ok he)
    have hb := below_rb (D := D) (ts.length : Int) hi
    split
    · rename_i e he2; exact hb.err he2
    · rename_i k j2 he2; exact hb.ok he2
theorem glob_rb (h : i ≤ D.length) : Rb D.length (globM D i) := by
  have hg := oneOf_rb (D := D) [127, 126] h
  unfold globM
  split
  · rename_i e he; exact hg.err he
  · rename_i t j he
    have hk := oneOf_rb (D := D) [0, 1] (hg.ok he)
    split
    · rename_i e he2; exact hk.err he2
    · rename_i fl k he2
      have hv := behind_rb (D := D) (if t = 127 then 2 else 3) (hk.ok he2)
      split
      · rename_i e he3; exact hv.err he3
      · rename_i v m he3; exact hv.ok he3
theorem globs_rb (h : i ≤ D.length) : Rb D.length (globsM D i) := by
  have hg := below_rb (D := D) 9 h
  unfold globsM
  split
  · rename_i e he; exact hg.err he
  · rename_i n j he; exact many_rb (fun i hi => glob_rb hi) n j (hg.ok he)
theorem magic_rb (h : i ≤ D.length) : Rb D.length (magicM D i) := by
  have h1 := oneOf_rb (D := D) [83] h
  unfold magicM
  split
  · rename_i e he; exact h1.err he
  rename_i j he
  have h2 := oneOf_rb (D := D) [84] (h1.ok he)
  split
  · rename_i e he; exact h2.err he
  rename_i j2 he2
  have h3 := oneOf_rb (D := D) [75] (h2.ok he2)
  split
  · rename_i e he; exact h3.err he
  rename_i j3 he3
  have h4 := oneOf_rb (D := D) [1] (h3.ok he3)
  split
  · rename_i e he; exact h4.err he
  · rename_i j4 he4; exact h4.ok he4
end
def Lb (n : Nat) (m : Res) : Prop := match m with
  | .ok s => s.i ≤ n ∧ s.pos ≤ n
  | .error e => Eb n e
theorem Lb.ok {n : Nat} {m : Res} {s : Bd} (h : Lb n m) (e : m = .ok s) : s.i ≤ n ∧ s.pos ≤ n := by rw [e] at h; exact h
theorem Lb.err {n : Nat} {m : Res} {e : Int × Int} (h : Lb n m) (he : m = .error e) : Eb n e := by rw [he] at h; exact h
theorem tk_ip {s s' : Bd} {u : UInt8} (h : takeM s u = some s') : s'.i = s.i ∧ s'.pos = s.pos := by rw [(take_spec h).2.2]; exact ⟨rfl, rfl⟩
theorem tka_ip {s s' : Bd} {u : UInt8} (h : takeAnyM s = some (u, s')) : s'.i = s.i ∧ s'.pos = s.pos := by rw [(takeAny_spec h).2.2]; exact ⟨rfl, rfl⟩
theorem tkn_ip {ts : List UInt8} (k : Nat) : ∀ {s s' : Bd}, takeN ts k s = some s' → s'.i = s.i ∧ s'.pos = s.pos := by
  induction k with
  | zero => intro s s' h; cases h; exact ⟨rfl, rfl⟩
  | succ k ih =>
    intro s s' h
    rw [takeN] at h
    split at h
    · cases h
    · rename_i s1 h1
      have a := ih h
      have b := tk_ip h1
      exact ⟨a.1.trans b.1, a.2.trans b.2⟩
theorem tkc_ip {s s' : Bd} {k : Nat} (h : carriesM s k = some s') : s'.i = s.i ∧ s'.pos = s.pos := by
  unfold carriesM at h
  rw [Option.map_eq_some_iff] at h
  obtain ⟨s1, h1, rfl⟩ := h
  show s1.i = s.i ∧ s1.pos = s.pos
  exact tkn_ip _ h1
theorem jump_ip (s : Bd) (op : UInt8) (k : Nat) : (jumpM s op k).i = s.i ∧ (jumpM s op k).pos = s.pos := by unfold jumpM; split <;> exact ⟨rfl, rfl⟩
theorem jumps_ip (l : List Nat) : ∀ s : Bd, (jumpAll l s).i = s.i ∧ (jumpAll l s).pos = s.pos := by
  induction l with
  | nil => intro s; exact ⟨rfl, rfl⟩
  | cons a l ih =>
    intro s
    have h1 := ih (jumpM s 12 a)
    have h2 := jump_ip s 12 a
    exact ⟨h1.1.trans h2.1, h1.2.trans h2.2⟩
section
variable {c : Ctx} {s : Bd} {n : Nat} (hi : s.i ≤ c.D.length) (hp : s.pos ≤ c.D.length)
include hi hp
omit hp in
theorem label_err {e : Int × Int} (h : labelM c s = .error e) : Eb c.D.length e := by
  unfold labelM at h
  split at h
  · rename_i e2 he; cases h; exact (below_rb (D := c.D) _ hi).err he
  · cases h
omit hp in
theorem label_ip {k : Nat} {s1 : Bd} (h : labelM c s = .ok (k, s1)) : s1.i ≤ c.D.length ∧ s1.pos = s.pos := by
  unfold labelM at h
  split at h
  · cases h
  · rename_i n j he; cases h; exact ⟨(below_rb (D := c.D) _ hi).ok he, rfl⟩
omit hi hp in
theorem labels_lb (m : Nat) : ∀ {s : Bd}, s.i ≤ c.D.length → (∀ e, labelsM c m s = .error e → Eb c.D.length e) ∧ ∀ l s1, labelsM c m s = .ok (l, s1) → s1.i ≤ c.D.length ∧ s1.pos = s.pos := by
  induction m with
  | zero => intro s hi; exact ⟨fun e h => (by cases h), fun l s1 h => (by cases h; exact ⟨hi, rfl⟩)⟩
  | succ m ih =>
    intro s hi
    refine ⟨fun e h => ?_, fun l s1 h => ?_⟩
    · rw [labelsM] at h
      split at h
      · rename_i e2 he; cases h; exact label_err hi he
      · rename_i k s2 he
        have h2 := label_ip hi he
        split at h
        · rename_i e3 he3; cases h; exact (ih h2.1).1 _ he3
        · cases h
    · rw [labelsM] at h
      split at h
      · cases h
      · rename_i k s2 he
        have h2 := label_ip hi he
        split at h
        · cases h
        · rename_i l3 s3 he3
          cases h
          have h3 := (ih h2.1).2 _ _ he3
          exact ⟨h3.1, h3.2.trans h2.2⟩
theorem special_lb (op : UInt8) : Lb c.D.length (specialM c op s) := by
  have hw : Lb c.D.length (wrongM s) := eb3 hp
  unfold specialM
  split
  · exact ⟨hi, hp⟩
  split
  · unfold openM
    split
    · rename_i e he; exact (oneOf_rb _ hi).err he
    rename_i t j he
    have hj := (oneOf_rb _ hi).ok he
    split
    · exact hw
    rename_i s1 hs1
    split
    · exact hw
    · have h1 : s1.i = j ∧ s1.pos = s.pos := by
        split at hs1
        · exact tk_ip hs1
        · cases hs1; exact ⟨rfl, rfl⟩
      show s1.i ≤ _ ∧ s1.pos ≤ _
      rw [h1.1, h1.2]; exact ⟨hj, hp⟩
  split
  · unfold turnM
    split
    · exact hw
    · have h1 := jump_ip s 5 (s.blocks.length - 1)
      show (jumpM s 5 (s.blocks.length - 1)).i ≤ _ ∧ (jumpM s 5 (s.blocks.length - 1)).pos ≤ _
      rw [h1.1, h1.2]; exact ⟨hi, hp⟩
  split
  · unfold endM
    split
    · exact hw
    · have h2 : ∀ s1 : Bd, s1 = (if s.top.kind = 3 then aimM s (s.top.start - 1) else s) → s1.i = s.i ∧ s1.pos = s.pos := by
        intro s1 e; rw [e]; split <;> exact ⟨rfl, rfl⟩
      have h3 := h2 _ rfl
      obtain ⟨-, -, -, a4, a5, -⟩ := aims_same s.top.waits (if s.top.kind = 3 then aimM s (s.top.start - 1) else s)
      show (if s.top.kind = 0 then emitM _ _ else _ : Bd).i ≤ _ ∧ (if s.top.kind = 0 then emitM _ _ else _ : Bd).pos ≤ _
      split
      · show (aimAll _ _).i ≤ _ ∧ (aimAll _ _).pos ≤ _
        rw [a4, a5, h3.1, h3.2]; exact ⟨hi, hp⟩
      · rw [a4, a5, h3.1, h3.2]; exact ⟨hi, hp⟩
  split
  · unfold branchM
    split
    · rename_i e he; exact label_err hi he
    rename_i k s1 he
    have h1 := label_ip hi he
    split
    · exact hw
    rename_i s2 hs2
    have h2 : s2.i = s1.i ∧ s2.pos = s1.pos := by
      split at hs2
      · exact tk_ip hs2
      · cases hs2; exact ⟨rfl, rfl⟩
    split
    · exact hw
    rename_i s3 hs3
    have h3 := tkc_ip hs3
    have h4 := jump_ip s3 op k
    show (jumpM s3 op k).i ≤ _ ∧ (jumpM s3 op k).pos ≤ _
    rw [h4.1, h4.2, h3.1, h3.2, h2.1, h2.2, h1.2]; exact ⟨h1.1, hp⟩
  split
  · unfold tableM
    split
    · rename_i e he; exact (below_rb (D := c.D) _ hi).err he
    rename_i n j he
    have hj := (below_rb (D := c.D) _ hi).ok he
    have hl := labels_lb (c := c) (n + 1) (s := { s with i := j }) hj
    split
    · rename_i e he2; exact hl.1 _ he2
    rename_i l s1 he2
    have h1 := hl.2 _ _ he2
    split
    · exact hw
    rename_i s2 hs2
    have h2 := tk_ip hs2
    split
    · exact hw
    rename_i s3 hs3
    have h3 := tkc_ip hs3
    split
    · have h4 := jumps_ip l (emitM s3 ⟨14, n, 0, 0, 0⟩)
      show (jumpAll l (emitM s3 ⟨14, n, 0, 0, 0⟩)).i ≤ _ ∧ (jumpAll l (emitM s3 ⟨14, n, 0, 0, 0⟩)).pos ≤ _
      rw [h4.1, h4.2]
      show s3.i ≤ _ ∧ s3.pos ≤ _
      rw [h3.1, h3.2, h2.1, h2.2, h1.2]; exact ⟨h1.1, hp⟩
    · exact hw
  split
  · unfold leaveM
    split
    · exact hw
    rename_i s1 hs1
    have h1 := tkc_ip hs1
    have h2 := jump_ip s1 12 0
    show (jumpM s1 12 0).i ≤ _ ∧ (jumpM s1 12 0).pos ≤ _
    rw [h2.1, h2.2, h1.1, h1.2]; exact ⟨hi, hp⟩
  split
  · unfold callM
    split
    · rename_i e he; exact (below_rb (D := c.D) _ hi).err he
    rename_i n j he
    have hj := (below_rb (D := c.D) _ hi).ok he
    split
    · exact hw
    rename_i s1 hs1
    have h1 := tkn_ip _ hs1
    show s1.i ≤ _ ∧ s1.pos ≤ _
    rw [h1.1, h1.2]; exact ⟨hj, hp⟩
  split
  · unfold dropM
    split
    · exact hw
    rename_i hs1
    have h1 := tka_ip hs1
    refine ⟨?_, ?_⟩
    · exact h1.1.symm ▸ hi
    · exact h1.2.symm ▸ hp
  split
  · unfold chooseM
    split
    · exact hw
    rename_i s1 hs1
    split
    · exact hw
    rename_i t s2 hs2
    split
    · exact hw
    rename_i s3 hs3
    have h1 := tk_ip hs1
    have h2 := tka_ip hs2
    have h3 := tk_ip hs3
    show s3.i ≤ _ ∧ s3.pos ≤ _
    rw [h3.1, h3.2, h2.1, h2.2, h1.1, h1.2]; exact ⟨hi, hp⟩
  split
  · unfold globalM
    split
    · rename_i e he; exact (below_rb (D := c.D) _ hi).err he
    rename_i n j he
    have hj := (below_rb (D := c.D) _ hi).ok he
    split
    · split
      · split
        · exact hw
        rename_i s1 hs1
        have h1 := tk_ip hs1
        show s1.i ≤ _ ∧ s1.pos ≤ _
        rw [h1.1, h1.2]; exact ⟨hj, hp⟩
      · exact hw
    · exact ⟨hj, hp⟩
  · unfold localM
    split
    · rename_i e he; exact (below_rb (D := c.D) _ hi).err he
    rename_i n j he
    have hj := (below_rb (D := c.D) _ hi).ok he
    split
    · exact hw
    rename_i s1 hs1
    have h1 : s1.i = j ∧ s1.pos = s.pos := by
      split at hs1
      · cases hs1; exact ⟨rfl, rfl⟩
      · exact tk_ip hs1
    have h2 : ∀ b : Bd, (b = emitM s1 ⟨op, n, 0, 0, 0⟩ ∨ b = putM (emitM s1 ⟨op, n, 0, 0, 0⟩) [c.locals.getD n 0]) → b.i ≤ c.D.length ∧ b.pos ≤ c.D.length := by
      rintro b (e | e) <;> rw [e] <;> show s1.i ≤ _ ∧ s1.pos ≤ _ <;> rw [h1.1, h1.2] <;> exact ⟨hj, hp⟩
    refine h2 _ ?_
    split
    · exact .inl rfl
    · exact .inr rfl
omit hp in
theorem step_lb : Lb c.D.length (stepM c s) := by
  unfold stepM
  split
  · rename_i e he; exact (byte_rb hi).err he
  rename_i op j he
  have hj := (byte_rb hi).ok he
  split
  · exact eb2 hi
  rename_i r hr
  split
  · exact eb3 hi
  split
  · exact special_lb (s := { s with pos := s.i, i := j }) hj hi op
  · unfold plainB
    split
    · rename_i e he2; exact (behind_rb _ hj).err he2
    rename_i n j2 he2
    have hj2 := (behind_rb _ hj).ok he2
    split
    · exact eb3 hi
    rename_i s1 hs1
    have h1 := tkn_ip _ hs1
    show s1.i ≤ _ ∧ s1.pos ≤ _
    rw [h1.1, h1.2]; exact ⟨hj2, hi⟩
end
theorem look_lb {c : Ctx} : ∀ (F : Nat) (s : Bd), s.i ≤ c.D.length → s.pos ≤ c.D.length → Lb c.D.length (lookM c F s) := by
  intro F
  induction F with
  | zero => intro s hi hp; exact ⟨hi, hp⟩
  | succ F ih =>
    intro s hi hp
    rw [lookM]
    split
    · split
      · exact eb2 hi
      · exact ⟨hi, hp⟩
    · have hs := step_lb (c := c) hi
      split
      · rename_i e he; exact hs.err he
      · rename_i s1 he
        have := hs.ok he
        exact ih s1 this.1 this.2
theorem body_rb {D : List UInt8} {fs : List Ty} {gl : List (UInt8 × Bool)} {typ : Ty} {code : List Ins} {i : Nat} (h : i ≤ D.length) : Rb D.length (bodyM D fs gl typ code i) := by
  unfold bodyM
  split
  · rename_i e he; exact (U_rb h).err he
  rename_i size j he
  have hj := (U_rb h).ok he
  split
  · exact eb2 h
  rename_i hsz
  simp only
  have hPl : (D.take (j + size)).length = j + size := by rw [List.length_take]; omega
  have hle : (D.take (j + size)).length ≤ D.length := by rw [List.length_take]; omega
  generalize D.take (j + size) = P at *
  have hjP : j ≤ P.length := by omega
  split
  · rename_i e he2; exact ((list_rb _ hjP).err he2).le hle
  rename_i more k he2
  have hk := (list_rb _ hjP).ok he2
  have hl := look_lb (c := ⟨P, fs, gl, typ.1 ++ more⟩) 2001 ⟨k, code, [], [⟨0, typ.2, 0, 0, []⟩], 0, false⟩ hk (Nat.zero_le _)
  split
  · rename_i e he3; exact (hl.err he3).le hle
  · show j + size ≤ D.length
    omega
theorem bodies_rb {D : List UInt8} {fs : List Ty} {gl : List (UInt8 × Bool)} : ∀ (l : List Ty) (code : List Ins) (i : Nat), i ≤ D.length → Rb D.length (bodiesM D fs gl l code i) := by
  intro l
  induction l with
  | nil => intro code i h; exact h
  | cons t l ih =>
    intro code i h
    have hb := body_rb (fs := fs) (gl := gl) (typ := t) (code := code) h
    rw [bodiesM]
    split
    · rename_i e he; exact hb.err he
    rename_i f code1 j he
    have hk := ih code1 j (hb.ok he)
    split
    · rename_i e he2; exact hk.err he2
    · rename_i fs2 code2 k he2; exact hk.ok he2
theorem load_eb {D : List UInt8} {e : Int × Int} (h : loadM D = .error e) : Eb D.length e := by
  unfold loadM at h
  split at h
  · cases h; exact ⟨by decide, by decide, by decide, by show (0 : Int) ≤ (D.length : Int); omega⟩
  split at h
  · rename_i e1 he; cases h; exact (magic_rb (Nat.zero_le _)).err he
  rename_i i1 h1
  have j1 := (magic_rb (Nat.zero_le _)).ok h1
  split at h
  · rename_i e1 he; cases h; exact (types_rb j1).err he
  rename_i ts i2 h2
  have j2 := (types_rb j1).ok h2
  split at h
  · rename_i e1 he; cases h; exact (funcs_rb ts j2).err he
  rename_i fs i3 h3
  have j3 := (funcs_rb ts j2).ok h3
  split at h
  · rename_i e1 he; cases h; exact (globs_rb j3).err he
  rename_i gs i4 h4
  have j4 := (globs_rb j3).ok h4
  split at h
  · rename_i e1 he; cases h; exact (below_rb _ j4).err he
  rename_i pages i5 h5
  have j5 := (below_rb _ j4).ok h5
  split at h
  · rename_i e1 he; cases h; exact (bodies_rb _ _ _ j5).err he
  rename_i fns code i6 h6
  have j6 := (bodies_rb _ _ _ j5).ok h6
  split at h
  · cases h; exact eb2 j6
  · cases h
end Go.Proofs.YtdeplgkhmebalaaGreatDoor
