/- The program's look at a body: what its state holds, and where it lies. -/
import Derived.Test.YtdeplgkhmebalaaGreatDoorP04
import Derived.Test.YtdeplgkhmebalaaGreatDoorP05

namespace Go.Proofs.YtdeplgkhmebalaaGreatDoor
open Go.RowKit
section
variable {α : Type} {f : α → List Value} {n : Nat}
theorem flat_len (h : ∀ a, (f a).length = n) (l : List α) : (l.flatMap f).length = l.length * n := by
  induction l with
  | nil => simp
  | cons a l ih => rw [List.flatMap_cons, List.length_append, ih, h, List.length_cons, Nat.succ_mul, Nat.add_comm]
theorem flat_get (h : ∀ a, (f a).length = n) (l : List α) (k j : Nat) (hj : j < n) : (l.flatMap f)[k * n + j]? = (l[k]?).bind (fun a => (f a)[j]?) := by
  induction l generalizing k with
  | nil => simp
  | cons a l ih =>
    cases k with
    | zero => rw [List.flatMap_cons, Nat.zero_mul, Nat.zero_add, List.getElem?_append_left (by rw [h]; exact hj)]; rfl
    | succ k =>
      rw [List.flatMap_cons, List.getElem?_append_right (by rw [h, Nat.succ_mul]; omega), h, show (k + 1) * n + j - n = k * n + j by rw [Nat.succ_mul]; omega, ih]; rfl
theorem flat_set (h : ∀ a, (f a).length = n) (l : List α) (k j : Nat) (hj : j < n) (a a' : α) (v : Value) (hk : l[k]? = some a) (ha : f a' = (f a).set j v) : (l.flatMap f).set (k * n + j) v = (l.set k a').flatMap f := by
  induction l generalizing k with
  | nil => simp at hk
  | cons b l ih =>
    cases k with
    | zero =>
      cases hk
      rw [List.flatMap_cons, Nat.zero_mul, Nat.zero_add, List.set_append_left _ _ (by rw [h]; exact hj), List.set_cons_zero, List.flatMap_cons, ha]
    | succ k =>
      rw [List.flatMap_cons, List.set_append_right _ _ (by rw [h, Nat.succ_mul]; omega), h, show (k + 1) * n + j - n = k * n + j by rw [Nat.succ_mul]; omega, ih k hk, List.set_cons_succ, List.flatMap_cons]
theorem flat_take (h : ∀ a, (f a).length = n) (l : List α) (k : Nat) : (l.take k).flatMap f = (l.flatMap f).take (k * n) := by
  induction l generalizing k with
  | nil => simp
  | cons b l ih =>
    cases k with
    | zero => simp
    | succ k =>
      have e : (k + 1) * n = n + k * n := by rw [Nat.succ_mul, Nat.add_comm]
      rw [List.take_succ_cons, List.flatMap_cons, ih, List.flatMap_cons, List.take_append, h, e, Nat.add_sub_cancel_left, List.take_of_length_le (l := f b) (by rw [h]; omega)]
end
structure Ins where
  op : UInt8
  num : Nat
  goal : Nat
  height : Nat
  keep : Nat
def Ins.cells (x : Ins) : List Value := [.int .u8 x.op.toNat, .int .u64 x.num, .int .i64 x.goal, .int .i64 x.height, .int .i64 x.keep]
theorem Ins.len (x : Ins) : x.cells.length = 5 := rfl
abbrev Ty := List UInt8 × List UInt8
structure Bk where
  kind : Nat
  result : List UInt8
  height : Nat
  start : Nat
  waits : List Nat
abbrev BkV := Bk × Value × Value
def bkCells (x : BkV) : List Value := [.int .i64 x.1.kind, x.2.1, .int .i64 x.1.height, .int .i64 x.1.start, x.2.2]
theorem bkLen (x : BkV) : (bkCells x).length = 5 := rfl
structure Ctx where
  D : List UInt8
  funcs : List Ty
  gl : List (UInt8 × Bool)
  locals : List UInt8
structure Env where
  B : Nat
  rb : Nat
  bb : Nat
  mb : Nat
  dv : Value
  fv : Value
  glv : Value
  gv : Value
  lv : Value
  ro : Nat → Prop
  pages : Nat
  c : Ctx
structure Bd where
  i : Nat
  code : List Ins
  stack : List UInt8
  blocks : List Bk
  pos : Nat
  closed : Bool
def RoV (ro : Nat → Prop) (v : Value) : Prop := ∀ b, v.ownBlock = some b → ro b
def TypesAt (w : World) (ro : Nat → Prop) (v : Value) (st : Nat) (ts : List Ty) : Prop :=
  ∃ ad cap, v = .slice ad ts.length cap ∧ ts.length ≤ cap ∧ ∀ k, k < ts.length → ∃ a o pv rv, ad = some ⟨a, o, none⟩ ∧ ro a ∧ w.cell? ⟨a, o + k * st, none⟩ = some pv ∧ w.cell? ⟨a, o + k * st + 1, none⟩ = some rv ∧
    BytesAt w pv (ts.getD k ([], [])).1 ∧ RoV ro pv ∧ BytesAt w rv (ts.getD k ([], [])).2 ∧ RoV ro rv
def GlobsAt (w : World) (ro : Nat → Prop) (v : Value) (gs : List (UInt8 × Bool)) : Prop :=
  ∃ ad cap, v = .slice ad gs.length cap ∧ gs.length ≤ cap ∧ ∀ k, k < gs.length → ∃ a o, ad = some ⟨a, o, none⟩ ∧ ro a ∧ w.cell? ⟨a, o + k * 2, none⟩ = some (.int .u8 (gs.getD k (0, false)).1.toNat) ∧ w.cell? ⟨a, o + k * 2 + 1, none⟩ = some (.bool (gs.getD k (0, false)).2)
abbrev nro (ro : Nat → Prop) : Nat → Prop := fun k => ¬ ro k
theorem BytesAt.ro {ro : Nat → Prop} {w w' : World} {v : Value} {l : List UInt8} (h : BytesAt w v l) (hr : RoV ro v) (k : Kp (nro ro) w w') : BytesAt w' v l := h.kp k (fun b hb hn => hn (hr b hb))
theorem TypesAt.kp {ro : Nat → Prop} {w w' : World} {v : Value} {st : Nat} {ts : List Ty} (h : TypesAt w ro v st ts) (k : Kp (nro ro) w w') : TypesAt w' ro v st ts := by
  obtain ⟨ad, cap, hv, hc, hk⟩ := h
  refine ⟨ad, cap, hv, hc, fun j hj => ?_⟩
  obtain ⟨a, o, pv, rv, had, hro, h1, h2, h3, h4, h5, h6⟩ := hk j hj
  exact ⟨a, o, pv, rv, had, hro, k.cell h1 (fun hn => hn hro), k.cell h2 (fun hn => hn hro), h3.ro h4 k, h4, h5.ro h6 k, h6⟩
theorem GlobsAt.kp {ro : Nat → Prop} {w w' : World} {v : Value} {gs : List (UInt8 × Bool)} (h : GlobsAt w ro v gs) (k : Kp (nro ro) w w') : GlobsAt w' ro v gs := by
  obtain ⟨ad, cap, hv, hc, hk⟩ := h
  refine ⟨ad, cap, hv, hc, fun j hj => ?_⟩
  obtain ⟨a, o, had, hro, h1, h2⟩ := hk j hj
  exact ⟨a, o, had, hro, k.cell h1 (fun hn => hn hro), k.cell h2 (fun hn => hn hro)⟩
structure Env.Ok (E : Env) (w : World) : Prop where
  base : E.B ≤ w.heap.size
  dv : RoV E.ro E.dv
  funcs : TypesAt w E.ro E.fv 4 E.c.funcs
  gl : GlobsAt w E.ro E.gv E.c.gl
  locals : BytesAt w E.lv E.c.locals
  lv : RoV E.ro E.lv
  nf : E.c.funcs.length ≤ 16
  ng : E.c.gl.length ≤ 8
  nl : E.c.locals.length ≤ 32
  res : ∀ k, k < E.c.funcs.length → (E.c.funcs.getD k ([], [])).1.length ≤ 8 ∧ (E.c.funcs.getD k ([], [])).2.length ≤ 1
theorem Env.Ok.kp {E : Env} {w w' : World} (h : E.Ok w) (k : Kp (nro E.ro) w w') : E.Ok w' :=
  ⟨Nat.le_trans h.base k.size, h.dv, h.funcs.kp k, h.gl.kp k, h.locals.ro h.lv k, h.lv, h.nf, h.ng, h.nl, h.res⟩
abbrev bodyObj (E : Env) (g : Nat) (s : Bd) (sv : Value) (kc : Nat) : Obj := .cells #[ptrTo E.rb, ptrTo E.mb, E.gv, E.lv, sv, .slice (some ⟨g, 0, none⟩) s.blocks.length kc, .int .i64 s.pos, .bool s.closed] 263
abbrev modObj (E : Env) (cv : Value) : Obj := .cells #[E.fv, E.glv, .int .i64 E.pages, cv] 121
structure BStG (E : Env) (g : Nat) (w : World) (s : Bd) (role : Nat → Nat) (sv cv : Value) (kc : Nat) (bs : List BkV) : Prop where
  env : E.Ok w
  rd : RSt w E.rb E.dv E.c.D s.i
  body : w.heap[E.bb]? = some (bodyObj E g s sv kc)
  mod : w.heap[E.mb]? = some (modObj E cv)
  stack : w.ownsRow E.B 5 1 sv s.stack.length (s.stack.map fun c => .int .u8 c.toNat)
  blocks : w.ownsRow E.B 298 5 (.slice (some ⟨g, 0, none⟩) s.blocks.length kc) s.blocks.length (bs.flatMap bkCells)
  code : w.ownsRow E.B 214 5 cv s.code.length (s.code.flatMap Ins.cells)
  eq : s.blocks = bs.map (·.1)
  waits : ∀ (k : Nat) (x : BkV), bs[k]? = some x → w.ownsRow E.B 3 1 x.2.2 x.1.waits.length (x.1.waits.map fun n => Value.int .i64 ((n : Nat) : Int))
  results : ∀ (k : Nat) (x : BkV), bs[k]? = some x → BytesAt w x.2.1 x.1.result
  r1 : role E.rb = 1
  r2 : role E.mb = 2
  r3 : role E.bb = 3
  r4 : ∀ b, sv.ownBlock = some b → role b = 4
  r5 : role g = 5
  r6 : ∀ b, cv.ownBlock = some b → role b = 6
  rw : ∀ (k : Nat) (x : BkV), bs[k]? = some x → ∀ b, x.2.2.ownBlock = some b → role b = 100 + k
  rr : ∀ (k : Nat) (x : BkV), bs[k]? = some x → RoV (fun b => role b = 0 ∧ b < w.heap.size) x.2.1
  ro : ∀ b, E.ro b → role b = 0
  lt : ∀ b, E.ro b → b < w.heap.size
def BSt (E : Env) (g : Nat) (w : World) (s : Bd) : Prop := ∃ role sv cv kc bs, BStG E g w s role sv cv kc bs
def newRole (role : Nat → Nat) (n z : Nat) : Nat → Nat := fun k => if k < n then role k else z
theorem newRole_old {role : Nat → Nat} {n z k : Nat} (h : k < n) : newRole role n z k = role k := if_pos h
theorem newRole_new {role : Nat → Nat} {n z k : Nat} (h : n ≤ k) : newRole role n z k = z := if_neg (by omega)
theorem own_lt {w : World} {base : Nat} {e : TypeId} {sz : Nat} {v : Value} {n : Nat} {xs : List Value} (h : w.ownsRow base e sz v n xs) {b : Nat} (hb : v.ownBlock = some b) : b < w.heap.size := (h.lt b hb).2
theorem RowAt.kpR {X : Nat → Prop} {role : Nat → Nat} {w w' : World} {v : Value} {sz n : Nat} {xs : List Value} (h : RowAt w v sz n xs) (k : Kp (fun b => X (role b)) w w') (h0 : ¬ X 0) {q : Nat} (hr : RoV (fun b => role b = 0 ∧ b < q) v) : RowAt w' v sz n xs :=
  h.kp k (fun b hb hx => h0 (by rw [← (hr b hb).1]; exact hx))
section
variable {E : Env} {g : Nat} {w w' : World} {s : Bd} {role : Nat → Nat} {sv cv : Value} {kc : Nat} {bs : List BkV} {X : Nat → Prop}
theorem BStG.nro (h : BStG E g w s role sv cv kc bs) (k : Kp (fun b => X (role b)) w w') (h0 : ¬ X 0) : Kp (nro E.ro) w w' := k.mono (fun b _ hx hr => h0 (by rw [← h.ro b hr]; exact hx))
theorem BStG.kEnv (h : BStG E g w s role sv cv kc bs) (k : Kp (fun b => X (role b)) w w') (h0 : ¬ X 0) : E.Ok w' := h.env.kp (h.nro k h0)
theorem BStG.kRd (h : BStG E g w s role sv cv kc bs) (k : Kp (fun b => X (role b)) w w') (h0 : ¬ X 0) (h1 : ¬ X 1) : RSt w' E.rb E.dv E.c.D s.i :=
  h.rd.kp k (fun hx => h1 (by rw [← h.r1]; exact hx)) (fun b hb _ hx => h0 (by rw [← h.ro b (h.env.dv b hb)]; exact hx))
theorem BStG.kBody (h : BStG E g w s role sv cv kc bs) (k : Kp (fun b => X (role b)) w w') (h1 : ¬ X 3) : w'.heap[E.bb]? = some (bodyObj E g s sv kc) := k.blk h.body (fun hx => h1 (by rw [← h.r3]; exact hx))
theorem BStG.kMod (h : BStG E g w s role sv cv kc bs) (k : Kp (fun b => X (role b)) w w') (h1 : ¬ X 2) : w'.heap[E.mb]? = some (modObj E cv) := k.blk h.mod (fun hx => h1 (by rw [← h.r2]; exact hx))
theorem BStG.kStack (h : BStG E g w s role sv cv kc bs) (k : Kp (fun b => X (role b)) w w') (h1 : ¬ X 4) : w'.ownsRow E.B 5 1 sv s.stack.length (s.stack.map fun c => .int .u8 c.toNat) := k.own h.stack (fun b hb hx => h1 (by rw [← h.r4 b hb]; exact hx))
theorem BStG.kBlocks (h : BStG E g w s role sv cv kc bs) (k : Kp (fun b => X (role b)) w w') (h1 : ¬ X 5) : w'.ownsRow E.B 298 5 (.slice (some ⟨g, 0, none⟩) s.blocks.length kc) s.blocks.length (bs.flatMap bkCells) :=
  k.own h.blocks (fun b hb hx => h1 (by cases hb; rw [← h.r5]; exact hx))
theorem BStG.kCode (h : BStG E g w s role sv cv kc bs) (k : Kp (fun b => X (role b)) w w') (h1 : ¬ X 6) : w'.ownsRow E.B 214 5 cv s.code.length (s.code.flatMap Ins.cells) := k.own h.code (fun b hb hx => h1 (by rw [← h.r6 b hb]; exact hx))
theorem BStG.kWaits (h : BStG E g w s role sv cv kc bs) (k : Kp (fun b => X (role b)) w w') (j : Nat) (x : BkV) (hj : bs[j]? = some x) (h1 : ¬ X (100 + j)) : w'.ownsRow E.B 3 1 x.2.2 x.1.waits.length (x.1.waits.map fun n => Value.int .i64 ((n : Nat) : Int)) :=
  k.own (h.waits j x hj) (fun b hb hx => h1 (by rw [← h.rw j x hj b hb]; exact hx))
theorem BStG.kResults (h : BStG E g w s role sv cv kc bs) (k : Kp (fun b => X (role b)) w w') (h0 : ¬ X 0) (j : Nat) (x : BkV) (hj : bs[j]? = some x) : BytesAt w' x.2.1 x.1.result := RowAt.kpR (h.results j x hj) k h0 (h.rr j x hj)
theorem BStG.kRr (h : BStG E g w s role sv cv kc bs) (k : Kp (fun b => X (role b)) w w') (j : Nat) (x : BkV) (hj : bs[j]? = some x) : RoV (fun b => role b = 0 ∧ b < w'.heap.size) x.2.1 := fun b hb => ⟨(h.rr j x hj b hb).1, Nat.lt_of_lt_of_le (h.rr j x hj b hb).2 k.size⟩
theorem BStG.kLt (h : BStG E g w s role sv cv kc bs) (k : Kp (fun b => X (role b)) w w') (b : Nat) (hb : E.ro b) : b < w'.heap.size := Nat.lt_of_lt_of_le (h.lt b hb) k.size
theorem BStG.rerole (h : BStG E g w s role sv cv kc bs) {role' : Nat → Nat} (hr : ∀ k, k < w.heap.size → role' k = role k) : BStG E g w s role' sv cv kc bs :=
  ⟨h.env, h.rd, h.body, h.mod, h.stack, h.blocks, h.code, h.eq, h.waits, h.results, (hr _ (lt_of_blk h.rd.blk)).trans h.r1, (hr _ (lt_of_blk h.mod)).trans h.r2, (hr _ (lt_of_blk h.body)).trans h.r3,
    fun b hb => (hr b (own_lt h.stack hb)).trans (h.r4 b hb), (hr g (own_lt h.blocks rfl)).trans h.r5, fun b hb => (hr b (own_lt h.code hb)).trans (h.r6 b hb),
    fun k x hk b hb => (hr b (own_lt (h.waits k x hk) hb)).trans (h.rw k x hk b hb), fun k x hk b hb => ⟨(hr b (h.rr k x hk b hb).2).trans (h.rr k x hk b hb).1, (h.rr k x hk b hb).2⟩, fun b hb => (hr b (h.lt b hb)).trans (h.ro b hb), h.lt⟩
theorem BStG.renew (h : BStG E g w s role sv cv kc bs) (z : Nat) : BStG E g w s (newRole role w.heap.size z) sv cv kc bs := h.rerole (fun _ hk => newRole_old hk)
theorem BStG.setRd (h : BStG E g w s role sv cv kc bs) (k : Kp (one E.rb) w w') {j : Nat} (hr : RSt w' E.rb E.dv E.c.D j) : BStG E g w' { s with i := j } role sv cv kc bs := by
  have k' : Kp (fun b => (fun r => r = 1) (role b)) w w' := k.mono (fun b _ (hb : b = E.rb) => by rw [hb]; exact h.r1)
  exact ⟨h.kEnv (X := (fun r => r = 1)) k' (by decide), hr, (h.kBody (X := (fun r => r = 1)) k' (by decide) :), (h.kMod (X := (fun r => r = 1)) k' (by decide) :), (h.kStack (X := (fun r => r = 1)) k' (by decide) :), (h.kBlocks (X := (fun r => r = 1)) k' (by decide) :), (h.kCode (X := (fun r => r = 1)) k' (by decide) :), h.eq, fun j x hj => h.kWaits (X := (fun r => r = 1)) k' j x hj (by omega), h.kResults (X := (fun r => r = 1)) k' (by decide),
    h.r1, h.r2, h.r3, h.r4, h.r5, h.r6, h.rw, h.kRr (X := (fun r => r = 1)) k', h.ro, h.kLt (X := (fun r => r = 1)) k'⟩
theorem BStG.quiet (h : BStG E g w s role sv cv kc bs) (k : Kp no w w') : BStG E g w' s role sv cv kc bs := by
  have k' : Kp (fun b => (fun _ => False) (role b)) w w' := k
  exact ⟨h.kEnv (X := (fun _ => False)) k' (fun h => h), (h.kRd (X := (fun _ => False)) k' (fun h => h) (fun h => h) :), (h.kBody (X := (fun _ => False)) k' (fun h => h) :), (h.kMod (X := (fun _ => False)) k' (fun h => h) :), (h.kStack (X := (fun _ => False)) k' (fun h => h) :), (h.kBlocks (X := (fun _ => False)) k' (fun h => h) :), (h.kCode (X := (fun _ => False)) k' (fun h => h) :), h.eq, fun j x hj => h.kWaits (X := (fun _ => False)) k' j x hj (fun h => h), h.kResults (X := (fun _ => False)) k' (fun h => h),
    h.r1, h.r2, h.r3, h.r4, h.r5, h.r6, h.rw, h.kRr (X := (fun _ => False)) k', h.ro, h.kLt (X := (fun _ => False)) k'⟩
theorem BStG.setStack (h : BStG E g w s role sv cv kc bs) {l : List UInt8} {sv' : Value} (k : Kp (fun b => (fun r => r = 3 ∨ r = 4) (role b)) w w') (hb : w'.heap[E.bb]? = some (bodyObj E g s sv' kc))
    (ho : w'.ownsRow E.B 5 1 sv' l.length (l.map fun c => .int .u8 c.toNat)) (hr : ∀ b, sv'.ownBlock = some b → role b = 4) : BStG E g w' { s with stack := l } role sv' cv kc bs :=
  ⟨h.kEnv (X := (fun r => r = 3 ∨ r = 4)) k (by decide), (h.kRd (X := (fun r => r = 3 ∨ r = 4)) k (by decide) (by decide) :), hb, (h.kMod (X := (fun r => r = 3 ∨ r = 4)) k (by decide) :), ho, (h.kBlocks (X := (fun r => r = 3 ∨ r = 4)) k (by decide) :), (h.kCode (X := (fun r => r = 3 ∨ r = 4)) k (by decide) :), h.eq, fun j x hj => h.kWaits (X := (fun r => r = 3 ∨ r = 4)) k j x hj (by omega), h.kResults (X := (fun r => r = 3 ∨ r = 4)) k (by decide),
    h.r1, h.r2, h.r3, hr, h.r5, h.r6, h.rw, h.kRr (X := (fun r => r = 3 ∨ r = 4)) k, h.ro, h.kLt (X := (fun r => r = 3 ∨ r = 4)) k⟩
theorem BStG.setCode (h : BStG E g w s role sv cv kc bs) {l : List Ins} {cv' : Value} (k : Kp (fun b => (fun r => r = 2 ∨ r = 6) (role b)) w w') (hb : w'.heap[E.mb]? = some (modObj E cv'))
    (ho : w'.ownsRow E.B 214 5 cv' l.length (l.flatMap Ins.cells)) (hr : ∀ b, cv'.ownBlock = some b → role b = 6) : BStG E g w' { s with code := l } role sv cv' kc bs :=
  ⟨h.kEnv (X := (fun r => r = 2 ∨ r = 6)) k (by decide), (h.kRd (X := (fun r => r = 2 ∨ r = 6)) k (by decide) (by decide) :), (h.kBody (X := (fun r => r = 2 ∨ r = 6)) k (by decide) :), hb, (h.kStack (X := (fun r => r = 2 ∨ r = 6)) k (by decide) :), (h.kBlocks (X := (fun r => r = 2 ∨ r = 6)) k (by decide) :), ho, h.eq, fun j x hj => h.kWaits (X := (fun r => r = 2 ∨ r = 6)) k j x hj (by omega), h.kResults (X := (fun r => r = 2 ∨ r = 6)) k (by decide),
    h.r1, h.r2, h.r3, h.r4, h.r5, hr, h.rw, h.kRr (X := (fun r => r = 2 ∨ r = 6)) k, h.ro, h.kLt (X := (fun r => r = 2 ∨ r = 6)) k⟩
theorem BStG.setPos (h : BStG E g w s role sv cv kc bs) {p : Nat} {c : Bool} (k : Kp (fun b => (fun r => r = 3) (role b)) w w') (hb : w'.heap[E.bb]? = some (bodyObj E g { s with pos := p, closed := c } sv kc)) : BStG E g w' { s with pos := p, closed := c } role sv cv kc bs :=
  ⟨h.kEnv (X := (fun r => r = 3)) k (by decide), (h.kRd (X := (fun r => r = 3)) k (by decide) (by decide) :), hb, (h.kMod (X := (fun r => r = 3)) k (by decide) :), (h.kStack (X := (fun r => r = 3)) k (by decide) :), (h.kBlocks (X := (fun r => r = 3)) k (by decide) :), (h.kCode (X := (fun r => r = 3)) k (by decide) :), h.eq, fun j x hj => h.kWaits (X := (fun r => r = 3)) k j x hj (by omega), h.kResults (X := (fun r => r = 3)) k (by decide),
    h.r1, h.r2, h.r3, h.r4, h.r5, h.r6, h.rw, h.kRr (X := (fun r => r = 3)) k, h.ro, h.kLt (X := (fun r => r = 3)) k⟩
end
def wV (wd : Bool) : Value := .int .u64 (if wd then 64 else 32)
def cutR (wd : Bool) (n : Int) : Int := if wd then IntKind.u64.wrap n else IntKind.u64.wrap (n * 4294967296) / 4294967296
def signR (wd : Bool) (n : Int) : Int := if wd then wrap64 (IntKind.u64.wrap n) else wrap64 (IntKind.u64.wrap (n * 4294967296)) / 4294967296
set_option maxHeartbeats 400000 in
theorem cut_any (wd : Bool) (n : Int) (w0 : World) : Calls Tryz.prog 174 #[wV wd, .int .u64 n] w0 fun r w' => r = .returned (.int .u64 (cutR wd n)) ∧ w' = w0 := by
  cases wd
  all_goals
    simp only [wV, Bool.false_eq_true, if_false, if_true]
    go_enter Tryz.func174, Tryz.ntmps174
    go_wp2
    go_ret
    exact ⟨rfl, rfl⟩
set_option maxHeartbeats 400000 in
theorem wsigned_any (wd : Bool) (n : Int) (w0 : World) : Calls Tryz.prog 175 #[wV wd, .int .u64 n] w0 fun r w' => r = .returned (.int .i64 (signR wd n)) ∧ w' = w0 := by
  cases wd
  all_goals
    simp only [wV, Bool.false_eq_true, if_false, if_true]
    go_enter Tryz.func175, Tryz.ntmps175
    go_wp2
    go_ret
    exact ⟨rfl, rfl⟩
set_option maxHeartbeats 400000 in
theorem wsame_any (v : Value) (a b : Int) (w0 : World) : Calls Tryz.prog 226 #[v, .int .u64 a, .int .u64 b] w0 fun r w' => r = .returned (.bool (a == b)) ∧ w' = w0 := by
  go_enter Tryz.func226, Tryz.ntmps226
  go_wp2
  go_ret
  exact ⟨rfl, rfl⟩
set_option maxHeartbeats 400000 in
theorem wother_any (v : Value) (a b : Int) (w0 : World) : Calls Tryz.prog 227 #[v, .int .u64 a, .int .u64 b] w0 fun r w' => r = .returned (.bool (a != b)) ∧ w' = w0 := by
  go_enter Tryz.func227, Tryz.ntmps227
  go_wp2
  go_ret
  exact ⟨rfl, rfl⟩
set_option maxHeartbeats 400000 in
theorem wless_any (v : Value) (a b : Int) (w0 : World) : Calls Tryz.prog 229 #[v, .int .u64 a, .int .u64 b] w0 fun r w' => r = .returned (.bool (decide (a < b))) ∧ w' = w0 := by
  go_enter Tryz.func229, Tryz.ntmps229
  go_wp2
  go_ret
  exact ⟨rfl, rfl⟩
set_option maxHeartbeats 400000 in
theorem wgreater_any (v : Value) (a b : Int) (w0 : World) : Calls Tryz.prog 231 #[v, .int .u64 a, .int .u64 b] w0 fun r w' => r = .returned (.bool (decide (b < a))) ∧ w' = w0 := by
  go_enter Tryz.func231, Tryz.ntmps231
  go_wp2
  go_ret
  exact ⟨rfl, rfl⟩
set_option maxHeartbeats 400000 in
theorem watMost_any (v : Value) (a b : Int) (w0 : World) : Calls Tryz.prog 233 #[v, .int .u64 a, .int .u64 b] w0 fun r w' => r = .returned (.bool (decide (a ≤ b))) ∧ w' = w0 := by
  go_enter Tryz.func233, Tryz.ntmps233
  go_wp2
  go_ret
  exact ⟨rfl, rfl⟩
set_option maxHeartbeats 400000 in
theorem watLeast_any (v : Value) (a b : Int) (w0 : World) : Calls Tryz.prog 235 #[v, .int .u64 a, .int .u64 b] w0 fun r w' => r = .returned (.bool (decide (b ≤ a))) ∧ w' = w0 := by
  go_enter Tryz.func235, Tryz.ntmps235
  go_wp2
  go_ret
  exact ⟨rfl, rfl⟩
set_option maxHeartbeats 400000 in
theorem wlessSigned_any (wd : Bool) (a b : Int) (w0 : World) : Calls Tryz.prog 228 #[wV wd, .int .u64 a, .int .u64 b] w0 fun r w' => r = .returned (.bool (decide (signR wd a < signR wd b))) ∧ w' = w0 := by
  have h1 := fun W => wsigned_any wd a W
  have h2 := fun W => wsigned_any wd b W
  generalize signR wd a = x at *
  generalize signR wd b = y at *
  have H1 := hide h1
  have H2 := hide h2
  clear h1 h2
  generalize wV wd = v at *
  go_enter Tryz.func228, Tryz.ntmps228
  go_wp2_with fail
  refine (H1.out _).mono ?_
  rintro e w1 ⟨rfl, rfl⟩
  go_wp2_with fail
  refine (H2.out _).mono ?_
  rintro e w1 ⟨rfl, rfl⟩
  go_wp2
  go_ret
  exact ⟨rfl, rfl⟩
set_option maxHeartbeats 400000 in
theorem wgreaterSigned_any (wd : Bool) (a b : Int) (w0 : World) : Calls Tryz.prog 230 #[wV wd, .int .u64 a, .int .u64 b] w0 fun r w' => r = .returned (.bool (decide (signR wd b < signR wd a))) ∧ w' = w0 := by
  have h1 := fun W => wsigned_any wd a W
  have h2 := fun W => wsigned_any wd b W
  generalize signR wd a = x at *
  generalize signR wd b = y at *
  have H1 := hide h1
  have H2 := hide h2
  clear h1 h2
  generalize wV wd = v at *
  go_enter Tryz.func230, Tryz.ntmps230
  go_wp2_with fail
  refine (H1.out _).mono ?_
  rintro e w1 ⟨rfl, rfl⟩
  go_wp2_with fail
  refine (H2.out _).mono ?_
  rintro e w1 ⟨rfl, rfl⟩
  go_wp2
  go_ret
  exact ⟨rfl, rfl⟩
set_option maxHeartbeats 400000 in
theorem watMostSigned_any (wd : Bool) (a b : Int) (w0 : World) : Calls Tryz.prog 232 #[wV wd, .int .u64 a, .int .u64 b] w0 fun r w' => r = .returned (.bool (decide (signR wd a ≤ signR wd b))) ∧ w' = w0 := by
  have h1 := fun W => wsigned_any wd a W
  have h2 := fun W => wsigned_any wd b W
  generalize signR wd a = x at *
  generalize signR wd b = y at *
  have H1 := hide h1
  have H2 := hide h2
  clear h1 h2
  generalize wV wd = v at *
  go_enter Tryz.func232, Tryz.ntmps232
  go_wp2_with fail
  refine (H1.out _).mono ?_
  rintro e w1 ⟨rfl, rfl⟩
  go_wp2_with fail
  refine (H2.out _).mono ?_
  rintro e w1 ⟨rfl, rfl⟩
  go_wp2
  go_ret
  exact ⟨rfl, rfl⟩
set_option maxHeartbeats 400000 in
theorem watLeastSigned_any (wd : Bool) (a b : Int) (w0 : World) : Calls Tryz.prog 234 #[wV wd, .int .u64 a, .int .u64 b] w0 fun r w' => r = .returned (.bool (decide (signR wd b ≤ signR wd a))) ∧ w' = w0 := by
  have h1 := fun W => wsigned_any wd a W
  have h2 := fun W => wsigned_any wd b W
  generalize signR wd a = x at *
  generalize signR wd b = y at *
  have H1 := hide h1
  have H2 := hide h2
  clear h1 h2
  generalize wV wd = v at *
  go_enter Tryz.func234, Tryz.ntmps234
  go_wp2_with fail
  refine (H1.out _).mono ?_
  rintro e w1 ⟨rfl, rfl⟩
  go_wp2_with fail
  refine (H2.out _).mono ?_
  rintro e w1 ⟨rfl, rfl⟩
  go_wp2
  go_ret
  exact ⟨rfl, rfl⟩
set_option maxHeartbeats 400000 in
theorem wsum_any (wd : Bool) (a b : Int) (w0 : World) : Calls Tryz.prog 239 #[wV wd, .int .u64 a, .int .u64 b] w0 fun r w' => r = .returned (.tuple #[.int .u64 (cutR wd (IntKind.u64.wrap (a + b))), .int .i64 0]) ∧ w' = w0 := by
  have h1 := fun n W => cut_any wd n W
  have H1 := hide h1
  clear h1
  generalize hv : wV wd = v at *
  clear hv
  go_enter Tryz.func239, Tryz.ntmps239
  go_wp2_with fail
  refine (H1.out _ _).mono ?_
  rintro e w1 ⟨rfl, rfl⟩
  go_wp2
  go_ret2
  exact ⟨rfl, rfl⟩
set_option maxHeartbeats 400000 in
theorem wdifference_any (wd : Bool) (a b : Int) (w0 : World) : Calls Tryz.prog 240 #[wV wd, .int .u64 a, .int .u64 b] w0 fun r w' => r = .returned (.tuple #[.int .u64 (cutR wd (IntKind.u64.wrap (a - b))), .int .i64 0]) ∧ w' = w0 := by
  have h1 := fun n W => cut_any wd n W
  have H1 := hide h1
  clear h1
  generalize hv : wV wd = v at *
  clear hv
  go_enter Tryz.func240, Tryz.ntmps240
  go_wp2_with fail
  refine (H1.out _ _).mono ?_
  rintro e w1 ⟨rfl, rfl⟩
  go_wp2
  go_ret2
  exact ⟨rfl, rfl⟩
set_option maxHeartbeats 400000 in
theorem wproduct_any (wd : Bool) (a b : Int) (w0 : World) : Calls Tryz.prog 241 #[wV wd, .int .u64 a, .int .u64 b] w0 fun r w' => r = .returned (.tuple #[.int .u64 (cutR wd (IntKind.u64.wrap (a * b))), .int .i64 0]) ∧ w' = w0 := by
  have h1 := fun n W => cut_any wd n W
  have H1 := hide h1
  clear h1
  generalize hv : wV wd = v at *
  clear hv
  go_enter Tryz.func241, Tryz.ntmps241
  go_wp2_with fail
  refine (H1.out _ _).mono ?_
  rintro e w1 ⟨rfl, rfl⟩
  go_wp2
  go_ret2
  exact ⟨rfl, rfl⟩
set_option maxHeartbeats 400000 in
theorem wand_any (v : Value) (a b : Int) (w0 : World) : Calls Tryz.prog 246 #[v, .int .u64 a, .int .u64 b] w0 fun r w' => r = .returned (.tuple #[.int .u64 (bits BinOp.and IntKind.u64 a b), .int .i64 0]) ∧ w' = w0 := by
  go_enter Tryz.func246, Tryz.ntmps246
  go_wp2
  go_ret2
  exact ⟨rfl, rfl⟩
set_option maxHeartbeats 400000 in
theorem wor_any (v : Value) (a b : Int) (w0 : World) : Calls Tryz.prog 247 #[v, .int .u64 a, .int .u64 b] w0 fun r w' => r = .returned (.tuple #[.int .u64 (bits BinOp.or IntKind.u64 a b), .int .i64 0]) ∧ w' = w0 := by
  go_enter Tryz.func247, Tryz.ntmps247
  go_wp2
  go_ret2
  exact ⟨rfl, rfl⟩
set_option maxHeartbeats 400000 in
theorem wxor_any (v : Value) (a b : Int) (w0 : World) : Calls Tryz.prog 248 #[v, .int .u64 a, .int .u64 b] w0 fun r w' => r = .returned (.tuple #[.int .u64 (bits BinOp.xor IntKind.u64 a b), .int .i64 0]) ∧ w' = w0 := by
  go_enter Tryz.func248, Tryz.ntmps248
  go_wp2
  go_ret2
  exact ⟨rfl, rfl⟩
def leastR (wd : Bool) : Int := if wd then 9223372036854775808 else 2147483648
set_option maxHeartbeats 400000 in
theorem wleast_any (wd : Bool) (w0 : World) : Calls Tryz.prog 273 #[wV wd] w0 fun r w' => r = .returned (.int .u64 (leastR wd)) ∧ w' = w0 := by
  cases wd
  all_goals
    simp only [wV, leastR, Bool.false_eq_true, if_false, if_true]
    go_enter Tryz.func273, Tryz.ntmps273
    go_wp2
    go_ret
    exact ⟨rfl, rfl⟩
def byR (wd : Bool) (b : Int) : Int := b.tmod (if wd then 64 else 32)
set_option maxHeartbeats 400000 in
theorem wby_any (wd : Bool) (b : Int) (w0 : World) : Calls Tryz.prog 274 #[wV wd, .int .u64 b] w0 fun r w' => r = .returned (.int .u64 (byR wd b)) ∧ w' = w0 := by
  cases wd
  all_goals
    simp only [wV, byR, Bool.false_eq_true, if_false, if_true]
    go_enter Tryz.func274, Tryz.ntmps274
    go_wp2
    go_ret
    exact ⟨rfl, rfl⟩
set_option maxHeartbeats 400000 in
theorem wquotient_zero (v : Value) (a : Int) (w0 : World) : Calls Tryz.prog 243 #[v, .int .u64 a, .int .u64 0] w0 fun r w' => r = .returned (.tuple #[.int .u64 0, .int .i64 2]) ∧ w' = w0 := by
  go_enter Tryz.func243, Tryz.ntmps243
  go_wp2
  go_ret2
  exact ⟨rfl, rfl⟩
set_option maxHeartbeats 400000 in
theorem wquotient_any (v : Value) (a b : Int) (hb : b ≠ 0) (w0 : World) : Calls Tryz.prog 243 #[v, .int .u64 a, .int .u64 b] w0 fun r w' => r = .returned (.tuple #[.int .u64 (IntKind.u64.wrap (a.tdiv b)), .int .i64 0]) ∧ w' = w0 := by
  have hb' : (b == 0) = false := by simpa using hb
  go_enter Tryz.func243, Tryz.ntmps243
  go_wp2
  go_ret2
  exact ⟨rfl, rfl⟩
set_option maxHeartbeats 400000 in
theorem wrest_zero (v : Value) (a : Int) (w0 : World) : Calls Tryz.prog 245 #[v, .int .u64 a, .int .u64 0] w0 fun r w' => r = .returned (.tuple #[.int .u64 0, .int .i64 2]) ∧ w' = w0 := by
  go_enter Tryz.func245, Tryz.ntmps245
  go_wp2
  go_ret2
  exact ⟨rfl, rfl⟩
set_option maxHeartbeats 400000 in
theorem wrest_any (v : Value) (a b : Int) (hb : b ≠ 0) (w0 : World) : Calls Tryz.prog 245 #[v, .int .u64 a, .int .u64 b] w0 fun r w' => r = .returned (.tuple #[.int .u64 (a.tmod b), .int .i64 0]) ∧ w' = w0 := by
  have hb' : (b == 0) = false := by simpa using hb
  go_enter Tryz.func245, Tryz.ntmps245
  go_wp2
  go_ret2
  exact ⟨rfl, rfl⟩
set_option maxHeartbeats 400000 in
theorem wrestS_zero (v : Value) (a : Int) (w0 : World) : Calls Tryz.prog 244 #[v, .int .u64 a, .int .u64 0] w0 fun r w' => r = .returned (.tuple #[.int .u64 0, .int .i64 2]) ∧ w' = w0 := by
  go_enter Tryz.func244, Tryz.ntmps244
  go_wp2
  go_ret2
  exact ⟨rfl, rfl⟩
set_option maxHeartbeats 800000 in
theorem wrestS_any (wd : Bool) (a b : Int) (hb : b ≠ 0) (hs : signR wd b ≠ 0) (w0 : World) : Calls Tryz.prog 244 #[wV wd, .int .u64 a, .int .u64 b] w0 fun r w' => r = .returned (.tuple #[.int .u64 (cutR wd (IntKind.u64.wrap ((signR wd a).tmod (signR wd b)))), .int .i64 0]) ∧ w' = w0 := by
  have hb' : (b == 0) = false := by simpa using hb
  have h1 := fun W => wsigned_any wd a W
  have h2 := fun W => wsigned_any wd b W
  have h3 := fun n W => cut_any wd n W
  generalize signR wd a = x at *
  generalize signR wd b = y at *
  generalize wV wd = v at *
  have H1 := hide h1
  have H2 := hide h2
  have H3 := hide h3
  have hy : (y == 0) = false := by simpa using hs
  clear h1 h2 h3
  go_enter Tryz.func244, Tryz.ntmps244
  go_wp2_with fail
  refine (H1.out _).mono ?_
  rintro e w1 ⟨rfl, rfl⟩
  go_wp2_with fail
  refine (H2.out _).mono ?_
  rintro e w1 ⟨rfl, rfl⟩
  go_wp2_with fail
  refine (H3.out _ _).mono ?_
  rintro e w1 ⟨rfl, rfl⟩
  go_wp2
  go_ret2
  exact ⟨rfl, rfl⟩
set_option maxHeartbeats 400000 in
theorem wquotientS_zero (v : Value) (a : Int) (w0 : World) : Calls Tryz.prog 242 #[v, .int .u64 a, .int .u64 0] w0 fun r w' => r = .returned (.tuple #[.int .u64 0, .int .i64 2]) ∧ w' = w0 := by
  go_enter Tryz.func242, Tryz.ntmps242
  go_wp2
  go_ret2
  exact ⟨rfl, rfl⟩
set_option maxHeartbeats 800000 in
theorem wquotientS_any (wd : Bool) (a b : Int) (hb : b ≠ 0) (hs : signR wd b ≠ 0) (hn : ¬ (a = leastR wd ∧ signR wd b = -1)) (w0 : World) : Calls Tryz.prog 242 #[wV wd, .int .u64 a, .int .u64 b] w0 fun r w' => r = .returned (.tuple #[.int .u64 (cutR wd (IntKind.u64.wrap (wrap64 ((signR wd a).tdiv (signR wd b))))), .int .i64 0]) ∧ w' = w0 := by
  have hb' : (b == 0) = false := by simpa using hb
  have h0 := fun W => wleast_any wd W
  have h1 := fun W => wsigned_any wd a W
  have h2 := fun W => wsigned_any wd b W
  have h3 := fun n W => cut_any wd n W
  generalize signR wd a = x at *
  generalize signR wd b = y at *
  generalize leastR wd = z at *
  generalize wV wd = v at *
  have H0 := hide h0
  have H1 := hide h1
  have H2 := hide h2
  have H3 := hide h3
  have hy : (y == 0) = false := by simpa using hs
  clear h0 h1 h2 h3
  by_cases hz : a = z
  · have hy1 : (y == -1) = false := by
      simp only [beq_eq_false_iff_ne]; exact fun e => hn ⟨hz, e⟩
    have hz' : (a == z) = true := by simpa using hz
    clear hn hz
    go_enter Tryz.func242, Tryz.ntmps242
    go_wp2_with fail
    refine (H0.out _).mono ?_
    rintro e w1 ⟨rfl, rfl⟩
    go_wp2_with fail
    refine (H2.out _).mono ?_
    rintro e w1 ⟨rfl, rfl⟩
    go_wp2_with fail
    refine (H1.out _).mono ?_
    rintro e w1 ⟨rfl, rfl⟩
    go_wp2_with fail
    refine (H2.out _).mono ?_
    rintro e w1 ⟨rfl, rfl⟩
    go_wp2_with fail
    refine (H3.out _ _).mono ?_
    rintro e w1 ⟨rfl, rfl⟩
    go_wp2
    go_ret2
    exact ⟨rfl, rfl⟩
  · have hz' : (a == z) = false := by simpa using hz
    clear hn hz
    go_enter Tryz.func242, Tryz.ntmps242
    go_wp2_with fail
    refine (H0.out _).mono ?_
    rintro e w1 ⟨rfl, rfl⟩
    go_wp2_with fail
    refine (H1.out _).mono ?_
    rintro e w1 ⟨rfl, rfl⟩
    go_wp2_with fail
    refine (H2.out _).mono ?_
    rintro e w1 ⟨rfl, rfl⟩
    go_wp2_with fail
    refine (H3.out _ _).mono ?_
    rintro e w1 ⟨rfl, rfl⟩
    go_wp2
    go_ret2
    exact ⟨rfl, rfl⟩
set_option maxHeartbeats 800000 in
theorem wquotientS_over (wd : Bool) (b : Int) (hb : b ≠ 0) (hn : signR wd b = -1) (w0 : World) : Calls Tryz.prog 242 #[wV wd, .int .u64 (leastR wd), .int .u64 b] w0 fun r w' => r = .returned (.tuple #[.int .u64 0, .int .i64 3]) ∧ w' = w0 := by
  have hb' : (b == 0) = false := by simpa using hb
  have h0 := fun W => wleast_any wd W
  have h2 := fun W => wsigned_any wd b W
  rw [hn] at h2
  generalize leastR wd = z at *
  generalize wV wd = v at *
  have H0 := hide h0
  have H2 := hide h2
  clear h0 h2 hn
  go_enter Tryz.func242, Tryz.ntmps242
  go_wp2_with fail
  refine (H0.out _).mono ?_
  rintro e w1 ⟨rfl, rfl⟩
  go_wp2_with fail
  refine (H2.out _).mono ?_
  rintro e w1 ⟨rfl, rfl⟩
  go_wp2
  go_ret2
  exact ⟨rfl, rfl⟩
set_option maxHeartbeats 800000 in
theorem wleft_any (wd : Bool) (a b : Int) (c : Nat) (hc : byR wd b = c) (hc64 : c < 64) (w0 : World) : Calls Tryz.prog 249 #[wV wd, .int .u64 a, .int .u64 b] w0 fun r w' => r = .returned (.tuple #[.int .u64 (cutR wd (IntKind.u64.wrap (a * 2 ^ c))), .int .i64 0]) ∧ w' = w0 := by
  have h0 := fun W => wby_any wd b W
  rw [hc] at h0
  have h3 := fun n W => cut_any wd n W
  generalize wV wd = v at *
  have H0 := hide h0
  have H3 := hide h3
  clear h0 h3 hc
  go_enter Tryz.func249, Tryz.ntmps249
  go_wp2_with fail
  refine (H0.out _).mono ?_
  rintro e w1 ⟨rfl, rfl⟩
  go_wp2_with fail
  refine (H3.out _ _).mono ?_
  rintro e w1 ⟨rfl, rfl⟩
  go_wp2
  go_ret2
  exact ⟨rfl, rfl⟩
set_option maxHeartbeats 800000 in
theorem wright_any (wd : Bool) (a b : Int) (c : Nat) (hc : byR wd b = c) (hc64 : c < 64) (w0 : World) : Calls Tryz.prog 251 #[wV wd, .int .u64 a, .int .u64 b] w0 fun r w' => r = .returned (.tuple #[.int .u64 (a / 2 ^ c), .int .i64 0]) ∧ w' = w0 := by
  have h0 := fun W => wby_any wd b W
  rw [hc] at h0
  generalize wV wd = v at *
  have H0 := hide h0
  clear h0 hc
  go_enter Tryz.func251, Tryz.ntmps251
  go_wp2_with fail
  refine (H0.out _).mono ?_
  rintro e w1 ⟨rfl, rfl⟩
  go_wp2
  go_ret2
  exact ⟨rfl, rfl⟩
set_option maxHeartbeats 800000 in
theorem wrightS_any (wd : Bool) (a b : Int) (c : Nat) (hc : byR wd b = c) (hc64 : c < 64) (w0 : World) : Calls Tryz.prog 250 #[wV wd, .int .u64 a, .int .u64 b] w0 fun r w' => r = .returned (.tuple #[.int .u64 (cutR wd (IntKind.u64.wrap (signR wd a / 2 ^ c))), .int .i64 0]) ∧ w' = w0 := by
  have h0 := fun W => wby_any wd b W
  rw [hc] at h0
  have h1 := fun W => wsigned_any wd a W
  have h3 := fun n W => cut_any wd n W
  generalize signR wd a = x at *
  generalize wV wd = v at *
  have H0 := hide h0
  have H1 := hide h1
  have H3 := hide h3
  clear h0 h1 h3 hc
  go_enter Tryz.func250, Tryz.ntmps250
  go_wp2_with fail
  refine (H1.out _).mono ?_
  rintro e w1 ⟨rfl, rfl⟩
  go_wp2_with fail
  refine (H0.out _).mono ?_
  rintro e w1 ⟨rfl, rfl⟩
  go_wp2_with fail
  refine (H3.out _ _).mono ?_
  rintro e w1 ⟨rfl, rfl⟩
  go_wp2
  go_ret2
  exact ⟨rfl, rfl⟩
def wN (wd : Bool) : Nat := if wd then 64 else 32
def roundR (wd : Bool) (a : Int) (c : Nat) : Int := cutR wd (bits BinOp.or IntKind.u64 (IntKind.u64.wrap (a * 2 ^ c)) (a / 2 ^ (wN wd - c)))
set_option maxHeartbeats 800000 in
theorem wround_any (wd : Bool) (a : Int) (c : Nat) (hc : c ≤ wN wd) (w0 : World) : Calls Tryz.prog 275 #[wV wd, .int .u64 a, .int .u64 c] w0 fun r w' => r = .returned (.int .u64 (roundR wd a c)) ∧ w' = w0 := by
  have h3 := fun n W => cut_any wd n W
  have hR : roundR wd a c = cutR wd (bits BinOp.or IntKind.u64 (IntKind.u64.wrap (a * 2 ^ c)) (a / 2 ^ (wN wd - c))) := rfl
  generalize roundR wd a c = R at *
  have H3 := hide h3
  have HR := hide hR
  clear h3 hR
  have hw : wV wd = .int .u64 (wN wd) := by cases wd <;> rfl
  rw [hw] at H3 ⊢
  have hd : ((wN wd : Nat) : Int) - (c : Int) = ((wN wd - c : Nat) : Int) := by omega
  have hwr : IntKind.u64.wrap (((wN wd : Nat) : Int) - (c : Int)) = ((wN wd - c : Nat) : Int) := by
    rw [hd]; have : wN wd ≤ 64 := by cases wd <;> decide
    rw [IntKind.wrap_u64]; omega
  have h64 : wN wd ≤ 64 := by cases wd <;> decide
  obtain ⟨d, hdd⟩ : ∃ d, d = wN wd - c := ⟨_, rfl⟩
  rw [← hdd] at hwr HR
  have hd64 : d ≤ 64 := by omega
  have hc64 : c ≤ 64 := by omega
  clear hd hdd hw
  generalize wN wd = n at *
  go_enter Tryz.func275, Tryz.ntmps275
  go_wp2_with fail
  refine (H3.out _ _).mono ?_
  rintro e w1 ⟨rfl, rfl⟩
  go_wp2
  go_ret
  rw [HR.out]
  exact ⟨rfl, rfl⟩
end Go.Proofs.YtdeplgkhmebalaaGreatDoor
