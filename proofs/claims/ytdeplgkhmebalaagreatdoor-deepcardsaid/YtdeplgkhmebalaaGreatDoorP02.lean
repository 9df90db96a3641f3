/- The program's reader of bytes: numbers below a limit; a part of a reader; a new one. -/
import Derived.Test.YtdeplgkhmebalaaGreatDoorP01
import Derived.Lib.Bytealg
import Derived.Lib.Walk
import Derived.Lib.Slices
import Derived.Laws.BytesArg
import Derived.Shelf.Bytes.SlSmallAll

namespace Go.Proofs.YtdeplgkhmebalaaGreatDoor
open Go.RowKit

theorem UM_le {D : List UInt8} {i n j : Nat} (h : UM D i = .ok (n, j)) : n ≤ 4294967295 ∧ i < j ∧ j ≤ D.length := by
  unfold UM at h
  split at h
  · cases h
  · rename_i g j' hg
    split at h
    · cases h
    · rename_i hc
      cases h
      have := groups_range hg
      omega

def belowM (D : List UInt8) (limit : Int) (i : Nat) : Except (Int × Int) (Nat × Nat) :=
  match UM D i with
  | .error e => .error e
  | .ok (n, j) => if limit ≤ (n : Int) then .error (2, i) else .ok (n, j)

set_option maxRecDepth 100000 in
set_option maxHeartbeats 1000000 in
theorem below_any {w : World} {rb : Nat} {dv : Value} {D : List UInt8} {i : Nat} (h : RSt w rb dv D i) (limit : Int) (_hl0 : 0 ≤ limit) (_hl : limit ≤ 1000000) :
    Calls Tryz.prog 105 #[ptrTo rb, .int .i64 limit] w fun r w' => Gives w w' rb dv D (fun (n : Nat) v => v = .int .i64 n) (.int .i64 0) (belowM D limit i) r ∧ Kp (one rb) w w' := by
  have hM : belowM D limit i = (match UM D i with | .error e => .error e | .ok (n, j) => if limit ≤ (n : Int) then .error (2, i) else .ok (n, j)) := rfl
  generalize belowM D limit i = R at *
  have hg := U_any h
  have hrg := fun n j => UM_le (D := D) (i := i) (n := n) (j := j)
  obtain ⟨hc, -⟩ := cells_of h.blk
  generalize UM D i = Q at *
  have Hg := hide hg
  clear hg h
  match Q, hM, Hg, hrg with
  | .error e, hM, Hg, _ =>
    have HM := hide hM
    clear hM
    go_enter Tryz.func105, Tryz.ntmps105
    go_wp2_with fail
    refine Hg.out.mono ?_
    rintro r w1 ⟨⟨fv, j, rfl, ⟨fb, rfl, hfb, hfo⟩, h1⟩, k1⟩
    have H1 := hide h1
    have HF := hide hfo
    clear h1 hfo
    go_wp2
    go_ret2
    rw [HM.out]
    exact ⟨⟨ptrTo fb, j, rfl, ⟨fb, rfl, hfb, HF.out⟩, H1.out⟩, k1⟩
  | .ok (n, j), hM, Hg, hrg =>
    have hn := (hrg n j rfl).1
    have HM := hide hM
    clear hM hrg
    by_cases hlim : limit ≤ (n : Int)
    · have hM := HM.out
      simp only [if_pos hlim] at hM
      have HM1 := hide hM
      clear hM
      go_enter Tryz.func105, Tryz.ntmps105
      go_wp2_with fail
      refine Hg.out.mono ?_
      rintro r w1 ⟨⟨v, rfl, rfl, h1⟩, k1⟩
      have H1 := hide h1
      clear h1
      go_wp2_with fail
      refine (form_any _ _).mono ?_
      rintro r w3 ⟨rfl, rfl⟩
      go_wp2
      go_ret2
      rw [HM1.out]
      exact ⟨⟨ptrTo w1.heap.size, j, rfl, ⟨w1.heap.size, rfl, k1.size, heap_alloc_new _ _⟩, H1.out.kp ((Kp.refl no w1).alloc _) (fun h => h) (fun _ _ _ h => h)⟩, k1.alloc _⟩
    · have hM := HM.out
      simp only [if_neg hlim] at hM
      have HM1 := hide hM
      clear hM
      go_enter Tryz.func105, Tryz.ntmps105
      go_wp2_with fail
      refine Hg.out.mono ?_
      rintro r w1 ⟨⟨v, rfl, rfl, h1⟩, k1⟩
      have H1 := hide h1
      clear h1
      go_wp2
      go_ret2
      rw [HM1.out]
      exact ⟨⟨_, rfl, rfl, H1.out⟩, k1⟩

set_option maxHeartbeats 400000 in
theorem new_any {w : World} {dv : Value} {D : List UInt8} (h : BytesAt w dv D) (hl : D.length ≤ 2000) (hold : ∀ b, dv.ownBlock = some b → b < w.heap.size) :
    Calls Tryz.prog 74 #[dv] w fun r w' => r = .returned (ptrTo w.heap.size) ∧ RSt w' w.heap.size dv D 0 ∧ Kp no w w' := by
  obtain ⟨ad, cap, rfl, _⟩ := h.shape
  have H := hide h
  have HO := hide hold
  clear h hold
  go_enter Tryz.func74, Tryz.ntmps74
  go_wp2
  go_ret
  have k : Kp no w (w.alloc (rdObj (.slice ad D.length cap) 0)) := (Kp.refl no w).alloc _
  exact ⟨rfl, ⟨heap_alloc_new _ _, H.out.kp k (fun _ _ h => h), fun b hb => by have := HO.out b hb; omega, hl, Nat.zero_le _⟩, k⟩

end Go.Proofs.YtdeplgkhmebalaaGreatDoor

namespace Go.Proofs.YtdeplgkhmebalaaGreatDoor
open Go.RowKit

section
variable {α : Type} {f : α → List Value} {n : Nat}
theorem flat_len (h : ∀ a, (f a).length = n) (l : List α) : (l.flatMap f).length = l.length * n := by
  induction l with
  | nil => simp
  | cons a l ih => rw [List.flatMap_cons, List.length_append, ih, h, List.length_cons, Nat.succ_mul, Nat.add_comm]
theorem flat_get (h : ∀ a, (f a).length = n) (l : List α) (k j : Nat) (hj : j < n) : (l.flatMap f)[k * n + j]? = (l[k]?).bind (fun a => (f a)[j]?) := by
  induction l generalizing k with
  | nil => simp
  | cons a l ih =>
    cases k with
    | zero => rw [List.flatMap_cons, Nat.zero_mul, Nat.zero_add, List.getElem?_append_left (by rw [h]; exact hj)]; rfl
    | succ k =>
      rw [List.flatMap_cons, List.getElem?_append_right (by rw [h, Nat.succ_mul]; omega), h, show (k + 1) * n + j - n = k * n + j by rw [Nat.succ_mul]; omega, ih]; rfl
theorem flat_set (h : ∀ a, (f a).length = n) (l : List α) (k j : Nat) (hj : j < n) (a a' : α) (v : Value) (hk : l[k]? = some a) (ha : f a' = (f a).set j v) : (l.flatMap f).set (k * n + j) v = (l.set k a').flatMap f := by
  induction l generalizing k with
  | nil => simp at hk
  | cons b l ih =>
    cases k with
    | zero =>
      cases hk
      rw [List.flatMap_cons, Nat.zero_mul, Nat.zero_add, List.set_append_left _ _ (by rw [h]; exact hj), List.set_cons_zero, List.flatMap_cons, ha]
    | succ k =>
      rw [List.flatMap_cons, List.set_append_right _ _ (by rw [h, Nat.succ_mul]; omega), h, show (k + 1) * n + j - n = k * n + j by rw [Nat.succ_mul]; omega, ih k hk, List.set_cons_succ, List.flatMap_cons]
theorem flat_take (h : ∀ a, (f a).length = n) (l : List α) (k : Nat) : (l.take k).flatMap f = (l.flatMap f).take (k * n) := by
  induction l generalizing k with
  | nil => simp
  | cons b l ih =>
    cases k with
    | zero => simp
    | succ k =>
      have e : (k + 1) * n = n + k * n := by rw [Nat.succ_mul, Nat.add_comm]
      rw [List.take_succ_cons, List.flatMap_cons, ih, List.flatMap_cons, List.take_append, h, e, Nat.add_sub_cancel_left, List.take_of_length_le (l := f b) (by rw [h]; omega)]
end

structure Ins where
  op : UInt8
  num : Nat
  goal : Nat
  height : Nat
  keep : Nat
def Ins.cells (x : Ins) : List Value := [.int .u8 x.op.toNat, .int .u64 x.num, .int .i64 x.goal, .int .i64 x.height, .int .i64 x.keep]
theorem Ins.len (x : Ins) : x.cells.length = 5 := rfl

abbrev Ty := List UInt8 × List UInt8

structure Bk where
  kind : Nat
  result : List UInt8
  height : Nat
  start : Nat
  waits : List Nat
abbrev BkV := Bk × Value × Value
def bkCells (x : BkV) : List Value := [.int .i64 x.1.kind, x.2.1, .int .i64 x.1.height, .int .i64 x.1.start, x.2.2]
theorem bkLen (x : BkV) : (bkCells x).length = 5 := rfl

/-- What a body's look reads. -/
structure Ctx where
  D : List UInt8
  funcs : List Ty
  gl : List (UInt8 × Bool)
  locals : List UInt8

/-- What a body's look does not change. -/
structure Env where
  B : Nat
  rb : Nat
  bb : Nat
  mb : Nat
  dv : Value
  fv : Value
  glv : Value
  gv : Value
  lv : Value
  ro : Nat → Prop
  pages : Nat
  c : Ctx

/-- The look at a body: the place, the list, the stack, the blocks, the place of the instruction, closed. -/
structure Bd where
  i : Nat
  code : List Ins
  stack : List UInt8
  blocks : List Bk
  pos : Nat
  closed : Bool

def RoV (ro : Nat → Prop) (v : Value) : Prop := ∀ b, v.ownBlock = some b → ro b

/-- Types of functions, in a row of so many cells each. -/
def TypesAt (w : World) (ro : Nat → Prop) (v : Value) (st : Nat) (ts : List Ty) : Prop :=
  ∃ ad cap, v = .slice ad ts.length cap ∧ ts.length ≤ cap ∧ ∀ k, k < ts.length → ∃ a o pv rv, ad = some ⟨a, o, none⟩ ∧ ro a ∧ w.cell? ⟨a, o + k * st, none⟩ = some pv ∧ w.cell? ⟨a, o + k * st + 1, none⟩ = some rv ∧
    BytesAt w pv (ts.getD k ([], [])).1 ∧ RoV ro pv ∧ BytesAt w rv (ts.getD k ([], [])).2 ∧ RoV ro rv
def GlobsAt (w : World) (ro : Nat → Prop) (v : Value) (gs : List (UInt8 × Bool)) : Prop :=
  ∃ ad cap, v = .slice ad gs.length cap ∧ gs.length ≤ cap ∧ ∀ k, k < gs.length → ∃ a o, ad = some ⟨a, o, none⟩ ∧ ro a ∧ w.cell? ⟨a, o + k * 2, none⟩ = some (.int .u8 (gs.getD k (0, false)).1.toNat) ∧ w.cell? ⟨a, o + k * 2 + 1, none⟩ = some (.bool (gs.getD k (0, false)).2)

abbrev nro (ro : Nat → Prop) : Nat → Prop := fun k => ¬ ro k

theorem BytesAt.ro {ro : Nat → Prop} {w w' : World} {v : Value} {l : List UInt8} (h : BytesAt w v l) (hr : RoV ro v) (k : Kp (nro ro) w w') : BytesAt w' v l := h.kp k (fun b hb hn => hn (hr b hb))
theorem TypesAt.kp {ro : Nat → Prop} {w w' : World} {v : Value} {st : Nat} {ts : List Ty} (h : TypesAt w ro v st ts) (k : Kp (nro ro) w w') : TypesAt w' ro v st ts := by
  obtain ⟨ad, cap, hv, hc, hk⟩ := h
  refine ⟨ad, cap, hv, hc, fun j hj => ?_⟩
  obtain ⟨a, o, pv, rv, had, hro, h1, h2, h3, h4, h5, h6⟩ := hk j hj
  exact ⟨a, o, pv, rv, had, hro, k.cell h1 (fun hn => hn hro), k.cell h2 (fun hn => hn hro), h3.ro h4 k, h4, h5.ro h6 k, h6⟩
theorem GlobsAt.kp {ro : Nat → Prop} {w w' : World} {v : Value} {gs : List (UInt8 × Bool)} (h : GlobsAt w ro v gs) (k : Kp (nro ro) w w') : GlobsAt w' ro v gs := by
  obtain ⟨ad, cap, hv, hc, hk⟩ := h
  refine ⟨ad, cap, hv, hc, fun j hj => ?_⟩
  obtain ⟨a, o, had, hro, h1, h2⟩ := hk j hj
  exact ⟨a, o, had, hro, k.cell h1 (fun hn => hn hro), k.cell h2 (fun hn => hn hro)⟩

structure Env.Ok (E : Env) (w : World) : Prop where
  base : E.B ≤ w.heap.size
  dv : RoV E.ro E.dv
  funcs : TypesAt w E.ro E.fv 4 E.c.funcs
  gl : GlobsAt w E.ro E.gv E.c.gl
  locals : BytesAt w E.lv E.c.locals
  lv : RoV E.ro E.lv
  nf : E.c.funcs.length ≤ 16
  ng : E.c.gl.length ≤ 8
  nl : E.c.locals.length ≤ 32
  res : ∀ k, k < E.c.funcs.length → (E.c.funcs.getD k ([], [])).1.length ≤ 8 ∧ (E.c.funcs.getD k ([], [])).2.length ≤ 1
theorem Env.Ok.kp {E : Env} {w w' : World} (h : E.Ok w) (k : Kp (nro E.ro) w w') : E.Ok w' :=
  ⟨Nat.le_trans h.base k.size, h.dv, h.funcs.kp k, h.gl.kp k, h.locals.ro h.lv k, h.lv, h.nf, h.ng, h.nl, h.res⟩

abbrev bodyObj (E : Env) (g : Nat) (s : Bd) (sv : Value) (kc : Nat) : Obj := .cells #[ptrTo E.rb, ptrTo E.mb, E.gv, E.lv, sv, .slice (some ⟨g, 0, none⟩) s.blocks.length kc, .int .i64 s.pos, .bool s.closed] 263
abbrev modObj (E : Env) (cv : Value) : Obj := .cells #[E.fv, E.glv, .int .i64 E.pages, cv] 121

structure BStG (E : Env) (g : Nat) (w : World) (s : Bd) (role : Nat → Nat) (sv cv : Value) (kc : Nat) (bs : List BkV) : Prop where
  env : E.Ok w
  rd : RSt w E.rb E.dv E.c.D s.i
  body : w.heap[E.bb]? = some (bodyObj E g s sv kc)
  mod : w.heap[E.mb]? = some (modObj E cv)
  stack : w.ownsRow E.B 5 1 sv s.stack.length (s.stack.map fun c => .int .u8 c.toNat)
  blocks : w.ownsRow E.B 298 5 (.slice (some ⟨g, 0, none⟩) s.blocks.length kc) s.blocks.length (bs.flatMap bkCells)
  code : w.ownsRow E.B 214 5 cv s.code.length (s.code.flatMap Ins.cells)
  eq : s.blocks = bs.map (·.1)
  waits : ∀ (k : Nat) (x : BkV), bs[k]? = some x → w.ownsRow E.B 3 1 x.2.2 x.1.waits.length (x.1.waits.map fun n => Value.int .i64 ((n : Nat) : Int))
  results : ∀ (k : Nat) (x : BkV), bs[k]? = some x → BytesAt w x.2.1 x.1.result
  r1 : role E.rb = 1
  r2 : role E.mb = 2
  r3 : role E.bb = 3
  r4 : ∀ b, sv.ownBlock = some b → role b = 4
  r5 : role g = 5
  r6 : ∀ b, cv.ownBlock = some b → role b = 6
  rw : ∀ (k : Nat) (x : BkV), bs[k]? = some x → ∀ b, x.2.2.ownBlock = some b → role b = 100 + k
  rr : ∀ (k : Nat) (x : BkV), bs[k]? = some x → RoV (fun b => role b = 0 ∧ b < w.heap.size) x.2.1
  ro : ∀ b, E.ro b → role b = 0
  lt : ∀ b, E.ro b → b < w.heap.size

def BSt (E : Env) (g : Nat) (w : World) (s : Bd) : Prop := ∃ role sv cv kc bs, BStG E g w s role sv cv kc bs

/-- Roles as they were, new blocks of this one. -/
def newRole (role : Nat → Nat) (n z : Nat) : Nat → Nat := fun k => if k < n then role k else z

theorem newRole_old {role : Nat → Nat} {n z k : Nat} (h : k < n) : newRole role n z k = role k := if_pos h
theorem newRole_new {role : Nat → Nat} {n z k : Nat} (h : n ≤ k) : newRole role n z k = z := if_neg (by omega)

theorem own_lt {w : World} {base : Nat} {e : TypeId} {sz : Nat} {v : Value} {n : Nat} {xs : List Value} (h : w.ownsRow base e sz v n xs) {b : Nat} (hb : v.ownBlock = some b) : b < w.heap.size := (h.lt b hb).2

/-- An empty row of bytes may have an address of no block: then nothing is asked of it. -/
theorem RowAt.kpR {X : Nat → Prop} {role : Nat → Nat} {w w' : World} {v : Value} {sz n : Nat} {xs : List Value} (h : RowAt w v sz n xs) (k : Kp (fun b => X (role b)) w w') (h0 : ¬ X 0) {q : Nat} (hr : RoV (fun b => role b = 0 ∧ b < q) v) : RowAt w' v sz n xs :=
  h.kp k (fun b hb hx => h0 (by rw [← (hr b hb).1]; exact hx))

section
variable {E : Env} {g : Nat} {w w' : World} {s : Bd} {role : Nat → Nat} {sv cv : Value} {kc : Nat} {bs : List BkV} {X : Nat → Prop}
theorem BStG.nro (h : BStG E g w s role sv cv kc bs) (k : Kp (fun b => X (role b)) w w') (h0 : ¬ X 0) : Kp (nro E.ro) w w' := k.mono (fun b _ hx hr => h0 (by rw [← h.ro b hr]; exact hx))
theorem BStG.kEnv (h : BStG E g w s role sv cv kc bs) (k : Kp (fun b => X (role b)) w w') (h0 : ¬ X 0) : E.Ok w' := h.env.kp (h.nro k h0)
theorem BStG.kRd (h : BStG E g w s role sv cv kc bs) (k : Kp (fun b => X (role b)) w w') (h0 : ¬ X 0) (h1 : ¬ X 1) : RSt w' E.rb E.dv E.c.D s.i :=
  h.rd.kp k (fun hx => h1 (by rw [← h.r1]; exact hx)) (fun b hb _ hx => h0 (by rw [← h.ro b (h.env.dv b hb)]; exact hx))
theorem BStG.kBody (h : BStG E g w s role sv cv kc bs) (k : Kp (fun b => X (role b)) w w') (h1 : ¬ X 3) : w'.heap[E.bb]? = some (bodyObj E g s sv kc) := k.blk h.body (fun hx => h1 (by rw [← h.r3]; exact hx))
theorem BStG.kMod (h : BStG E g w s role sv cv kc bs) (k : Kp (fun b => X (role b)) w w') (h1 : ¬ X 2) : w'.heap[E.mb]? = some (modObj E cv) := k.blk h.mod (fun hx => h1 (by rw [← h.r2]; exact hx))
theorem BStG.kStack (h : BStG E g w s role sv cv kc bs) (k : Kp (fun b => X (role b)) w w') (h1 : ¬ X 4) : w'.ownsRow E.B 5 1 sv s.stack.length (s.stack.map fun c => .int .u8 c.toNat) := k.own h.stack (fun b hb hx => h1 (by rw [← h.r4 b hb]; exact hx))
theorem BStG.kBlocks (h : BStG E g w s role sv cv kc bs) (k : Kp (fun b => X (role b)) w w') (h1 : ¬ X 5) : w'.ownsRow E.B 298 5 (.slice (some ⟨g, 0, none⟩) s.blocks.length kc) s.blocks.length (bs.flatMap bkCells) :=
  k.own h.blocks (fun b hb hx => h1 (by cases hb; rw [← h.r5]; exact hx))
theorem BStG.kCode (h : BStG E g w s role sv cv kc bs) (k : Kp (fun b => X (role b)) w w') (h1 : ¬ X 6) : w'.ownsRow E.B 214 5 cv s.code.length (s.code.flatMap Ins.cells) := k.own h.code (fun b hb hx => h1 (by rw [← h.r6 b hb]; exact hx))
theorem BStG.kWaits (h : BStG E g w s role sv cv kc bs) (k : Kp (fun b => X (role b)) w w') (j : Nat) (x : BkV) (hj : bs[j]? = some x) (h1 : ¬ X (100 + j)) : w'.ownsRow E.B 3 1 x.2.2 x.1.waits.length (x.1.waits.map fun n => Value.int .i64 ((n : Nat) : Int)) :=
  k.own (h.waits j x hj) (fun b hb hx => h1 (by rw [← h.rw j x hj b hb]; exact hx))
theorem BStG.kResults (h : BStG E g w s role sv cv kc bs) (k : Kp (fun b => X (role b)) w w') (h0 : ¬ X 0) (j : Nat) (x : BkV) (hj : bs[j]? = some x) : BytesAt w' x.2.1 x.1.result := RowAt.kpR (h.results j x hj) k h0 (h.rr j x hj)

theorem BStG.kRr (h : BStG E g w s role sv cv kc bs) (k : Kp (fun b => X (role b)) w w') (j : Nat) (x : BkV) (hj : bs[j]? = some x) : RoV (fun b => role b = 0 ∧ b < w'.heap.size) x.2.1 := fun b hb => ⟨(h.rr j x hj b hb).1, Nat.lt_of_lt_of_le (h.rr j x hj b hb).2 k.size⟩
theorem BStG.kLt (h : BStG E g w s role sv cv kc bs) (k : Kp (fun b => X (role b)) w w') (b : Nat) (hb : E.ro b) : b < w'.heap.size := Nat.lt_of_lt_of_le (h.lt b hb) k.size

theorem BStG.rerole (h : BStG E g w s role sv cv kc bs) {role' : Nat → Nat} (hr : ∀ k, k < w.heap.size → role' k = role k) : BStG E g w s role' sv cv kc bs :=
  ⟨h.env, h.rd, h.body, h.mod, h.stack, h.blocks, h.code, h.eq, h.waits, h.results, (hr _ (lt_of_blk h.rd.blk)).trans h.r1, (hr _ (lt_of_blk h.mod)).trans h.r2, (hr _ (lt_of_blk h.body)).trans h.r3,
    fun b hb => (hr b (own_lt h.stack hb)).trans (h.r4 b hb), (hr g (own_lt h.blocks rfl)).trans h.r5, fun b hb => (hr b (own_lt h.code hb)).trans (h.r6 b hb),
    fun k x hk b hb => (hr b (own_lt (h.waits k x hk) hb)).trans (h.rw k x hk b hb), fun k x hk b hb => ⟨(hr b (h.rr k x hk b hb).2).trans (h.rr k x hk b hb).1, (h.rr k x hk b hb).2⟩, fun b hb => (hr b (h.lt b hb)).trans (h.ro b hb), h.lt⟩
theorem BStG.renew (h : BStG E g w s role sv cv kc bs) (z : Nat) : BStG E g w s (newRole role w.heap.size z) sv cv kc bs := h.rerole (fun _ hk => newRole_old hk)

theorem BStG.setRd (h : BStG E g w s role sv cv kc bs) (k : Kp (one E.rb) w w') {j : Nat} (hr : RSt w' E.rb E.dv E.c.D j) : BStG E g w' { s with i := j } role sv cv kc bs := by
  have k' : Kp (fun b => (fun r => r = 1) (role b)) w w' := k.mono (fun b _ (hb : b = E.rb) => by rw [hb]; exact h.r1)
  exact ⟨h.kEnv (X := (fun r => r = 1)) k' (by decide), hr, (h.kBody (X := (fun r => r = 1)) k' (by decide) :), (h.kMod (X := (fun r => r = 1)) k' (by decide) :), (h.kStack (X := (fun r => r = 1)) k' (by decide) :), (h.kBlocks (X := (fun r => r = 1)) k' (by decide) :), (h.kCode (X := (fun r => r = 1)) k' (by decide) :), h.eq, fun j x hj => h.kWaits (X := (fun r => r = 1)) k' j x hj (by omega), h.kResults (X := (fun r => r = 1)) k' (by decide),
    h.r1, h.r2, h.r3, h.r4, h.r5, h.r6, h.rw, h.kRr (X := (fun r => r = 1)) k', h.ro, h.kLt (X := (fun r => r = 1)) k'⟩
theorem BStG.quiet (h : BStG E g w s role sv cv kc bs) (k : Kp no w w') : BStG E g w' s role sv cv kc bs := by
  have k' : Kp (fun b => (fun _ => False) (role b)) w w' := k
  exact ⟨h.kEnv (X := (fun _ => False)) k' (fun h => h), (h.kRd (X := (fun _ => False)) k' (fun h => h) (fun h => h) :), (h.kBody (X := (fun _ => False)) k' (fun h => h) :), (h.kMod (X := (fun _ => False)) k' (fun h => h) :), (h.kStack (X := (fun _ => False)) k' (fun h => h) :), (h.kBlocks (X := (fun _ => False)) k' (fun h => h) :), (h.kCode (X := (fun _ => False)) k' (fun h => h) :), h.eq, fun j x hj => h.kWaits (X := (fun _ => False)) k' j x hj (fun h => h), h.kResults (X := (fun _ => False)) k' (fun h => h),
    h.r1, h.r2, h.r3, h.r4, h.r5, h.r6, h.rw, h.kRr (X := (fun _ => False)) k', h.ro, h.kLt (X := (fun _ => False)) k'⟩
theorem BStG.setStack (h : BStG E g w s role sv cv kc bs) {l : List UInt8} {sv' : Value} (k : Kp (fun b => (fun r => r = 3 ∨ r = 4) (role b)) w w') (hb : w'.heap[E.bb]? = some (bodyObj E g s sv' kc))
    (ho : w'.ownsRow E.B 5 1 sv' l.length (l.map fun c => .int .u8 c.toNat)) (hr : ∀ b, sv'.ownBlock = some b → role b = 4) : BStG E g w' { s with stack := l } role sv' cv kc bs :=
  ⟨h.kEnv (X := (fun r => r = 3 ∨ r = 4)) k (by decide), (h.kRd (X := (fun r => r = 3 ∨ r = 4)) k (by decide) (by decide) :), hb, (h.kMod (X := (fun r => r = 3 ∨ r = 4)) k (by decide) :), ho, (h.kBlocks (X := (fun r => r = 3 ∨ r = 4)) k (by decide) :), (h.kCode (X := (fun r => r = 3 ∨ r = 4)) k (by decide) :), h.eq, fun j x hj => h.kWaits (X := (fun r => r = 3 ∨ r = 4)) k j x hj (by omega), h.kResults (X := (fun r => r = 3 ∨ r = 4)) k (by decide),
    h.r1, h.r2, h.r3, hr, h.r5, h.r6, h.rw, h.kRr (X := (fun r => r = 3 ∨ r = 4)) k, h.ro, h.kLt (X := (fun r => r = 3 ∨ r = 4)) k⟩
theorem BStG.setCode (h : BStG E g w s role sv cv kc bs) {l : List Ins} {cv' : Value} (k : Kp (fun b => (fun r => r = 2 ∨ r = 6) (role b)) w w') (hb : w'.heap[E.mb]? = some (modObj E cv'))
    (ho : w'.ownsRow E.B 214 5 cv' l.length (l.flatMap Ins.cells)) (hr : ∀ b, cv'.ownBlock = some b → role b = 6) : BStG E g w' { s with code := l } role sv cv' kc bs :=
  ⟨h.kEnv (X := (fun r => r = 2 ∨ r = 6)) k (by decide), (h.kRd (X := (fun r => r = 2 ∨ r = 6)) k (by decide) (by decide) :), (h.kBody (X := (fun r => r = 2 ∨ r = 6)) k (by decide) :), hb, (h.kStack (X := (fun r => r = 2 ∨ r = 6)) k (by decide) :), (h.kBlocks (X := (fun r => r = 2 ∨ r = 6)) k (by decide) :), ho, h.eq, fun j x hj => h.kWaits (X := (fun r => r = 2 ∨ r = 6)) k j x hj (by omega), h.kResults (X := (fun r => r = 2 ∨ r = 6)) k (by decide),
    h.r1, h.r2, h.r3, h.r4, h.r5, hr, h.rw, h.kRr (X := (fun r => r = 2 ∨ r = 6)) k, h.ro, h.kLt (X := (fun r => r = 2 ∨ r = 6)) k⟩
theorem BStG.setPos (h : BStG E g w s role sv cv kc bs) {p : Nat} {c : Bool} (k : Kp (fun b => (fun r => r = 3) (role b)) w w') (hb : w'.heap[E.bb]? = some (bodyObj E g { s with pos := p, closed := c } sv kc)) : BStG E g w' { s with pos := p, closed := c } role sv cv kc bs :=
  ⟨h.kEnv (X := (fun r => r = 3)) k (by decide), (h.kRd (X := (fun r => r = 3)) k (by decide) (by decide) :), hb, (h.kMod (X := (fun r => r = 3)) k (by decide) :), (h.kStack (X := (fun r => r = 3)) k (by decide) :), (h.kBlocks (X := (fun r => r = 3)) k (by decide) :), (h.kCode (X := (fun r => r = 3)) k (by decide) :), h.eq, fun j x hj => h.kWaits (X := (fun r => r = 3)) k j x hj (by omega), h.kResults (X := (fun r => r = 3)) k (by decide),
    h.r1, h.r2, h.r3, h.r4, h.r5, h.r6, h.rw, h.kRr (X := (fun r => r = 3)) k, h.ro, h.kLt (X := (fun r => r = 3)) k⟩
end

end Go.Proofs.YtdeplgkhmebalaaGreatDoor

namespace Go.Proofs.YtdeplgkhmebalaaGreatDoor
open Go.RowKit

def aboveOf (n : Nat) : Nat := 64 - 7 * n
def signedM (g : List UInt8) : Int := wrap64 ((joinTo g g.length * 2 ^ aboveOf g.length % 18446744073709551616 : Nat) : Int) / 2 ^ aboveOf g.length

set_option maxRecDepth 100000 in
set_option maxHeartbeats 1000000 in
theorem signed_any {w : World} {v : Value} {l : List UInt8} (h : BytesAt w v l) (hl : l.length ≤ 10) :
    Calls Tryz.prog 207 #[v] w fun r w' => r = .returned (.int .i64 (signedM l)) ∧ Kp no w w' := by
  obtain ⟨ad, cap, hv, hcap⟩ := h.shape
  have H := hide h
  subst hv
  clear h
  by_cases h10 : 10 ≤ l.length
  · have hM : signedM l = wrap64 ((joinTo l l.length : Nat) : Int) := by
      rw [signedM, show aboveOf l.length = 0 by unfold aboveOf; omega, Nat.pow_zero, Nat.mul_one, Nat.mod_eq_of_lt (join_lt _ _)]; simp
    have hj := join_any H.out hl
    have hjl := join_lt l l.length
    generalize joinTo l l.length = n at *
    have HJ := hide hj
    have HM := hide hM
    clear hM hj
    have h11 : ¬ (0 < 64 - 7 * (l.length : Int)) := by omega
    go_enter Tryz.func207, Tryz.ntmps207
    go_wp2_with fail
    refine HJ.out.mono ?_
    rintro r w1 ⟨rfl, rfl⟩
    go_wp2
    go_ret
    exact ⟨by rw [HM.out]; rfl, Kp.refl _ _⟩
  · have hM : signedM l = wrap64 ((joinTo l l.length * 2 ^ (64 - 7 * l.length) % 18446744073709551616 : Nat) : Int) / 2 ^ (64 - 7 * l.length) := rfl
    have hj := join_any H.out hl
    have hjl := join_lt l l.length
    generalize joinTo l l.length = n at *
    have HJ := hide hj
    have HM := hide hM
    clear hM hj
    have h10' : 7 * l.length < 64 := by omega
    go_enter Tryz.func207, Tryz.ntmps207
    go_wp2_with fail
    refine HJ.out.mono ?_
    rintro r w1 ⟨rfl, rfl⟩
    go_wp2
    go_ret
    refine ⟨?_, Kp.refl _ _⟩
    rw [HM.out]
    have e : ((n : Int) * 2 ^ (64 - 7 * l.length)) = ((n * 2 ^ (64 - 7 * l.length) : Nat) : Int) := by simp
    show Ending.returned (.int .i64 (wrap64 (IntKind.u64.wrap ((n : Int) * 2 ^ (64 - 7 * l.length))) / 2 ^ (64 - 7 * l.length))) = _
    rw [e, wrap_nat]

def andSign (x : UInt8) : Bool := x &&& 64 == 0
def paddedSignedM (g : List UInt8) : Bool := decide (2 ≤ g.length) && ((g.getD (g.length - 1) 0 == 0 && andSign (g.getD (g.length - 2) 0)) || (g.getD (g.length - 1) 0 == 127 && !andSign (g.getD (g.length - 2) 0)))
set_option maxRecDepth 100000 in
theorem andSign_all : ∀ x : Fin 256, (Go.bits BinOp.and IntKind.u8 (x.val : Int) 64 == 0) = andSign (UInt8.ofNat x.val) := by decide +kernel
theorem andSign_at (x : UInt8) : (Go.bits BinOp.and IntKind.u8 (x.toNat : Int) 64 == 0) = andSign x := by
  have := andSign_all ⟨x.toNat, x.toNat_lt⟩
  simpa using this
theorem u8_eq127 (x : UInt8) : ((x.toNat : Int) == 127) = (x == 127) := by
  rw [Bool.eq_iff_iff]; simp [← UInt8.toNat_inj]; omega

set_option maxRecDepth 100000 in
set_option maxHeartbeats 1000000 in
theorem paddedSigned_any {w : World} {v : Value} {l : List UInt8} (h : BytesAt w v l) (hl : l.length ≤ 10) :
    Calls Tryz.prog 208 #[v] w fun r w' => r = .returned (.bool (paddedSignedM l)) ∧ Kp no w w' := by
  obtain ⟨ad, cap, hv, hcap⟩ := h.shape
  have H := hide h
  subst hv
  clear h
  by_cases h1 : 2 ≤ l.length
  · obtain ⟨a, o, cap', hv, _, hcell⟩ := BytesAt.get H.out (show l.length - 1 < l.length by omega)
    obtain ⟨a2, o2, cap2, hv2, _, hcell2⟩ := BytesAt.get H.out (show l.length - 2 < l.length by omega)
    simp only [Value.slice.injEq] at hv hv2
    obtain ⟨rfl, -, rfl⟩ := hv
    simp only [Option.some.injEq, Addr.mk.injEq, and_true, true_and] at hv2
    obtain ⟨⟨rfl, rfl⟩, rfl⟩ := hv2
    have hM : paddedSignedM l = ((l.getD (l.length - 1) 0 == 0 && andSign (l.getD (l.length - 2) 0)) || (l.getD (l.length - 1) 0 == 127 && !andSign (l.getD (l.length - 2) 0))) := by simp [paddedSignedM, h1]
    generalize l.getD (l.length - 1) 0 = x at *
    generalize l.getD (l.length - 2) 0 = y at *
    have q0 := u8_eq0 x
    have q1 := u8_eq127 x
    have q2 := andSign_at y
    have q3 : (Go.bits BinOp.and IntKind.u8 (y.toNat : Int) 64 != 0) = !andSign y := by rw [bne, q2]
    generalize (x == 0) = b0 at *
    generalize (x == 127) = b1 at *
    generalize andSign y = b2 at *
    have HM := hide hM
    clear hM
    cases b0 <;> cases b1 <;> cases b2 <;>
    · simp only [Bool.not_true, Bool.not_false] at q3
      go_enter Tryz.func208, Tryz.ntmps208
      go_wp2
      go_quiet (fail)
      go_wp2
      go_ret
      exact ⟨by rw [HM.out]; rfl, (Kp.refl _ _).drewN _⟩
  · have hM : paddedSignedM l = false := by simp [paddedSignedM, h1]
    have HM := hide hM
    clear hM
    go_enter Tryz.func208, Tryz.ntmps208
    go_wp2
    go_ret
    exact ⟨by rw [HM.out]; rfl, Kp.refl _ _⟩

def beyondM (g : List UInt8) : Bool := decide (10 ≤ g.length) && !(g.getD 9 0 == 0) && !(g.getD 9 0 == 127)
set_option maxHeartbeats 1000000 in
theorem beyond_any {w : World} {v : Value} {l : List UInt8} (h : BytesAt w v l) (hl : l.length ≤ 10) :
    Calls Tryz.prog 209 #[v] w fun r w' => r = .returned (.bool (beyondM l)) ∧ Kp no w w' := by
  obtain ⟨ad, cap, hv, hcap⟩ := h.shape
  have H := hide h
  subst hv
  clear h
  by_cases h1 : 10 ≤ l.length
  · obtain ⟨a, o, cap', hv, _, hcell⟩ := BytesAt.get H.out (show 9 < l.length by omega)
    simp only [Value.slice.injEq] at hv
    obtain ⟨rfl, -, rfl⟩ := hv
    have hM : beyondM l = (!(l.getD 9 0 == 0) && !(l.getD 9 0 == 127)) := by simp [beyondM, h1]
    generalize l.getD 9 0 = x at *
    have q0 := u8_eq0 x
    have q1 := u8_eq127 x
    have q2 : ((x.toNat : Int) != 0) = !(x == 0) := by rw [bne, q0]
    have q3 : ((x.toNat : Int) != 127) = !(x == 127) := by rw [bne, q1]
    generalize (x == 0) = b0 at *
    generalize (x == 127) = b1 at *
    have HM := hide hM
    clear hM
    clear q0 q1
    cases b0 <;> cases b1 <;>
    · simp only [Bool.not_true, Bool.not_false] at q2 q3
      go_enter Tryz.func209, Tryz.ntmps209
      go_wp2
      go_ret
      exact ⟨by rw [HM.out]; rfl, Kp.refl _ _⟩
  · have hM : beyondM l = false := by simp [beyondM, h1]
    have HM := hide hM
    clear hM
    go_enter Tryz.func209, Tryz.ntmps209
    go_wp2
    go_ret
    exact ⟨by rw [HM.out]; rfl, Kp.refl _ _⟩

end Go.Proofs.YtdeplgkhmebalaaGreatDoor

namespace Go.Proofs.YtdeplgkhmebalaaGreatDoor
open Go.RowKit

def S32M (D : List UInt8) (i : Nat) : Except (Int × Int) (Int × Nat) :=
  match groupsM D 5 i with
  | .error e => .error e
  | .ok (g, j) => if signedM g ≠ IntKind.i32.wrap (signedM g) ∨ paddedSignedM g = true then .error (2, i) else .ok (signedM g, j)
def S64M (D : List UInt8) (i : Nat) : Except (Int × Int) (Int × Nat) :=
  match groupsM D 10 i with
  | .error e => .error e
  | .ok (g, j) => if beyondM g = true ∨ paddedSignedM g = true then .error (2, i) else .ok (signedM g, j)

theorem signed_range (g : List UInt8) : -9223372036854775808 ≤ signedM g ∧ signedM g ≤ 9223372036854775807 := by
  unfold signedM
  generalize ((joinTo g g.length * 2 ^ aboveOf g.length % 18446744073709551616 : Nat) : Int) = x
  generalize aboveOf g.length = a
  have h1 : -9223372036854775808 ≤ wrap64 x ∧ wrap64 x ≤ 9223372036854775807 := by
    unfold wrap64; omega
  generalize wrap64 x = y at *
  have hp : (0 : Int) < 2 ^ a := Int.pow_pos (by decide)
  have hp1 : (1 : Int) ≤ 2 ^ a := hp
  constructor
  · refine Int.le_trans ?_ (Int.ediv_le_ediv hp h1.1)
    refine Int.le_ediv_of_mul_le hp ?_
    have := Int.mul_le_mul_of_nonpos_left (a := (-9223372036854775808 : Int)) (b := 2 ^ a) (c := 1) (by decide) hp1
    simpa using this
  · refine Int.le_trans (Int.ediv_le_ediv hp h1.2) (Int.ediv_le_self _ (by decide))

theorem i32_range (n : Int) : -2147483648 ≤ IntKind.i32.wrap n ∧ IntKind.i32.wrap n ≤ 2147483647 := by
  simp only [IntKind.wrap, IntKind.signed, IntKind.bits]
  simp
  split <;> omega

theorem i32_wrap (n : Int) : IntKind.i32.wrap n = wrap32 n := by
  simp only [IntKind.wrap, IntKind.signed, IntKind.bits, wrap32]
  simp
  split <;> omega

set_option maxRecDepth 100000 in
set_option maxHeartbeats 1000000 in
theorem S32_any {w : World} {rb : Nat} {dv : Value} {D : List UInt8} {i : Nat} (h : RSt w rb dv D i) :
    Calls Tryz.prog 177 #[ptrTo rb] w fun r w' => Gives w w' rb dv D (fun (n : Int) v => v = .int .i32 n) (.int .i32 0) (S32M D i) r ∧ Kp (one rb) w w' := by
  have hM : S32M D i = (match groupsM D 5 i with | .error e => .error e | .ok (g, j) => if signedM g ≠ IntKind.i32.wrap (signedM g) ∨ paddedSignedM g = true then .error (2, i) else .ok (signedM g, j)) := rfl
  generalize S32M D i = R at *
  have hg := groups_any h 5 (by decide)
  have hrg := fun g j => groups_range (D := D) (m := 5) (i := i) (g := g) (j := j)
  obtain ⟨hc, -⟩ := cells_of h.blk
  generalize groupsM D 5 i = Q at *
  have Hg := hide hg
  clear hg h
  match Q, hM, Hg, hrg with
  | .error e, hM, Hg, _ =>
    have HM := hide hM
    clear hM
    go_enter Tryz.func177, Tryz.ntmps177
    go_wp2_with fail
    refine Hg.out.mono ?_
    rintro r w1 ⟨⟨fv, j, rfl, ⟨fb, rfl, hfb, hfo⟩, h1⟩, k1⟩
    have H1 := hide h1
    have HF := hide hfo
    clear h1 hfo
    go_wp2
    go_ret2
    rw [HM.out]
    exact ⟨⟨ptrTo fb, j, rfl, ⟨fb, rfl, hfb, HF.out⟩, H1.out⟩, k1⟩
  | .ok (g, j), hM, Hg, hrg =>
    have hgl : g.length ≤ 10 := by have := hrg g j rfl; omega
    have HM := hide hM
    clear hM hrg
    go_enter Tryz.func177, Tryz.ntmps177
    go_wp2_with fail
    refine Hg.out.mono ?_
    rintro r w1 ⟨⟨v, rfl, ⟨hb, hsub⟩, h1⟩, k1⟩
    obtain ⟨ad, cap, rfl, _⟩ := hb.shape
    have H1 := hide h1
    have HB := hide hb
    clear h1 hb hsub
    go_wp2_with fail
    refine (signed_any HB.out hgl).mono ?_
    rintro r w2 ⟨rfl, k2⟩
    have HK := hide (k1.then k2)
    have H2 := hide (H1.out.kp k2 (fun h => h) (fun _ _ _ h => h))
    have HB2 := hide (HB.out.kp k2 (fun _ _ h => h))
    clear H1 HB k1 k2
    have hM := HM.out
    have hjl := signed_range g
    generalize signedM g = n at *
    clear HM
    by_cases hn : n = IntKind.i32.wrap n
    · have hb32 : -2147483648 ≤ n ∧ n ≤ 2147483647 := by rw [hn]; exact i32_range n
      have hpd := paddedSigned_any HB2.out hgl
      generalize paddedSignedM g = pd at *
      have HP := hide hpd
      have HN := hide hn
      clear hpd hn
      cases pd
      · rw [if_neg (by simpa using HN.out)] at hM
        have HM1 := hide hM
        clear hM
        go_wp2_with fail
        refine HP.out.mono ?_
        rintro r w3 ⟨rfl, k3⟩
        go_wp2
        go_ret2
        rw [HM1.out]
        exact ⟨⟨_, rfl, rfl, H2.out.kp k3 (fun h => h) (fun _ _ _ h => h)⟩, HK.out.then k3⟩
      · rw [if_pos (.inr rfl)] at hM
        have HM1 := hide hM
        clear hM
        go_wp2_with fail
        refine HP.out.mono ?_
        rintro r w3 ⟨rfl, k3⟩
        have H1 := hide (H2.out.kp k3 (fun h => h) (fun _ _ _ h => h))
        have HK3 := hide (HK.out.then k3)
        go_wp2_with fail
        refine (form_any _ _).mono ?_
        rintro r w9 ⟨rfl, rfl⟩
        go_wp2
        go_ret2
        rw [HM1.out]
        exact ⟨⟨ptrTo w3.heap.size, j, rfl, ⟨w3.heap.size, rfl, HK3.out.size, heap_alloc_new _ _⟩, H1.out.kp ((Kp.refl no w3).alloc _) (fun h => h) (fun _ _ _ h => h)⟩, HK3.out.alloc _⟩
    · rw [if_pos (.inl hn)] at hM
      have HM1 := hide hM
      clear hM
      rw [i32_wrap] at hn
      have hq : (n == wrap32 n) = false := by simpa using hn
      have hq2 : (n != wrap32 n) = true := by simpa using hn
      have hr := i32_range n
      rw [i32_wrap] at hr
      go_wp2_with fail
      refine (form_any _ _).mono ?_
      rintro r w9 ⟨rfl, rfl⟩
      go_wp2
      go_ret2
      rw [HM1.out]
      exact ⟨⟨ptrTo w2.heap.size, j, rfl, ⟨w2.heap.size, rfl, HK.out.size, heap_alloc_new _ _⟩, H2.out.kp ((Kp.refl no w2).alloc _) (fun h => h) (fun _ _ _ h => h)⟩, HK.out.alloc _⟩

theorem S32_range {D : List UInt8} {i : Nat} {n : Int} {j : Nat} (h : S32M D i = .ok (n, j)) : -2147483648 ≤ n ∧ n ≤ 2147483647 ∧ i < j ∧ j ≤ D.length := by
  unfold S32M at h
  split at h
  · cases h
  · rename_i g j' hg
    split at h
    · cases h
    · rename_i hc
      cases h
      have h1 : signedM g = IntKind.i32.wrap (signedM g) := Classical.byContradiction (fun e => hc (.inl e))
      have h2 := i32_range (signedM g)
      have h3 := groups_range hg
      rw [← h1] at h2
      omega
theorem S64_range {D : List UInt8} {i : Nat} {n : Int} {j : Nat} (h : S64M D i = .ok (n, j)) : -9223372036854775808 ≤ n ∧ n ≤ 9223372036854775807 ∧ i < j ∧ j ≤ D.length := by
  unfold S64M at h
  split at h
  · cases h
  · rename_i g j' hg
    split at h
    · cases h
    · cases h
      have h2 := signed_range g
      have h3 := groups_range hg
      omega

set_option maxRecDepth 100000 in
set_option maxHeartbeats 1000000 in
theorem S64_any {w : World} {rb : Nat} {dv : Value} {D : List UInt8} {i : Nat} (h : RSt w rb dv D i) :
    Calls Tryz.prog 178 #[ptrTo rb] w fun r w' => Gives w w' rb dv D (fun (n : Int) v => v = .int .i64 n) (.int .i64 0) (S64M D i) r ∧ Kp (one rb) w w' := by
  have hM : S64M D i = (match groupsM D 10 i with | .error e => .error e | .ok (g, j) => if beyondM g = true ∨ paddedSignedM g = true then .error (2, i) else .ok (signedM g, j)) := rfl
  generalize S64M D i = R at *
  have hg := groups_any h 10 (by decide)
  have hrg := fun g j => groups_range (D := D) (m := 10) (i := i) (g := g) (j := j)
  obtain ⟨hc, -⟩ := cells_of h.blk
  generalize groupsM D 10 i = Q at *
  have Hg := hide hg
  clear hg h
  match Q, hM, Hg, hrg with
  | .error e, hM, Hg, _ =>
    have HM := hide hM
    clear hM
    go_enter Tryz.func178, Tryz.ntmps178
    go_wp2_with fail
    refine Hg.out.mono ?_
    rintro r w1 ⟨⟨fv, j, rfl, ⟨fb, rfl, hfb, hfo⟩, h1⟩, k1⟩
    have H1 := hide h1
    have HF := hide hfo
    clear h1 hfo
    go_wp2
    go_ret2
    rw [HM.out]
    exact ⟨⟨ptrTo fb, j, rfl, ⟨fb, rfl, hfb, HF.out⟩, H1.out⟩, k1⟩
  | .ok (g, j), hM, Hg, hrg =>
    have hgl : g.length ≤ 10 := by have := hrg g j rfl; omega
    have HM := hide hM
    clear hM hrg
    go_enter Tryz.func178, Tryz.ntmps178
    go_wp2_with fail
    refine Hg.out.mono ?_
    rintro r w1 ⟨⟨v, rfl, ⟨hb, hsub⟩, h1⟩, k1⟩
    obtain ⟨ad, cap, rfl, _⟩ := hb.shape
    have H1 := hide h1
    have HB := hide hb
    clear h1 hb hsub
    go_wp2_with fail
    refine (beyond_any HB.out hgl).mono ?_
    rintro r w2 ⟨rfl, k2⟩
    have HK := hide (k1.then k2)
    have H2 := hide (H1.out.kp k2 (fun h => h) (fun _ _ _ h => h))
    have HB2 := hide (HB.out.kp k2 (fun _ _ h => h))
    clear H1 HB k1 k2
    have hM := HM.out
    clear HM
    have hpd := paddedSigned_any HB2.out hgl
    generalize beyondM g = bd at *
    cases bd
    · generalize paddedSignedM g = pd at *
      have HP := hide hpd
      clear hpd
      cases pd
      · rw [if_neg (by simp)] at hM
        have HM1 := hide hM
        clear hM
        go_wp2_with fail
        refine HP.out.mono ?_
        rintro r w3 ⟨rfl, k3⟩
        have HB3 := hide (HB2.out.kp k3 (fun _ _ h => h))
        go_wp2_with fail
        refine (signed_any HB3.out hgl).mono ?_
        rintro r w4 ⟨rfl, k4⟩
        go_wp2
        go_ret2
        rw [HM1.out]
        exact ⟨⟨_, rfl, rfl, (H2.out.kp k3 (fun h => h) (fun _ _ _ h => h)).kp k4 (fun h => h) (fun _ _ _ h => h)⟩, (HK.out.then k3).then k4⟩
      · rw [if_pos (.inr rfl)] at hM
        have HM1 := hide hM
        clear hM
        go_wp2_with fail
        refine HP.out.mono ?_
        rintro r w3 ⟨rfl, k3⟩
        have H1 := hide (H2.out.kp k3 (fun h => h) (fun _ _ _ h => h))
        have HK3 := hide (HK.out.then k3)
        go_wp2_with fail
        refine (form_any _ _).mono ?_
        rintro r w9 ⟨rfl, rfl⟩
        go_wp2
        go_ret2
        rw [HM1.out]
        exact ⟨⟨ptrTo w3.heap.size, j, rfl, ⟨w3.heap.size, rfl, HK3.out.size, heap_alloc_new _ _⟩, H1.out.kp ((Kp.refl no w3).alloc _) (fun h => h) (fun _ _ _ h => h)⟩, HK3.out.alloc _⟩
    · rw [if_pos (.inl rfl)] at hM
      have HM1 := hide hM
      clear hM hpd
      go_wp2_with fail
      refine (form_any _ _).mono ?_
      rintro r w9 ⟨rfl, rfl⟩
      go_wp2
      go_ret2
      rw [HM1.out]
      exact ⟨⟨ptrTo w2.heap.size, j, rfl, ⟨w2.heap.size, rfl, HK.out.size, heap_alloc_new _ _⟩, H2.out.kp ((Kp.refl no w2).alloc _) (fun h => h) (fun _ _ _ h => h)⟩, HK.out.alloc _⟩

end Go.Proofs.YtdeplgkhmebalaaGreatDoor

namespace Go.Proofs.YtdeplgkhmebalaaGreatDoor
open Go.RowKit

set_option maxRecDepth 100000 in
set_option maxHeartbeats 400000 in
theorem slite_any (s : ByteArray) (c : Int) (w : World) : Calls Tryz.prog 176 #[.string s, .int .u8 c] w fun e w' => e = .returned (.int .i64 (Lib.indexByte s.data.toList c.toNat.toUInt8)) ∧ w' = w := by
  go_enter Tryz.func176, Tryz.ntmps176
  go_wp2
  rw [run_callFunc_extern Tryz.func206 (by kernel_rfl) (by kernel_rfl) (by kernel_rfl) (e := Extern.BytealgIndexByte.indexByte) (by kernel_rfl), Lib.run_indexByteString]
  simp only [Result.andThen]
  rw [Oper.upon_value]
  go_wp2
  go_ret
  exact ⟨rfl, rfl⟩

set_option maxHeartbeats 400000 in
theorem index_any (s : ByteArray) (c : Int) (w : World) : Calls Tryz.prog 139 #[.string s, .int .u8 c] w fun e w' => e = .returned (.int .i64 (Lib.indexByte s.data.toList c.toNat.toUInt8)) ∧ w' = w := by
  have h := slite_any s c w
  generalize Lib.indexByte s.data.toList c.toNat.toUInt8 = n at *
  have H := hide h
  clear h
  go_enter Tryz.func139, Tryz.ntmps139
  go_wp2_with fail
  refine H.out.mono ?_
  rintro e w' ⟨rfl, rfl⟩
  go_wp2
  go_ret
  exact ⟨rfl, rfl⟩

theorem indexByte_mem (l : List UInt8) (c : UInt8) : (if c ∈ l then (0 ≤ Lib.indexByte l c) else Lib.indexByte l c = -1) := by
  induction l with
  | nil => rfl
  | cons b l ih =>
    unfold Lib.indexByte
    by_cases hb : b = c
    · subst hb; simp
    · have h1 : (b == c) = false := by simpa using hb
      by_cases hm : c ∈ l
      · rw [if_pos hm] at ih
        rw [if_pos (List.mem_cons_of_mem _ hm), if_neg (by simp [h1]), if_neg (by simp; omega)]
        omega
      · rw [if_neg hm] at ih
        rw [if_neg (by simp [hm]; exact fun e => hb e.symm), if_neg (by simp [h1]), if_pos (by simp [ih])]

def oneOfM (D : List UInt8) (allowed : List UInt8) (i : Nat) : Except (Int × Int) (UInt8 × Nat) :=
  match byteM D i with
  | .error e => .error e
  | .ok (c, j) => if c ∈ allowed then .ok (c, j) else .error (2, i)

set_option maxRecDepth 100000 in
set_option maxHeartbeats 1000000 in
theorem oneOf_any {w : World} {rb : Nat} {dv : Value} {D : List UInt8} {i : Nat} (h : RSt w rb dv D i) (s : ByteArray) (al : List UInt8) (hal : s.data.toList = al) :
    Calls Tryz.prog 104 #[ptrTo rb, .string s] w fun r w' => Gives w w' rb dv D (fun c v => v = .int .u8 (UInt8.toNat c)) (.int .u8 0) (oneOfM D al i) r ∧ Kp (one rb) w w' := by
  have hM : oneOfM D al i = (match byteM D i with | .error e => .error e | .ok (c, j) => if c ∈ al then .ok (c, j) else .error (2, i)) := rfl
  generalize oneOfM D al i = R at *
  have hg := byte_any h
  obtain ⟨hc, -⟩ := cells_of h.blk
  generalize byteM D i = Q at *
  have Hg := hide hg
  have HA := hide hal
  clear hg h hal
  match Q, hM, Hg with
  | .error e, hM, Hg =>
    have HM := hide hM
    clear hM
    go_enter Tryz.func104, Tryz.ntmps104
    go_wp2_with fail
    refine Hg.out.mono ?_
    rintro r w1 ⟨⟨fv, j, rfl, ⟨fb, rfl, hfb, hfo⟩, h1⟩, k1⟩
    have H1 := hide h1
    have HF := hide hfo
    clear h1 hfo
    go_wp2
    go_ret2
    rw [HM.out]
    exact ⟨⟨ptrTo fb, j, rfl, ⟨fb, rfl, hfb, HF.out⟩, H1.out⟩, k1⟩
  | .ok (c, j), hM, Hg =>
    have hix := index_any s (c.toNat : Int)
    have hmem := indexByte_mem al c
    rw [HA.out, show ((c.toNat : Int).toNat.toUInt8) = c by simp] at hix
    generalize Lib.indexByte al c = n at *
    have HX := hide hix
    clear hix
    by_cases hcm : c ∈ al
    · simp only [if_pos hcm] at hM hmem
      have HM := hide hM
      clear hM hcm
      go_enter Tryz.func104, Tryz.ntmps104
      go_wp2_with fail
      refine Hg.out.mono ?_
      rintro r w1 ⟨⟨v, rfl, rfl, h1⟩, k1⟩
      have H1 := hide h1
      clear h1
      go_wp2_with fail
      refine (HX.out _).mono ?_
      rintro r w2 ⟨rfl, rfl⟩
      go_wp2
      go_ret2
      rw [HM.out]
      exact ⟨⟨_, rfl, rfl, H1.out⟩, k1⟩
    · simp only [if_neg hcm] at hM hmem
      have HM1 := hide hM
      clear hM hcm
      go_enter Tryz.func104, Tryz.ntmps104
      go_wp2_with fail
      refine Hg.out.mono ?_
      rintro r w1 ⟨⟨v, rfl, rfl, h1⟩, k1⟩
      have H1 := hide h1
      clear h1
      go_wp2_with fail
      refine (HX.out _).mono ?_
      rintro r w2 ⟨rfl, rfl⟩
      subst hmem
      go_wp2_with fail
      refine (form_any _ _).mono ?_
      rintro r w9 ⟨rfl, rfl⟩
      go_wp2
      go_ret2
      rw [HM1.out]
      exact ⟨⟨ptrTo w2.heap.size, j, rfl, ⟨w2.heap.size, rfl, k1.size, heap_alloc_new _ _⟩, H1.out.kp ((Kp.refl no w2).alloc _) (fun h => h) (fun _ _ _ h => h)⟩, k1.alloc _⟩

theorem BytesAt.take {w : World} {a o cap : Nat} {l : List UInt8} (h : BytesAt w (.slice (some ⟨a, o, none⟩) l.length cap) l) (n : Nat) (hn : n ≤ l.length) : BytesAt w (.slice (some ⟨a, o, none⟩) n cap) (l.take n) := by
  rcases h.cases with ⟨hv, -⟩ | ⟨a', o', cap', hv, hc, hcell⟩
  · cases hv
  · cases hv
    have hl : (l.take n).length = n := by simp; omega
    have := BytesAt.mk (w := w) (a := a) (o := o) (cap := cap) (l := l.take n) (by omega) (fun k hk => by
      rw [hcell k (by omega)]
      simp only [List.getD, List.getElem?_take, if_pos (show k < n by omega)])
    rwa [hl] at this

theorem size_setCell (w : World) (p : Addr) (v : Value) : (w.setCell p v).heap.size = w.heap.size := by simp [World.setCell]

theorem wrap_small (n : Nat) (h : n < 9223372036854775808) : IntKind.i64.wrap (n : Int) = (n : Int) := by
  simp only [IntKind.wrap, IntKind.signed, IntKind.bits]
  simp
  split <;> omega

set_option maxRecDepth 100000 in
set_option maxHeartbeats 1000000 in
theorem part_any {w : World} {rb : Nat} {dv : Value} {D : List UInt8} {i : Nat} (h : RSt w rb dv D i) (n : Nat) (hn : i + n ≤ D.length) (hpos : 0 < D.length) :
    Calls Tryz.prog 113 #[ptrTo rb, .int .i64 n] w fun r w' => (∃ pb dv', r = .returned (ptrTo pb) ∧ w.heap.size ≤ pb ∧ RSt w' pb dv' (D.take (i + n)) i ∧ (∀ b, dv'.ownBlock = some b → dv.ownBlock = some b) ∧ RSt w' rb dv D (i + n)) ∧ Kp (one rb) w w' := by
  obtain ⟨hc, hf⟩ := cells_of h.blk
  have hl := h.len
  have hlt := lt_of_blk h.blk
  have HB := hide h
  rcases h.bytes.cases with ⟨rfl, hD⟩ | ⟨a, o, cap, rfl, hcap, -⟩
  · subst hD; simp at hpos
  · have hi0 : (0 : Int) ≤ (i : Int) + n := by omega
    have hi1 : (i : Int) + n ≤ cap := by omega
    have hw : IntKind.i64.wrap ((i : Int) + n) = (i : Int) + n := by rw [show (i : Int) + n = ((i + n : Nat) : Int) by simp]; exact wrap_small _ (by omega)
    clear h
    go_enter Tryz.func113, Tryz.ntmps113
    go_wp2_with fail
    go_region_held3 (fun w' => w'.cell? ⟨rb, 0, none⟩ = some (.slice (some ⟨a, o, none⟩) D.length cap) ∧ w'.cell? ⟨rb, 1, none⟩ = some (.int .i64 i)) (go_keep) (fail)
    go_wp2
    go_ret
    have ha : a < w.heap.size := by
      rcases HB.out.bytes.cases with ⟨hv, -⟩ | ⟨a', o', cap', hv, -, hcell⟩
      · cases hv
      · cases hv
        have hx := hcell 0 hpos
        rcases Nat.lt_or_ge a w.heap.size with h1 | h1
        · exact h1
        · rw [World.cell?, Array.getElem?_eq_none h1] at hx; cases hx
    have hlen : (D.take (i + n)).length = i + n := by simp; omega
    have k2 : Kp (one rb) w ((w.setCell ⟨rb, 1, none⟩ (.int .i64 ((i : Int) + n))).alloc (rdObj (.slice (some ⟨a, o, none⟩) (i + n) cap) i)).drew := (((Kp.refl (one rb) w).set1 1 (.int .i64 ((i : Int) + n))).alloc _).drew
    refine ⟨⟨w.heap.size, .slice (some ⟨a, o, none⟩) (i + n) cap, rfl, Nat.le_refl _, ⟨?_, ?_, ?_, by omega, by omega⟩, fun b hb => hb, HB.out.step k2 ?_ hn⟩, k2⟩
    · have := heap_alloc_new (w.setCell ⟨rb, 1, none⟩ (.int .i64 ((i : Int) + n))) (rdObj (.slice (some ⟨a, o, none⟩) (i + n) cap) i)
      rw [size_setCell] at this
      exact this
    · exact (HB.out.bytes.kp k2 (fun b hb e => HB.out.sep b hb e)).take (i + n) hn
    · intro b hb; cases hb; exact Nat.ne_of_lt ha
    · exact heap_alloc_old (heap_setCell HB.out.blk _)

set_option maxHeartbeats 400000 in
theorem equal_any {w : World} {v1 v2 : Value} {l1 l2 : List UInt8} (h1 : BytesAt w v1 l1) (h2 : BytesAt w v2 l2) :
    Calls Tryz.prog 287 #[v1, v2] w fun r w' => r = .returned (.bool (l1 == l2)) ∧ w' = w := by
  have key : ∀ {v : Value} {l : List UInt8}, BytesAt w v l → (convert 25 9 v).run Tryz.prog w = .ok (.string ⟨l.toArray⟩) w := by
    intro v l h
    have e : ∀ l : List UInt8, strOfNums (l.map fun c => (c.toNat : Int)) = ⟨l.toArray⟩ := by
      intro l
      simp [strOfNums]
      exact List.map_id'' (fun c => by simp) l
    rcases h.cases with ⟨rfl, rfl⟩ | ⟨a, o, cap, rfl, hc, hcell⟩
    · exact run_convert_bytes_zero w 25 5 Tryz.underlying25 Tryz.underlying5 none 0 9 Tryz.underlying9
    · rw [run_convert_bytes_arg w 25 5 Tryz.underlying25 Tryz.underlying5 a o l.length cap (l.map fun c => (c.toNat : Int)) (by simp) (fun i hi => by rw [hcell i hi]; simp [List.getD, List.getElem?_eq_getElem hi]) 9 Tryz.underlying9, e]
  have k1 := key h1
  have k2 := key h2
  have q : ((⟨l1.toArray⟩ : ByteArray) == ⟨l2.toArray⟩) = (l1 == l2) := by
    show (l1.toArray == l2.toArray) = _
    simp
  clear key h1 h2
  go_enter Tryz.func287, Tryz.ntmps287
  go_wp2
  go_ret
  exact ⟨rfl, rfl⟩

end Go.Proofs.YtdeplgkhmebalaaGreatDoor

namespace Go.Proofs.YtdeplgkhmebalaaGreatDoor
open Go.RowKit

def noBk : Bk := ⟨0, [], 0, 0, []⟩
def Bd.bk (s : Bd) (k : Nat) : Bk := s.blocks.getD k noBk
def Bd.top (s : Bd) : Bk := s.bk (s.blocks.length - 1)

def takeAnyM (s : Bd) : Option (UInt8 × Bd) :=
  if s.stack.length ≤ s.top.height then none else some (s.stack.getD (s.stack.length - 1) 0, { s with stack := s.stack.take (s.stack.length - 1) })
def takeM (s : Bd) (t : UInt8) : Option Bd :=
  match takeAnyM s with
  | none => none
  | some (u, s') => if u = t then some s' else none
def takeN (ts : List UInt8) : Nat → Bd → Option Bd
  | 0, s => some s
  | k + 1, s => match takeM s (ts.getD k 0) with
    | none => none
    | some s' => takeN ts k s'
def takeAllM (s : Bd) (ts : List UInt8) : Option Bd := takeN ts ts.length s
def putM (s : Bd) (ts : List UInt8) : Bd := { s with stack := s.stack ++ ts }
def emitM (s : Bd) (x : Ins) : Bd := { s with code := s.code ++ [x] }
def valueM (b : Bk) : List UInt8 := if b.kind = 2 then [] else b.result
def carriesM (s : Bd) (k : Nat) : Option Bd := (takeAllM s (valueM (s.bk k))).map fun s' => putM s' (valueM (s.bk k))
def jumpM (s : Bd) (op : UInt8) (k : Nat) : Bd :=
  if (s.bk k).kind = 2 then emitM s ⟨op, 0, (s.bk k).start, (s.bk k).height, (valueM (s.bk k)).length⟩
  else emitM { s with blocks := s.blocks.set k { s.bk k with waits := (s.bk k).waits ++ [s.code.length] } } ⟨op, 0, 0, (s.bk k).height, (valueM (s.bk k)).length⟩
def aimM (s : Bd) (n : Nat) : Bd := { s with code := s.code.set n { s.code.getD n ⟨0, 0, 0, 0, 0⟩ with goal := s.code.length } }
def fullM (s : Bd) (k : Nat) : Bool := s.closed || s.stack.drop (s.bk k).height == (s.bk k).result

abbrev Res := Except (Int × Int) Bd
def wrongM (s : Bd) : Res := .error (3, s.pos)
def labelM (c : Ctx) (s : Bd) : Except (Int × Int) (Nat × Bd) :=
  match belowM c.D s.blocks.length s.i with
  | .error e => .error e
  | .ok (n, j) => .ok (s.blocks.length - 1 - n, { s with i := j })
def stopM (s : Bd) : Res := .ok { emitM s ⟨0, 0, 0, 0, 0⟩ with closed := true }
def openM (c : Ctx) (op : UInt8) (s : Bd) : Res :=
  match oneOfM c.D [127, 126, 64] s.i with
  | .error e => .error e
  | .ok (t, j) =>
    match (if op = 4 then takeM { s with i := j } 127 else some { s with i := j }) with
    | none => wrongM s
    | some s1 =>
      if s1.blocks.length - 1 = 16 then wrongM s
      else .ok { emitM s1 ⟨op, 0, 0, if op = 4 then s1.stack.length else 0, 0⟩ with blocks := s1.blocks ++ [⟨if op = 3 then 2 else if op = 4 then 3 else 1, if t = 64 then [] else [t], s1.stack.length, s1.code.length + 1, []⟩] }
def turnM (s : Bd) : Res :=
  if s.top.kind ≠ 3 ∨ fullM s (s.blocks.length - 1) = false then wrongM s
  else
    let s1 := aimM (jumpM s 5 (s.blocks.length - 1)) (s.top.start - 1)
    .ok { s1 with blocks := s1.blocks.set (s1.blocks.length - 1) { s1.top with kind := 4 }, stack := s1.stack.take s1.top.height, closed := false }
def aimAll (l : List Nat) (s : Bd) : Bd := l.foldl aimM s
def endM (s : Bd) : Res :=
  if fullM s (s.blocks.length - 1) = false ∨ (s.top.kind = 3 ∧ s.top.result ≠ []) then wrongM s
  else
    let s1 := if s.top.kind = 3 then aimM s (s.top.start - 1) else s
    let s2 := aimAll s.top.waits s1
    let s3 := if s.top.kind = 0 then emitM s2 ⟨11, 0, 0, 0, 0⟩ else s2
    .ok { s3 with stack := s3.stack.take s.top.height ++ s.top.result, blocks := s3.blocks.take (s3.blocks.length - 1), closed := false }
def branchM (c : Ctx) (op : UInt8) (s : Bd) : Res :=
  match labelM c s with
  | .error e => .error e
  | .ok (k, s1) =>
    match (if op = 13 then takeM s1 127 else some s1) with
    | none => wrongM s
    | some s2 =>
      match carriesM s2 k with
      | none => wrongM s
      | some s3 => .ok { jumpM s3 op k with closed := op == 12 }
def leaveM (s : Bd) : Res :=
  match carriesM s 0 with
  | none => wrongM s
  | some s1 => .ok { jumpM s1 12 0 with closed := true }
def labelsM (c : Ctx) : Nat → Bd → Except (Int × Int) (List Nat × Bd)
  | 0, s => .ok ([], s)
  | n + 1, s => match labelM c s with
    | .error e => .error e
    | .ok (k, s1) => match labelsM c n s1 with
      | .error e => .error e
      | .ok (l, s2) => .ok (k :: l, s2)
def alikeM (s : Bd) (l : List Nat) : Bool := l.all fun k => valueM (s.bk k) == valueM (s.bk (l.getD 0 0))
def jumpAll (l : List Nat) (s : Bd) : Bd := l.foldl (fun s k => jumpM s 12 k) s
def tableM (c : Ctx) (s : Bd) : Res :=
  match belowM c.D 17 s.i with
  | .error e => .error e
  | .ok (n, j) =>
    match labelsM c (n + 1) { s with i := j } with
    | .error e => .error e
    | .ok (l, s1) =>
      match takeM s1 127 with
      | none => wrongM s
      | some s2 =>
        match carriesM s2 (l.getD n 0) with
        | none => wrongM s
        | some s3 => if alikeM s3 l then .ok { jumpAll l (emitM s3 ⟨14, n, 0, 0, 0⟩) with closed := true } else wrongM s
def callM (c : Ctx) (s : Bd) : Res :=
  match belowM c.D c.funcs.length s.i with
  | .error e => .error e
  | .ok (n, j) =>
    match takeAllM { s with i := j } (c.funcs.getD n ([], [])).1 with
    | none => wrongM s
    | some s1 => .ok (putM (emitM s1 ⟨16, n, 0, 0, 0⟩) (c.funcs.getD n ([], [])).2)
def dropM (s : Bd) : Res :=
  match takeAnyM s with
  | none => wrongM s
  | some (_, s1) => .ok (emitM s1 ⟨26, 0, 0, 0, 0⟩)
def chooseM (s : Bd) : Res :=
  match takeM s 127 with
  | none => wrongM s
  | some s1 =>
    match takeAnyM s1 with
    | none => wrongM s
    | some (t, s2) =>
      match takeM s2 t with
      | none => wrongM s
      | some s3 => .ok (putM (emitM s3 ⟨27, 0, 0, 0, 0⟩) [t])
def localM (c : Ctx) (op : UInt8) (s : Bd) : Res :=
  match belowM c.D c.locals.length s.i with
  | .error e => .error e
  | .ok (n, j) =>
    match (if op = 32 then some { s with i := j } else takeM { s with i := j } (c.locals.getD n 0)) with
    | none => wrongM s
    | some s1 => .ok (if op = 33 then emitM s1 ⟨op, n, 0, 0, 0⟩ else putM (emitM s1 ⟨op, n, 0, 0, 0⟩) [c.locals.getD n 0])
def globalM (c : Ctx) (op : UInt8) (s : Bd) : Res :=
  match belowM c.D c.gl.length s.i with
  | .error e => .error e
  | .ok (n, j) =>
    if op = 36 then
      if (c.gl.getD n (0, false)).2 then
        match takeM { s with i := j } (c.gl.getD n (0, false)).1 with
        | none => wrongM s
        | some s1 => .ok (emitM s1 ⟨op, n, 0, 0, 0⟩)
      else wrongM s
    else .ok (putM (emitM { s with i := j } ⟨op, n, 0, 0, 0⟩) [(c.gl.getD n (0, false)).1])

/-- A row of the table: from, to, what is behind, takes, gives. -/
structure RowT where
  fr : UInt8
  upto : UInt8
  behind : Nat
  takes : List UInt8
  gives : List UInt8
def rowsM : List RowT := [⟨0x00, 0x00, 4, [], []⟩, ⟨0x01, 0x01, 0, [], []⟩, ⟨0x02, 0x05, 4, [], []⟩, ⟨0x0b, 0x10, 4, [], []⟩, ⟨0x1a, 0x1b, 4, [], []⟩, ⟨0x20, 0x24, 4, [], []⟩,
  ⟨0x28, 0x28, 1, [127], [127]⟩, ⟨0x29, 0x29, 1, [127], [126]⟩, ⟨0x2c, 0x2d, 1, [127], [127]⟩, ⟨0x36, 0x36, 1, [127, 127], []⟩, ⟨0x37, 0x37, 1, [127, 126], []⟩, ⟨0x3a, 0x3a, 1, [127, 127], []⟩,
  ⟨0x3f, 0x3f, 0, [], [127]⟩, ⟨0x40, 0x40, 0, [127], [127]⟩, ⟨0x41, 0x41, 2, [], [127]⟩, ⟨0x42, 0x42, 3, [], [126]⟩, ⟨0x45, 0x45, 0, [127], [127]⟩, ⟨0x46, 0x4f, 0, [127, 127], [127]⟩,
  ⟨0x50, 0x50, 0, [126], [127]⟩, ⟨0x51, 0x5a, 0, [126, 126], [127]⟩, ⟨0x67, 0x69, 0, [127], [127]⟩, ⟨0x6a, 0x78, 0, [127, 127], [127]⟩, ⟨0x79, 0x7b, 0, [126], [126]⟩, ⟨0x7c, 0x8a, 0, [126, 126], [126]⟩,
  ⟨0xa7, 0xa7, 0, [126], [127]⟩, ⟨0xac, 0xad, 0, [127], [126]⟩, ⟨0xe0, 0xe0, 0, [126], [126]⟩, ⟨0xe1, 0xe1, 0, [126, 126], []⟩]
def findM (op : UInt8) : Option RowT := rowsM.find? fun r => decide (r.fr ≤ op) && decide (op ≤ r.upto)
def behindM (D : List UInt8) (b : Nat) (i : Nat) : Except (Int × Int) (Nat × Nat) :=
  if b = 1 then UM D i
  else if b = 2 then match S32M D i with
    | .error e => .error e
    | .ok (n, j) => .ok ((n % 4294967296).toNat, j)
  else if b = 3 then match S64M D i with
    | .error e => .error e
    | .ok (n, j) => .ok ((n % 18446744073709551616).toNat, j)
  else .ok (0, i)
def plainB (c : Ctx) (op : UInt8) (r : RowT) (s : Bd) : Res :=
  match behindM c.D r.behind s.i with
  | .error e => .error e
  | .ok (n, j) =>
    match takeAllM { s with i := j } r.takes with
    | none => wrongM s
    | some s1 => .ok (putM (emitM s1 ⟨op, n, 0, 0, 0⟩) r.gives)
def specialM (c : Ctx) (op : UInt8) (s : Bd) : Res :=
  if op = 0 then stopM s
  else if op = 2 ∨ op = 3 ∨ op = 4 then openM c op s
  else if op = 5 then turnM s
  else if op = 11 then endM s
  else if op = 12 ∨ op = 13 then branchM c op s
  else if op = 14 then tableM c s
  else if op = 15 then leaveM s
  else if op = 16 then callM c s
  else if op = 26 then dropM s
  else if op = 27 then chooseM s
  else if op = 35 ∨ op = 36 then globalM c op s
  else localM c op s
def stepM (c : Ctx) (s : Bd) : Res :=
  match byteM c.D s.i with
  | .error e => .error e
  | .ok (op, j) =>
    match findM op with
    | none => .error (2, s.i)
    | some r =>
      if s.closed = true ∧ op ≠ 5 ∧ op ≠ 11 then .error (3, s.i)
      else if r.behind = 4 then specialM c op { s with pos := s.i, i := j }
      else plainB c op r { s with pos := s.i, i := j }
def lookM (c : Ctx) : Nat → Bd → Res
  | 0, s => .ok s
  | n + 1, s =>
    if s.blocks = [] then (if s.i < c.D.length then .error (2, s.i) else .ok s)
    else match stepM c s with
      | .error e => .error e
      | .ok s1 => lookM c n s1

end Go.Proofs.YtdeplgkhmebalaaGreatDoor

namespace Go.Proofs.YtdeplgkhmebalaaGreatDoor
open Go.RowKit

abbrev Rd (α : Type) := Except (Int × Int) (α × Nat)

def manyM {α : Type} (one : Nat → Rd α) : Nat → Nat → Rd (List α)
  | 0, i => .ok ([], i)
  | n + 1, i => match one i with
    | .error e => .error e
    | .ok (x, j) => match manyM one n j with
      | .error e => .error e
      | .ok (l, k) => .ok (x :: l, k)
def listM (D : List UInt8) (most : Nat) (i : Nat) : Rd (List UInt8) :=
  match belowM D (most + 1) i with
  | .error e => .error e
  | .ok (n, j) => manyM (oneOfM D [127, 126]) n j
def typeM (D : List UInt8) (i : Nat) : Rd Ty :=
  match listM D 8 i with
  | .error e => .error e
  | .ok (p, j) => match listM D 1 j with
    | .error e => .error e
    | .ok (r, k) => .ok ((p, r), k)
def typesM (D : List UInt8) (i : Nat) : Rd (List Ty) :=
  match belowM D 17 i with
  | .error e => .error e
  | .ok (n, j) => manyM (typeM D) n j
def funcsM (D : List UInt8) (ts : List Ty) (i : Nat) : Rd (List Ty) :=
  match belowM D 17 i with
  | .error e => .error e
  | .ok (n, j) => manyM (fun i => match belowM D ts.length i with
      | .error e => .error e
      | .ok (k, j) => .ok (ts.getD k ([], []), j)) n j
def valueAtM (D : List UInt8) (t : UInt8) (i : Nat) : Rd Nat := behindM D (if t = 127 then 2 else 3) i
def globM (D : List UInt8) (i : Nat) : Rd ((UInt8 × Bool) × Nat) :=
  match oneOfM D [127, 126] i with
  | .error e => .error e
  | .ok (t, j) => match oneOfM D [0, 1] j with
    | .error e => .error e
    | .ok (f, k) => match valueAtM D t k with
      | .error e => .error e
      | .ok (v, m) => .ok (((t, f == 1), v), m)
def globsM (D : List UInt8) (i : Nat) : Rd (List ((UInt8 × Bool) × Nat)) :=
  match belowM D 9 i with
  | .error e => .error e
  | .ok (n, j) => manyM (globM D) n j
def magicM (D : List UInt8) (i : Nat) : Rd Unit :=
  match oneOfM D [83] i with
  | .error e => .error e
  | .ok (_, j) => match oneOfM D [84] j with
    | .error e => .error e
    | .ok (_, k) => match oneOfM D [75] k with
      | .error e => .error e
      | .ok (_, l) => match oneOfM D [1] l with
        | .error e => .error e
        | .ok (_, m) => .ok ((), m)

/-- A function of the flat list. -/
structure FnM where
  typ : Ty
  locals : Nat
  entry : Nat
structure Flat where
  funcs : List FnM
  globals : List Nat
  pages : Nat
  code : List Ins

def bodyM (D : List UInt8) (ts : List Ty) (gl : List (UInt8 × Bool)) (typ : Ty) (code : List Ins) (i : Nat) : Rd (FnM × List Ins) :=
  match UM D i with
  | .error e => .error e
  | .ok (size, j) =>
    if D.length - j < size then .error (2, i)
    else
      let P := D.take (j + size)
      match listM P (32 - typ.1.length) j with
      | .error e => .error e
      | .ok (more, k) =>
        match lookM ⟨P, ts, gl, typ.1 ++ more⟩ 2001 ⟨k, code, [], [⟨0, typ.2, 0, 0, []⟩], 0, false⟩ with
        | .error e => .error e
        | .ok s => .ok ((⟨typ, typ.1.length + more.length, code.length⟩, s.code), j + size)
def bodiesM (D : List UInt8) (ts : List Ty) (gl : List (UInt8 × Bool)) : List Ty → List Ins → Nat → Rd (List FnM × List Ins)
  | [], code, i => .ok (([], code), i)
  | t :: rest, code, i => match bodyM D ts gl t code i with
    | .error e => .error e
    | .ok ((f, code1), j) => match bodiesM D ts gl rest code1 j with
      | .error e => .error e
      | .ok ((fs, code2), k) => .ok ((f :: fs, code2), k)
def loadM (D : List UInt8) : Except (Int × Int) Flat :=
  if 2000 < D.length then .error (1, 0)
  else match magicM D 0 with
  | .error e => .error e
  | .ok (_, i1) => match typesM D i1 with
    | .error e => .error e
    | .ok (ts, i2) => match funcsM D ts i2 with
      | .error e => .error e
      | .ok (fs, i3) => match globsM D i3 with
        | .error e => .error e
        | .ok (gs, i4) => match belowM D 5 i4 with
          | .error e => .error e
          | .ok (pages, i5) => match bodiesM D fs (gs.map (·.1)) fs [] i5 with
            | .error e => .error e
            | .ok ((fns, code), i6) => if i6 < D.length then .error (2, i6) else .ok ⟨fns, gs.map (·.2), pages, code⟩

end Go.Proofs.YtdeplgkhmebalaaGreatDoor
