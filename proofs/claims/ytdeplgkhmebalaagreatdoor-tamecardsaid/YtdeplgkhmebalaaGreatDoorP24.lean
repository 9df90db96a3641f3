/- The run of a module's code: what its state holds, and where it lies. -/
import Derived.Test.YtdeplgkhmebalaaGreatDoorP22
import Derived.Test.YtdeplgkhmebalaaGreatDoorP05
import Derived.Maps.OwnSet
import Derived.Test.YtdeplgkhmebalaaGreatDoorP23

namespace Go.Proofs.YtdeplgkhmebalaaGreatDoor
open Go.RowKit
open Go.Maps (Keyed)
structure Mc where
  stack : List Int
  calls : List (Nat × Nat × Nat)
  pos : Nat
  fuel : Nat
  mem : List UInt8
  gl : List Int
  keys : List (Int × Int)
def callCells (c : Nat × Nat × Nat) : List Value := [.int .i64 c.1, .int .i64 c.2.1, .int .i64 c.2.2]
theorem callLen (c : Nat × Nat × Nat) : (callCells c).length = 3 := rfl
def ins0 : Ins := ⟨0, 0, 0, 0, 0⟩
def fn0 : FnM := ⟨([], []), 0, 0⟩
def FuncsAt (w : World) (ro : Nat → Prop) (v : Value) (fs : List FnM) : Prop :=
  ∃ ad cap, v = .slice ad fs.length cap ∧ fs.length ≤ cap ∧ ∀ k, k < fs.length → ∃ a o pv rv, ad = some ⟨a, o, none⟩ ∧ ro a ∧ w.cell? ⟨a, o + k * 4, none⟩ = some pv ∧ w.cell? ⟨a, o + k * 4 + 1, none⟩ = some rv ∧
    w.cell? ⟨a, o + k * 4 + 2, none⟩ = some (.int .i64 (fs.getD k fn0).locals) ∧ w.cell? ⟨a, o + k * 4 + 3, none⟩ = some (.int .i64 (fs.getD k fn0).entry) ∧
    BytesAt w pv (fs.getD k fn0).typ.1 ∧ RoV ro pv ∧ BytesAt w rv (fs.getD k fn0).typ.2 ∧ RoV ro rv
def CodeAt (w : World) (ro : Nat → Prop) (v : Value) (cs : List Ins) : Prop :=
  ∃ ad cap, v = .slice ad cs.length cap ∧ cs.length ≤ cap ∧ ∀ k, k < cs.length → ∃ a o, ad = some ⟨a, o, none⟩ ∧ ro a ∧ w.cell? ⟨a, o + k * 5, none⟩ = some (.int .u8 (cs.getD k ins0).op.toNat) ∧ w.cell? ⟨a, o + k * 5 + 1, none⟩ = some (.int .u64 (cs.getD k ins0).num) ∧
    w.cell? ⟨a, o + k * 5 + 2, none⟩ = some (.int .i64 (cs.getD k ins0).goal) ∧ w.cell? ⟨a, o + k * 5 + 3, none⟩ = some (.int .i64 (cs.getD k ins0).height) ∧ w.cell? ⟨a, o + k * 5 + 4, none⟩ = some (.int .i64 (cs.getD k ins0).keep)
def valCells (l : List Int) : List Value := l.map fun n => .int .u64 n
def ValsAt (w : World) (v : Value) (l : List Int) : Prop := RowAt w v 1 l.length (valCells l)
structure ModG (w : World) (ro : Nat → Prop) (fb : Nat) (t : TypeId) (f : Flat) (fv gv cv : Value) : Prop where
  blk : w.heap[fb]? = some (.cells #[fv, gv, .int .i64 f.pages, cv] t)
  own : ro fb
  funcs : FuncsAt w ro fv f.funcs
  vals : ValsAt w gv (f.globals.map fun (n : Nat) => ((n : Nat) : Int))
  valsR : RoV ro gv
  code : CodeAt w ro cv f.code
def ModAt (w : World) (ro : Nat → Prop) (fb : Nat) (t : TypeId) (f : Flat) : Prop := ∃ fv gv cv, ModG w ro fb t f fv gv cv
theorem RowAt.ro {ro : Nat → Prop} {w w' : World} {v : Value} {sz n : Nat} {xs : List Value} (h : RowAt w v sz n xs) (hr : RoV ro v) (k : Kp (nro ro) w w') : RowAt w' v sz n xs := h.kp k (fun b hb hn => hn (hr b hb))
theorem FuncsAt.kp {ro : Nat → Prop} {w w' : World} {v : Value} {fs : List FnM} (h : FuncsAt w ro v fs) (k : Kp (nro ro) w w') : FuncsAt w' ro v fs := by
  obtain ⟨ad, cap, hv, hc, hk⟩ := h
  refine ⟨ad, cap, hv, hc, fun j hj => ?_⟩
  obtain ⟨a, o, pv, rv, had, hro, h1, h2, h3, h4, h5, h6, h7, h8⟩ := hk j hj
  exact ⟨a, o, pv, rv, had, hro, k.cell h1 (fun hn => hn hro), k.cell h2 (fun hn => hn hro), k.cell h3 (fun hn => hn hro), k.cell h4 (fun hn => hn hro), h5.ro h6 k, h6, h7.ro h8 k, h8⟩
theorem CodeAt.kp {ro : Nat → Prop} {w w' : World} {v : Value} {cs : List Ins} (h : CodeAt w ro v cs) (k : Kp (nro ro) w w') : CodeAt w' ro v cs := by
  obtain ⟨ad, cap, hv, hc, hk⟩ := h
  refine ⟨ad, cap, hv, hc, fun j hj => ?_⟩
  obtain ⟨a, o, had, hro, h1, h2, h3, h4, h5⟩ := hk j hj
  exact ⟨a, o, had, hro, k.cell h1 (fun hn => hn hro), k.cell h2 (fun hn => hn hro), k.cell h3 (fun hn => hn hro), k.cell h4 (fun hn => hn hro), k.cell h5 (fun hn => hn hro)⟩
theorem ModG.kp {ro : Nat → Prop} {w w' : World} {fb : Nat} {t : TypeId} {f : Flat} {fv gv cv : Value} (h : ModG w ro fb t f fv gv cv) (k : Kp (nro ro) w w') : ModG w' ro fb t f fv gv cv :=
  ⟨k.blk h.blk (fun hn => hn h.own), h.own, h.funcs.kp k, RowAt.ro h.vals h.valsR k, h.valsR, h.code.kp k⟩
theorem ModAt.kp {ro : Nat → Prop} {w w' : World} {fb : Nat} {t : TypeId} {f : Flat} (h : ModAt w ro fb t f) (k : Kp (nro ro) w w') : ModAt w' ro fb t f := by
  obtain ⟨fv, gv, cv, h⟩ := h
  exact ⟨fv, gv, cv, h.kp k⟩
theorem keyed64 : Keyed Tryz.prog 2 := Maps.int_keyed Tryz.underlying2
def look (m : List (Int × Int)) (k : Int) : Option Int := (m.find? fun p => p.1 == k).map (·.2)
def KRep (D : DataW Unit) (m : List (Int × Int)) : Prop :=
  Maps.size D = m.length ∧ ∀ k, Maps.has D (.int .i64 k) = (look m k).isSome ∧ D.atKey (.int .i64 k) (.lit (.int .i64 0)) = .lit (.int .i64 ((look m k).getD 0))
def KeysAt (w : World) (b : Nat) (m : List (Int × Int)) : Prop := ∃ D n, w.ownsMap Tryz.prog 2 (plainElem Tryz.prog 2) b n D ∧ n ≤ 1000 ∧ KRep D m
theorem KeysAt.kp {S : Nat → Prop} {w w' : World} {b : Nat} {m : List (Int × Int)} (h : KeysAt w b m) (k : Kp S w w') (hs : ¬ S b) : KeysAt w' b m := by
  obtain ⟨D, n, ⟨es, clock, hb, F, hn, hD⟩, h2⟩ := h
  exact ⟨D, n, ⟨es, clock, k.blk hb hs, F, hn, hD⟩, h2⟩
theorem KeysAt.lt {w : World} {b : Nat} {m : List (Int × Int)} (h : KeysAt w b m) : b < w.heap.size := by
  obtain ⟨D, n, h1, h2⟩ := h
  exact h1.lt
structure MEnv where
  B : Nat
  lo : Nat → Prop
  mb : Nat
  sb : Nat
  kb : Nat
  fb : Nat
  ft : TypeId
  f : Flat
  ro : Nat → Prop
abbrev machObj (E : MEnv) (s : Mc) (sv cv : Value) : Obj := .cells #[ptrTo E.fb, ptrTo E.sb, sv, cv, .int .i64 s.pos, .int .i64 s.fuel] 172
abbrev stObj (E : MEnv) (mv gv : Value) : Obj := .cells #[mv, gv, .map (some E.kb)] 125
def byteCells' (l : List UInt8) : List Value := l.map fun c => .int .u8 c.toNat
structure MStG (E : MEnv) (w : World) (s : Mc) (role : Nat → Nat) (sv cv mv gv : Value) : Prop where
  base : E.B ≤ w.heap.size
  mod : ModAt w E.ro E.fb E.ft E.f
  mach : w.heap[E.mb]? = some (machObj E s sv cv)
  st : w.heap[E.sb]? = some (stObj E mv gv)
  stack : w.ownsRow E.B 38 1 sv s.stack.length (valCells s.stack)
  calls : w.ownsRow E.B 210 3 cv s.calls.length (s.calls.flatMap callCells)
  mem : w.ownsRow E.B 5 1 mv s.mem.length (byteCells' s.mem)
  gl : w.ownsRow E.B 38 1 gv s.gl.length (valCells s.gl)
  keys : KeysAt w E.kb s.keys
  r1 : role E.mb = 1
  r2 : role E.sb = 2
  r3 : ∀ b, sv.ownBlock = some b → role b = 3
  r4 : ∀ b, cv.ownBlock = some b → role b = 4
  r5 : ∀ b, mv.ownBlock = some b → role b = 5
  r6 : ∀ b, gv.ownBlock = some b → role b = 6
  r7 : role E.kb = 7
  low : ∀ b, E.lo b → role b = 0
  loS : ∀ b, E.lo b → b < w.heap.size
  roB : ∀ b, E.ro b → E.lo b
abbrev upm (E : MEnv) : Nat → Prop := fun b => ¬ E.lo b
def MSt (E : MEnv) (w : World) (s : Mc) : Prop := ∃ role sv cv mv gv, MStG E w s role sv cv mv gv
section
variable {E : MEnv} {w w' : World} {s : Mc} {role : Nat → Nat} {sv cv mv gv : Value} {X : Nat → Prop}
theorem MStG.up (h : MStG E w s role sv cv mv gv) (k : Kp (fun b => X (role b)) w w') (h0 : ¬ X 0) : Kp (upm E) w w' := k.mono (fun b _ hx hlt => h0 (by rw [← h.low b hlt]; exact hx))
theorem MStG.kMod (h : MStG E w s role sv cv mv gv) (k : Kp (fun b => X (role b)) w w') (h0 : ¬ X 0) : ModAt w' E.ro E.fb E.ft E.f := h.mod.kp (k.mono (fun b _ hx hr => h0 (by rw [← h.low b (h.roB b hr)]; exact hx)))
theorem MStG.kMach (h : MStG E w s role sv cv mv gv) (k : Kp (fun b => X (role b)) w w') (h1 : ¬ X 1) : w'.heap[E.mb]? = some (machObj E s sv cv) := k.blk h.mach (fun hx => h1 (by rw [← h.r1]; exact hx))
theorem MStG.kSt (h : MStG E w s role sv cv mv gv) (k : Kp (fun b => X (role b)) w w') (h1 : ¬ X 2) : w'.heap[E.sb]? = some (stObj E mv gv) := k.blk h.st (fun hx => h1 (by rw [← h.r2]; exact hx))
theorem MStG.kStack (h : MStG E w s role sv cv mv gv) (k : Kp (fun b => X (role b)) w w') (h1 : ¬ X 3) : w'.ownsRow E.B 38 1 sv s.stack.length (valCells s.stack) := k.own h.stack (fun b hb hx => h1 (by rw [← h.r3 b hb]; exact hx))
theorem MStG.kCalls (h : MStG E w s role sv cv mv gv) (k : Kp (fun b => X (role b)) w w') (h1 : ¬ X 4) : w'.ownsRow E.B 210 3 cv s.calls.length (s.calls.flatMap callCells) := k.own h.calls (fun b hb hx => h1 (by rw [← h.r4 b hb]; exact hx))
theorem MStG.kMem (h : MStG E w s role sv cv mv gv) (k : Kp (fun b => X (role b)) w w') (h1 : ¬ X 5) : w'.ownsRow E.B 5 1 mv s.mem.length (byteCells' s.mem) := k.own h.mem (fun b hb hx => h1 (by rw [← h.r5 b hb]; exact hx))
theorem MStG.kGl (h : MStG E w s role sv cv mv gv) (k : Kp (fun b => X (role b)) w w') (h1 : ¬ X 6) : w'.ownsRow E.B 38 1 gv s.gl.length (valCells s.gl) := k.own h.gl (fun b hb hx => h1 (by rw [← h.r6 b hb]; exact hx))
theorem MStG.kKeys (h : MStG E w s role sv cv mv gv) (k : Kp (fun b => X (role b)) w w') (h1 : ¬ X 7) : KeysAt w' E.kb s.keys := h.keys.kp k (fun hx => h1 (by rw [← h.r7]; exact hx))
theorem MStG.rerole (h : MStG E w s role sv cv mv gv) {role' : Nat → Nat} (hr : ∀ k, k < w.heap.size → role' k = role k) : MStG E w s role' sv cv mv gv :=
  ⟨h.base, h.mod, h.mach, h.st, h.stack, h.calls, h.mem, h.gl, h.keys, (hr _ (lt_of_blk h.mach)).trans h.r1, (hr _ (lt_of_blk h.st)).trans h.r2,
    fun b hb => (hr b (own_lt h.stack hb)).trans (h.r3 b hb), fun b hb => (hr b (own_lt h.calls hb)).trans (h.r4 b hb), fun b hb => (hr b (own_lt h.mem hb)).trans (h.r5 b hb), fun b hb => (hr b (own_lt h.gl hb)).trans (h.r6 b hb),
    (hr _ h.keys.lt).trans h.r7, fun b hb => (hr b (h.loS b hb)).trans (h.low b hb), h.loS, h.roB⟩
theorem MStG.renew (h : MStG E w s role sv cv mv gv) (z : Nat) : MStG E w s (newRole role w.heap.size z) sv cv mv gv := h.rerole (fun _ hk => newRole_old hk)
theorem MStG.quiet (h : MStG E w s role sv cv mv gv) (k : Kp no w w') : MStG E w' s role sv cv mv gv := by
  have k' : Kp (fun b => (fun _ => False) (role b)) w w' := k
  exact ⟨Nat.le_trans h.base k.size, h.kMod (X := fun _ => False) k' (fun h => h), (h.kMach (X := fun _ => False) k' (fun h => h) :), (h.kSt (X := fun _ => False) k' (fun h => h) :), (h.kStack (X := fun _ => False) k' (fun h => h) :), (h.kCalls (X := fun _ => False) k' (fun h => h) :), (h.kMem (X := fun _ => False) k' (fun h => h) :), (h.kGl (X := fun _ => False) k' (fun h => h) :), (h.kKeys (X := fun _ => False) k' (fun h => h) :),
    h.r1, h.r2, h.r3, h.r4, h.r5, h.r6, h.r7, h.low, fun b hb => Nat.lt_of_lt_of_le (h.loS b hb) k.size, h.roB⟩
theorem MStG.setMach (h : MStG E w s role sv cv mv gv) {s' : Mc} {sv' cv' : Value} (k : Kp (fun b => (fun r => r = 1 ∨ r = 3 ∨ r = 4) (role b)) w w') (e1 : s'.mem = s.mem) (e2 : s'.gl = s.gl) (e3 : s'.keys = s.keys)
    (hm : w'.heap[E.mb]? = some (machObj E s' sv' cv')) (hs : w'.ownsRow E.B 38 1 sv' s'.stack.length (valCells s'.stack)) (hc : w'.ownsRow E.B 210 3 cv' s'.calls.length (s'.calls.flatMap callCells))
    (h3 : ∀ b, sv'.ownBlock = some b → role b = 3) (h4 : ∀ b, cv'.ownBlock = some b → role b = 4) : MStG E w' s' role sv' cv' mv gv :=
  ⟨Nat.le_trans h.base k.size, h.kMod (X := fun r => r = 1 ∨ r = 3 ∨ r = 4) k (by decide), hm, (h.kSt (X := fun r => r = 1 ∨ r = 3 ∨ r = 4) k (by decide) :), hs, hc, by rw [e1]; exact h.kMem (X := fun r => r = 1 ∨ r = 3 ∨ r = 4) k (by decide), by rw [e2]; exact h.kGl (X := fun r => r = 1 ∨ r = 3 ∨ r = 4) k (by decide), by rw [e3]; exact h.kKeys (X := fun r => r = 1 ∨ r = 3 ∨ r = 4) k (by decide),
    h.r1, h.r2, h3, h4, h.r5, h.r6, h.r7, h.low, fun b hb => Nat.lt_of_lt_of_le (h.loS b hb) k.size, h.roB⟩
theorem MStG.setSt (h : MStG E w s role sv cv mv gv) {s' : Mc} {mv' gv' : Value} (k : Kp (fun b => (fun r => r = 2 ∨ r = 5 ∨ r = 6 ∨ r = 7) (role b)) w w') (e1 : s'.stack = s.stack) (e2 : s'.calls = s.calls) (e3 : s'.pos = s.pos) (e4 : s'.fuel = s.fuel)
    (hm : w'.heap[E.sb]? = some (stObj E mv' gv')) (hs : w'.ownsRow E.B 5 1 mv' s'.mem.length (byteCells' s'.mem)) (hc : w'.ownsRow E.B 38 1 gv' s'.gl.length (valCells s'.gl)) (hk : KeysAt w' E.kb s'.keys)
    (h5 : ∀ b, mv'.ownBlock = some b → role b = 5) (h6 : ∀ b, gv'.ownBlock = some b → role b = 6) : MStG E w' s' role sv cv mv' gv' := by
  obtain ⟨st, ca, p, fu, me, gl, ke⟩ := s'
  obtain ⟨st', ca', p', fu', me', gl', ke'⟩ := s
  simp only at e1 e2 e3 e4
  subst e1 e2 e3 e4
  exact ⟨Nat.le_trans h.base k.size, h.kMod (X := fun r => r = 2 ∨ r = 5 ∨ r = 6 ∨ r = 7) k (by decide), (h.kMach (X := fun r => r = 2 ∨ r = 5 ∨ r = 6 ∨ r = 7) k (by decide) :), hm, (h.kStack (X := fun r => r = 2 ∨ r = 5 ∨ r = 6 ∨ r = 7) k (by decide) :), (h.kCalls (X := fun r => r = 2 ∨ r = 5 ∨ r = 6 ∨ r = 7) k (by decide) :), hs, hc, hk,
    h.r1, h.r2, h.r3, h.r4, h5, h6, h.r7, h.low, fun b hb => Nat.lt_of_lt_of_le (h.loS b hb) k.size, h.roB⟩
end
section
variable {E : MEnv} {w w' : World} {s : Mc}
theorem MSt.quiet (h : MSt E w s) (k : Kp no w w') : MSt E w' s := by
  obtain ⟨role, sv, cv, mv, gv, h⟩ := h
  exact ⟨role, sv, cv, mv, gv, h.quiet k⟩
def MEnv.plus (E : MEnv) (P : Nat → Prop) : MEnv := { E with lo := fun b => E.lo b ∨ P b }
theorem MSt.guard (h : MSt E w s) (k : Kp no w w') (P : Nat → Prop) (hP : ∀ b, P b → w.heap.size ≤ b ∧ b < w'.heap.size) : MSt (E.plus P) w' s := by
  obtain ⟨role, sv, cv, mv, gv, h⟩ := h
  have h2 := (h.renew 0).quiet k
  exact ⟨_, sv, cv, mv, gv, h2.base, h2.mod, h2.mach, h2.st, h2.stack, h2.calls, h2.mem, h2.gl, h2.keys, h2.r1, h2.r2, h2.r3, h2.r4, h2.r5, h2.r6, h2.r7,
    fun b hb => hb.elim (h2.low b) (fun hb => newRole_new (hP b hb).1), fun b hb => hb.elim (h2.loS b) (fun hb => (hP b hb).2), fun b hb => .inl (h2.roB b hb)⟩
theorem MSt.free {P : Nat → Prop} (h : MSt (E.plus P) w s) (hro : ∀ b, E.ro b → E.lo b) : MSt E w s := by
  obtain ⟨role, sv, cv, mv, gv, h⟩ := h
  exact ⟨role, sv, cv, mv, gv, h.base, h.mod, h.mach, h.st, h.stack, h.calls, h.mem, h.gl, h.keys, h.r1, h.r2, h.r3, h.r4, h.r5, h.r6, h.r7, fun b hb => h.low b (.inl hb), fun b hb => h.loS b (.inl hb), hro⟩
theorem MSt.roLo (h : MSt E w s) : ∀ b, E.ro b → E.lo b := by
  obtain ⟨role, sv, cv, mv, gv, h⟩ := h
  exact h.roB
theorem upm_plus {P : Nat → Prop} (k : Kp (upm (E.plus P)) w w') : Kp (upm E) w w' := k.mono (fun _b _ h hb => h (.inl hb))
theorem MSt.base (h : MSt E w s) : E.B ≤ w.heap.size := by
  obtain ⟨role, sv, cv, mv, gv, h⟩ := h
  exact h.base
theorem MSt.mod (h : MSt E w s) : ModAt w E.ro E.fb E.ft E.f := by
  obtain ⟨role, sv, cv, mv, gv, h⟩ := h
  exact h.mod
end
def stageF (k : Nat) : Nat := match k with
  | 0 => 75
  | 1 => 76
  | 2 => 77
  | 3 => 78
  | 4 => 79
  | 5 => 80
  | _ => 81
section
variable {I : LIds} {w : World} {s : Lkr}
theorem stage_any {k : Nat} (h : LSt I w s) (hi : Inv k s) (hR : RowsAt w I.lo) (hk : k < 7) : Calls Tryz.prog (stageF k) #[ptrTo I.kb] w fun r w' => LDone I w w' (stage I k s) r ∧ Kp (upl I) w w' := by
  match k, hi, hk with
  | 0, hi, _ => exact readMagic_any h
  | 1, hi, _ => exact readTypes_any h (by rw [hi.t0 (by decide)]; simp)
  | 2, hi, _ => exact readFuncs_any h (Nat.le_trans hi.tn (by decide)) (by rw [hi.f0 (by decide)]; simp)
  | 3, hi, _ => exact readGlobals_any h (by rw [(hi.g0 (by decide)).1]; simp) (by rw [(hi.g0 (by decide)).2]; simp)
  | 4, hi, _ => exact readPages_any h
  | 5, hi, _ => exact readBodies_any h hR (hi.fn (by decide)) hi.gn hi.fl (by rw [hi.c0 (by decide)]; simp)
  | 6, hi, _ => exact readEnd_any h
theorem LSt.toMod (h : LSt I w s) (hmb : I.B ≤ I.mb) : ∃ fv gv cv, w.heap[I.mb]? = some (.cells #[fv, gv, .int .i64 s.pages, cv] 121) ∧ ModG w (fun b => I.B ≤ b ∧ b < w.heap.size) I.mb 121 ⟨s.fns, s.vals, s.pages, s.code⟩ fv gv cv ∧ (∃ ad n cap, fv = .slice ad n cap) ∧ (∃ ad n cap, gv = .slice ad n cap) ∧ (∃ ad n cap, cv = .slice ad n cap) := by
  obtain ⟨role, tv, gv, fv, glv, cv, tys, fs, h⟩ := h
  have nr : ∀ {v : Value} {n : Nat} {xs : List Value} {e : TypeId} {sz : Nat}, w.ownsRow I.B e sz v n xs → RoV (fun b => I.B ≤ b ∧ b < w.heap.size) v := fun ho b hb => ⟨own_new ho b hb, own_lt ho hb⟩
  refine ⟨fv, glv, cv, h.mod, ⟨h.mod, ⟨hmb, lt_of_blk h.mod⟩, ?_, ?_, nr h.vals, ?_⟩, ?_, ?_, ?_⟩
  · obtain ⟨ad, cap, hfv, hcap⟩ := (RowAt.own h.funcs).shape
    refine ⟨ad, cap, hfv, hcap, fun k hk => ?_⟩
    have hk' : k < s.fns.length := hk
    obtain ⟨a, cap', x, hfv', -, hx, hxe, hxm, c0, c1, c2, c3, -⟩ := h.fn hk'
    rw [hfv] at hfv'
    cases hfv'
    have hin := nr h.funcs a (by rw [hfv]; rfl)
    have hxe' : x.1 = s.fns.getD k fn0 := hxe
    refine ⟨a, 0, x.2.1, x.2.2, rfl, hin, by rw [Nat.zero_add]; exact c0, by rw [Nat.zero_add]; exact c1, by rw [Nat.zero_add, ← hxe']; exact c2, by rw [Nat.zero_add, ← hxe']; exact c3, ?_, ?_, ?_, ?_⟩
    · rw [← hxe']; exact (h.fnB x hxm).1
    · exact fun b hb => ⟨(h.fnN x hxm).1 b hb, ((h.fnR x hxm).1 b hb).2⟩
    · rw [← hxe']; exact (h.fnB x hxm).2
    · exact fun b hb => ⟨(h.fnN x hxm).2 b hb, ((h.fnR x hxm).2 b hb).2⟩
  · have := RowAt.own h.vals
    unfold ValsAt
    simpa [valCells, List.map_map, Function.comp_def] using this
  · obtain ⟨ad, cap, hcv, hcap⟩ := (RowAt.own h.code).shape
    refine ⟨ad, cap, hcv, hcap, fun k hk => ?_⟩
    have hk' : k < s.code.length := hk
    obtain ⟨a, cap', hcv', -, -⟩ := h.code.form (by omega)
    have hin := nr h.code a (by rw [hcv']; rfl)
    have hc : ∀ j, j < 5 → w.cell? ⟨a, k * 5 + j, none⟩ = (Ins.cells (s.code.getD k ins0))[j]? := by
      intro j hj
      have := h.code
      rw [hcv'] at this
      rw [this.cellAt (k * 5 + j) (by omega), flat_get Ins.len s.code k j hj, List.getD_eq_getElem?_getD, List.getElem?_eq_getElem hk']; rfl
    rw [hcv] at hcv'
    cases hcv'
    exact ⟨a, 0, rfl, hin, by rw [Nat.zero_add]; exact hc 0 (by decide), by rw [Nat.zero_add]; exact hc 1 (by decide), by rw [Nat.zero_add]; exact hc 2 (by decide), by rw [Nat.zero_add]; exact hc 3 (by decide), by rw [Nat.zero_add]; exact hc 4 (by decide)⟩
  · obtain ⟨x1, x2, x3⟩ := own_shape h.funcs; exact ⟨x1, _, x2, x3⟩
  · obtain ⟨x1, x2, x3⟩ := own_shape h.vals; exact ⟨x1, _, x2, x3⟩
  · obtain ⟨x1, x2, x3⟩ := own_shape h.code; exact ⟨x1, _, x2, x3⟩
end
def MDone (w w' : World) (m : Except (Int × Int) Flat) (r : Ending) : Prop :=
  match m with
  | .ok f => ∃ mb fv gv cv, r = .returned (.tuple #[ptrTo mb, .pointer none]) ∧ ModG w' (fun b => w.heap.size ≤ b ∧ b < w'.heap.size) mb 121 f fv gv cv ∧ (∃ ad n cap, fv = .slice ad n cap) ∧ (∃ ad n cap, gv = .slice ad n cap) ∧ (∃ ad n cap, cv = .slice ad n cap)
  | .error e => ∃ fv, r = .returned (.tuple #[.pointer none, fv]) ∧ FaultAt w w' fv e
set_option maxRecDepth 100000 in
set_option maxHeartbeats 6000000 in
theorem module_any {w : World} {dv : Value} {D : List UInt8} (hb : BytesAt w dv D) (hd : ∀ b, dv.ownBlock = some b → b < w.heap.size) (hR : RowsAt w (fun b => b < w.heap.size)) (hl : D.length ≤ 1000000) :
    Calls Tryz.prog 54 #[dv] w fun r w' => MDone w w' (loadM D) r ∧ Kp no w w' := by
  obtain ⟨ad, cap, hv, hcap⟩ := hb.shape
  by_cases hlong : 2000 < D.length
  · have hM : loadM D = .error (1, 0) := by unfold loadM; rw [if_pos hlong]
    subst hv
    rw [hM]
    clear hM hb hR hd
    go_enter Tryz.func54, Tryz.ntmps54
    go_wp2
    go_ret2
    exact ⟨⟨ptrTo w.heap.size, rfl, w.heap.size, rfl, Nat.le_refl _, heap_alloc_new _ _⟩, (Kp.refl _ _).alloc _⟩
  · have hnew := new_any hb (by omega) hd
    have HB := hide hb
    have HN := hide hnew
    have HR := hide hR
    have HD := hide hd
    subst hv
    clear hb hnew hR hd
    go_enter Tryz.func54, Tryz.ntmps54
    go_wp2_with fail
    refine HN.out.mono ?_
    rintro r w1 ⟨rfl, hrs, k1⟩
    have HRs := hide hrs
    have hs1 := lt_of_blk hrs.blk
    have K1 := hide k1
    clear hrs k1
    go_wp2
    obtain ⟨mb, hmb⟩ : ∃ mb, mb = w1.heap.size := ⟨_, rfl⟩
    obtain ⟨F, hF⟩ : ∃ F : Array Value, F = #[.func (.func 75) #[ptrTo (w1.heap.size + 1)] #[], .func (.func 76) #[ptrTo (w1.heap.size + 1)] #[], .func (.func 77) #[ptrTo (w1.heap.size + 1)] #[], .func (.func 78) #[ptrTo (w1.heap.size + 1)] #[], .func (.func 79) #[ptrTo (w1.heap.size + 1)] #[], .func (.func 80) #[ptrTo (w1.heap.size + 1)] #[], .func (.func 81) #[ptrTo (w1.heap.size + 1)] #[]] := ⟨_, rfl⟩
    obtain ⟨W, hW⟩ : ∃ W, W = ((w1.alloc (.cells #[.slice none 0 0, .slice none 0 0, .int .i64 0, .slice none 0 0] 121)).alloc (.cells #[ptrTo w.heap.size, .slice none 0 0, .slice none 0 0, ptrTo w1.heap.size] 182)).alloc (.cells F 183) := ⟨_, rfl⟩
    have e1 : W.heap.size = w1.heap.size + 3 := by rw [hW]; simp
    have hk2 : W.heap[w1.heap.size + 1]? = some (.cells #[ptrTo w.heap.size, .slice none 0 0, .slice none 0 0, ptrTo w1.heap.size] 182) := by rw [hW]; exact heap_alloc_old (heap_alloc_at (by simp) _)
    have hm2 : W.heap[w1.heap.size]? = some (.cells #[.slice none 0 0, .slice none 0 0, .int .i64 0, .slice none 0 0] 121) := by rw [hW]; exact heap_alloc_old (heap_alloc_old (heap_alloc_at rfl _))
    obtain ⟨I, hI⟩ : ∃ I : LIds, I = ⟨w.heap.size, w1.heap.size + 3, fun b => b < w.heap.size ∨ b = w1.heap.size + 2, fun b hb => by rcases hb with h | h <;> omega, by omega, w.heap.size, w1.heap.size + 1, w1.heap.size, .slice ad D.length cap, D⟩ := ⟨_, rfl⟩
    have kW : Kp no w1 W := by rw [hW]; exact (((Kp.refl _ _).alloc _).alloc _).alloc _
    have hq : W.heap[w1.heap.size + 2]? = some (.cells F 183) := by rw [hW]; exact heap_alloc_at (by simp) _
    have hst : LSt I W lk0 := by
      rw [hI]
      refine ⟨fun b => if b = w.heap.size then 1 else if b = w1.heap.size then 2 else if b = w1.heap.size + 1 then 3 else 0, .slice none 0 0, .slice none 0 0, .slice none 0 0, .slice none 0 0, .slice none 0 0, [], [], ?_⟩
      refine ⟨by show w1.heap.size + 3 ≤ W.heap.size; omega, HRs.out.kp kW (fun h => h) (fun _ _ _ h => h), ?_, ?_, World.ownsRow_nil _ _ _ _, World.ownsRow_nil _ _ _ _, World.ownsRow_nil _ _ _ _, World.ownsRow_nil _ _ _ _, World.ownsRow_nil _ _ _ _, rfl, rfl, fun x hx => (by cases hx), fun x hx => (by cases hx), ?_, ?_, ?_, fun b hb => (by cases hb), fun b hb => (by cases hb), fun b hb => (by cases hb), fun b hb => (by cases hb), fun b hb => (by cases hb), fun x hx => (by cases hx), fun x hx => (by cases hx), ?_, fun b hb => .inl (HD.out b hb), fun x hx => (by cases hx), fun x hx => (by cases hx)⟩
      · exact hk2
      · exact hm2
      · exact if_pos rfl
      · show (if w1.heap.size = w.heap.size then 1 else if w1.heap.size = w1.heap.size then 2 else if w1.heap.size = w1.heap.size + 1 then 3 else 0) = 2
        rw [if_neg (by omega), if_pos rfl]
      · show (if w1.heap.size + 1 = w.heap.size then 1 else if w1.heap.size + 1 = w1.heap.size then 2 else if w1.heap.size + 1 = w1.heap.size + 1 then 3 else 0) = 3
        rw [if_neg (by omega), if_neg (by omega), if_pos rfl]
      · intro b hb
        show (if b = w.heap.size then 1 else if b = w1.heap.size then 2 else if b = w1.heap.size + 1 then 3 else 0) = 0
        rcases hb with h | h
        · rw [if_neg (by omega), if_neg (by omega), if_neg (by omega)]
        · rw [if_neg (by omega), if_neg (by omega), if_neg (by omega)]
    have hRW : RowsAt W I.lo := by
      have h1 := HR.out.kp (ro := fun b => b < w.heap.size) (w' := W) ((K1.out.trans kW).any)
      refine h1.le (fun b hb => ?_)
      rw [hI]; exact .inl hb
    have hIB : I.B = w.heap.size ∧ I.mb = w1.heap.size ∧ I.kb = w1.heap.size + 1 ∧ I.D = D ∧ I.lo (w1.heap.size + 2) := by rw [hI]; exact ⟨rfl, rfl, rfl, rfl, .inr rfl⟩
    have hlo : ∀ b, I.lo b ∨ w.heap.size ≤ b := fun b => by
      rw [hI]
      rcases Nat.lt_or_ge b w.heap.size with h | h
      · exact .inl (.inl h)
      · exact .inr h
    have hM := load_eq I (by rw [hIB.2.2.2.1]; omega)
    rw [hIB.2.2.2.1] at hM
    obtain ⟨hB, hmbI, hkbI, -, hqI⟩ := hIB
    have K2 := hide (K1.out.trans kW)
    have HSt := hide hst
    have HRW := hide hRW
    have HQ := hide hq
    have HM := hide hM
    have HLo := hide hlo
    have HFd := hide hF
    clear hst hRW hq hM hlo kW hI hmb hk2 hm2
    rw [← hF, ← hW]
    clear hF
    have hWs : w.heap.size ≤ W.heap.size := K2.out.size
    clear hW
    go_loopw [37] (fun kv wr => ∃ (k : Nat) (s : Lkr), k ≤ 7 ∧ kv = .int .i64 k ∧ LSt I wr s ∧ (k ≤ 5 → Inv k s) ∧ Kp (upl I) W wr ∧ stg I 7 lk0 = stg I (7 - k) s) (fun kv _ => 7 - (intOf kv).toNat)
    case atStart => exact ⟨0, lk0, by omega, rfl, HSt.out, fun _ => Inv.zero, (Kp.refl no W).any, rfl⟩
    case round =>
      obtain ⟨k, s, hk, rfl, hst, hinv, hkp, hlab⟩ := hrel
      have hQr := cells_of (hkp.blk HQ.out (fun hn => hn hqI))
      obtain ⟨hqc, -⟩ := hQr
      have HS := hide hst
      have HK := hide hkp
      have hszr := hkp.size
      have hF := HFd.out
      have hwB : Kp no w wr := K2.out.comp (S2 := upl I) hkp (fun _ _ h => h) (fun b hb hn => by
        rcases HLo.out b with h | h
        · exact hn h
        · omega)
      have KwB := hide hwB
      by_cases hk7 : k < 7
      · have hrw := HRW.out.kp (ro := I.lo) hkp
        have hinv' : Inv k s ∨ k = 6 := by
          rcases Nat.lt_or_ge k 6 with h | h
          · exact .inl (hinv (by omega))
          · exact .inr (by omega)
        have hone : Calls Tryz.prog (stageF k) #[ptrTo I.kb] wr fun r w' => LDone I wr w' (stage I k s) r ∧ Kp (upl I) wr w' := by
          rcases hinv' with h | h
          · exact stage_any hst h hrw hk7
          · subst h; exact readEnd_any hst
        have hnext := fun s' => fun (hle : k ≤ 4) (he : stage I k s = .ok s') => (hinv (by omega)).step hle he
        have hlab2 : stg I 7 lk0 = (match stage I k s with | .error e => .error e | .ok s' => stg I (6 - k) s') := by
          rw [hlab, show 7 - k = (6 - k) + 1 by omega]
          show (match stage I (6 - (6 - k)) s with | .error e => .error e | .ok s' => stg I (6 - k) s' : Except (Int × Int) Lkr) = _
          rw [show 6 - (6 - k) = k by omega]
        clear hlab
        have hlab := hlab2
        clear hlab2
        rw [hkbI] at hone
        generalize stage I k s = Q at *
        have hqc' : ∀ o, wr.cell? ⟨w1.heap.size + 1 + 1, o, none⟩ = F[o]? := hqc
        subst hF
        have HO := hide hone
        have HL := hide hlab
        clear hone hlab hst hkp hrw hinv hinv' hqc hwB
        match Q, HL, HO, hnext with
        | .error e, HL, HO, _ =>
          rcases (by omega : k = 0 ∨ k = 1 ∨ k = 2 ∨ k = 3 ∨ k = 4 ∨ k = 5 ∨ k = 6) with rfl | rfl | rfl | rfl | rfl | rfl | rfl
          all_goals
            go_wp2_with fail
            refine HO.out.mono ?_
            rintro r w3 ⟨⟨fv, rfl, fb, rfl, hfb, hfo⟩, k3⟩
            have HF := hide hfo
            have hfb' : w.heap.size ≤ fb := by omega
            have hwB := KwB.out.comp (S2 := upl I) k3 (fun _ _ h => h) (fun b hb hn => by
              rcases HLo.out b with h | h
              · exact hn h
              · omega)
            have KwB3 := hide hwB
            clear hfo k3 hwB
            go_wp2
            go_ret2
            rw [HM.out, HL.out]
            exact ⟨⟨ptrTo fb, rfl, fb, rfl, hfb', HF.out⟩, KwB3.out⟩
        | .ok s', HL, HO, hnext =>
          have hrel' : ∀ w3, LSt I w3 s' → Kp (upl I) wr w3 → ∃ (k2 : Nat) (s2 : Lkr), k2 ≤ 7 ∧ Value.int .i64 ((k + 1 : Nat) : Int) = .int .i64 k2 ∧ LSt I w3 s2 ∧ (k2 ≤ 5 → Inv k2 s2) ∧ Kp (upl I) W w3 ∧ stg I 7 lk0 = stg I (7 - k2) s2 :=
            fun w3 h3 k3 => ⟨k + 1, s', by omega, rfl, h3, fun h => hnext s' (by omega) rfl, HK.out.trans k3, by rw [HL.out, show 7 - (k + 1) = 6 - k by omega]⟩
          have HRel := hide hrel'
          clear hnext hrel'
          rcases (by omega : k = 0 ∨ k = 1 ∨ k = 2 ∨ k = 3 ∨ k = 4 ∨ k = 5 ∨ k = 6) with rfl | rfl | rfl | rfl | rfl | rfl | rfl
          all_goals
            go_wp2_with fail
            refine HO.out.mono ?_
            rintro r w3 ⟨⟨rfl, h3⟩, k3⟩
            have H3 := hide h3
            have K3 := hide k3
            clear h3 k3
            go_wp2
            go_roundw
            case rel => exact HRel.out _ H3.out K3.out
            case measure => simp [intOf]
      · obtain rfl : k = 7 := by omega
        have hlab' : stg I 7 lk0 = .ok s := hlab
        obtain ⟨fv, gv, cv, hmo, hmod, s1, s2, s3⟩ := hst.toMod (by rw [hB, hmbI]; omega)
        obtain ⟨tv1, gv1, hlk, -, -, -, -, -⟩ := hst.lookAt
        obtain ⟨hkc, -⟩ := cells_of hlk
        rw [hkbI] at hkc
        have HMod := hide hmod
        have HLb := hide hlab'
        clear hst hinv hkp hlab hlab' hmo hmod hqc hlk hwB hF
        subst HFd
        go_wp2
        go_ret2
        rw [HM.out, HLb.out]
        rw [hB, hmbI] at HMod
        exact ⟨⟨w1.heap.size, fv, gv, cv, rfl, HMod.out, s1, s2, s3⟩, KwB.out⟩
abbrev made (w w' : World) : Nat → Prop := fun b => w.heap.size ≤ b ∧ b < w'.heap.size
def LoadDone (w w' : World) (m : Except (Int × Int) Flat) (r : Ending) : Prop :=
  match m with
  | .ok f => ∃ mb, r = .returned (.tuple #[ptrTo mb, .int .i64 0, .int .i64 0]) ∧ ModAt w' (made w w') mb 123 f
  | .error e => r = .returned (.tuple #[.pointer none, .int .i64 e.1, .int .i64 e.2])
theorem RoV.le {ro ro' : Nat → Prop} {v : Value} (h : RoV ro v) (hr : ∀ b, ro b → ro' b) : RoV ro' v := fun b hb => hr b (h b hb)
theorem FuncsAt.le {w : World} {ro ro' : Nat → Prop} {v : Value} {fs : List FnM} (h : FuncsAt w ro v fs) (hr : ∀ b, ro b → ro' b) : FuncsAt w ro' v fs := by
  obtain ⟨ad, cap, hv, hc, hk⟩ := h
  refine ⟨ad, cap, hv, hc, fun j hj => ?_⟩
  obtain ⟨a, o, pv, rv, had, hro, h1, h2, h3, h4, h5, h6, h7, h8⟩ := hk j hj
  exact ⟨a, o, pv, rv, had, hr _ hro, h1, h2, h3, h4, h5, h6.le hr, h7, h8.le hr⟩
theorem CodeAt.le {w : World} {ro ro' : Nat → Prop} {v : Value} {cs : List Ins} (h : CodeAt w ro v cs) (hr : ∀ b, ro b → ro' b) : CodeAt w ro' v cs := by
  obtain ⟨ad, cap, hv, hc, hk⟩ := h
  refine ⟨ad, cap, hv, hc, fun j hj => ?_⟩
  obtain ⟨a, o, had, hro, h1⟩ := hk j hj
  exact ⟨a, o, had, hr _ hro, h1⟩
set_option maxRecDepth 100000 in
set_option maxHeartbeats 2000000 in
theorem load_any {w : World} {dv : Value} {D : List UInt8} (hb : BytesAt w dv D) (hd : ∀ b, dv.ownBlock = some b → b < w.heap.size) (hR : RowsAt w (fun b => b < w.heap.size)) (hl : D.length ≤ 1000000) :
    Calls Tryz.prog 35 #[dv] w fun r w' => LoadDone w w' (loadM D) r ∧ Kp no w w' := by
  have hm := module_any hb hd hR hl
  obtain ⟨ad, cap, rfl, hcap⟩ := hb.shape
  generalize loadM D = Q at *
  have HM := hide hm
  clear hm hb hd hR
  match Q, HM with
  | .error e, HM =>
    go_enter Tryz.func35, Tryz.ntmps35
    go_wp2_with fail
    refine HM.out.mono ?_
    rintro r w1 ⟨⟨fv, rfl, fb, rfl, hfb, hfo⟩, k1⟩
    obtain ⟨hfc, -⟩ := cells_of hfo
    have K1 := hide k1
    clear k1 hfo
    go_wp2_with fail
    refine wp_region_S 11 (fun w' => ∀ o, w'.cell? ⟨fb, o, none⟩ = #[.int .i64 e.1, .int .i64 e.2][o]?) (by kernel_rfl) (n := 11) (listed := #[false, false, false, false, false, false, false, false, false, false, false]) rfl (by kernel_rfl) ?hS (fun hS => ?_)
    case hS => exact fun o => hfc o
    refine tk 0 [] rfl (by kernel_rfl) rfl (fun _ _ _ h => h) hS (fun _ h => by (try dsimp only at h); go_simp; all_goals with_reducible rfl) ?_
    simp only [pS]
    refine tk 1 [] rfl (by kernel_rfl) rfl (fun _ _ _ h => h) hS (fun _ h => by (try dsimp only at h); go_simp; all_goals with_reducible rfl) ?_
    simp only [pS]
    refine tk 2 [] rfl (by kernel_rfl) rfl (fun _ _ _ h => h) hS (fun _ h => by (try dsimp only at h); go_simp; all_goals with_reducible rfl) ?_
    simp only [pS]
    refine tk 3 [] rfl (by kernel_rfl) rfl (fun _ _ _ h => h) hS (fun _ h => by (try dsimp only at h); go_simp; all_goals with_reducible rfl) ?_
    simp only [pS]
    refine tk 4 [] rfl (by kernel_rfl) rfl (fun _ _ _ h => h) hS (fun _ h => by (try dsimp only at h); go_simp; all_goals with_reducible rfl) ?_
    simp only [pS]
    refine tk 5 [] rfl (by kernel_rfl) rfl (fun _ _ _ h => h) hS (fun _ h => by (try dsimp only at h); go_simp; all_goals with_reducible rfl) ?_
    simp only [pS]
    refine tk 6 [] rfl (by kernel_rfl) rfl (fun _ _ _ h => h) hS (fun _ h => by (try dsimp only at h); go_simp; all_goals with_reducible rfl) ?_
    simp only [pS]
    refine tk 7 [] rfl (by kernel_rfl) rfl (fun _ _ _ h => h) hS (fun _ h => by (try dsimp only at h); go_simp; all_goals with_reducible rfl) ?_
    simp only [pS]
    refine tk 8 [] rfl (by kernel_rfl) rfl (fun _ _ _ h => h) hS (fun _ h => by (try dsimp only at h); go_simp; all_goals with_reducible rfl) ?_
    simp only [pS]
    refine tk 9 [] rfl (by kernel_rfl) rfl (fun _ _ _ h => h) hS (fun _ h => by (try dsimp only at h); go_simp; all_goals with_reducible rfl) ?_
    simp only [pS]
    refine tk 10 [] rfl (by kernel_rfl) rfl (fun _ _ _ h => h) hS (fun _ h => by (try dsimp only at h); go_simp; all_goals with_reducible rfl) ?_
    simp only [pS]
    refine wpAnyS_done (by kernel_rfl) ?_ _
    clear hS
    go_wp2
    go_ret3
    exact ⟨rfl, K1.out.drew⟩
  | .ok f, HM =>
    go_enter Tryz.func35, Tryz.ntmps35
    go_wp2_with fail
    refine HM.out.mono ?_
    rintro r w1 ⟨⟨mb, fv, gv, cv, rfl, hmod, ⟨a1, n1, c1, rfl⟩, ⟨a2, n2, c2, rfl⟩, ⟨a3, n3, c3, rfl⟩⟩, k1⟩
    obtain ⟨hmc, -⟩ := cells_of hmod.blk
    have K1 := hide k1
    have HMod := hide hmod
    have hsz := k1.size
    clear k1 hmod
    go_wp2
    go_ret3
    have kF : Kp no w1 (w1.alloc (.cells #[.slice a1 n1 c1, .slice a2 n2 c2, .int .i64 f.pages, .slice a3 n3 c3] 123)) := (Kp.refl _ _).alloc _
    refine ⟨⟨w1.heap.size, rfl, .slice a1 n1 c1, .slice a2 n2 c2, .slice a3 n3 c3, heap_alloc_new _ _, ⟨hsz, by simp⟩, ?_, ?_, ?_, ?_⟩, K1.out.alloc _⟩
    · exact (HMod.out.funcs.kp kF.any).le (fun b hb => ⟨hb.1, by have := hb.2; simp; omega⟩)
    · exact RowAt.kp HMod.out.vals kF (fun _ _ h => h)
    · exact HMod.out.valsR.le (fun b hb => ⟨hb.1, by have := hb.2; simp; omega⟩)
    · exact (HMod.out.code.kp kF.any).le (fun b hb => ⟨hb.1, by have := hb.2; simp; omega⟩)
def putR (s : Mc) (v : Int) : Mc := { s with stack := s.stack ++ [v] }
def topR (s : Mc) : Int := s.stack.getD (s.stack.length - 1) 0
def popR (s : Mc) : Mc := { s with stack := s.stack.take (s.stack.length - 1) }
def sinkR (s : Mc) (h k : Nat) : Mc := { s with stack := s.stack.take h ++ s.stack.drop (s.stack.length - k) }
def curR (s : Mc) : Nat × Nat × Nat := s.calls.getD (s.calls.length - 1) (0, 0, 0)
theorem info_call : (Tryz.prog.info? 210).map (fun i => (i.zero, i.size, i.bytes)) = some (some (.agg #[.int .i64 0, .int .i64 0, .int .i64 0]), 3, 24) := by kernel_rfl
theorem info_u64' : (Tryz.prog.info? 38).map (fun i => (i.zero, i.size, i.bytes)) = some (some (.int .u64 0), 1, 8) := by kernel_rfl
theorem valLen (l : List Int) : (valCells l).length = l.length := by simp [valCells]
theorem vals_oneCell (l : List Int) : ∀ u ∈ valCells l, u.oneCell' = true := by
  intro u hu
  obtain ⟨c, -, rfl⟩ := List.mem_map.1 hu
  rfl
theorem ownBlock_len (ad : Option Addr) (n c m c' : Nat) : (Value.slice ad n c).ownBlock = (Value.slice ad m c').ownBlock := by cases ad <;> rfl
theorem own_prefix {w : World} {base : Nat} {e : TypeId} {sz : Nat} {ad : Option Addr} {cap n m : Nat} {xs : List Value} (h : w.ownsRow base e sz (.slice ad n cap) n xs) (hm : m ≤ n) : w.ownsRow base e sz (.slice ad m cap) m (xs.take (m * sz)) := by
  obtain ⟨h1, ⟨h2, h3⟩ | ⟨g', cap', cur, hv, hb, hh, hc, hmx, hsz, ht⟩⟩ := h
  · obtain rfl : m = 0 := by omega
    cases h2
    exact ⟨by simp, .inl ⟨rfl, rfl⟩⟩
  · cases hv
    have hle : m * sz ≤ n * sz := Nat.mul_le_mul_right _ hm
    refine ⟨by rw [List.length_take, h1]; omega, .inr ⟨g', cap, cur, rfl, hb, hh, by omega, hmx, hsz, ?_⟩⟩
    rw [← ht, List.take_take]
    congr 1
    omega
section
variable {E : MEnv} {w : World} {s : Mc}
theorem MSt.open (h : MSt E w s) : ∃ sv cv, w.heap[E.mb]? = some (machObj E s sv cv) ∧ (∃ ad cap, sv = .slice ad s.stack.length cap ∧ s.stack.length ≤ cap) ∧ (∃ ad cap, cv = .slice ad s.calls.length cap ∧ s.calls.length ≤ cap) ∧ some E.mb ≠ sv.ownBlock ∧ some E.mb ≠ cv.ownBlock ∧ (∀ b, sv.ownBlock = some b → cv.ownBlock ≠ some b) ∧
    w.ownsRow E.B 38 1 sv s.stack.length (valCells s.stack) ∧ w.ownsRow E.B 210 3 cv s.calls.length (s.calls.flatMap callCells) ∧ E.sb ≠ E.mb ∧
    (∀ W w5 v1 l, Kp no w W → w5.ownsRow E.B 38 1 v1 l.length (valCells l) → W.grownBy w5 sv.ownBlock → (v1.ownBlock = sv.ownBlock ∨ v1.ownBlock = some W.heap.size) → MSt E (w5.setCell ⟨E.mb, 2, none⟩ v1) { s with stack := l } ∧ Kp (upm E) w (w5.setCell ⟨E.mb, 2, none⟩ v1)) ∧
    (∀ W w5 v1 l, Kp no w W → w5.ownsRow E.B 210 3 v1 l.length (l.flatMap callCells) → W.grownBy w5 cv.ownBlock → (v1.ownBlock = cv.ownBlock ∨ v1.ownBlock = some W.heap.size) → MSt E (w5.setCell ⟨E.mb, 3, none⟩ v1) { s with calls := l } ∧ Kp (upm E) w (w5.setCell ⟨E.mb, 3, none⟩ v1)) ∧
    (∀ W (p : Nat), Kp no w W → MSt E (W.setCell ⟨E.mb, 4, none⟩ (.int .i64 p)) { s with pos := p } ∧ Kp (upm E) w (W.setCell ⟨E.mb, 4, none⟩ (.int .i64 p))) ∧
    (∀ W (p : Nat), Kp no w W → MSt E (W.setCell ⟨E.mb, 5, none⟩ (.int .i64 p)) { s with fuel := p } ∧ Kp (upm E) w (W.setCell ⟨E.mb, 5, none⟩ (.int .i64 p))) ∧
    (∀ W a k v, Kp no w W → sv.ownBlock = some a → k < s.stack.length → MSt E (W.setCell ⟨a, k, none⟩ (.int .u64 v)) { s with stack := s.stack.set k v } ∧ Kp (upm E) w (W.setCell ⟨a, k, none⟩ (.int .u64 v))) ∧
    (∀ b, E.lo b → some b ≠ sv.ownBlock ∧ some b ≠ cv.ownBlock ∧ b ≠ E.mb) := by
  obtain ⟨role, sv, cv, mv, gv, h⟩ := h
  have n1 : some E.mb ≠ sv.ownBlock := fun e => by have := h.r3 _ e.symm; rw [h.r1] at this; cases this
  have n2 : some E.mb ≠ cv.ownBlock := fun e => by have := h.r4 _ e.symm; rw [h.r1] at this; cases this
  refine ⟨sv, cv, h.mach, (RowAt.own h.stack).shape, (RowAt.own h.calls).shape, n1, n2, fun b hb e => ?_, h.stack, h.calls, fun e => ?_, fun W w5 v1 l kW ho hg ha => ?_, fun W w5 v1 l kW ho hg ha => ?_, fun W p kW => ?_, fun W p kW => ?_, fun W a k v kW ha hk => ?_, fun b hb => ⟨fun e => ?_, fun e => ?_, fun e => ?_⟩⟩
  · have h1 := h.r3 b hb; rw [h.r4 b e] at h1; cases h1
  · have h1 := h.r1; rw [← e, h.r2] at h1; cases h1
  · have h2 : MStG E W s (newRole role W.heap.size 3) sv cv mv gv := (h.quiet kW).renew 3
    have hv : ∀ b, v1.ownBlock = some b → newRole role W.heap.size 3 b = 3 := by
      intro b hb
      rcases ha with e | e
      · exact h2.r3 b (e ▸ hb)
      · rw [hb] at e; cases e; exact newRole_new (Nat.le_refl _)
    have k4 : Kp (fun b => (fun r => r = 1 ∨ r = 3 ∨ r = 4) (newRole role W.heap.size 3 b)) W w5 := (Kp.refl _ W).grown hg (fun b hb => .inl (.inr (.inl (h2.r3 b hb))))
    have k5 : Kp (fun b => (fun r => r = 1 ∨ r = 3 ∨ r = 4) (newRole role W.heap.size 3 b)) W (w5.setCell ⟨E.mb, 2, none⟩ v1) := k4.setAt (.inl h2.r1) _ _
    have hm : w5.heap[E.mb]? = some (machObj E s sv cv) := (hg.block E.mb (lt_of_blk h2.mach) n1).trans h2.mach
    have ho' : (w5.setCell ⟨E.mb, 2, none⟩ v1).ownsRow E.B 38 1 v1 l.length (valCells l) := ((Kp.refl (one E.mb) w5).set1 _ _).own ho (fun b hb (e : b = E.mb) => by have := hv b hb; rw [e, h2.r1] at this; cases this)
    have hc' : (w5.setCell ⟨E.mb, 2, none⟩ v1).ownsRow E.B 210 3 cv s.calls.length (s.calls.flatMap callCells) := by
      have k45 : Kp (fun b => some b = sv.ownBlock ∨ b = E.mb) W (w5.setCell ⟨E.mb, 2, none⟩ v1) := Kp.setAt (S := fun b => some b = sv.ownBlock ∨ b = E.mb) ((Kp.refl _ W).grown hg (fun b hb => .inl (.inl hb.symm))) (.inr rfl) _ _
      refine k45.own h2.calls (fun b hb e => ?_)
      rcases e with e | e
      · have := h2.r4 b hb; rw [h2.r3 b e.symm] at this; cases this
      · have := h2.r4 b hb; rw [e, h2.r1] at this; cases this
    exact ⟨⟨_, v1, cv, mv, gv, h2.setMach (s' := { s with stack := l }) k5 rfl rfl rfl (heap_setCell hm _) ho' hc' hv h2.r4⟩, kW.any.trans (h2.up (X := fun r => r = 1 ∨ r = 3 ∨ r = 4) k5 (by decide))⟩
  · have h2 : MStG E W s (newRole role W.heap.size 4) sv cv mv gv := (h.quiet kW).renew 4
    have hv : ∀ b, v1.ownBlock = some b → newRole role W.heap.size 4 b = 4 := by
      intro b hb
      rcases ha with e | e
      · exact h2.r4 b (e ▸ hb)
      · rw [hb] at e; cases e; exact newRole_new (Nat.le_refl _)
    have k4 : Kp (fun b => (fun r => r = 1 ∨ r = 3 ∨ r = 4) (newRole role W.heap.size 4 b)) W w5 := (Kp.refl _ W).grown hg (fun b hb => .inl (.inr (.inr (h2.r4 b hb))))
    have k5 : Kp (fun b => (fun r => r = 1 ∨ r = 3 ∨ r = 4) (newRole role W.heap.size 4 b)) W (w5.setCell ⟨E.mb, 3, none⟩ v1) := k4.setAt (.inl h2.r1) _ _
    have hm : w5.heap[E.mb]? = some (machObj E s sv cv) := (hg.block E.mb (lt_of_blk h2.mach) n2).trans h2.mach
    have ho' : (w5.setCell ⟨E.mb, 3, none⟩ v1).ownsRow E.B 210 3 v1 l.length (l.flatMap callCells) := ((Kp.refl (one E.mb) w5).set1 _ _).own ho (fun b hb (e : b = E.mb) => by have := hv b hb; rw [e, h2.r1] at this; cases this)
    have hc' : (w5.setCell ⟨E.mb, 3, none⟩ v1).ownsRow E.B 38 1 sv s.stack.length (valCells s.stack) := by
      have k45 : Kp (fun b => some b = cv.ownBlock ∨ b = E.mb) W (w5.setCell ⟨E.mb, 3, none⟩ v1) := Kp.setAt (S := fun b => some b = cv.ownBlock ∨ b = E.mb) ((Kp.refl _ W).grown hg (fun b hb => .inl (.inl hb.symm))) (.inr rfl) _ _
      refine k45.own h2.stack (fun b hb e => ?_)
      rcases e with e | e
      · have := h2.r3 b hb; rw [h2.r4 b e.symm] at this; cases this
      · have := h2.r3 b hb; rw [e, h2.r1] at this; cases this
    exact ⟨⟨_, sv, v1, mv, gv, h2.setMach (s' := { s with calls := l }) k5 rfl rfl rfl (heap_setCell hm _) hc' ho' h2.r3 hv⟩, kW.any.trans (h2.up (X := fun r => r = 1 ∨ r = 3 ∨ r = 4) k5 (by decide))⟩
  · have h2 := h.quiet kW
    have k5 : Kp (fun b => (fun r => r = 1 ∨ r = 3 ∨ r = 4) (role b)) W (W.setCell ⟨E.mb, 4, none⟩ (.int .i64 p)) := (Kp.refl _ W).setAt (.inl h2.r1) _ _
    have k1 : Kp (one E.mb) W (W.setCell ⟨E.mb, 4, none⟩ (.int .i64 p)) := (Kp.refl _ W).set1 _ _
    exact ⟨⟨role, sv, cv, mv, gv, h2.setMach (s' := { s with pos := p }) k5 rfl rfl rfl (heap_setCell h2.mach _) (k1.own h2.stack (fun b hb (e : b = E.mb) => n1 (by rw [← e]; exact hb.symm))) (k1.own h2.calls (fun b hb (e : b = E.mb) => n2 (by rw [← e]; exact hb.symm))) h2.r3 h2.r4⟩, kW.any.trans (h2.up (X := fun r => r = 1 ∨ r = 3 ∨ r = 4) k5 (by decide))⟩
  · have h2 := h.quiet kW
    have k5 : Kp (fun b => (fun r => r = 1 ∨ r = 3 ∨ r = 4) (role b)) W (W.setCell ⟨E.mb, 5, none⟩ (.int .i64 p)) := (Kp.refl _ W).setAt (.inl h2.r1) _ _
    have k1 : Kp (one E.mb) W (W.setCell ⟨E.mb, 5, none⟩ (.int .i64 p)) := (Kp.refl _ W).set1 _ _
    exact ⟨⟨role, sv, cv, mv, gv, h2.setMach (s' := { s with fuel := p }) k5 rfl rfl rfl (heap_setCell h2.mach _) (k1.own h2.stack (fun b hb (e : b = E.mb) => n1 (by rw [← e]; exact hb.symm))) (k1.own h2.calls (fun b hb (e : b = E.mb) => n2 (by rw [← e]; exact hb.symm))) h2.r3 h2.r4⟩, kW.any.trans (h2.up (X := fun r => r = 1 ∨ r = 3 ∨ r = 4) k5 (by decide))⟩
  · have h2 := h.quiet kW
    obtain ⟨ad, cap, rfl, -⟩ := (RowAt.own h2.stack).shape
    obtain ⟨g', cap', hv, -, -⟩ := h2.stack.form (by omega)
    cases hv
    cases ha
    have k5 : Kp (fun b => (fun r => r = 1 ∨ r = 3 ∨ r = 4) (role b)) W (W.setCell ⟨g', k, none⟩ (.int .u64 v)) := (Kp.refl _ W).setAt (.inr (.inl (h2.r3 g' rfl))) _ _
    have k1 : Kp (one g') W (W.setCell ⟨g', k, none⟩ (.int .u64 v)) := (Kp.refl _ W).set1 _ _
    have hst := (h2.stack.stored k (.int .u64 v)).1
    have hset : (valCells s.stack).set k (.int .u64 v) = valCells (s.stack.set k v) := by simp [valCells, List.map_set]
    rw [hset] at hst
    refine ⟨⟨role, _, cv, mv, gv, h2.setMach (s' := { s with stack := s.stack.set k v }) (sv' := .slice (some ⟨g', 0, none⟩) s.stack.length cap) (cv' := cv) k5 rfl rfl rfl ?_ (by simpa using hst) (k1.own h2.calls (fun b hb (e : b = g') => by have := h2.r4 b hb; rw [e, h2.r3 g' rfl] at this; cases this)) h2.r3 h2.r4⟩, kW.any.trans (h2.up (X := fun r => r = 1 ∨ r = 3 ∨ r = 4) k5 (by decide))⟩
    exact heap_setCell_ne (fun e => n1 (by rw [e]; rfl)) _ h2.mach
  · have := h.r3 b e.symm; rw [h.low b hb] at this; cases this
  · have := h.r4 b e.symm; rw [h.low b hb] at this; cases this
  · have := h.r1; rw [← e, h.low b hb] at this; cases this
theorem MSt.mbLt (h : MSt E w s) : E.mb < w.heap.size := by
  obtain ⟨role, sv, cv, mv, gv, h⟩ := h
  exact lt_of_blk h.mach
set_option maxRecDepth 100000 in
set_option maxHeartbeats 1000000 in
theorem putR_any (h : MSt E w s) (v : Int) (hs : s.stack.length ≤ 1000000000) :
    Calls Tryz.prog 134 #[ptrTo E.mb, .int .u64 v] w fun r w' => r = .returned (.tuple #[]) ∧ MSt E w' (putR s v) ∧ Kp (upm E) w w' := by
  have hB := h.base
  have hmbl := h.mbLt
  obtain ⟨sv, cv, hmo, ⟨ad, cap, rfl, hcap⟩, -, n1, n2, -, hown, -, -, hup, -⟩ := h.open
  obtain ⟨i0, hi0, hz0, hz1, hz2⟩ := info_parts info_u64'
  obtain ⟨hc, hf⟩ := cells_of hmo
  have HMo := hide hmo
  have HO := hide hown
  have HU := hide hup
  clear h hmo hown hup
  go_enter Tryz.func134, Tryz.ntmps134
  go_wp2_with (at_builtin; refine wpList_append_at _ rfl _ _ 53 rfl E.B 38 i0 (.int .u64 0) 1 8 Tryz.underlying53 hi0 hz0 hz1 hz2 rfl (by decide) _ s.stack.length _ rfl (((Kp.refl no w).alloc _).own HO.out (fun _ _ h => h)) _ 1 [.int .u64 v] rfl (RowAt.new _ _ _) (one_oneCell rfl) ?c3 ?c4 ?c5 ?_)
  case c3 => unfold maxLen; omega
  case c4 => omega
  case c5 => simp; omega
  intro v1 w1 hown1 hgrow hat
  obtain ⟨ad1, cap1, rfl⟩ := own_shape hown1
  have hbc := (hgrow.cell_far ⟨E.mb, 2, none⟩ (by simp; omega) n1)
  have hbf1 := (hgrow.frozen_far ⟨E.mb, 2, none⟩ (by simp; omega) n1).trans ((cells_of (heap_alloc_old HMo.out)).2 2)
  rw [(cells_of (heap_alloc_old HMo.out)).1 2] at hbc
  have hres := HU.out _ w1 _ (s.stack ++ [v]) ((Kp.refl no w).alloc _) (by simpa [valCells] using hown1) hgrow (by simpa using hat)
  have HRes := hide hres
  clear hown1 hgrow hat hres
  go_wp2
  go_end0
  exact ⟨rfl, HRes.out⟩
theorem stack_cell {W : World} {ad : Option Addr} {cap n : Nat} {l : List Int} (h : W.ownsRow E.B 38 1 (.slice ad n cap) n (valCells l)) (hn : n = l.length) {k : Nat} (hk : k < n) : ∃ a, ad = some ⟨a, 0, none⟩ ∧ W.cell? ⟨a, k, none⟩ = some (.int .u64 (l.getD k 0)) ∧ W.frozen? ⟨a, k, none⟩ = false := by
  obtain ⟨g', cap', hv, -, -⟩ := h.form (by omega)
  cases hv
  refine ⟨g', rfl, ?_, h.frozenAt _⟩
  rw [h.cellAt k (by omega)]
  simp [valCells, List.getD_eq_getElem?_getD, List.getElem?_eq_getElem (show k < l.length by omega)]
set_option maxRecDepth 100000 in
set_option maxHeartbeats 1000000 in
theorem takeR_any (h : MSt E w s) (hs0 : 0 < s.stack.length) (hs : s.stack.length ≤ 1000000000) :
    Calls Tryz.prog 73 #[ptrTo E.mb] w fun r w' => r = .returned (.int .u64 (topR s)) ∧ MSt E w' (popR s) ∧ Kp (upm E) w w' := by
  have hB := h.base
  have hmbl := h.mbLt
  obtain ⟨sv, cv, hmo, ⟨ad, cap, rfl, hcap⟩, -, n1, n2, -, hown, -, -, hup, -⟩ := h.open
  obtain ⟨a, rfl, hcell, hfr⟩ := stack_cell hown rfl (k := s.stack.length - 1) (by omega)
  obtain ⟨hc, hf⟩ := cells_of hmo
  have hres := hup w w (.slice (some ⟨a, 0, none⟩) (s.stack.length - 1) cap) (s.stack.take (s.stack.length - 1)) (Kp.refl no w) (by
    have := own_prefix hown (m := s.stack.length - 1) (by omega)
    rw [List.length_take, show min (s.stack.length - 1) s.stack.length = s.stack.length - 1 by omega]
    simpa [valCells, List.map_take] using this) (grownBy_refl _ _) (.inl rfl)
  have hv : s.stack.getD (s.stack.length - 1) 0 = topR s := rfl
  have HRes := hide hres
  rw [hv] at hcell
  generalize topR s = v at *
  clear h hmo hown hup hres hv
  go_enter Tryz.func73, Tryz.ntmps73
  go_wp2
  go_ret
  exact ⟨rfl, HRes.out⟩
theorem own_suffix {W : World} {base : Nat} {e : TypeId} {ad : Option Addr} {cap n m : Nat} {xs : List Value} (h : W.ownsRow base e 1 (.slice ad n cap) n xs) (hm : m ≤ n) : RowAt W (.slice (if cap = m then ad else ad.map (·.add m)) (n - m) (cap - m)) 1 (n - m) (xs.drop m) := by
  have hl := h.1
  obtain ⟨h1, ⟨h2, h3⟩ | ⟨g', cap', cur, hv, hb, hh, hc, hmx, hsz, ht⟩⟩ := h
  · cases h2
    obtain rfl : m = 0 := by omega
    exact ⟨by simp [h1], .inl ⟨by simp, rfl⟩⟩
  · cases hv
    by_cases hcm : cap = m
    · subst hcm
      obtain rfl : n = cap := by omega
      rw [if_pos rfl]
      refine ⟨by rw [List.length_drop, hl]; omega, .inr ⟨g', 0, n - n, rfl, Nat.le_refl _, fun k x hk => ?_⟩⟩
      rw [List.getElem?_eq_none (by rw [List.length_drop, hl]; omega)] at hk
      cases hk
    · rw [if_neg hcm]
      refine ⟨by rw [List.length_drop, hl]; omega, .inr ⟨g', m, cap - m, ?_, by omega, fun k x hk => ?_⟩⟩
      · show Value.slice (some (Addr.add ⟨g', 0, none⟩ m)) _ _ = _
        rw [Addr.add_lit, Nat.zero_add]
      · rw [List.getElem?_drop] at hk
        subst ht
        rw [List.getElem?_take] at hk
        split at hk
        · simp [World.cell?, hh]; simpa using hk
        · cases hk
set_option maxRecDepth 100000 in
set_option maxHeartbeats 1000000 in
theorem sinkR_any (h : MSt E w s) {hh k : Nat} (hk : hh + k ≤ s.stack.length) (hs : s.stack.length ≤ 1000000000) :
    Calls Tryz.prog 198 #[ptrTo E.mb, .int .i64 hh, .int .i64 k] w fun r w' => r = .returned (.tuple #[]) ∧ MSt E w' (sinkR s hh k) ∧ Kp (upm E) w w' := by
  have hB := h.base
  have hmbl := h.mbLt
  obtain ⟨sv, cv, hmo, ⟨ad, cap, rfl, hcap⟩, -, n1, n2, -, hown, -, -, hup, -⟩ := h.open
  obtain ⟨i0, hi0, hz0, hz1, hz2⟩ := info_parts info_u64'
  have hSk : ∀ W, Kp no w W → ∀ q, W.cell? ⟨E.mb, q, none⟩ = #[ptrTo E.fb, ptrTo E.sb, .slice ad s.stack.length cap, cv, .int .i64 s.pos, .int .i64 s.fuel][q]? := fun W k => (cells_of (k.blk hmo (fun h => h))).1
  obtain ⟨m, hm⟩ : ∃ m, m = s.stack.length - k := ⟨_, rfl⟩
  have hml : m ≤ s.stack.length := by omega
  have hwm : IntKind.i64.wrap ((s.stack.length : Int) - (k : Int)) = (m : Int) := by rw [IntKind.wrap_i64]; omega
  have hrow := own_suffix hown hml
  have hpre := own_prefix hown (m := hh) (by omega)
  have hhc : hh ≤ cap := by omega
  have hkm : s.stack.length - m = k := by omega
  have hhm : hh ≤ m := by omega
  have HMm := hide hm
  have HKm := hide hkm
  clear hm hkm
  have HSk := hide hSk
  have HMo := hide hmo
  have HU := hide hup
  have HRow := hide hrow
  have HPre := hide hpre
  clear h hmo hown hup hSk hrow hpre
  go_enter Tryz.func198, Tryz.ntmps198
  go_wp2_with fail
  refine wp_region_S 13 (fun w' => ∀ q, w'.cell? ⟨E.mb, q, none⟩ = #[ptrTo E.fb, ptrTo E.sb, .slice ad s.stack.length cap, cv, .int .i64 s.pos, .int .i64 s.fuel][q]?) (by kernel_rfl) (n := 13) (listed := #[false, false, false, false, false, false, false, false, false, false, false, false, false]) rfl (by kernel_rfl) ?hS (fun hS => ?_)
  case hS => exact HSk.out _ ((Kp.refl _ _).drew)
  refine tk 0 [] rfl (by kernel_rfl) rfl (fun _ _ _ h => h) hS (fun _ h => by (try dsimp only at h); go_simp; all_goals with_reducible rfl) ?_
  simp only [pS]
  refine tk 1 [] rfl (by kernel_rfl) rfl (fun _ _ _ h => h) hS (fun _ h => by (try dsimp only at h); go_simp; all_goals with_reducible rfl) ?_
  simp only [pS]
  refine tk 2 [] rfl (by kernel_rfl) rfl (fun _ _ _ h => h) hS (fun _ h => by (try dsimp only at h); go_simp; all_goals with_reducible rfl) ?_
  simp only [pS]
  refine tk 3 [] rfl (by kernel_rfl) rfl (fun _ _ _ h => h) hS (fun _ h => by (try dsimp only at h); go_simp; all_goals with_reducible rfl) ?_
  simp only [pS]
  refine tk 4 [] rfl (by kernel_rfl) rfl (fun _ _ _ h => h) hS (fun _ h => by (try dsimp only at h); go_simp; all_goals with_reducible rfl) ?_
  simp only [pS]
  refine tk 5 [] rfl (by kernel_rfl) rfl (fun _ _ _ h => h) hS (fun _ h => by (try dsimp only at h); go_simp; all_goals with_reducible rfl) ?_
  simp only [pS]
  refine tk 6 [] rfl (by kernel_rfl) rfl (fun _ _ _ h => h) hS (fun _ h => by (try dsimp only at h); go_simp; all_goals with_reducible rfl) ?_
  simp only [pS]
  refine tk 7 [] rfl (by kernel_rfl) rfl (fun _ _ _ h => h) hS (fun _ h => by (try dsimp only at h); go_simp; all_goals with_reducible rfl) ?_
  simp only [pS]
  refine tk 8 [] rfl (by kernel_rfl) rfl (fun _ _ _ h => h) hS (fun _ h => by (try dsimp only at h); go_simp; all_goals with_reducible rfl) ?_
  simp only [pS]
  refine tk 9 [] rfl (by kernel_rfl) rfl (fun _ _ _ h => h) hS (fun _ h => by (try dsimp only at h); go_simp; all_goals with_reducible rfl) ?_
  simp only [pS]
  refine tk 10 [] rfl (by kernel_rfl) rfl (fun _ _ _ h => h) hS (fun _ h => by (try dsimp only at h); go_simp; all_goals with_reducible rfl) ?_
  simp only [pS]
  refine tk 11 [] rfl (by kernel_rfl) rfl (fun _ _ _ h => h) hS (fun _ h => by (try dsimp only at h); go_simp; all_goals with_reducible rfl) ?_
  simp only [pS]
  refine tk 12 [] rfl (by kernel_rfl) rfl (fun _ _ _ h => h) hS (fun _ h => by (try dsimp only at h); go_simp; all_goals with_reducible rfl) ?_
  simp only [pS]
  refine wpAnyS_done (by kernel_rfl) ?_ _
  generalize (if cap = m then ad else Option.map (fun x => x.add m) ad) = tad at *
  have hc := hS
  have hf : ∀ q, w.drew.frozen? ⟨E.mb, q, none⟩ = false := (cells_of (w := w.drew) HMo.out).2
  clear hS
  go_wp2_with (at_builtin; go_loud (refine wpList_append_at _ rfl _ _ 53 rfl E.B 38 i0 (.int .u64 0) 1 8 Tryz.underlying53 hi0 hz0 hz1 hz2 rfl (by decide) _ hh _ rfl (((Kp.refl no w).drew).own HPre.out (fun _ _ h => h)) _ (s.stack.length - m) _ rfl (RowAt.kp HRow.out ((Kp.refl no w).drew) (fun _ _ h => h)) ?c2 ?c3 ?c4 ?c5 ?_))
  case c2 =>
    intro u hu
    exact vals_oneCell _ u (List.mem_of_mem_drop hu)
  case c3 => unfold maxLen; omega
  case c4 => omega
  case c5 => simp; omega
  intro v1 w1 hown1 hgrow hat
  rw [ownBlock_len ad hh cap s.stack.length cap] at hgrow hat
  obtain ⟨ad1, cap1, rfl⟩ := own_shape hown1
  have hbc := (hgrow.cell_far ⟨E.mb, 2, none⟩ (by simp; omega) n1)
  have hbf1 := (hgrow.frozen_far ⟨E.mb, 2, none⟩ (by simp; omega) n1).trans (hf 2)
  rw [hc 2] at hbc
  have hres := HU.out w.drew w1 _ (s.stack.take hh ++ s.stack.drop m) ((Kp.refl no w).drew) (by
    have e1 : (s.stack.take hh ++ s.stack.drop m).length = hh + (s.stack.length - m) := by simp; omega
    have e2 : valCells (s.stack.take hh ++ s.stack.drop m) = (valCells s.stack).take hh ++ (valCells s.stack).drop m := by simp [valCells, List.map_take, List.map_drop]
    rw [e1, e2]
    exact hown1) hgrow hat
  have HRes := hide hres
  clear hown1 hgrow hat hres
  go_wp2
  go_end0
  have e : sinkR s hh k = { s with stack := s.stack.take hh ++ s.stack.drop m } := by unfold sinkR; rw [HMm.out]
  rw [e]
  exact ⟨rfl, HRes.out⟩
end
section
variable {E : MEnv} {w : World} {s : Mc}
def CurAt (_E : MEnv) (w : World) (s : Mc) (g : Nat) : Prop := g < w.heap.size ∧ w.cell? ⟨g, (s.calls.length - 1) * 3, none⟩ = some (.int .i64 (curR s).1) ∧ w.cell? ⟨g, (s.calls.length - 1) * 3 + 1, none⟩ = some (.int .i64 (curR s).2.1) ∧ w.cell? ⟨g, (s.calls.length - 1) * 3 + 2, none⟩ = some (.int .i64 (curR s).2.2)
theorem CurAt.kp {w' : World} {g : Nat} (h : CurAt E w s g) (k : Kp no w w') : CurAt E w' s g := ⟨Nat.lt_of_lt_of_le h.1 k.size, k.allCells h.2.1, k.allCells h.2.2.1, k.allCells h.2.2.2⟩
set_option maxRecDepth 100000 in
set_option maxHeartbeats 1000000 in
theorem innerR_any (h : MSt E w s) (hc0 : 0 < s.calls.length) (hc1 : s.calls.length ≤ 16) :
    Calls Tryz.prog 199 #[ptrTo E.mb] w fun r w' => (∃ g, r = .returned (.pointer (some ⟨g, (s.calls.length - 1) * 3, none⟩)) ∧ CurAt E w s g) ∧ Kp no w w' := by
  obtain ⟨sv, cv, hmo, ⟨ad, cap, rfl, hcap⟩, ⟨adc, capc, rfl, hcapc⟩, n1, n2, -, -, hown, -, -⟩ := h.open
  obtain ⟨g, capg, hv, -, -⟩ := hown.form hc0
  cases hv
  have hcur : CurAt E w s g := by
    have hx : s.calls[s.calls.length - 1]? = some (curR s) := by
      unfold curR
      rw [List.getD_eq_getElem?_getD, List.getElem?_eq_getElem (show s.calls.length - 1 < s.calls.length by omega)]; rfl
    have hc : ∀ j, j < 3 → w.cell? ⟨g, (s.calls.length - 1) * 3 + j, none⟩ = (callCells (curR s))[j]? := by
      intro j hj
      rw [hown.cellAt ((s.calls.length - 1) * 3 + j) (by omega), flat_get callLen s.calls _ j hj, hx]; rfl
    exact ⟨own_lt hown rfl, hc 0 (by decide), hc 1 (by decide), hc 2 (by decide)⟩
  have hSk : ∀ W, Kp no w W → ∀ q, W.cell? ⟨E.mb, q, none⟩ = #[ptrTo E.fb, ptrTo E.sb, .slice ad s.stack.length cap, .slice (some ⟨g, 0, none⟩) s.calls.length capc, .int .i64 s.pos, .int .i64 s.fuel][q]? := fun W k => (cells_of (k.blk hmo (fun h => h))).1
  have HSk := hide hSk
  have HCur := hide hcur
  have hw1 : IntKind.i64.wrap ((s.calls.length : Int) - 1) = ((s.calls.length - 1 : Nat) : Int) := by rw [IntKind.wrap_i64]; omega
  have hw2 : s.calls.length - 1 < s.calls.length := by omega
  generalize s.calls.length - 1 = k at *
  clear h hmo hown hSk hcur
  go_enter Tryz.func199, Tryz.ntmps199
  go_wp2_with fail
  refine wp_region_S 12 (fun w' => ∀ q, w'.cell? ⟨E.mb, q, none⟩ = #[ptrTo E.fb, ptrTo E.sb, .slice ad s.stack.length cap, .slice (some ⟨g, 0, none⟩) s.calls.length capc, .int .i64 s.pos, .int .i64 s.fuel][q]?) (by kernel_rfl) (n := 12) (listed := #[false, false, false, false, false, false, false, false, false, false, false, false]) rfl (by kernel_rfl) ?hS (fun hS => ?_)
  case hS => exact HSk.out _ ((Kp.refl _ _).drew)
  refine tk 0 [] rfl (by kernel_rfl) rfl (fun _ _ _ h => h) hS (fun _ h => by (try dsimp only at h); go_simp; all_goals with_reducible rfl) ?_
  simp only [pS]
  refine tk 1 [] rfl (by kernel_rfl) rfl (fun _ _ _ h => h) hS (fun _ h => by (try dsimp only at h); go_simp; all_goals with_reducible rfl) ?_
  simp only [pS]
  refine tk 2 [] rfl (by kernel_rfl) rfl (fun _ _ _ h => h) hS (fun _ h => by (try dsimp only at h); go_simp; all_goals with_reducible rfl) ?_
  simp only [pS]
  refine tk 3 [] rfl (by kernel_rfl) rfl (fun _ _ _ h => h) hS (fun _ h => by (try dsimp only at h); go_simp; all_goals with_reducible rfl) ?_
  simp only [pS]
  refine tk 4 [] rfl (by kernel_rfl) rfl (fun _ _ _ h => h) hS (fun _ h => by (try dsimp only at h); go_simp; all_goals with_reducible rfl) ?_
  simp only [pS]
  refine tk 5 [] rfl (by kernel_rfl) rfl (fun _ _ _ h => h) hS (fun _ h => by (try dsimp only at h); go_simp; all_goals with_reducible rfl) ?_
  simp only [pS]
  refine tk 6 [] rfl (by kernel_rfl) rfl (fun _ _ _ h => h) hS (fun _ h => by (try dsimp only at h); go_simp; all_goals with_reducible rfl) ?_
  simp only [pS]
  refine tk 7 [] rfl (by kernel_rfl) rfl (fun _ _ _ h => h) hS (fun _ h => by (try dsimp only at h); go_simp; all_goals with_reducible rfl) ?_
  simp only [pS]
  refine tk 8 [] rfl (by kernel_rfl) rfl (fun _ _ _ h => h) hS (fun _ h => by (try dsimp only at h); go_simp; all_goals with_reducible rfl) ?_
  simp only [pS]
  refine tk 9 [] rfl (by kernel_rfl) rfl (fun _ _ _ h => h) hS (fun _ h => by (try dsimp only at h); go_simp; all_goals with_reducible rfl) ?_
  simp only [pS]
  refine tk 10 [] rfl (by kernel_rfl) rfl (fun _ _ _ h => h) hS (fun _ h => by (try dsimp only at h); go_simp; all_goals with_reducible rfl) ?_
  simp only [pS]
  refine tk 11 [] rfl (by kernel_rfl) rfl (fun _ _ _ h => h) hS (fun _ h => by (try dsimp only at h); go_simp; all_goals with_reducible rfl) ?_
  simp only [pS]
  refine wpAnyS_done (by kernel_rfl) ?_ _
  clear hS HSk
  go_wp2
  go_ret
  exact ⟨⟨g, rfl, HCur.out⟩, (Kp.refl _ _).drew⟩
set_option maxRecDepth 100000 in
set_option maxHeartbeats 1000000 in
theorem localR_any (h : MSt E w s) (hc0 : 0 < s.calls.length) (hc1 : s.calls.length ≤ 16) {n : Nat} (hn : (curR s).1 + n ≤ 1000000000) :
    Calls Tryz.prog 165 #[ptrTo E.mb, .int .u64 n] w fun r w' => r = .returned (.int .i64 ((curR s).1 + n : Nat)) ∧ Kp no w w' := by
  have hin := innerR_any h hc0 hc1
  have HI := hide hin
  clear h hin
  have hw : IntKind.i64.wrap (n : Int) = n := by rw [IntKind.wrap_i64]; omega
  generalize hcv : (curR s).1 = l at *
  have HCv := hide hcv
  clear hcv
  go_enter Tryz.func165, Tryz.ntmps165
  go_wp2_with fail
  refine HI.out.mono ?_
  rintro e w1 ⟨⟨g, rfl, hcur⟩, k1⟩
  obtain ⟨-, c0, -, -⟩ := hcur.kp k1
  rw [HCv.out] at c0
  go_wp2
  go_ret
  exact ⟨by simp, k1⟩
def jumpR (s : Mc) (x : Ins) : Mc := { sinkR s ((curR s).2.1 + x.height) x.keep with pos := x.goal }
theorem enters_inner : ∀ args w, (callFunc 199 args).run Tryz.prog w = .ok (.enter 199 args) w := enters_of Tryz.func199 (by kernel_rfl) rfl
theorem enters_sink : ∀ args w, (callFunc 198 args).run Tryz.prog w = .ok (.enter 198 args) w := enters_of Tryz.func198 (by kernel_rfl) rfl
theorem enters_local : ∀ args w, (callFunc 165 args).run Tryz.prog w = .ok (.enter 165 args) w := enters_of Tryz.func165 (by kernel_rfl) rfl
theorem enters_put : ∀ args w, (callFunc 134 args).run Tryz.prog w = .ok (.enter 134 args) w := enters_of Tryz.func134 (by kernel_rfl) rfl
theorem enters_take : ∀ args w, (callFunc 73 args).run Tryz.prog w = .ok (.enter 73 args) w := enters_of Tryz.func73 (by kernel_rfl) rfl
set_option maxRecDepth 100000 in
set_option maxHeartbeats 1000000 in
theorem jumpR_any (h : MSt E w s) (hc0 : 0 < s.calls.length) (hc1 : s.calls.length ≤ 16) (hs : s.stack.length ≤ 1000000000) {x : Ins} (hj : (curR s).2.1 + x.height + x.keep ≤ s.stack.length) :
    Calls Tryz.prog 163 #[ptrTo E.mb, .agg #[.int .i64 x.goal, .int .i64 x.height, .int .i64 x.keep]] w fun r w' => r = .returned (.tuple #[]) ∧ MSt E w' (jumpR s x) ∧ Kp (upm E) w w' := by
  have hro := h.roLo
  have kb : Kp no w ((w.alloc (.cells #[.int .i64 x.goal, .int .i64 x.height, .int .i64 x.keep] 212)).drew) := ((Kp.refl _ _).alloc _).drew
  have hg := h.guard kb (fun b => b = w.heap.size) (fun b hb => ⟨by omega, by rw [hb]; simp⟩)
  have hin := innerR_any hg hc0 hc1
  have hsk := fun W (kW : Kp no _ W) => sinkR_any (hg.quiet kW) (hh := (curR s).2.1 + x.height) (k := x.keep) hj hs
  have hB := h.base
  generalize hcv : (curR s).2.1 = fl at *
  have hw : IntKind.i64.wrap ((fl : Int) + (x.height : Int)) = ((fl + x.height : Nat) : Int) := by rw [IntKind.wrap_i64]; omega
  have HI := hide hin
  have HSk := hide hsk
  have HCv := hide hcv
  have HRo := hide hro
  have KB := hide kb
  clear h hin hsk hcv hg kb hro
  go_enter Tryz.func163, Tryz.ntmps163
  go_wp2_with fail
  have hbo : ((w.alloc (.cells #[.int .i64 x.goal, .int .i64 x.height, .int .i64 x.keep] 212)).drew).heap[w.heap.size]? = some (.cells #[.int .i64 x.goal, .int .i64 x.height, .int .i64 x.keep] 212) := heap_alloc_new _ _
  have HBo := hide hbo
  clear hbo
  refine wp_region_S 11 (fun w' => ∀ q, w'.cell? ⟨w.heap.size, q, none⟩ = #[.int .i64 x.goal, .int .i64 x.height, .int .i64 x.keep][q]?) (by kernel_rfl) (n := 12) (listed := #[false, false, false, false, false, false, false, false, false, false, false, false]) rfl (by kernel_rfl) ?hS (fun hS => ?_)
  case hS => exact (cells_of HBo.out).1
  refine tk 0 [] rfl (by kernel_rfl) rfl (fun _ _ _ h => h) hS (fun _ h => by (try dsimp only at h); go_simp; all_goals with_reducible rfl) ?_
  simp only [pS]
  refine tk 1 [2] rfl (by kernel_rfl) rfl (fun _ _ _ h => h) hS (fun _ h => by (try dsimp only at h); go_simp; all_goals with_reducible rfl) ?_
  simp only [pS]
  refine tk 6 [7,8] rfl (by kernel_rfl) rfl (fun _ _ _ h => h) hS (fun _ h => by (try dsimp only at h); go_simp; all_goals with_reducible rfl) ?_
  simp only [pS]
  refine tk 7 [8] rfl (by kernel_rfl) rfl (fun _ _ _ h => h) hS (fun _ h => by (try dsimp only at h); go_simp; all_goals with_reducible rfl) ?_
  simp only [pS]
  refine tk 9 [10] rfl (by kernel_rfl) rfl (fun _ _ _ h => h) hS (fun _ h => by (try dsimp only at h); go_simp; all_goals with_reducible rfl) ?_
  simp only [pS]
  refine tk 10 [] rfl (by kernel_rfl) rfl (fun _ _ _ h => h) hS (fun _ h => by (try dsimp only at h); go_simp; all_goals with_reducible rfl) ?_
  simp only [pS]
  refine wpAnyS_one 2 (listed' := #[true, true, true, false, false, false, true, true, false, true, true, false]) rfl (by kernel_rfl) (by kernel_rfl) (fun K hK => ?_)
  refine step_call (by rfl) 199 _ _ (by rfl) enters_inner _ (by rfl) HI.out ?_
  rintro e w1 ⟨⟨g, rfl, hcur⟩, k1⟩
  refine ⟨_, rfl, hK _ _ (cells_of (k1.blk HBo.out (fun h => h))).1 (fun hS => ?_)⟩
  clear hK K
  simp only [pS]
  obtain ⟨-, -, c1, -⟩ := hcur.kp k1
  rw [HCv.out] at c1
  have hbo1 := k1.blk HBo.out (fun h => h)
  have HK1 := hide k1
  have HB1 := hide hbo1
  clear hcur k1 hbo1
  refine tk 3 [4,5,8] rfl (by kernel_rfl) rfl (fun _ _ _ h => h) hS (fun _ h => by (try dsimp only at h); go_simp; all_goals with_reducible rfl) ?_
  simp only [pS]
  refine tk 4 [5,8] rfl (by kernel_rfl) rfl (fun _ _ _ h => h) hS (fun _ h => by (try dsimp only at h); go_simp; all_goals with_reducible rfl) ?_
  simp only [pS]
  refine wpAnyS_one 5 (listed' := #[true, true, true, true, true, true, true, true, false, true, true, false]) rfl (by kernel_rfl) (by kernel_rfl) (fun K hK => ?_)
  go_simp
  refine hK _ _ hS (fun hS => ?_)
  clear hK K
  refine tk 8 [] rfl (by kernel_rfl) rfl (fun _ _ _ h => h) hS (fun _ h => by (try dsimp only at h); go_simp; all_goals with_reducible rfl) ?_
  simp only [pS]
  refine wpAnyS_end 11 (listed' := #[true, true, true, true, true, true, true, true, true, true, true, true]) rfl (by kernel_rfl) (by kernel_rfl) (by kernel_rfl) (fun K hK => ?_)
  refine step_call (by rfl) 198 _ _ (by rfl) enters_sink _ (by rfl) (HSk.out _ HK1.out) ?_
  rintro e w2 ⟨rfl, h2, k2⟩
  refine ⟨_, rfl, hK _ _ ?_⟩
  clear hK K
  refine wpAnyS_done (by kernel_rfl) ?_ _
  have hbo2 := k2.blk HB1.out (fun h => h (.inr rfl))
  obtain ⟨hc2, -⟩ := cells_of hbo2
  obtain ⟨sv2, cv2, hmo2, -, -, -, -, -, -, -, -, -, -, hpos, -⟩ := h2.open
  have hmo2' : w2.heap[E.mb]? = some (machObj E (sinkR s (fl + x.height) x.keep) sv2 cv2) := hmo2
  obtain ⟨hm2, hmf2⟩ := cells_of hmo2'
  have hfin := hpos w2 x.goal (Kp.refl no w2)
  have HFin := hide hfin
  have K2 := hide k2
  clear h2 hmo2 hmo2' hbo2 hpos hfin k2 c1 hS
  go_wp2
  go_end0
  refine ⟨rfl, ?_, ?_⟩
  · have := HFin.out.1.free HRo.out
    unfold jumpR
    rw [HCv.out]
    exact this
  · exact (KB.out.any.trans HK1.out.any).trans (upm_plus (K2.out.trans HFin.out.2))
end
end Go.Proofs.YtdeplgkhmebalaaGreatDoor
