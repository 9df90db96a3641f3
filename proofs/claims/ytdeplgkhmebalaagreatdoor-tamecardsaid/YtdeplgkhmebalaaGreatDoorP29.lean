/- A call of a function from outside: the machine made, run, asked. -/
import Derived.Test.YtdeplgkhmebalaaGreatDoorP26
import Derived.Test.YtdeplgkhmebalaaGreatDoorP28

namespace Go.Proofs.YtdeplgkhmebalaaGreatDoor
open Go.RowKit
abbrev replyV (e t : Int) (v : Int) (u : Int) : Value := .agg #[.int .i64 e, .int .i64 t, .int .u64 v, .int .i64 u]
structure Behind (w' : World) (B sb kb : Nat) (low : Nat → Prop) (mem : List UInt8) (gl : List Int) (keys : List (Int × Int)) (mv gv : Value) : Prop where
  blk : w'.heap[sb]? = some (.cells #[mv, gv, .map (some kb)] 125)
  memR : w'.ownsRow B 5 1 mv mem.length (byteCells' mem)
  glR : w'.ownsRow B 38 1 gv gl.length (valCells gl)
  keys : KeysAt w' kb keys
theorem MSt.first {W0 w W : World} {ro : Nat → Prop} {fb : Nat} {ft : TypeId} {f : Flat} {sb kb gm gg : Nat} {mem : List UInt8} {gl : List Int} {keys : List (Int × Int)} {args : List Int} {fuel : Nat} {sv : Value} {mb rb : Nat}
    (hst : StateAt W0 w sb mem gl keys kb gm gg) (hmod : ModAt w ro fb ft f) (hro : ∀ b, ro b → b < W0.heap.size) (h0 : W0.heap.size ≤ w.heap.size) (hrb : rb = w.heap.size) (hmb : mb = w.heap.size + 1) (k : Kp no w W) (hsz : w.heap.size + 1 < W.heap.size)
    (hm : W.heap[mb]? = some (.cells #[ptrTo fb, ptrTo sb, sv, .slice none 0 0, .int .i64 0, .int .i64 fuel] 172))
    (hs : W.ownsRow (w.heap.size + 2) 38 1 sv args.length (valCells args)) :
    MSt ⟨W0.heap.size, fun b => b < W0.heap.size ∨ b = rb, mb, sb, kb, fb, ft, f, ro⟩ W ⟨args, [], 0, fuel, mem, gl, keys⟩ := by
  have e1 := hst.o1
  have e2 := hst.o2
  have e3 := hst.o3
  have e4 := hst.o4
  have e5 := lt_of_blk hst.blk
  have hsb : ∀ b, sv.ownBlock = some b → w.heap.size + 2 ≤ b := own_new hs
  refine ⟨fun b => if b = mb then 1 else if b = sb then 2 else if b = gm then 5 else if b = gg then 6 else if b = kb then 7 else if sv.ownBlock = some b then 3 else 0, sv, .slice none 0 0, .slice (some ⟨gm, 0, none⟩) mem.length mem.length, .slice (some ⟨gg, 0, none⟩) gl.length gl.length, ?_⟩
  refine ⟨Nat.le_trans h0 k.size, hmod.kp k.any, hm, k.blk hst.blk (fun h => h), own_le hs (by show W0.heap.size ≤ _; omega), ⟨rfl, .inl ⟨rfl, rfl⟩⟩, k.own hst.memR (fun _ _ h => h), k.own hst.glR (fun _ _ h => h), hst.keys.kp k (fun h => h), ?_, ?_, ?_, ?_, ?_, ?_, ?_, ?_, ?_, ?_⟩
  · simp
  · show (if sb = mb then 1 else if sb = sb then 2 else _) = 2
    rw [if_neg (by omega), if_pos rfl]
  · intro b hb
    have := hsb b hb
    show (if b = mb then 1 else if b = sb then 2 else if b = gm then 5 else if b = gg then 6 else if b = kb then 7 else if sv.ownBlock = some b then 3 else 0) = 3
    rw [if_neg (by omega), if_neg (by omega), if_neg (by omega), if_neg (by omega), if_neg (by omega), if_pos hb]
  · intro b hb; cases hb
  · intro b hb
    cases hb
    show (if gm = mb then 1 else if gm = sb then 2 else if gm = gm then 5 else _) = 5
    rw [if_neg (by omega), if_neg (by omega), if_pos rfl]
  · intro b hb
    cases hb
    show (if gg = mb then 1 else if gg = sb then 2 else if gg = gm then 5 else if gg = gg then 6 else _) = 6
    rw [if_neg (by omega), if_neg (by omega), if_neg (by omega), if_pos rfl]
  · show (if kb = mb then 1 else if kb = sb then 2 else if kb = gm then 5 else if kb = gg then 6 else if kb = kb then 7 else _) = 7
    rw [if_neg (by omega), if_neg (by omega), if_neg (by omega), if_neg (by omega), if_pos rfl]
  · intro b hb
    have hb' : b < W0.heap.size ∨ b = w.heap.size := by rw [← hrb]; exact hb
    show (if b = mb then 1 else if b = sb then 2 else if b = gm then 5 else if b = gg then 6 else if b = kb then 7 else if sv.ownBlock = some b then 3 else 0) = 0
    rw [if_neg (by omega), if_neg (by omega), if_neg (by omega), if_neg (by omega), if_neg (by omega), if_neg (fun e => by have := hsb b e; omega)]
  · intro b hb
    have hb' : b < W0.heap.size ∨ b = w.heap.size := by rw [← hrb]; exact hb
    omega
  · intro b hb
    exact .inl (hro b hb)
theorem MSt.behind {E : MEnv} {w w' : World} {s : Mc} (h : MSt E w s) (k : Kp E.lo w w') : ∃ mv gv, Behind w' E.B E.sb E.kb (fun _ => False) s.mem s.gl s.keys mv gv := by
  obtain ⟨role, sv, cv, mv, gv, h⟩ := h
  exact ⟨mv, gv, k.blk h.st (fun hl => by have := h.low _ hl; rw [h.r2] at this; cases this), k.own h.mem (fun b hb hl => by have := h.low _ hl; rw [h.r5 b hb] at this; cases this),
    k.own h.gl (fun b hb hl => by have := h.low _ hl; rw [h.r6 b hb] at this; cases this), h.keys.kp k (fun hl => by have := h.low _ hl; rw [h.r7] at this; cases this)⟩
theorem reply_fin {W : World} {rb : Nat} {c0 c1 c2 c3 : Value} {ty : TypeId} (h : W.heap[rb]? = some (.cells #[c0, c1, c2, c3] ty)) (d0 d1 d2 d3 : Value) :
    ((((W.setCell ⟨rb, 0, none⟩ d0).setCell ⟨rb, 1, none⟩ d1).setCell ⟨rb, 2, none⟩ d2).setCell ⟨rb, 3, none⟩ d3).heap[rb]? = some (.cells #[d0, d1, d2, d3] ty) ∧ Kp (one rb) W ((((W.setCell ⟨rb, 0, none⟩ d0).setCell ⟨rb, 1, none⟩ d1).setCell ⟨rb, 2, none⟩ d2).setCell ⟨rb, 3, none⟩ d3) :=
  ⟨heap_setCell (heap_setCell (heap_setCell (heap_setCell h d0) d1) d2) d3, ((((Kp.refl _ W).set1 0 _).set1 1 _).set1 2 _).set1 3 _⟩
end Go.Proofs.YtdeplgkhmebalaaGreatDoor
