/- The statements' own functions: an instance begun, a call that gives, one that traps, a module that is refused. -/
import Derived.Test.YtdeplgkhmebalaaGreatDoorP11
import Derived.Test.YtdeplgkhmebalaaGreatDoorP24
import Derived.Test.YtdeplgkhmebalaaGreatDoorP31

namespace Go.Proofs.YtdeplgkhmebalaaGreatDoor
open Go.RowKit
def RowsOk (w : World) : Prop := RowsAt w (fun b => b < w.heap.size)
theorem RowsOk.kp {w w' : World} (h : RowsOk w) (k : Kp no w w') : RowsOk w' := by
  obtain ⟨a, o, cap, h1, h2, h3, h4, h5⟩ := RowsAt.kp (ro := fun b => b < w.heap.size) h (k.mono (S' := nro fun b => b < w.heap.size) (fun _ _ h => h.elim))
  exact ⟨a, o, cap, h1, h2, Nat.lt_of_lt_of_le h3 k.size, Nat.lt_of_lt_of_le h4 k.size, h5⟩
structure Inst (w w' : World) (ib tb : Nat) (f : Flat) (mem : List UInt8) (gl : List Int) (keys : List (Int × Int)) : Prop where
  at' : ∃ ro mb mv gv p, InstAt w' ro ib tb mb mv gv f mem gl ∧ StoreAt w' tb p keys ∧ (∀ b, ro b → w.heap.size ≤ b) ∧ (∀ b, mv.ownBlock = some b → w.heap.size ≤ b) ∧ (∀ b, gv.ownBlock = some b → w.heap.size ≤ b)
  ib : w.heap.size ≤ ib
  tb : w.heap.size ≤ tb
theorem Inst.quiet {w w' w'' : World} {ib tb : Nat} {f : Flat} {mem : List UInt8} {gl : List Int} {keys : List (Int × Int)} (h : Inst w w' ib tb f mem gl keys) (k : Kp no w' w'') : Inst w w'' ib tb f mem gl keys := by
  obtain ⟨⟨ro, mb, mv, gv, p, h1, h2, h3⟩, h4, h5⟩ := h
  exact ⟨⟨ro, mb, mv, gv, p, h1.kp k (fun h => h) (fun _ _ h => h) (fun _ _ h => h) (fun _ _ h => h), ⟨k.blk h2.blk (fun h => h), h2.map.kp k (fun _ _ h => h), h2.few⟩, h3⟩, h4, h5⟩
set_option maxRecDepth 100000 in
set_option maxHeartbeats 2000000 in
theorem started_keep {w : World} {dv : Value} {D : List UInt8} {f : Flat} (hb : BytesAt w dv D) (hd : ∀ b, dv.ownBlock = some b → b < w.heap.size) (hR : RowsOk w) (hl : D.length ≤ 1000000) (hf : loadM D = .ok f) (hpg : f.pages ≤ 1000) (hgl : f.globals.length ≤ 1000) :
    Calls Tryz.prog 21 #[dv] w fun r w' => (∃ ib tb, r = .returned (.tuple #[ptrTo ib, ptrTo tb, .bool true]) ∧ Inst w w' ib tb f (List.replicate (f.pages * 64) 0) (f.globals.map fun (n : Nat) => ((n : Nat) : Int)) []) ∧ Kp no w w' := by
  have hL := load_any hb hd hR hl
  rw [hf] at hL
  obtain ⟨ad, cap, hdv, -⟩ := hb.shape
  subst hdv
  have HL := hide hL
  clear hL hb hd hR hf
  go_enter Tryz.func21, Tryz.ntmps21
  go_wp2_with fail
  refine HL.out.mono ?_
  rintro r w1 ⟨⟨mb, rfl, hmod⟩, k1⟩
  have HMod := hide hmod
  have K1 := hide k1
  clear hmod k1 HL
  go_wp2_with fail
  refine (newStore_any _).mono ?_
  rintro r w2 ⟨rfl, hsto, k2⟩
  have htl := lt_of_blk hsto.blk
  have hsa := start_any (HMod.out.kp k2.any) htl (fun b hb => ⟨Nat.lt_of_lt_of_le hb.2 k2.size, by have := hb.2; omega⟩) hpg hgl
  have HSto := hide hsto
  have HSa := hide hsa
  have K2 := hide k2
  clear hsto hsa k2
  go_wp2_with fail
  refine HSa.out.mono ?_
  rintro r w3 ⟨⟨ib, mv, gv, rfl, hib, hin, hm, hg⟩, k3⟩
  have HIn := hide hin
  have HM := hide hm
  have HG := hide hg
  have K3 := hide k3
  have h1 := K1.out.size
  have h2 := K2.out.size
  clear hin hm hg k3
  go_wp2
  go_ret3
  refine ⟨⟨ib, w1.heap.size, rfl, ⟨made w w1, mb, mv, gv, none, HIn.out, ⟨K3.out.blk HSto.out.blk (fun h => h), .inl ⟨rfl, rfl⟩, HSto.out.few⟩, fun b hb => hb.1, fun b hb => ?_, fun b hb => ?_⟩, ?_, ?_⟩, K1.out.trans (K2.out.trans K3.out)⟩
  · have := HM.out b hb; omega
  · have := HG.out b hb; omega
  · omega
  · exact h1
def flatOkB (f : Flat) : Bool := decide (f.funcs.length ≤ 1000) && decide (f.code.length ≤ 1000000000) && f.code.all (fun x => !(x.op == 16) || decide (x.num < 1000000)) && f.funcs.all (fun g => decide (g.typ.1.length ≤ g.locals) && decide (g.locals ≤ 1000)) && decide (f.pages ≤ 1000) && decide (f.globals.length ≤ 1000)
structure FlatOk (f : Flat) : Prop where
  ok : f.Ok
  fn : ∀ k, k < f.funcs.length → (f.funcs.getD k fn0).typ.1.length ≤ (f.funcs.getD k fn0).locals ∧ (f.funcs.getD k fn0).locals ≤ 1000
  pg : f.pages ≤ 1000
  gl : f.globals.length ≤ 1000
theorem flatOk_of {f : Flat} (h : flatOkB f = true) : FlatOk f := by
  simp only [flatOkB, Bool.and_eq_true, decide_eq_true_eq, List.all_eq_true, Bool.or_eq_true, Bool.not_eq_true', beq_eq_false_iff_ne] at h
  obtain ⟨⟨⟨⟨⟨h1, h2⟩, h3⟩, h4⟩, h5⟩, h6⟩ := h
  refine ⟨⟨h1, h2, fun x hx ho => (h3 x hx).resolve_left (fun hn => hn ho)⟩, fun k hk => ?_, h5, h6⟩
  have := h4 (f.funcs.getD k fn0) (by rw [List.getD_eq_getElem?_getD, List.getElem?_eq_getElem hk]; exact List.getElem_mem hk)
  exact this
theorem ValsAt.made (w : World) (l : List Int) : ValsAt (w.alloc (.cells (valCells l).toArray 38)) (.slice (some ⟨w.heap.size, 0, none⟩) l.length l.length) l := by
  have := RowAt.ofBlock (heap_alloc_new w (.cells (valCells l).toArray 38)) l.length 1 (by simp [valCells])
  unfold ValsAt
  simpa using this
def isOk {α β : Type} : Except α β → Bool
  | .ok _ => true
  | .error _ => false
def flat0 : Flat := ⟨[], [], 0, []⟩
def flatOf (D : List UInt8) : Flat := match loadM D with | .ok f => f | .error _ => flat0
theorem flatOf_ok {D : List UInt8} (h : isOk (loadM D) = true) : loadM D = .ok (flatOf D) := by
  unfold flatOf
  cases hl : loadM D with
  | ok f => rfl
  | error e => rw [hl] at h; cases h
theorem FnsAt.made1 {W : World} {x0 x1 x2 x3 : Value} {fn : FnS} (h0 : BytesAt W x0 fn.params) (h1 : BytesAt W x1 fn.results) (h2 : BytesAt W x2 fn.locals) (h3 : BytesAt W x3 fn.code) (t : TypeId) : FnsAt (W.alloc (.cells #[x0, x1, x2, x3] t)) (.slice (some ⟨W.heap.size, 0, none⟩) 1 1) [fn] := by
  have k : Kp no W (W.alloc (.cells #[x0, x1, x2, x3] t)) := (Kp.refl _ _).alloc _
  refine ⟨[x0, x1, x2, x3], RowAt.ofBlock (heap_alloc_new W (.cells #[x0, x1, x2, x3] t)) 1 4 rfl, fun j hj => ?_⟩
  obtain rfl : j = 0 := by simp at hj; exact hj
  exact ⟨x0, x1, x2, x3, rfl, rfl, rfl, rfl, h0.kq k, h1.kq k, h2.kq k, h3.kq k⟩
def loFn : FnS := ⟨[127], [127], [127], [0x23, 0, 0x42, 1, 0x7c, 0x24, 0, 0x02, 0x40, 0x03, 0x40, 0x20, 0, 0x45, 0x0d, 1, 0x20, 1, 0x20, 0, 0x6a, 0x21, 1, 0x20, 0, 0x41, 1, 0x6b, 0x21, 0, 0x0c, 0, 0x0b, 0x0b, 0x20, 1]⟩
end Go.Proofs.YtdeplgkhmebalaaGreatDoor
