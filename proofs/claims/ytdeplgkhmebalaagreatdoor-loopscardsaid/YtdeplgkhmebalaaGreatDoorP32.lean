/- The statements' own functions: an instance begun, a call that gives, one that traps, a module that is refused. -/
import Derived.Test.YtdeplgkhmebalaaGreatDoorP11
import Derived.Test.YtdeplgkhmebalaaGreatDoorP24
import Derived.Test.YtdeplgkhmebalaaGreatDoorP31

namespace Go.Proofs.YtdeplgkhmebalaaGreatDoor
open Go.RowKit

/-- The rows of look lie in old memory. -/
def RowsOk (w : World) : Prop := RowsAt w (fun b => b < w.heap.size)
theorem RowsOk.kp {w w' : World} (h : RowsOk w) (k : Kp no w w') : RowsOk w' := by
  obtain ⟨a, o, cap, h1, h2, h3, h4, h5⟩ := RowsAt.kp (ro := fun b => b < w.heap.size) h (k.mono (S' := nro fun b => b < w.heap.size) (fun _ _ h => h.elim))
  exact ⟨a, o, cap, h1, h2, Nat.lt_of_lt_of_le h3 k.size, Nat.lt_of_lt_of_le h4 k.size, h5⟩
theorem RowsOk.kp2 {w0 w : World} {S : Nat → Prop} (h : RowsOk w0) (k : Kp S w0 w) (hs : ∀ b, b < w0.heap.size → ¬ S b) : RowsOk w := by
  obtain ⟨a, o, cap, h1, h2, h3, h4, h5⟩ := h
  have k' : Kp no w0 w := k.mono (fun b hb hS => hs b hb hS)
  exact RowsOk.kp ⟨a, o, cap, h1, h2, h3, h4, h5⟩ k'

/-- An instance, its store, of a module, its state: all of them in memory made since w. -/
structure Inst (w w' : World) (ib tb : Nat) (f : Flat) (mem : List UInt8) (gl : List Int) (keys : List (Int × Int)) : Prop where
  at' : ∃ ro mb mv gv p, InstAt w' ro ib tb mb mv gv f mem gl ∧ StoreAt w' tb p keys ∧ (∀ b, ro b → w.heap.size ≤ b) ∧ (∀ b, mv.ownBlock = some b → w.heap.size ≤ b) ∧ (∀ b, gv.ownBlock = some b → w.heap.size ≤ b)
  ib : w.heap.size ≤ ib
  tb : w.heap.size ≤ tb

theorem Inst.quiet {w w' w'' : World} {ib tb : Nat} {f : Flat} {mem : List UInt8} {gl : List Int} {keys : List (Int × Int)} (h : Inst w w' ib tb f mem gl keys) (k : Kp no w' w'') : Inst w w'' ib tb f mem gl keys := by
  obtain ⟨⟨ro, mb, mv, gv, p, h1, h2, h3⟩, h4, h5⟩ := h
  exact ⟨⟨ro, mb, mv, gv, p, h1.kp k (fun h => h) (fun _ _ h => h) (fun _ _ h => h) (fun _ _ h => h), ⟨k.blk h2.blk (fun h => h), h2.map.kp k (fun _ _ h => h), h2.few⟩, h3⟩, h4, h5⟩

set_option maxRecDepth 100000 in
set_option maxHeartbeats 2000000 in
theorem started_keep {w : World} {dv : Value} {D : List UInt8} {f : Flat} (hb : BytesAt w dv D) (hd : ∀ b, dv.ownBlock = some b → b < w.heap.size) (hR : RowsOk w) (hl : D.length ≤ 1000000) (hf : loadM D = .ok f) (hpg : f.pages ≤ 1000) (hgl : f.globals.length ≤ 1000) :
    Calls Tryz.prog 21 #[dv] w fun r w' => (∃ ib tb, r = .returned (.tuple #[ptrTo ib, ptrTo tb, .bool true]) ∧ Inst w w' ib tb f (List.replicate (f.pages * 64) 0) (f.globals.map fun (n : Nat) => ((n : Nat) : Int)) []) ∧ Kp no w w' := by
  have hL := load_any hb hd hR hl
  rw [hf] at hL
  obtain ⟨ad, cap, hdv, -⟩ := hb.shape
  subst hdv
  have HL := hide hL
  clear hL hb hd hR hf
  go_enter Tryz.func21, Tryz.ntmps21
  go_wp2_with fail
  refine HL.out.mono ?_
  rintro r w1 ⟨⟨mb, rfl, hmod⟩, k1⟩
  have HMod := hide hmod
  have K1 := hide k1
  clear hmod k1 HL
  go_wp2_with fail
  refine (newStore_any _).mono ?_
  rintro r w2 ⟨rfl, hsto, k2⟩
  have htl := lt_of_blk hsto.blk
  have hsa := start_any (HMod.out.kp k2.any) htl (fun b hb => ⟨Nat.lt_of_lt_of_le hb.2 k2.size, by have := hb.2; omega⟩) hpg hgl
  have HSto := hide hsto
  have HSa := hide hsa
  have K2 := hide k2
  clear hsto hsa k2
  go_wp2_with fail
  refine HSa.out.mono ?_
  rintro r w3 ⟨⟨ib, mv, gv, rfl, hib, hin, hm, hg⟩, k3⟩
  have HIn := hide hin
  have HM := hide hm
  have HG := hide hg
  have K3 := hide k3
  have h1 := K1.out.size
  have h2 := K2.out.size
  clear hin hm hg k3
  go_wp2
  go_ret3
  refine ⟨⟨ib, w1.heap.size, rfl, ⟨made w w1, mb, mv, gv, none, HIn.out, ⟨K3.out.blk HSto.out.blk (fun h => h), .inl ⟨rfl, rfl⟩, HSto.out.few⟩, fun b hb => hb.1, fun b hb => ?_, fun b hb => ?_⟩, ?_, ?_⟩, K1.out.trans (K2.out.trans K3.out)⟩
  · have := HM.out b hb; omega
  · have := HG.out b hb; omega
  · omega
  · exact h1


def flatOkB (f : Flat) : Bool := decide (f.funcs.length ≤ 1000) && decide (f.code.length ≤ 1000000000) && f.code.all (fun x => !(x.op == 16) || decide (x.num < 1000000)) && f.funcs.all (fun g => decide (g.typ.1.length ≤ g.locals) && decide (g.locals ≤ 1000)) && decide (f.pages ≤ 1000) && decide (f.globals.length ≤ 1000)
structure FlatOk (f : Flat) : Prop where
  ok : f.Ok
  fn : ∀ k, k < f.funcs.length → (f.funcs.getD k fn0).typ.1.length ≤ (f.funcs.getD k fn0).locals ∧ (f.funcs.getD k fn0).locals ≤ 1000
  pg : f.pages ≤ 1000
  gl : f.globals.length ≤ 1000
theorem flatOk_of {f : Flat} (h : flatOkB f = true) : FlatOk f := by
  simp only [flatOkB, Bool.and_eq_true, decide_eq_true_eq, List.all_eq_true, Bool.or_eq_true, Bool.not_eq_true', beq_eq_false_iff_ne] at h
  obtain ⟨⟨⟨⟨⟨h1, h2⟩, h3⟩, h4⟩, h5⟩, h6⟩ := h
  refine ⟨⟨h1, h2, fun x hx ho => (h3 x hx).resolve_left (fun hn => hn ho)⟩, fun k hk => ?_, h5, h6⟩
  have := h4 (f.funcs.getD k fn0) (by rw [List.getD_eq_getElem?_getD, List.getElem?_eq_getElem hk]; exact List.getElem_mem hk)
  exact this

/-- A call, told of an instance. -/
theorem callI_keep {w w' : World} {ib tb : Nat} {av : Value} {f : Flat} {mem : List UInt8} {gl args : List Int} {keys : List (Int × Int)} {n fuel K : Nat} (hI : Inst w w' ib tb f mem gl keys)
    (hok : FlatOk f) (ha : ValsAt w' av args) (hal : args.length ≤ 1000) (hav : ∀ b, av.ownBlock = some b → b ≠ ib ∧ b ≠ tb) (he : refusesM f n args fuel = 0)
    (hK : K ≤ 900000) {t : Nat} {v : Int} {u : Nat} {s' : Mc} (hm : callR f n args fuel mem gl keys K = some (t, v, u, s')) (hsm : s'.mem.length ≤ 1000000 ∧ s'.gl.length ≤ 1000000 ∧ s'.keys.length ≤ 1000) :
    Calls Tryz.prog 27 #[ptrTo ib, .int .i64 n, av, .int .i64 fuel] w' fun r w'' => r = .returned (replyV 0 t v u) ∧
      (t = 0 → Inst w w'' ib tb f s'.mem s'.gl s'.keys) ∧ (t ≠ 0 → Inst w w'' ib tb f mem gl keys) ∧ Kp (ibtb ib tb) w' w'' := by
  obtain ⟨⟨ro, mb, mv, gv, p, h1, h2, h3, h4, h5⟩, h6, h7⟩ := hI
  refine Calls.mono (call_runs h1 h2 hok.ok ha hal hav hok.fn he hK hm hsm) ?_
  rintro r w'' ⟨hr, hz, hnz, hk⟩
  have hl : w.heap.size ≤ w'.heap.size := Nat.le_trans h6 (Nat.le_of_lt (lt_of_blk h1.blk))
  refine ⟨hr, fun ht => ?_, fun ht => ?_, hk⟩
  · obtain ⟨mv', gv', p', i1, i2, i3, i4⟩ := hz ht
    exact ⟨⟨ro, mb, mv', gv', p', i1, i2, h3, fun b hb => Nat.le_trans hl (i3 b hb), fun b hb => Nat.le_trans hl (i4 b hb)⟩, h6, h7⟩
  · obtain ⟨i1, i2⟩ := hnz ht
    exact ⟨⟨ro, mb, mv, gv, p, i1, i2, h3, h4, h5⟩, h6, h7⟩

theorem ValsAt.made (w : World) (l : List Int) : ValsAt (w.alloc (.cells (valCells l).toArray 38)) (.slice (some ⟨w.heap.size, 0, none⟩) l.length l.length) l := by
  have := RowAt.ofBlock (heap_alloc_new w (.cells (valCells l).toArray 38)) l.length 1 (by simp [valCells])
  unfold ValsAt
  simpa using this

set_option maxRecDepth 100000 in
set_option maxHeartbeats 2000000 in
theorem gives_keep {w w' : World} {ib tb : Nat} {av : Value} {f : Flat} {mem : List UInt8} {gl args : List Int} {keys : List (Int × Int)} {n K : Nat} (hI : Inst w w' ib tb f mem gl keys)
    (hok : FlatOk f) (ha : ValsAt w' av args) (hal : args.length ≤ 1000) (hav : ∀ b, av.ownBlock = some b → b ≠ ib ∧ b ≠ tb) (he : refusesM f n args 100000 = 0)
    (hK : K ≤ 900000) {v : Int} {u : Nat} {s' : Mc} (hm : callR f n args 100000 mem gl keys K = some (0, v, u, s')) (hsm : s'.mem.length ≤ 1000000 ∧ s'.gl.length ≤ 1000000 ∧ s'.keys.length ≤ 1000) :
    Calls Tryz.prog 22 #[ptrTo ib, .int .i64 n, av, .int .u64 v, .int .i64 u] w' fun r w'' => r = .returned (.bool true) ∧ Inst w w'' ib tb f s'.mem s'.gl s'.keys ∧ Kp (ibtb ib tb) w' w'' := by
  have hc := callI_keep (fuel := 100000) hI hok ha hal hav he hK hm hsm
  obtain ⟨ad, cap, hav', -⟩ := RowAt.shape ha
  subst hav'
  have HC := hide hc
  clear hc hI hok ha hal hav he hm hsm
  go_enter Tryz.func22, Tryz.ntmps22
  go_wp2_with fail
  refine HC.out.mono ?_
  rintro r w1 ⟨rfl, h1, -, k1⟩
  have H1 := hide (h1 trivial)
  have K1 := hide k1
  clear h1 k1 HC
  go_wp2
  go_ret
  exact ⟨by simp, H1.out.quiet ((Kp.refl no w1).alloc _), K1.out.alloc _⟩

set_option maxRecDepth 100000 in
set_option maxHeartbeats 2000000 in
theorem traps_keep {w w' : World} {ib tb : Nat} {av : Value} {f : Flat} {mem : List UInt8} {gl args : List Int} {keys : List (Int × Int)} {n fuel K : Nat} (hI : Inst w w' ib tb f mem gl keys)
    (hok : FlatOk f) (ha : ValsAt w' av args) (hal : args.length ≤ 1000) (hav : ∀ b, av.ownBlock = some b → b ≠ ib ∧ b ≠ tb) (he : refusesM f n args fuel = 0)
    (hK : K ≤ 900000) {t : Nat} (ht : t ≠ 0) {u : Nat} {s' : Mc} (hm : callR f n args fuel mem gl keys K = some (t, 0, u, s')) (hsm : s'.mem.length ≤ 1000000 ∧ s'.gl.length ≤ 1000000 ∧ s'.keys.length ≤ 1000) :
    Calls Tryz.prog 30 #[ptrTo ib, .int .i64 n, av, .int .i64 fuel, .int .i64 t, .int .i64 u] w' fun r w'' => r = .returned (.bool true) ∧ Inst w w'' ib tb f mem gl keys ∧ Kp (ibtb ib tb) w' w'' := by
  have hc := callI_keep (fuel := fuel) hI hok ha hal hav he hK hm hsm
  obtain ⟨ad, cap, hav', -⟩ := RowAt.shape ha
  subst hav'
  have HC := hide hc
  have HT := hide ht
  clear hc hI hok ha hal hav he hm hsm ht
  go_enter Tryz.func30, Tryz.ntmps30
  go_wp2_with fail
  refine HC.out.mono ?_
  rintro r w1 ⟨rfl, -, h1, k1⟩
  have H1 := hide (h1 HT.out)
  have K1 := hide k1
  clear h1 k1 HC
  go_wp2
  go_ret
  exact ⟨by simp, H1.out.quiet ((Kp.refl no w1).alloc _), K1.out.alloc _⟩

set_option maxRecDepth 100000 in
set_option maxHeartbeats 2000000 in
theorem refused_keep {w : World} {dv : Value} {D : List UInt8} {e at' : Nat} (hb : BytesAt w dv D) (hd : ∀ b, dv.ownBlock = some b → b < w.heap.size) (hR : RowsOk w) (hl : D.length ≤ 1000000) (hf : loadM D = .error ((e : Int), (at' : Int))) :
    Calls Tryz.prog 24 #[dv, .int .i64 e, .int .i64 at'] w fun r w' => r = .returned (.bool true) ∧ Kp no w w' := by
  have hL := load_any hb hd hR hl
  rw [hf] at hL
  obtain ⟨ad, cap, hdv, -⟩ := hb.shape
  subst hdv
  have HL := hide hL
  clear hL hb hd hR hf
  go_enter Tryz.func24, Tryz.ntmps24
  go_wp2_with fail
  refine HL.out.mono ?_
  rintro r w1 ⟨hr, k1⟩
  have hr' : r = .returned (.tuple #[.pointer none, .int .i64 e, .int .i64 at']) := hr
  subst hr'
  have K1 := hide k1
  clear k1 HL hr
  go_wp2
  go_ret
  exact ⟨by simp, K1.out⟩

end Go.Proofs.YtdeplgkhmebalaaGreatDoor

namespace Go.Proofs.YtdeplgkhmebalaaGreatDoor
open Go.RowKit
def deepFn : FnS := ⟨[126], [126], [], [0x20, 0, 0x50, 0x04, 0x7e, 0x42, 1, 0x05, 0x20, 0, 0x20, 0, 0x42, 1, 0x7d, 0x10, 0, 0x7e, 0x0b]⟩
def deepBytes : List UInt8 := moduleB 0 [deepFn]
def isOk {α β : Type} : Except α β → Bool
  | .ok _ => true
  | .error _ => false
def flat0 : Flat := ⟨[], [], 0, []⟩
def flatOf (D : List UInt8) : Flat := match loadM D with | .ok f => f | .error _ => flat0
theorem flatOf_ok {D : List UInt8} (h : isOk (loadM D) = true) : loadM D = .ok (flatOf D) := by
  unfold flatOf
  cases hl : loadM D with
  | ok f => rfl
  | error e => rw [hl] at h; cases h
set_option maxRecDepth 100000 in
theorem deep_ok : isOk (loadM deepBytes) = true := by kernel_rfl
def runOk (f : Flat) (n : Nat) (args : List Int) (fuel : Nat) (gl : List Int) (K : Nat) : Option (Nat × Int × Nat) := (callR f n args fuel (List.replicate (f.pages * 64) 0) gl [] K).map fun r => (r.1, r.2.1, r.2.2.1)
def fact : Nat → Nat
  | 0 => 1
  | n + 1 => fact n * (n + 1)
def deepGot (n : Nat) : Option (Nat × Int × Nat × Mc) := callR (flatOf deepBytes) 0 [((n : Nat) : Int)] (if n < 16 then 100000 else 5000) (List.replicate ((flatOf deepBytes).pages * 64) 0) [5] [] 2000
def smallB (s : Mc) : Bool := decide (s.mem.length ≤ 1000000) && decide (s.gl.length ≤ 1000000) && decide (s.keys.length ≤ 1000)
def isGot (g : Option (Nat × Int × Nat × Mc)) (t : Nat) (v : Int) (u : Nat) : Bool := match g with
  | none => false
  | some (t', v', u', s) => decide (t' = t) && decide (v' = v) && decide (u' = u) && smallB s
def deepB (n : Nat) : Bool := isGot (deepGot n) (if n < 16 then 0 else 6) (if n < 16 then (fact n : Int) else 0) (if n < 16 then 9 * n + 4 else 128)
set_option maxRecDepth 100000 in
theorem deep_runs : (List.range 40).all deepB = true := by kernel_rfl
end Go.Proofs.YtdeplgkhmebalaaGreatDoor

namespace Go.Proofs.YtdeplgkhmebalaaGreatDoor
open Go.RowKit
theorem FnsAt.made1 {W : World} {x0 x1 x2 x3 : Value} {fn : FnS} (h0 : BytesAt W x0 fn.params) (h1 : BytesAt W x1 fn.results) (h2 : BytesAt W x2 fn.locals) (h3 : BytesAt W x3 fn.code) (t : TypeId) : FnsAt (W.alloc (.cells #[x0, x1, x2, x3] t)) (.slice (some ⟨W.heap.size, 0, none⟩) 1 1) [fn] := by
  have k : Kp no W (W.alloc (.cells #[x0, x1, x2, x3] t)) := (Kp.refl _ _).alloc _
  refine ⟨[x0, x1, x2, x3], RowAt.ofBlock (heap_alloc_new W (.cells #[x0, x1, x2, x3] t)) 1 4 rfl, fun j hj => ?_⟩
  obtain rfl : j = 0 := by simp at hj; exact hj
  exact ⟨x0, x1, x2, x3, rfl, rfl, rfl, rfl, h0.kq k, h1.kq k, h2.kq k, h3.kq k⟩
theorem isGot_spec {g : Option (Nat × Int × Nat × Mc)} {t : Nat} {v : Int} {u : Nat} (h : isGot g t v u = true) : ∃ s, g = some (t, v, u, s) ∧ s.mem.length ≤ 1000000 ∧ s.gl.length ≤ 1000000 ∧ s.keys.length ≤ 1000 := by
  unfold isGot at h
  split at h
  · cases h
  · simp only [smallB, Bool.and_eq_true, decide_eq_true_eq] at h
    obtain ⟨⟨⟨rfl, rfl⟩, rfl⟩, ⟨h1, h2⟩, h3⟩ := h
    exact ⟨_, rfl, h1, h2, h3⟩
end Go.Proofs.YtdeplgkhmebalaaGreatDoor
