/- The statements' own functions: an instance begun, a call that gives, one that traps, a module that is refused. -/
import Derived.Test.YtdeplgkhmebalaaGreatDoorP11
import Derived.Test.YtdeplgkhmebalaaGreatDoorP24
import Derived.Test.YtdeplgkhmebalaaGreatDoorP31

namespace Go.Proofs.YtdeplgkhmebalaaGreatDoor
open Go.RowKit

/-- The rows of look lie in old memory. -/
def RowsOk (w : World) : Prop := RowsAt w (fun b => b < w.heap.size)
theorem RowsOk.kp {w w' : World} (h : RowsOk w) (k : Kp no w w') : RowsOk w' := by
  obtain ⟨a, o, cap, h1, h2, h3, h4, h5⟩ := RowsAt.kp (ro := fun b => b < w.heap.size) h (k.mono (S' := nro fun b => b < w.heap.size) (fun _ _ h => h.elim))
  exact ⟨a, o, cap, h1, h2, Nat.lt_of_lt_of_le h3 k.size, Nat.lt_of_lt_of_le h4 k.size, h5⟩
theorem RowsOk.kp2 {w0 w : World} {S : Nat → Prop} (h : RowsOk w0) (k : Kp S w0 w) (hs : ∀ b, b < w0.heap.size → ¬ S b) : RowsOk w := by
  obtain ⟨a, o, cap, h1, h2, h3, h4, h5⟩ := h
  have k' : Kp no w0 w := k.mono (fun b hb hS => hs b hb hS)
  exact RowsOk.kp ⟨a, o, cap, h1, h2, h3, h4, h5⟩ k'

/-- An instance, its store, of a module, its state: all of them in memory made since w. -/
structure Inst (w w' : World) (ib tb : Nat) (f : Flat) (mem : List UInt8) (gl : List Int) (keys : List (Int × Int)) : Prop where
  at' : ∃ ro mb mv gv p, InstAt w' ro ib tb mb mv gv f mem gl ∧ StoreAt w' tb p keys ∧ (∀ b, ro b → w.heap.size ≤ b) ∧ (∀ b, mv.ownBlock = some b → w.heap.size ≤ b) ∧ (∀ b, gv.ownBlock = some b → w.heap.size ≤ b)
  ib : w.heap.size ≤ ib
  tb : w.heap.size ≤ tb

theorem Inst.quiet {w w' w'' : World} {ib tb : Nat} {f : Flat} {mem : List UInt8} {gl : List Int} {keys : List (Int × Int)} (h : Inst w w' ib tb f mem gl keys) (k : Kp no w' w'') : Inst w w'' ib tb f mem gl keys := by
  obtain ⟨⟨ro, mb, mv, gv, p, h1, h2, h3⟩, h4, h5⟩ := h
  exact ⟨⟨ro, mb, mv, gv, p, h1.kp k (fun h => h) (fun _ _ h => h) (fun _ _ h => h) (fun _ _ h => h), ⟨k.blk h2.blk (fun h => h), h2.map.kp k (fun _ _ h => h), h2.few⟩, h3⟩, h4, h5⟩

set_option maxRecDepth 100000 in
set_option maxHeartbeats 2000000 in
theorem started_keep {w : World} {dv : Value} {D : List UInt8} {f : Flat} (hb : BytesAt w dv D) (hd : ∀ b, dv.ownBlock = some b → b < w.heap.size) (hR : RowsOk w) (hl : D.length ≤ 1000000) (hf : loadM D = .ok f) (hpg : f.pages ≤ 1000) (hgl : f.globals.length ≤ 1000) :
    Calls Tryz.prog 21 #[dv] w fun r w' => (∃ ib tb, r = .returned (.tuple #[ptrTo ib, ptrTo tb, .bool true]) ∧ Inst w w' ib tb f (List.replicate (f.pages * 64) 0) (f.globals.map fun (n : Nat) => ((n : Nat) : Int)) []) ∧ Kp no w w' := by
  have hL := load_any hb hd hR hl
  rw [hf] at hL
  obtain ⟨ad, cap, hdv, -⟩ := hb.shape
  subst hdv
  have HL := hide hL
  clear hL hb hd hR hf
  go_enter Tryz.func21, Tryz.ntmps21
  go_wp2_with fail
  refine HL.out.mono ?_
  rintro r w1 ⟨⟨mb, rfl, hmod⟩, k1⟩
  have HMod := hide hmod
  have K1 := hide k1
  clear hmod k1 HL
  go_wp2_with fail
  refine (newStore_any _).mono ?_
  rintro r w2 ⟨rfl, hsto, k2⟩
  have htl := lt_of_blk hsto.blk
  have hsa := start_any (HMod.out.kp k2.any) htl (fun b hb => ⟨Nat.lt_of_lt_of_le hb.2 k2.size, by have := hb.2; omega⟩) hpg hgl
  have HSto := hide hsto
  have HSa := hide hsa
  have K2 := hide k2
  clear hsto hsa k2
  go_wp2_with fail
  refine HSa.out.mono ?_
  rintro r w3 ⟨⟨ib, mv, gv, rfl, hib, hin, hm, hg⟩, k3⟩
  have HIn := hide hin
  have HM := hide hm
  have HG := hide hg
  have K3 := hide k3
  have h1 := K1.out.size
  have h2 := K2.out.size
  clear hin hm hg k3
  go_wp2
  go_ret3
  refine ⟨⟨ib, w1.heap.size, rfl, ⟨made w w1, mb, mv, gv, none, HIn.out, ⟨K3.out.blk HSto.out.blk (fun h => h), .inl ⟨rfl, rfl⟩, HSto.out.few⟩, fun b hb => hb.1, fun b hb => ?_, fun b hb => ?_⟩, ?_, ?_⟩, K1.out.trans (K2.out.trans K3.out)⟩
  · have := HM.out b hb; omega
  · have := HG.out b hb; omega
  · omega
  · exact h1


def flatOkB (f : Flat) : Bool := decide (f.funcs.length ≤ 1000) && decide (f.code.length ≤ 1000000000) && f.code.all (fun x => !(x.op == 16) || decide (x.num < 1000000)) && f.funcs.all (fun g => decide (g.typ.1.length ≤ g.locals) && decide (g.locals ≤ 1000)) && decide (f.pages ≤ 1000) && decide (f.globals.length ≤ 1000)
structure FlatOk (f : Flat) : Prop where
  ok : f.Ok
  fn : ∀ k, k < f.funcs.length → (f.funcs.getD k fn0).typ.1.length ≤ (f.funcs.getD k fn0).locals ∧ (f.funcs.getD k fn0).locals ≤ 1000
  pg : f.pages ≤ 1000
  gl : f.globals.length ≤ 1000
theorem flatOk_of {f : Flat} (h : flatOkB f = true) : FlatOk f := by
  simp only [flatOkB, Bool.and_eq_true, decide_eq_true_eq, List.all_eq_true, Bool.or_eq_true, Bool.not_eq_true', beq_eq_false_iff_ne] at h
  obtain ⟨⟨⟨⟨⟨h1, h2⟩, h3⟩, h4⟩, h5⟩, h6⟩ := h
  refine ⟨⟨h1, h2, fun x hx ho => (h3 x hx).resolve_left (fun hn => hn ho)⟩, fun k hk => ?_, h5, h6⟩
  have := h4 (f.funcs.getD k fn0) (by rw [List.getD_eq_getElem?_getD, List.getElem?_eq_getElem hk]; exact List.getElem_mem hk)
  exact this

/-- A call, told of an instance. -/
theorem callI_keep {w w' : World} {ib tb : Nat} {av : Value} {f : Flat} {mem : List UInt8} {gl args : List Int} {keys : List (Int × Int)} {n fuel K : Nat} (hI : Inst w w' ib tb f mem gl keys)
    (hok : FlatOk f) (ha : ValsAt w' av args) (hal : args.length ≤ 1000) (hav : ∀ b, av.ownBlock = some b → b ≠ ib ∧ b ≠ tb) (he : refusesM f n args fuel = 0)
    (hK : K ≤ 900000) {t : Nat} {v : Int} {u : Nat} {s' : Mc} (hm : callR f n args fuel mem gl keys K = some (t, v, u, s')) (hsm : s'.mem.length ≤ 1000000 ∧ s'.gl.length ≤ 1000000 ∧ s'.keys.length ≤ 1000) :
    Calls Tryz.prog 27 #[ptrTo ib, .int .i64 n, av, .int .i64 fuel] w' fun r w'' => r = .returned (replyV 0 t v u) ∧
      (t = 0 → Inst w w'' ib tb f s'.mem s'.gl s'.keys) ∧ (t ≠ 0 → Inst w w'' ib tb f mem gl keys) ∧ Kp (ibtb ib tb) w' w'' := by
  obtain ⟨⟨ro, mb, mv, gv, p, h1, h2, h3, h4, h5⟩, h6, h7⟩ := hI
  refine Calls.mono (call_runs h1 h2 hok.ok ha hal hav hok.fn he hK hm hsm) ?_
  rintro r w'' ⟨hr, hz, hnz, hk⟩
  have hl : w.heap.size ≤ w'.heap.size := Nat.le_trans h6 (Nat.le_of_lt (lt_of_blk h1.blk))
  refine ⟨hr, fun ht => ?_, fun ht => ?_, hk⟩
  · obtain ⟨mv', gv', p', i1, i2, i3, i4⟩ := hz ht
    exact ⟨⟨ro, mb, mv', gv', p', i1, i2, h3, fun b hb => Nat.le_trans hl (i3 b hb), fun b hb => Nat.le_trans hl (i4 b hb)⟩, h6, h7⟩
  · obtain ⟨i1, i2⟩ := hnz ht
    exact ⟨⟨ro, mb, mv, gv, p, i1, i2, h3, h4, h5⟩, h6, h7⟩

theorem ValsAt.made (w : World) (l : List Int) : ValsAt (w.alloc (.cells (valCells l).toArray 38)) (.slice (some ⟨w.heap.size, 0, none⟩) l.length l.length) l := by
  have := RowAt.ofBlock (heap_alloc_new w (.cells (valCells l).toArray 38)) l.length 1 (by simp [valCells])
  unfold ValsAt
  simpa using this

set_option maxRecDepth 100000 in
set_option maxHeartbeats 2000000 in
theorem gives_keep {w w' : World} {ib tb : Nat} {av : Value} {f : Flat} {mem : List UInt8} {gl args : List Int} {keys : List (Int × Int)} {n K : Nat} (hI : Inst w w' ib tb f mem gl keys)
    (hok : FlatOk f) (ha : ValsAt w' av args) (hal : args.length ≤ 1000) (hav : ∀ b, av.ownBlock = some b → b ≠ ib ∧ b ≠ tb) (he : refusesM f n args 100000 = 0)
    (hK : K ≤ 900000) {v : Int} {u : Nat} {s' : Mc} (hm : callR f n args 100000 mem gl keys K = some (0, v, u, s')) (hsm : s'.mem.length ≤ 1000000 ∧ s'.gl.length ≤ 1000000 ∧ s'.keys.length ≤ 1000) :
    Calls Tryz.prog 22 #[ptrTo ib, .int .i64 n, av, .int .u64 v, .int .i64 u] w' fun r w'' => r = .returned (.bool true) ∧ Inst w w'' ib tb f s'.mem s'.gl s'.keys ∧ Kp (ibtb ib tb) w' w'' := by
  have hc := callI_keep (fuel := 100000) hI hok ha hal hav he hK hm hsm
  obtain ⟨ad, cap, hav', -⟩ := RowAt.shape ha
  subst hav'
  have HC := hide hc
  clear hc hI hok ha hal hav he hm hsm
  go_enter Tryz.func22, Tryz.ntmps22
  go_wp2_with fail
  refine HC.out.mono ?_
  rintro r w1 ⟨rfl, h1, -, k1⟩
  have H1 := hide (h1 trivial)
  have K1 := hide k1
  clear h1 k1 HC
  go_wp2
  go_ret
  exact ⟨by simp, H1.out.quiet ((Kp.refl no w1).alloc _), K1.out.alloc _⟩

set_option maxRecDepth 100000 in
set_option maxHeartbeats 2000000 in
theorem traps_keep {w w' : World} {ib tb : Nat} {av : Value} {f : Flat} {mem : List UInt8} {gl args : List Int} {keys : List (Int × Int)} {n fuel K : Nat} (hI : Inst w w' ib tb f mem gl keys)
    (hok : FlatOk f) (ha : ValsAt w' av args) (hal : args.length ≤ 1000) (hav : ∀ b, av.ownBlock = some b → b ≠ ib ∧ b ≠ tb) (he : refusesM f n args fuel = 0)
    (hK : K ≤ 900000) {t : Nat} (ht : t ≠ 0) {u : Nat} {s' : Mc} (hm : callR f n args fuel mem gl keys K = some (t, 0, u, s')) (hsm : s'.mem.length ≤ 1000000 ∧ s'.gl.length ≤ 1000000 ∧ s'.keys.length ≤ 1000) :
    Calls Tryz.prog 30 #[ptrTo ib, .int .i64 n, av, .int .i64 fuel, .int .i64 t, .int .i64 u] w' fun r w'' => r = .returned (.bool true) ∧ Inst w w'' ib tb f mem gl keys ∧ Kp (ibtb ib tb) w' w'' := by
  have hc := callI_keep (fuel := fuel) hI hok ha hal hav he hK hm hsm
  obtain ⟨ad, cap, hav', -⟩ := RowAt.shape ha
  subst hav'
  have HC := hide hc
  have HT := hide ht
  clear hc hI hok ha hal hav he hm hsm ht
  go_enter Tryz.func30, Tryz.ntmps30
  go_wp2_with fail
  refine HC.out.mono ?_
  rintro r w1 ⟨rfl, -, h1, k1⟩
  have H1 := hide (h1 HT.out)
  have K1 := hide k1
  clear h1 k1 HC
  go_wp2
  go_ret
  exact ⟨by simp, H1.out.quiet ((Kp.refl no w1).alloc _), K1.out.alloc _⟩

set_option maxRecDepth 100000 in
set_option maxHeartbeats 2000000 in
theorem refused_keep {w : World} {dv : Value} {D : List UInt8} {e at' : Nat} (hb : BytesAt w dv D) (hd : ∀ b, dv.ownBlock = some b → b < w.heap.size) (hR : RowsOk w) (hl : D.length ≤ 1000000) (hf : loadM D = .error ((e : Int), (at' : Int))) :
    Calls Tryz.prog 24 #[dv, .int .i64 e, .int .i64 at'] w fun r w' => r = .returned (.bool true) ∧ Kp no w w' := by
  have hL := load_any hb hd hR hl
  rw [hf] at hL
  obtain ⟨ad, cap, hdv, -⟩ := hb.shape
  subst hdv
  have HL := hide hL
  clear hL hb hd hR hf
  go_enter Tryz.func24, Tryz.ntmps24
  go_wp2_with fail
  refine HL.out.mono ?_
  rintro r w1 ⟨hr, k1⟩
  have hr' : r = .returned (.tuple #[.pointer none, .int .i64 e, .int .i64 at']) := hr
  subst hr'
  have K1 := hide k1
  clear k1 HL hr
  go_wp2
  go_ret
  exact ⟨by simp, K1.out⟩

end Go.Proofs.YtdeplgkhmebalaaGreatDoor

namespace Go.Proofs.YtdeplgkhmebalaaGreatDoor
open Go.RowKit
def deepFn : FnS := ⟨[126], [126], [], [0x20, 0, 0x50, 0x04, 0x7e, 0x42, 1, 0x05, 0x20, 0, 0x20, 0, 0x42, 1, 0x7d, 0x10, 0, 0x7e, 0x0b]⟩
def deepBytes : List UInt8 := moduleB 0 [deepFn]
def isOk {α β : Type} : Except α β → Bool
  | .ok _ => true
  | .error _ => false
def flat0 : Flat := ⟨[], [], 0, []⟩
def flatOf (D : List UInt8) : Flat := match loadM D with | .ok f => f | .error _ => flat0
theorem flatOf_ok {D : List UInt8} (h : isOk (loadM D) = true) : loadM D = .ok (flatOf D) := by
  unfold flatOf
  cases hl : loadM D with
  | ok f => rfl
  | error e => rw [hl] at h; cases h
set_option maxRecDepth 100000 in
theorem deep_ok : isOk (loadM deepBytes) = true := by kernel_rfl
def runOk (f : Flat) (n : Nat) (args : List Int) (fuel : Nat) (gl : List Int) (K : Nat) : Option (Nat × Int × Nat) := (callR f n args fuel (List.replicate (f.pages * 64) 0) gl [] K).map fun r => (r.1, r.2.1, r.2.2.1)
def fact : Nat → Nat
  | 0 => 1
  | n + 1 => fact n * (n + 1)
def deepGot (n : Nat) : Option (Nat × Int × Nat × Mc) := callR (flatOf deepBytes) 0 [((n : Nat) : Int)] (if n < 16 then 100000 else 5000) (List.replicate ((flatOf deepBytes).pages * 64) 0) [5] [] 2000
def smallB (s : Mc) : Bool := decide (s.mem.length ≤ 1000000) && decide (s.gl.length ≤ 1000000) && decide (s.keys.length ≤ 1000)
def isGot (g : Option (Nat × Int × Nat × Mc)) (t : Nat) (v : Int) (u : Nat) : Bool := match g with
  | none => false
  | some (t', v', u', s) => decide (t' = t) && decide (v' = v) && decide (u' = u) && smallB s
def deepB (n : Nat) : Bool := isGot (deepGot n) (if n < 16 then 0 else 6) (if n < 16 then (fact n : Int) else 0) (if n < 16 then 9 * n + 4 else 128)
set_option maxRecDepth 100000 in
theorem deep_runs : (List.range 40).all deepB = true := by kernel_rfl
end Go.Proofs.YtdeplgkhmebalaaGreatDoor

namespace Go.Proofs.YtdeplgkhmebalaaGreatDoor
open Go.RowKit
theorem FnsAt.made1 {W : World} {x0 x1 x2 x3 : Value} {fn : FnS} (h0 : BytesAt W x0 fn.params) (h1 : BytesAt W x1 fn.results) (h2 : BytesAt W x2 fn.locals) (h3 : BytesAt W x3 fn.code) (t : TypeId) : FnsAt (W.alloc (.cells #[x0, x1, x2, x3] t)) (.slice (some ⟨W.heap.size, 0, none⟩) 1 1) [fn] := by
  have k : Kp no W (W.alloc (.cells #[x0, x1, x2, x3] t)) := (Kp.refl _ _).alloc _
  refine ⟨[x0, x1, x2, x3], RowAt.ofBlock (heap_alloc_new W (.cells #[x0, x1, x2, x3] t)) 1 4 rfl, fun j hj => ?_⟩
  obtain rfl : j = 0 := by simp at hj; exact hj
  exact ⟨x0, x1, x2, x3, rfl, rfl, rfl, rfl, h0.kq k, h1.kq k, h2.kq k, h3.kq k⟩
theorem isGot_spec {g : Option (Nat × Int × Nat × Mc)} {t : Nat} {v : Int} {u : Nat} (h : isGot g t v u = true) : ∃ s, g = some (t, v, u, s) ∧ s.mem.length ≤ 1000000 ∧ s.gl.length ≤ 1000000 ∧ s.keys.length ≤ 1000 := by
  unfold isGot at h
  split at h
  · cases h
  · simp only [smallB, Bool.and_eq_true, decide_eq_true_eq] at h
    obtain ⟨⟨⟨rfl, rfl⟩, rfl⟩, ⟨h1, h2⟩, h3⟩ := h
    exact ⟨_, rfl, h1, h2, h3⟩
end Go.Proofs.YtdeplgkhmebalaaGreatDoor

namespace Go.Proofs.YtdeplgkhmebalaaGreatDoor
open Go.RowKit

/-- So many instructions, none of them a trap. -/
def stepsR (f : Flat) : Nat → Mc → Option Mc
  | 0, s => some s
  | k + 1, s =>
    if s.calls.length = 0 then none
    else if s.pos < f.code.length then
      (if burnsR (f.code.getD s.pos ins0).op then
        (if s.fuel = 0 then none
        else match stepR f { s with pos := s.pos + 1, fuel := s.fuel - 1 } (f.code.getD s.pos ins0) with
          | some (0, s') => stepsR f k s'
          | _ => none)
      else match stepR f { s with pos := s.pos + 1 } (f.code.getD s.pos ins0) with
          | some (0, s') => stepsR f k s'
          | _ => none)
    else none
theorem steps_run {f : Flat} {m : Nat} : ∀ (k : Nat) (s s' : Mc), stepsR f k s = some s' → runR f (k + m) s = runR f m s'
  | 0, s, s', h => by cases h; rw [Nat.zero_add]
  | k + 1, s, s', h => by
    rw [show k + 1 + m = (k + m) + 1 by omega, runR]
    rw [stepsR] at h
    split at h
    · cases h
    · rename_i hc
      rw [if_neg hc]
      split at h
      · rename_i hp
        rw [if_pos hp]
        split at h
        · rename_i hb
          rw [if_pos hb]
          split at h
          · cases h
          · rename_i hf
            rw [if_neg hf]
            split at h
            · rename_i s1 hs
              rw [hs, afterR, if_pos rfl]
              exact steps_run k s1 s' h
            · cases h
        · rename_i hb
          rw [if_neg hb]
          split at h
          · rename_i s1 hs
            rw [hs, afterR, if_pos rfl]
            exact steps_run k s1 s' h
          · cases h
      · cases h

def loFn : FnS := ⟨[127], [127], [127], [0x23, 0, 0x42, 1, 0x7c, 0x24, 0, 0x02, 0x40, 0x03, 0x40, 0x20, 0, 0x45, 0x0d, 1, 0x20, 1, 0x20, 0, 0x6a, 0x21, 1, 0x20, 0, 0x41, 1, 0x6b, 0x21, 0, 0x0c, 0, 0x0b, 0x0b, 0x20, 1]⟩
def loBytes : List UInt8 := moduleB 1 [loFn]
def loF : Flat := flatOf loBytes
theorem lo_ok : isOk (loadM loBytes) = true := by kernel_rfl
def loSt (j acc : Int) (fuel : Nat) (mem : List UInt8) (g : Int) : Mc := ⟨[j, acc], [(0, 2, 0)], 6, fuel, mem, [g], []⟩
set_option maxRecDepth 100000 in
theorem lo_begin (n F : Nat) (mem : List UInt8) (g : Nat) : stepsR loF 6 (enterR loF ⟨[((n : Nat) : Int)], [], 0, F + 6, mem, [((g : Nat) : Int)], []⟩ 0) = some (loSt n 0 F mem (cutR true (IntKind.u64.wrap (((g : Nat) : Int) + 1)))) := by kernel_rfl
set_option maxRecDepth 100000 in
theorem lo_round (j acc F : Nat) (mem : List UInt8) (g : Int) : stepsR loF 12 (loSt ((j + 1 : Nat) : Int) acc (F + 12) mem g) = some (loSt (cutR false (IntKind.u64.wrap (((j + 1 : Nat) : Int) - 1))) (cutR false (IntKind.u64.wrap ((acc : Int) + ((j + 1 : Nat) : Int)))) F mem g) := by kernel_rfl
set_option maxRecDepth 100000 in
theorem lo_end (acc F : Nat) (mem : List UInt8) (g : Int) : runR loF 20 (loSt ((0 : Nat) : Int) acc (F + 4) mem g) = some (0, ⟨[(acc : Int)], [], 0, F, mem, [g], []⟩) := by kernel_rfl
def isCut (m : Option (Nat × Mc)) (k : Nat) : Bool := match m with
  | some (5, s) => decide (s.fuel = 0) && decide (s.stack.length ≤ 1000) && decide (s.gl.length ≤ 1000) && decide (s.keys.length ≤ 1000) && decide (s.mem.length = k)
  | _ => false
def zeros64 : List UInt8 := List.replicate 64 0
set_option maxRecDepth 100000 in
theorem lo_cut0 (j acc : Nat) (g : Int) : isCut (runR loF 20 (loSt ((j + 1 : Nat) : Int) acc 0 zeros64 g)) 64 = true := by kernel_rfl
set_option maxRecDepth 100000 in
theorem lo_cut1 (j acc : Nat) (g : Int) : isCut (runR loF 20 (loSt ((j + 1 : Nat) : Int) acc 1 zeros64 g)) 64 = true := by kernel_rfl
set_option maxRecDepth 100000 in
theorem lo_cut2 (j acc : Nat) (g : Int) : isCut (runR loF 20 (loSt ((j + 1 : Nat) : Int) acc 2 zeros64 g)) 64 = true := by kernel_rfl
set_option maxRecDepth 100000 in
theorem lo_cut3 (j acc : Nat) (g : Int) : isCut (runR loF 20 (loSt ((j + 1 : Nat) : Int) acc 3 zeros64 g)) 64 = true := by kernel_rfl
set_option maxRecDepth 100000 in
theorem lo_cut4 (j acc : Nat) (g : Int) : isCut (runR loF 20 (loSt ((j + 1 : Nat) : Int) acc 4 zeros64 g)) 64 = true := by kernel_rfl
set_option maxRecDepth 100000 in
theorem lo_cut5 (j acc : Nat) (g : Int) : isCut (runR loF 20 (loSt ((j + 1 : Nat) : Int) acc 5 zeros64 g)) 64 = true := by kernel_rfl
set_option maxRecDepth 100000 in
theorem lo_cut6 (j acc : Nat) (g : Int) : isCut (runR loF 20 (loSt ((j + 1 : Nat) : Int) acc 6 zeros64 g)) 64 = true := by kernel_rfl
set_option maxRecDepth 100000 in
theorem lo_cut7 (j acc : Nat) (g : Int) : isCut (runR loF 20 (loSt ((j + 1 : Nat) : Int) acc 7 zeros64 g)) 64 = true := by kernel_rfl
set_option maxRecDepth 100000 in
theorem lo_cut8 (j acc : Nat) (g : Int) : isCut (runR loF 20 (loSt ((j + 1 : Nat) : Int) acc 8 zeros64 g)) 64 = true := by kernel_rfl
set_option maxRecDepth 100000 in
theorem lo_cut9 (j acc : Nat) (g : Int) : isCut (runR loF 20 (loSt ((j + 1 : Nat) : Int) acc 9 zeros64 g)) 64 = true := by kernel_rfl
set_option maxRecDepth 100000 in
theorem lo_cut10 (j acc : Nat) (g : Int) : isCut (runR loF 20 (loSt ((j + 1 : Nat) : Int) acc 10 zeros64 g)) 64 = true := by kernel_rfl
set_option maxRecDepth 100000 in
theorem lo_cut11 (j acc : Nat) (g : Int) : isCut (runR loF 20 (loSt ((j + 1 : Nat) : Int) acc 11 zeros64 g)) 64 = true := by kernel_rfl
set_option maxRecDepth 100000 in
theorem lo_cutE0 (acc : Nat) (g : Int) : isCut (runR loF 20 (loSt ((0 : Nat) : Int) acc 0 zeros64 g)) 64 = true := by kernel_rfl
set_option maxRecDepth 100000 in
theorem lo_cutE1 (acc : Nat) (g : Int) : isCut (runR loF 20 (loSt ((0 : Nat) : Int) acc 1 zeros64 g)) 64 = true := by kernel_rfl
set_option maxRecDepth 100000 in
theorem lo_cutE2 (acc : Nat) (g : Int) : isCut (runR loF 20 (loSt ((0 : Nat) : Int) acc 2 zeros64 g)) 64 = true := by kernel_rfl
set_option maxRecDepth 100000 in
theorem lo_cutE3 (acc : Nat) (g : Int) : isCut (runR loF 20 (loSt ((0 : Nat) : Int) acc 3 zeros64 g)) 64 = true := by kernel_rfl
set_option maxRecDepth 100000 in
theorem lo_cutB0 (n : Nat) (g : Nat) : isCut (runR loF 20 (enterR loF ⟨[((n : Nat) : Int)], [], 0, 0, zeros64, [((g : Nat) : Int)], []⟩ 0)) 64 = true := by kernel_rfl
set_option maxRecDepth 100000 in
theorem lo_cutB1 (n : Nat) (g : Nat) : isCut (runR loF 20 (enterR loF ⟨[((n : Nat) : Int)], [], 0, 1, zeros64, [((g : Nat) : Int)], []⟩ 0)) 64 = true := by kernel_rfl
set_option maxRecDepth 100000 in
theorem lo_cutB2 (n : Nat) (g : Nat) : isCut (runR loF 20 (enterR loF ⟨[((n : Nat) : Int)], [], 0, 2, zeros64, [((g : Nat) : Int)], []⟩ 0)) 64 = true := by kernel_rfl
set_option maxRecDepth 100000 in
theorem lo_cutB3 (n : Nat) (g : Nat) : isCut (runR loF 20 (enterR loF ⟨[((n : Nat) : Int)], [], 0, 3, zeros64, [((g : Nat) : Int)], []⟩ 0)) 64 = true := by kernel_rfl
set_option maxRecDepth 100000 in
theorem lo_cutB4 (n : Nat) (g : Nat) : isCut (runR loF 20 (enterR loF ⟨[((n : Nat) : Int)], [], 0, 4, zeros64, [((g : Nat) : Int)], []⟩ 0)) 64 = true := by kernel_rfl
set_option maxRecDepth 100000 in
theorem lo_cutB5 (n : Nat) (g : Nat) : isCut (runR loF 20 (enterR loF ⟨[((n : Nat) : Int)], [], 0, 5, zeros64, [((g : Nat) : Int)], []⟩ 0)) 64 = true := by kernel_rfl
end Go.Proofs.YtdeplgkhmebalaaGreatDoor

namespace Go.Proofs.YtdeplgkhmebalaaGreatDoor
open Go.RowKit

theorem cut32 {x : Int} (h0 : 0 ≤ x) (h1 : x < 4294967296) : cutR false (IntKind.u64.wrap x) = x := by
  unfold cutR
  rw [if_neg (by simp), IntKind.wrap_u64, IntKind.wrap_u64]
  omega
def accN : Nat → Nat → Nat → Nat
  | acc, _, 0 => acc
  | acc, n, q + 1 => accN (acc + n) (n - 1) q
theorem lo_loop {mem : List UInt8} {g : Int} {m F : Nat} : ∀ (q n acc : Nat), q ≤ n → acc + n * q < 4294967296 → runR loF (12 * q + m) (loSt n acc (F + 12 * q) mem g) = runR loF m (loSt ((n - q : Nat) : Int) (accN acc n q) F mem g)
  | 0, n, acc, _, _ => by simp [accN]
  | q + 1, n, acc, hq, hb => by
    obtain ⟨n', rfl⟩ : ∃ n', n = n' + 1 := ⟨n - 1, by omega⟩
    have hx : (n' + 1) * (q + 1) = n' * q + n' + q + 1 := by rw [Nat.add_mul, Nat.mul_add]; omega
    rw [hx] at hb
    have h1 : ((n' + 1 : Nat) : Int) - 1 = (n' : Int) := by omega
    have h2 : (acc : Int) + ((n' + 1 : Nat) : Int) = ((acc + (n' + 1) : Nat) : Int) := by omega
    have h3 := steps_run (m := 12 * q + m) 12 _ _ (lo_round n' acc (F + 12 * q) mem g)
    rw [h1, h2, cut32 (by omega) (by omega), cut32 (by omega) (by omega)] at h3
    rw [show 12 * (q + 1) + m = 12 + (12 * q + m) by omega, show F + 12 * (q + 1) = F + 12 * q + 12 by omega, h3, lo_loop q n' (acc + (n' + 1)) (by omega) (by omega)]
    rw [show n' + 1 - (q + 1) = n' - q by omega, accN, Nat.add_sub_cancel]
theorem accN_all : ∀ (n acc : Nat), accN acc n n = acc + n * (n + 1) / 2
  | 0, acc => by simp [accN]
  | n + 1, acc => by
    rw [accN, Nat.add_sub_cancel, accN_all n]
    have hx : (n + 1) * (n + 1 + 1) = n * (n + 1) + 2 * (n + 1) := by rw [Nat.mul_comm (n + 1) (n + 1 + 1), ← Nat.add_mul, Nat.add_assoc]
    rw [hx]
    omega
theorem tri_lt {n : Nat} (hn : n < 700) : n * (n + 1) / 2 < 250000 ∧ n * n < 490000 ∧ n * (n + 1) < 500000 := by
  have h1 : n * n ≤ 699 * 699 := Nat.mul_le_mul (by omega) (by omega)
  have h2 : n * (n + 1) = n * n + n := by rw [Nat.mul_add, Nat.mul_one]
  omega

/-- A call with fuel enough. -/
theorem lo_full {n F g : Nat} (hn : n < 700) (mem : List UInt8) : ∃ K s, K ≤ 20000 ∧ callR loF 0 [((n : Nat) : Int)] (F + (12 * n + 10)) mem [((g : Nat) : Int)] [] K = some (0, ((n * (n + 1) / 2 : Nat) : Int), 12 * n + 10, s) ∧ s.mem = mem ∧ s.gl = [cutR true (IntKind.u64.wrap (((g : Nat) : Int) + 1))] ∧ s.keys = [] := by
  obtain ⟨ht, hsq, -⟩ := tri_lt hn
  refine ⟨6 + (12 * n + 20), ⟨[((n * (n + 1) / 2 : Nat) : Int)], [], 0, F, mem, [cutR true (IntKind.u64.wrap (((g : Nat) : Int) + 1))], []⟩, by omega, ?_, rfl, rfl, rfl⟩
  unfold callR
  have h0 := steps_run (m := 12 * n + 20) 6 _ _ (lo_begin n (F + 4 + 12 * n) mem g)
  rw [show F + 4 + 12 * n + 6 = F + (12 * n + 10) by omega] at h0
  have h1 := lo_loop (mem := mem) (g := cutR true (IntKind.u64.wrap (((g : Nat) : Int) + 1))) (m := 20) (F := F + 4) n n 0 (Nat.le_refl _) (by omega)
  rw [Nat.sub_self, accN_all, Nat.zero_add, lo_end] at h1
  rw [h0]
  have h1' : runR loF (12 * n + 20) (loSt n 0 (F + 4 + 12 * n) mem (cutR true (IntKind.u64.wrap (((g : Nat) : Int) + 1)))) = some (0, ⟨[((n * (n + 1) / 2 : Nat) : Int)], [], 0, F, mem, [cutR true (IntKind.u64.wrap (((g : Nat) : Int) + 1))], []⟩) := h1
  rw [h1']
  simp only
  rw [if_pos (by constructor <;> simp)]
  simp [topR]
theorem isCut_spec {m : Option (Nat × Mc)} {k : Nat} (h : isCut m k = true) : ∃ s, m = some (5, s) ∧ s.fuel = 0 ∧ s.stack.length ≤ 1000 ∧ s.gl.length ≤ 1000 ∧ s.keys.length ≤ 1000 ∧ s.mem.length = k := by
  unfold isCut at h
  split at h
  · simp only [Bool.and_eq_true, decide_eq_true_eq] at h
    exact ⟨_, rfl, h.1.1.1.1, h.1.1.1.2, h.1.1.2, h.1.2, h.2⟩
  · cases h
theorem lo_cut : ∀ r, r < 12 → ∀ (j acc : Nat) (g : Int), isCut (runR loF 20 (loSt ((j + 1 : Nat) : Int) acc r zeros64 g)) 64 = true
  | 0, _, j, acc, g => lo_cut0 j acc g
  | 1, _, j, acc, g => lo_cut1 j acc g
  | 2, _, j, acc, g => lo_cut2 j acc g
  | 3, _, j, acc, g => lo_cut3 j acc g
  | 4, _, j, acc, g => lo_cut4 j acc g
  | 5, _, j, acc, g => lo_cut5 j acc g
  | 6, _, j, acc, g => lo_cut6 j acc g
  | 7, _, j, acc, g => lo_cut7 j acc g
  | 8, _, j, acc, g => lo_cut8 j acc g
  | 9, _, j, acc, g => lo_cut9 j acc g
  | 10, _, j, acc, g => lo_cut10 j acc g
  | 11, _, j, acc, g => lo_cut11 j acc g
  | r + 12, h, _, _, _ => absurd h (by omega)
theorem lo_cutE : ∀ r, r < 4 → ∀ (acc : Nat) (g : Int), isCut (runR loF 20 (loSt ((0 : Nat) : Int) acc r zeros64 g)) 64 = true
  | 0, _, acc, g => lo_cutE0 acc g
  | 1, _, acc, g => lo_cutE1 acc g
  | 2, _, acc, g => lo_cutE2 acc g
  | 3, _, acc, g => lo_cutE3 acc g
  | r + 4, h, _, _ => absurd h (by omega)
theorem lo_cutB : ∀ r, r < 6 → ∀ (n g : Nat), isCut (runR loF 20 (enterR loF ⟨[((n : Nat) : Int)], [], 0, r, zeros64, [((g : Nat) : Int)], []⟩ 0)) 64 = true
  | 0, _, n, g => lo_cutB0 n g
  | 1, _, n, g => lo_cutB1 n g
  | 2, _, n, g => lo_cutB2 n g
  | 3, _, n, g => lo_cutB3 n g
  | 4, _, n, g => lo_cutB4 n g
  | 5, _, n, g => lo_cutB5 n g
  | r + 6, h, _, _ => absurd h (by omega)
/-- A call with too little. -/
theorem lo_less {n f g : Nat} (hn : n < 700) (hf : f < 12 * n + 10) : ∃ K s, K ≤ 20000 ∧ callR loF 0 [((n : Nat) : Int)] f zeros64 [((g : Nat) : Int)] [] K = some (5, 0, f, s) ∧ s.mem.length ≤ 1000000 ∧ s.gl.length ≤ 1000000 ∧ s.keys.length ≤ 1000 := by
  obtain ⟨-, hsq, -⟩ := tri_lt hn
  have fin : ∀ K, K ≤ 20000 → isCut (runR loF K (enterR loF ⟨[((n : Nat) : Int)], [], 0, f, zeros64, [((g : Nat) : Int)], []⟩ 0)) 64 = true → ∃ K s, K ≤ 20000 ∧ callR loF 0 [((n : Nat) : Int)] f zeros64 [((g : Nat) : Int)] [] K = some (5, 0, f, s) ∧ s.mem.length ≤ 1000000 ∧ s.gl.length ≤ 1000000 ∧ s.keys.length ≤ 1000 := by
    intro K hK h
    obtain ⟨s, hs, h1, h2, h3, h4, h5⟩ := isCut_spec h
    refine ⟨K, s, hK, ?_, by omega, by omega, h4⟩
    unfold callR
    rw [hs]
    simp only
    rw [if_pos ⟨by omega, by omega⟩, h1]
    simp
  by_cases h6 : f < 6
  · exact fin 20 (by omega) (lo_cutB f h6 n g)
  · obtain ⟨q, r, hr, hfq⟩ : ∃ q r, r < 12 ∧ f = r + 12 * q + 6 := ⟨(f - 6) / 12, (f - 6) % 12, Nat.mod_lt _ (by decide), by omega⟩
    subst hfq
    have hqn : q ≤ n := by omega
    refine fin (6 + (12 * q + 20)) (by omega) ?_
    rw [steps_run (m := 12 * q + 20) 6 _ _ (lo_begin n (r + 12 * q) zeros64 g)]
    have h1 := lo_loop (mem := zeros64) (g := cutR true (IntKind.u64.wrap (((g : Nat) : Int) + 1))) (m := 20) (F := r) q n 0 hqn (by have : n * q ≤ n * n := Nat.mul_le_mul (Nat.le_refl _) hqn; omega)
    have h1' : runR loF (12 * q + 20) (loSt n 0 (r + 12 * q) zeros64 (cutR true (IntKind.u64.wrap (((g : Nat) : Int) + 1)))) = runR loF 20 (loSt ((n - q : Nat) : Int) (accN 0 n q) r zeros64 (cutR true (IntKind.u64.wrap (((g : Nat) : Int) + 1)))) := h1
    rw [h1']
    rcases Nat.lt_or_ge q n with hq | hq
    · rw [show n - q = (n - q - 1) + 1 by omega]
      exact lo_cut r hr _ _ _
    · obtain rfl : q = n := by omega
      rw [Nat.sub_self]
      exact lo_cutE r (by omega) _ _
structure LoOk : Prop where
  load : loadM loBytes = .ok loF
  ok : FlatOk loF
  len : loBytes.length ≤ 1000000
  gl : loF.globals.map (fun (n : Nat) => ((n : Nat) : Int)) = [5]
  mem : List.replicate (loF.pages * 64) (0 : UInt8) = zeros64
  nf : loF.funcs.length = 1
  ps : (loF.funcs.getD 0 fn0).typ.1 = [127]
theorem lo_okay : LoOk := by
  have h : (isOk (loadM loBytes) && flatOkB loF && decide (loBytes.length ≤ 1000) && decide (loF.globals = [5]) && decide (loF.pages = 1) && decide (loF.funcs.length = 1) && decide ((loF.funcs.getD 0 fn0).typ.1 = [127])) = true := by kernel_rfl
  simp only [Bool.and_eq_true, decide_eq_true_eq] at h
  obtain ⟨⟨⟨⟨⟨⟨h1, h2⟩, h3⟩, h4⟩, h5⟩, h6⟩, h7⟩ := h
  exact ⟨flatOf_ok h1, flatOk_of h2, by omega, by rw [h4]; rfl, by rw [h5]; rfl, h6, h7⟩
theorem lo_ref {n : Nat} (hn : n < 700) {f : Nat} (hf : f ≤ 100000) : refusesM loF ((0 : Nat) : Int) [((n : Nat) : Int)] ((f : Nat) : Int) = 0 := by
  have h := lo_okay
  have hfi : fitsM [((n : Nat) : Int)] [127] = true := by
    simp [fitsM, fitsAt]
    omega
  unfold refusesM
  rw [h.nf, if_neg (by simp), show (((0 : Nat) : Int)).toNat = 0 from rfl, h.ps, hfi, if_neg (by simp), if_neg (by omega)]
end Go.Proofs.YtdeplgkhmebalaaGreatDoor
