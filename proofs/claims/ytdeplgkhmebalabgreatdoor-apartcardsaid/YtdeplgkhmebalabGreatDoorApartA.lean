/- Two instances of one store. -/
import Derived.Test.YtdeplgkhmebalabGreatDoorP32
import Derived.Test.YtdeplgkhmebalabGreatDoorKeepA
import Derived.Test.YtdeplgkhmebalabGreatDoorP33
import Derived.Test.YtdeplgkhmebalabGreatDoorKeepB

namespace Go.Proofs.YtdeplgkhmebalabGreatDoor
open Go.RowKit

set_option maxRecDepth 100000 in
set_option maxHeartbeats 2000000 in
theorem gives_at {w : World} {ro : Nat → Prop} {ib tb mb : Nat} {mv gv av : Value} {f : Flat} {mem : List UInt8} {gl args : List Int} {p : Option Nat} {keys : List (Int × Int)} {n K : Nat} (h : InstAt w ro ib tb mb mv gv f mem gl) (hs : StoreAt w tb p keys)
    (hok : FlatOk f) (ha : ValsAt w av args) (hal : args.length ≤ 1000) (hav : ∀ b, av.ownBlock = some b → b ≠ ib ∧ b ≠ tb) (he : refusesM f n args 100000 = 0)
    (hK : K ≤ 900000) {v : Int} {u : Nat} {s' : Mc} (hm : callR f n args 100000 mem gl keys K = some (0, v, u, s')) (hsm : s'.mem.length ≤ 1000000 ∧ s'.gl.length ≤ 1000000 ∧ s'.keys.length ≤ 1000) :
    Calls Tryz.prog 9 #[ptrTo ib, .int .i64 n, av, .int .u64 v, .int .i64 u] w fun r w' => r = .returned (.bool true) ∧
      (∃ mv' gv' p', InstAt w' ro ib tb mb mv' gv' f s'.mem s'.gl ∧ StoreAt w' tb p' s'.keys ∧ (∀ b, mv'.ownBlock = some b → w.heap.size ≤ b) ∧ (∀ b, gv'.ownBlock = some b → w.heap.size ≤ b)) ∧ Kp (ibtb ib tb) w w' := by
  have hc := call_runs (fuel := 100000) h hs hok.ok ha hal hav hok.fn he hK hm hsm
  obtain ⟨ad, cap, hav', -⟩ := RowAt.shape ha
  subst hav'
  have HC := hide hc
  clear hc h hs hok ha hal hav he hm hsm
  go_enter Tryz.func9, Tryz.ntmps9
  go_wp2_with fail
  refine HC.out.mono ?_
  rintro r w1 ⟨rfl, h1, -, k1⟩
  have H1 := hide (h1 trivial)
  have K1 := hide k1
  clear h1 k1 HC
  go_wp2
  go_ret
  obtain ⟨mv', gv', p', i1, i2, i3, i4⟩ := H1.out
  have kq := (Kp.refl no w1).alloc (.cells #[.int .i64 0, .int .i64 0, .int .u64 v, .int .i64 u] 41)
  exact ⟨by simp, ⟨mv', gv', p', i1.kp kq (fun h => h) (fun _ _ h => h) (fun _ _ h => h) (fun _ _ h => h), ⟨kq.blk i2.blk (fun h => h), i2.map.kp kq (fun _ _ h => h), i2.few⟩, i3, i4⟩, K1.out.alloc _⟩

theorem RowAt.lt_own {w : World} {v : Value} {n : Nat} {xs : List Value} (h : RowAt w v 1 n xs) (hn : 0 < n) : ∀ b, v.ownBlock = some b → b < w.heap.size := by
  have hl : 0 < xs.length := by rw [h.1]; omega
  obtain ⟨a, o, cap, rfl, -, hc⟩ := h.get (k := 0) (x := xs[0]) (by simp [hl])
  intro b hb
  cases hb
  exact World.block_lt_of_cell? w _ hc
/-- What is an instance's own, apart from another instance and from a list. -/
structure Half (B0 : Nat) (X : Nat → Prop) (ib jb : Nat) (ro : Nat → Prop) (mv gv : Value) : Prop where
  ne : ib ≠ jb
  lt : ib < B0
  ro : ∀ b, ro b → b < B0 ∧ b ≠ jb
  mv : ∀ b, mv.ownBlock = some b → b ≠ jb ∧ ¬ X b
  gv : ∀ b, gv.ownBlock = some b → b ≠ jb ∧ ¬ X b
/-- Two instances of one store. -/
structure Duo (w : World) (B0 : Nat) (X : Nat → Prop) (ib jb tb : Nat) (f : Flat) (mem : List UInt8) (gl : List Int) (keys : List (Int × Int)) : Prop where
  ex : ∃ ro mb mv gv ro' mb' mv' gv' p, InstAt w ro ib tb mb mv gv f mem gl ∧ InstAt w ro' jb tb mb' mv' gv' f mem gl ∧ StoreAt w tb p keys ∧ Half B0 X ib jb ro mv gv ∧ Half B0 X jb ib ro' mv' gv'
  tb : tb < B0
  le : B0 ≤ w.heap.size
section
variable {w w' : World} {B0 : Nat} {X : Nat → Prop} {ib jb tb : Nat} {f : Flat} {mem : List UInt8} {gl : List Int} {keys : List (Int × Int)}
theorem Duo.swap (h : Duo w B0 X ib jb tb f mem gl keys) : Duo w B0 X jb ib tb f mem gl keys := by
  obtain ⟨⟨ro, mb, mv, gv, ro', mb', mv', gv', p, h1, h2, h3, h4, h5⟩, h6, h7⟩ := h
  exact ⟨⟨ro', mb', mv', gv', ro, mb, mv, gv, p, h2, h1, h3, h5, h4⟩, h6, h7⟩
theorem Duo.kp {S : Nat → Prop} (h : Duo w B0 X ib jb tb f mem gl keys) (k : Kp S w w') (hS : ∀ b, b < B0 → ¬ S b) (hv : ∀ b, S b → X b ∧ ∃ cs t, w.heap[b]? = some (.cells cs t)) : Duo w' B0 X ib jb tb f mem gl keys := by
  obtain ⟨⟨ro, mb, mv, gv, ro', mb', mv', gv', p, h1, h2, h3, h4, h5⟩, h6, h7⟩ := h
  refine ⟨⟨ro, mb, mv, gv, ro', mb', mv', gv', p, ?_, ?_, ⟨k.blk h3.blk (hS _ h6), h3.map.kp k (fun b hb hs => ?_), h3.few⟩, h4, h5⟩, h6, Nat.le_trans h7 k.size⟩
  · exact h1.kp k (hS _ h4.lt) (fun b hb => hS _ (h4.ro b hb).1) (fun b hb hs => (h4.mv b hb).2 (hv b hs).1) (fun b hb hs => (h4.gv b hb).2 (hv b hs).1)
  · exact h2.kp k (hS _ h5.lt) (fun b hb => hS _ (h5.ro b hb).1) (fun b hb hs => (h5.mv b hb).2 (hv b hs).1) (fun b hb hs => (h5.gv b hb).2 (hv b hs).1)
  · obtain ⟨cs, t, hc⟩ := (hv b hs).2
    exact h3.map.ne hc b hb rfl
theorem Duo.quiet (h : Duo w B0 X ib jb tb f mem gl keys) (k : Kp no w w') : Duo w' B0 X ib jb tb f mem gl keys := h.kp k (fun _ _ h => h) (fun _ h => h.elim)
/-- The list lies elsewhere now. -/
theorem Duo.list {X' : Nat → Prop} (h : Duo w B0 X ib jb tb f mem gl keys) (hm : 0 < mem.length) (hg : 0 < gl.length) (hv : ∀ b, X' b → X b ∨ w.heap.size ≤ b) : Duo w B0 X' ib jb tb f mem gl keys := by
  obtain ⟨⟨ro, mb, mv, gv, ro', mb', mv', gv', p, h1, h2, h3, h4, h5⟩, h6, h7⟩ := h
  have go : ∀ {ib jb : Nat} {ro : Nat → Prop} {mv gv : Value} {mb : Nat}, InstAt w ro ib tb mb mv gv f mem gl → Half B0 X ib jb ro mv gv → Half B0 X' ib jb ro mv gv := by
    intro ib jb ro mv gv mb h1 h4
    refine ⟨h4.ne, h4.lt, h4.ro, fun b hb => ⟨(h4.mv b hb).1, fun e => ?_⟩, fun b hb => ⟨(h4.gv b hb).1, fun e => ?_⟩⟩
    · rcases hv b e with e' | e'
      · exact (h4.mv b hb).2 e'
      · have := RowAt.lt_own h1.memR hm b hb
        omega
    · rcases hv b e with e' | e'
      · exact (h4.gv b hb).2 e'
      · have := RowAt.lt_own h1.glR hg b hb
        omega
  exact ⟨⟨ro, mb, mv, gv, ro', mb', mv', gv', p, h1, h2, h3, go h1 h4, go h2 h5⟩, h6, h7⟩
theorem Half.kpOther {ro : Nat → Prop} {mv gv : Value} {mb : Nat} {p : Option Nat} (h2 : InstAt w ro jb tb mb mv gv f mem gl) (h3 : StoreAt w tb p keys) (h5 : Half B0 X jb ib ro mv gv) (k : Kp (ibtb ib tb) w w') : InstAt w' ro jb tb mb mv gv f mem gl := by
  have hnt := h2.neI h3
  refine h2.kp k ?_ ?_ ?_ ?_
  · rintro (e | e)
    · exact h5.ne e
    · exact hnt e
  · rintro b hb (e | e)
    · exact (h5.ro b hb).2 e
    · exact (h2.roI b hb).2.2 e
  · rintro b hb (e | e)
    · exact (h5.mv b hb).1 e
    · exact (h2.mvI b hb).2 e
  · rintro b hb (e | e)
    · exact (h5.gv b hb).1 e
    · exact (h2.gvI b hb).2 e
theorem Duo.gives {av : Value} {args : List Int} {n K : Nat} {v : Int} {u : Nat} {s' : Mc} (h : Duo w B0 X ib jb tb f mem gl keys) (hok : FlatOk f) (ha : ValsAt w av args) (hal : args.length ≤ 1000) (hav : ∀ b, av.ownBlock = some b → b ≠ ib ∧ b ≠ tb) (he : refusesM f n args 100000 = 0)
    (hK : K ≤ 900000) (hm : callR f n args 100000 mem gl keys K = some (0, v, u, s')) (hsm : s'.mem = mem) (hsg : s'.gl = gl) (hsk : s'.keys.length ≤ 1000) (hvl : ∀ b, X b → b < w.heap.size) :
    Calls Tryz.prog 9 #[ptrTo ib, .int .i64 n, av, .int .u64 v, .int .i64 u] w fun r w' => r = .returned (.bool true) ∧ Duo w' B0 X ib jb tb f mem gl s'.keys ∧ Kp (ibtb ib tb) w w' := by
  obtain ⟨⟨ro, mb, mv, gv, ro', mb', mv', gv', p, h1, h2, h3, h4, h5⟩, h6, h7⟩ := h
  refine (gives_at h1 h3 hok ha hal hav he hK hm ⟨by rw [hsm]; exact h1.mn, by rw [hsg]; exact h1.gn, hsk⟩).mono ?_
  rintro r w' ⟨hr, ⟨mv1, gv1, p1, j1, j2, j3, j4⟩, k⟩
  rw [hsm, hsg] at j1
  refine ⟨hr, ⟨⟨ro, mb, mv1, gv1, ro', mb', mv', gv', p1, j1, Half.kpOther h2 h3 h5 k, j2, ⟨h4.ne, h4.lt, h4.ro, fun b hb => ⟨?_, fun e => ?_⟩, fun b hb => ⟨?_, fun e => ?_⟩⟩, h5⟩, h6, Nat.le_trans h7 k.size⟩, k⟩
  · have := j3 b hb; have := h5.lt; omega
  · have := j3 b hb; have := hvl b e; omega
  · have := j4 b hb; have := h5.lt; omega
  · have := j4 b hb; have := hvl b e; omega
theorem Half.kpStore {ro : Nat → Prop} {mv gv : Value} {mb : Nat} {p : Option Nat} (h2 : InstAt w ro jb tb mb mv gv f mem gl) (h3 : StoreAt w tb p keys) (k : Kp (one tb) w w') : InstAt w' ro jb tb mb mv gv f mem gl :=
  h2.kp k (h2.neI h3) (fun b hb => (h2.roI b hb).2.2) (fun b hb => (h2.mvI b hb).2) (fun b hb => (h2.gvI b hb).2)
theorem Duo.get (h : Duo w B0 X ib jb tb f mem gl keys) (hne : keys ≠ []) (k : Int) (h1 : -9223372036854775808 ≤ k) (h2 : k < 9223372036854775808) :
    Calls Tryz.prog 13 #[ptrTo tb, .int .i64 k] w fun r w' => r = .returned (.tuple #[.int .i64 ((look keys k).getD 0), .bool (look keys k).isSome]) ∧ Duo w' B0 X ib jb tb f mem gl keys ∧ Kp (one tb) w w' := by
  obtain ⟨⟨ro, mb, mv, gv, ro', mb', mv', gv', p, i1, i2, i3, i4, i5⟩, i6, i7⟩ := h
  obtain ⟨b, rfl⟩ : ∃ b, p = some b := by
    rcases i3.map with ⟨-, h⟩ | ⟨b, hb, -⟩
    · exact absurd h hne
    · exact ⟨b, hb⟩
  refine Calls.mono (get_any i3 k h1 h2) ?_
  rintro r w'' ⟨hr, hs', kA⟩
  exact ⟨hr, ⟨⟨ro, mb, mv, gv, ro', mb', mv', gv', _, Half.kpStore i1 i3 kA, Half.kpStore i2 i3 kA, hs', i4, i5⟩, i6, Nat.le_trans i7 kA.size⟩, kA⟩
theorem Duo.lts (h : Duo w B0 X ib jb tb f mem gl keys) : ib < B0 ∧ jb < B0 ∧ tb < B0 := by
  obtain ⟨⟨ro, mb, mv, gv, ro', mb', mv', gv', p, h1, h2, h3, h4, h5⟩, h6, h7⟩ := h
  exact ⟨h4.lt, h5.lt, h6⟩
/-- One of the two, alone. -/
theorem Duo.inst (h : Duo w B0 X ib jb tb f mem gl keys) : Inst { w with heap := #[] } w ib tb f mem gl keys := by
  obtain ⟨⟨ro, mb, mv, gv, ro', mb', mv', gv', p, i1, i2, i3, i4, i5⟩, i6, i7⟩ := h
  exact ⟨⟨ro, mb, mv, gv, p, i1, i3, fun _ _ => Nat.zero_le _, fun _ _ => Nat.zero_le _, fun _ _ => Nat.zero_le _⟩, Nat.zero_le _, Nat.zero_le _⟩
theorem Duo.store (h : Duo w B0 X ib jb tb f mem gl keys) : ∃ p, StoreAt w tb p keys ∧ ∀ w', StoreAt w' tb p keys → Kp (one tb) w w' → Duo w' B0 X ib jb tb f mem gl keys := by
  obtain ⟨⟨ro, mb, mv, gv, ro', mb', mv', gv', p, i1, i2, i3, i4, i5⟩, i6, i7⟩ := h
  exact ⟨p, i3, fun w'' hs' kA => ⟨⟨ro, mb, mv, gv, ro', mb', mv', gv', _, Half.kpStore i1 i3 kA, Half.kpStore i2 i3 kA, hs', i4, i5⟩, i6, Nat.le_trans i7 kA.size⟩⟩
end
theorem w64 (k : Int) (h1 : -9223372036854775808 ≤ k) (h2 : k < 9223372036854775808) : wrap64 (IntKind.u64.wrap k) = k := by
  rw [IntKind.wrap_u64]
  unfold wrap64
  omega
theorem kp_ref0 (a v : Int) {f : Nat} (hf : f ≤ 100000) : refusesM kpF ((0 : Nat) : Int) [a, v] ((f : Nat) : Int) = 0 := by
  have hfi : fitsM [a, v] [126, 126] = true := by simp [fitsM, fitsAt, List.range, List.range.loop]
  unfold refusesM
  rw [if_neg (by rw [kp_okay.nf]; omega), show (kpF.funcs.getD (((0 : Nat) : Int)).toNat fn0).typ.1 = [126, 126] by kernel_rfl, hfi, if_neg (by simp), if_neg (by omega)]
theorem kp_ref1 (a : Int) {f : Nat} (hf : f ≤ 100000) : refusesM kpF ((1 : Nat) : Int) [a] ((f : Nat) : Int) = 0 := by
  have hfi : fitsM [a] [126] = true := by simp [fitsM, fitsAt]
  unfold refusesM
  rw [if_neg (by rw [kp_okay.nf]; omega), show (kpF.funcs.getD (((1 : Nat) : Int)).toNat fn0).typ.1 = [126] by kernel_rfl, hfi, if_neg (by simp), if_neg (by omega)]
theorem kp_ref2 (a v : Int) {f : Nat} (hf : f ≤ 100000) : refusesM kpF ((2 : Nat) : Int) [a, v] ((f : Nat) : Int) = 0 := by
  have hfi : fitsM [a, v] [126, 126] = true := by simp [fitsM, fitsAt, List.range, List.range.loop]
  unfold refusesM
  rw [if_neg (by rw [kp_okay.nf]; omega), show (kpF.funcs.getD (((2 : Nat) : Int)).toNat fn0).typ.1 = [126, 126] by kernel_rfl, hfi, if_neg (by simp), if_neg (by omega)]
end Go.Proofs.YtdeplgkhmebalabGreatDoor

namespace Go.Proofs.YtdeplgkhmebalabGreatDoor
open Go.RowKit

/-- What is told of a function's type: two lists in new memory. -/
structure TypeTold (w w' : World) (r : Ending) (ps rs : List UInt8) : Prop where
  ex : ∃ g1 g2, r = .returned (.tuple #[.slice (some ⟨g1, 0, none⟩) ps.length ps.length, .slice (some ⟨g2, 0, none⟩) rs.length rs.length, .int .i64 0]) ∧ w.heap.size ≤ g1 ∧ g1 < g2 ∧ NB w w' (.slice (some ⟨g1, 0, none⟩) ps.length ps.length) ps ∧ NB w w' (.slice (some ⟨g2, 0, none⟩) rs.length rs.length) rs

set_option maxRecDepth 100000 in
set_option maxHeartbeats 2000000 in
theorem type_any {w : World} {ro : Nat → Prop} {mb : Nat} {f : Flat} {n : Nat} (h : ModAt w ro mb 69 f) (hn : n < f.funcs.length) (_hnf : f.funcs.length ≤ 1000) (hp : (f.funcs.getD n fn0).typ.1.length ≤ 1000) (hr : (f.funcs.getD n fn0).typ.2.length ≤ 1000) :
    Calls Tryz.prog 10 #[ptrTo mb, .int .i64 n] w fun r w' => TypeTold w w' r (f.funcs.getD n fn0).typ.1 (f.funcs.getD n fn0).typ.2 ∧ Kp no w w' := by
  have hfn := funcs_any h
  obtain ⟨fv, gv, cv, hg⟩ := h
  obtain ⟨ad, cap, rfl, hcap, hk⟩ := hg.funcs
  obtain ⟨hc, -⟩ := cells_of hg.blk
  obtain ⟨a, o, pv, rv, rfl, -, c0, c1, -, -, hb, -, hb2, -⟩ := hk n hn
  obtain ⟨adp, capp, rfl, hcp⟩ := RowAt.shape hb
  obtain ⟨adr, capr, rfl, hcr⟩ := RowAt.shape hb2
  generalize (f.funcs.getD n fn0).typ.1 = ps at *
  generalize (f.funcs.getD n fn0).typ.2 = rs at *
  have HFn := hide hfn
  have HB := hide hb
  have HB2 := hide hb2
  clear hfn hk hb hb2 hg
  go_enter Tryz.func10, Tryz.ntmps10
  go_wp2_with fail
  refine HFn.out.mono ?_
  rintro r w1 ⟨rfl, hw⟩
  rw [hw]
  clear hw w1 HFn
  go_wp2_with fail
  obtain ⟨W1, hW1⟩ : ∃ W1, w.alloc (.cells #[.slice adp ps.length capp, .slice adr rs.length capr] 71) = W1 := ⟨_, rfl⟩
  have hblk : W1.heap[w.heap.size]? = some (.cells #[.slice adp ps.length capp, .slice adr rs.length capr] 71) := by rw [← hW1]; exact heap_alloc_new _ _
  have k1 : Kp no w W1 := by rw [← hW1]; exact (Kp.refl _ _).alloc _
  rw [hW1]
  obtain ⟨S, hSd⟩ : ∃ S : World → Prop, S = fun w' => ∀ q, w'.cell? ⟨w.heap.size, q, none⟩ = #[.slice adp ps.length capp, .slice adr rs.length capr][q]? := ⟨_, rfl⟩
  have hSk : ∀ W', Kp no W1 W' → S W' := fun W' k => by rw [hSd]; exact (cells_of (k.blk hblk (fun h => h))).1
  have HSk := hide hSk
  have K1 := hide k1
  have HSd := hide hSd
  clear hSk hSd hblk k1 hW1 hc c0 c1
  refine wp_region_S 9 (S) (by kernel_rfl) (n := 9) (listed := #[false, false, false, false, false, false, false, false, false]) rfl (by kernel_rfl) ?hS (fun hS => ?_)
  case hS => exact HSk.out _ ((Kp.refl _ _).drew)
  have hSd := HSd.out
  subst hSd
  refine wpAnyS_take 0 [] (v := ?v1) (listed' := #[true, false, false, false, false, false, false, false, false]) rfl (by kernel_rfl) (by kernel_rfl) rfl (fun _ _ _ h => h) hS (fun _ hSw => ?hy1) ?rest1
  case hy1 => (try dsimp only at hSw); go_simp; all_goals (with_reducible rfl)
  simp only [Act.put, List.setIfInBounds_toArray, List.set_cons_zero, List.set_cons_succ]
  refine wpAnyS_take 1 [] (v := ?v2) (listed' := #[true, true, false, false, false, false, false, false, false]) rfl (by kernel_rfl) (by kernel_rfl) rfl (fun _ _ _ h => h) hS (fun _ hSw => ?hy2) ?rest2
  case hy2 => (try dsimp only at hSw); go_simp; all_goals (with_reducible rfl)
  simp only [Act.put, List.setIfInBounds_toArray, List.set_cons_zero, List.set_cons_succ]
  refine wpAnyS_take 3 [] (v := ?v3) (listed' := #[true, true, false, true, false, false, false, false, false]) rfl (by kernel_rfl) (by kernel_rfl) rfl (fun _ _ _ h => h) hS (fun _ hSw => ?hy3) ?rest3
  case hy3 => (try dsimp only at hSw); go_simp; all_goals (with_reducible rfl)
  simp only [Act.put, List.setIfInBounds_toArray, List.set_cons_zero, List.set_cons_succ]
  refine wpAnyS_take 4 [] (v := ?v4) (listed' := #[true, true, false, true, true, false, false, false, false]) rfl (by kernel_rfl) (by kernel_rfl) rfl (fun _ _ _ h => h) hS (fun _ hSw => ?hy4) ?rest4
  case hy4 => (try dsimp only at hSw); go_simp; all_goals (with_reducible rfl)
  simp only [Act.put, List.setIfInBounds_toArray, List.set_cons_zero, List.set_cons_succ]
  refine wpAnyS_one 2 (listed' := #[true, true, true, true, true, false, false, false, false]) rfl (by kernel_rfl) (by kernel_rfl) (fun K hK => ?_)
  have hB := freshB_any (w := W1.drew) (RowAt.kp HB.out (K1.out.drew) (fun _ _ h => h)) (bytes_oneCell ps) (by omega)
  refine step_call (by rfl) 24 _ _ (by rfl) enters_freshB _ (by rfl) hB ?_
  rintro r w2 ⟨⟨rfl, ho2⟩, k2⟩
  have k2' : Kp no W1 w2 := ((Kp.refl no W1).drew).trans k2
  refine ⟨_, rfl, hK _ _ (HSk.out _ k2') (fun hS => ?_)⟩
  clear hK K hB
  simp only [Act.put, List.setIfInBounds_toArray, List.set_cons_zero, List.set_cons_succ]
  refine wpAnyS_one 5 (listed' := #[true, true, true, true, true, true, false, false, false]) rfl (by kernel_rfl) (by kernel_rfl) (fun K hK => ?_)
  have hB := freshB_any (w := w2) (RowAt.kp HB2.out (K1.out.trans k2') (fun _ _ h => h)) (bytes_oneCell rs) (by omega)
  refine step_call (by rfl) 24 _ _ (by rfl) enters_freshB _ (by rfl) hB ?_
  rintro r w3 ⟨⟨rfl, ho3⟩, k3⟩
  refine ⟨_, rfl, hK _ _ (HSk.out _ (k2'.trans k3)) (fun hS => ?_)⟩
  clear hK K hB
  simp only [Act.put, List.setIfInBounds_toArray, List.set_cons_zero, List.set_cons_succ]
  refine wpAnyS_take 6 [] (v := ?v7) (listed' := #[true, true, true, true, true, true, true, false, false]) rfl (by kernel_rfl) (by kernel_rfl) rfl (fun _ _ _ h => h) hS (fun _ hSw => ?hy7) ?rest7
  case hy7 => (try dsimp only at hSw); go_simp; all_goals (with_reducible rfl)
  simp only [Act.put, List.setIfInBounds_toArray, List.set_cons_zero, List.set_cons_succ]
  refine wpAnyS_take 7 [] (v := ?v8) (listed' := #[true, true, true, true, true, true, true, true, false]) rfl (by kernel_rfl) (by kernel_rfl) rfl (fun _ _ _ h => h) hS (fun _ hSw => ?hy8) ?rest8
  case hy8 => (try dsimp only at hSw); go_simp; all_goals (with_reducible rfl)
  simp only [Act.put, List.setIfInBounds_toArray, List.set_cons_zero, List.set_cons_succ]
  refine wpAnyS_take 8 [] (v := ?v9) (listed' := #[true, true, true, true, true, true, true, true, true]) rfl (by kernel_rfl) (by kernel_rfl) rfl (fun _ _ _ h => h) hS (fun _ hSw => ?hy9) ?rest9
  case hy9 => (try dsimp only at hSw); go_simp; all_goals (with_reducible rfl)
  simp only [Act.put, List.setIfInBounds_toArray, List.set_cons_zero, List.set_cons_succ]
  refine wpAnyS_done (by kernel_rfl) ?_ _
  clear hS
  have hl2 := own_lt ho2 rfl
  have h12 := k2'.size
  have h0 := K1.out.size
  have hx2 := hide (own_le (k3.own ho2 (fun _ _ h => h)) (show w.heap.size ≤ W1.drew.heap.size from h0))
  have hx3 := hide (own_le ho3 (Nat.le_trans h0 h12))
  have KF := hide (K1.out.trans (k2'.trans k3))
  clear ho2 ho3 k2 k2' k3
  go_wp2
  go_ret3
  exact ⟨⟨_, _, rfl, h0, hl2, hx2.out, hx3.out⟩, KF.out⟩
end Go.Proofs.YtdeplgkhmebalabGreatDoor

namespace Go.Proofs.YtdeplgkhmebalabGreatDoor
open Go.RowKit Go.MuLone

set_option maxRecDepth 100000 in
set_option maxHeartbeats 2000000 in
theorem globals_at {w' : World} {ro : Nat → Prop} {ib tb mb : Nat} {mv gv : Value} {f : Flat} {mem : List UInt8} {gl : List Int} {p : Option Nat} {keys : List (Int × Int)} (h : InstAt w' ro ib tb mb mv gv f mem gl) (hs : StoreAt w' tb p keys) :
    Calls Tryz.prog 18 #[ptrTo ib] w' fun r w'' => (∃ b, r = .returned (.slice (some ⟨b, 0, none⟩) gl.length gl.length) ∧ w'.heap.size ≤ b ∧ w''.ownsRow w'.heap.size 22 1 (.slice (some ⟨b, 0, none⟩) gl.length gl.length) gl.length (valCells gl)) ∧ StoreAt w'' tb p keys ∧ Kp (one tb) w' w'' := by
  have hne := h.neI hs
  have hio := h.blk
  have hso := hs.blk
  obtain ⟨hic, -⟩ := cells_of hio
  obtain ⟨hsc, hsf⟩ := cells_of hso
  have hst := started_any hio
  have htl := lt_of_blk hso
  have hil := lt_of_blk hio
  obtain ⟨adg, capg, hgv, -⟩ := RowAt.shape h.glR
  subst hgv
  have kL : Kp (one tb) w' (w'.setCell ⟨tb, 0, none⟩ (.int .i32 1)) := (Kp.refl _ w').set1 0 _
  have hi1 := kL.blk hio hne
  have hs1 : (w'.setCell ⟨tb, 0, none⟩ (.int .i32 1)).heap[tb]? = some (.cells #[.int .i32 1, .int .u32 0, .map p] 85) := heap_setCell hso _
  have hfr := freshV_any (RowAt.kp h.glR kL (fun b hb => (h.gvI b hb).2)) (vals_oneCell gl) h.gn
  have hsz1 : (w'.setCell ⟨tb, 0, none⟩ (.int .i32 1)).heap.size = w'.heap.size := by simp [World.setCell]
  have HSt := hide hst
  have H := hide h
  have HS := hide hs
  have HFr := hide hfr
  have KL := hide kL
  have HS1 := hide hs1
  clear h hs hst hio hso hfr kL hs1
  go_enter_defers Tryz.func18, Tryz.ntmps18
  go_wp2_with fail
  refine HSt.out.mono ?_
  rintro r w1 ⟨rfl, hw⟩
  rw [hw]
  clear hw w1
  go_wp2_with fail
  refine (lock_free muLib ⟨tb, 0, none⟩ _ (hsc 0) (hsf 0)).mono ?_
  rintro r w1 ⟨rfl, hw⟩
  rw [hw]
  clear hw w1
  obtain ⟨W1, hW1⟩ : ∃ W1, W1 = w'.setCell ⟨tb, 0, none⟩ (.int .i32 1) := ⟨_, rfl⟩
  rw [← hW1] at hi1 HS1 HFr KL hsz1 ⊢
  clear hW1
  obtain ⟨hic1, -⟩ := cells_of hi1
  clear hi1 hic hsc hsf
  go_wp2_with fail
  refine HFr.out.mono ?_
  rintro r w2 ⟨⟨rfl, ho⟩, k2⟩
  have HO := hide ho
  have K2 := hide k2
  have hs2 := k2.blk HS1.out (fun h => h)
  clear ho k2 HFr
  go_wp2_with fail
  refine leaves_cons (f := 27) (args := #[.pointer (some ⟨tb, 0, none⟩)]) (by simp) (by simp [go_sem]) ?_
  refine (unlock_deferred muLib ⟨tb, 0, none⟩ .returning _ ((cells_of hs2).1 0) ((cells_of hs2).2 0)).mono ?_
  rintro r u' w3 ⟨rfl, rfl, rfl⟩
  rw [hsz1] at HO
  have kA : Kp (one tb) w' (w2.setCell ⟨tb, 0, none⟩ (.int .i32 0)) := (KL.out.then K2.out).set1 0 _
  refine ⟨_, results_tmp rfl _ _ _, ⟨w'.heap.size, rfl, Nat.le_refl _, ?_⟩, ⟨heap_setCell hs2 _, HS.out.map.kp kA (HS.out.map.ne HS.out.blk), HS.out.few⟩, kA⟩
  exact ((Kp.refl (one tb) w2).set1 0 _).own HO.out (fun b hb (e : b = tb) => by have := own_new HO.out b hb; omega)

set_option maxRecDepth 100000 in
set_option maxHeartbeats 2000000 in
theorem memory_at {w' : World} {ro : Nat → Prop} {ib tb mb : Nat} {mv gv : Value} {f : Flat} {mem : List UInt8} {gl : List Int} {p : Option Nat} {keys : List (Int × Int)} (h : InstAt w' ro ib tb mb mv gv f mem gl) (hs : StoreAt w' tb p keys) :
    Calls Tryz.prog 19 #[ptrTo ib] w' fun r w'' => (∃ b, r = .returned (.slice (some ⟨b, 0, none⟩) mem.length mem.length) ∧ w'.heap.size ≤ b ∧ w''.ownsRow w'.heap.size 5 1 (.slice (some ⟨b, 0, none⟩) mem.length mem.length) mem.length (byteCells' mem)) ∧ StoreAt w'' tb p keys ∧ Kp (one tb) w' w'' := by
  have hne := h.neI hs
  have hio := h.blk
  have hso := hs.blk
  obtain ⟨hic, -⟩ := cells_of hio
  obtain ⟨hsc, hsf⟩ := cells_of hso
  have hst := started_any hio
  have htl := lt_of_blk hso
  have hil := lt_of_blk hio
  obtain ⟨adm, capm, hmv, -⟩ := RowAt.shape h.memR
  subst hmv
  have kL : Kp (one tb) w' (w'.setCell ⟨tb, 0, none⟩ (.int .i32 1)) := (Kp.refl _ w').set1 0 _
  have hi1 := kL.blk hio hne
  have hs1 : (w'.setCell ⟨tb, 0, none⟩ (.int .i32 1)).heap[tb]? = some (.cells #[.int .i32 1, .int .u32 0, .map p] 85) := heap_setCell hso _
  have hfr := freshB_any (RowAt.kp h.memR kL (fun b hb => (h.mvI b hb).2)) (bytes'_oneCell mem) h.mn
  have hsz1 : (w'.setCell ⟨tb, 0, none⟩ (.int .i32 1)).heap.size = w'.heap.size := by simp [World.setCell]
  have HSt := hide hst
  have H := hide h
  have HS := hide hs
  have HFr := hide hfr
  have KL := hide kL
  have HS1 := hide hs1
  clear h hs hst hio hso hfr kL hs1
  go_enter_defers Tryz.func19, Tryz.ntmps19
  go_wp2_with fail
  refine HSt.out.mono ?_
  rintro r w1 ⟨rfl, hw⟩
  rw [hw]
  clear hw w1
  go_wp2_with fail
  refine (lock_free muLib ⟨tb, 0, none⟩ _ (hsc 0) (hsf 0)).mono ?_
  rintro r w1 ⟨rfl, hw⟩
  rw [hw]
  clear hw w1
  obtain ⟨W1, hW1⟩ : ∃ W1, W1 = w'.setCell ⟨tb, 0, none⟩ (.int .i32 1) := ⟨_, rfl⟩
  rw [← hW1] at hi1 HS1 HFr KL hsz1 ⊢
  clear hW1
  obtain ⟨hic1, -⟩ := cells_of hi1
  clear hi1 hic hsc hsf
  go_wp2_with fail
  refine HFr.out.mono ?_
  rintro r w2 ⟨⟨rfl, ho⟩, k2⟩
  have HO := hide ho
  have K2 := hide k2
  have hs2 := k2.blk HS1.out (fun h => h)
  clear ho k2 HFr
  go_wp2_with fail
  refine leaves_cons (f := 27) (args := #[.pointer (some ⟨tb, 0, none⟩)]) (by simp) (by simp [go_sem]) ?_
  refine (unlock_deferred muLib ⟨tb, 0, none⟩ .returning _ ((cells_of hs2).1 0) ((cells_of hs2).2 0)).mono ?_
  rintro r u' w3 ⟨rfl, rfl, rfl⟩
  rw [hsz1] at HO
  have kA : Kp (one tb) w' (w2.setCell ⟨tb, 0, none⟩ (.int .i32 0)) := (KL.out.then K2.out).set1 0 _
  refine ⟨_, results_tmp rfl _ _ _, ⟨w'.heap.size, rfl, Nat.le_refl _, ?_⟩, ⟨heap_setCell hs2 _, HS.out.map.kp kA (HS.out.map.ne HS.out.blk), HS.out.few⟩, kA⟩
  exact ((Kp.refl (one tb) w2).set1 0 _).own HO.out (fun b hb (e : b = tb) => by have := own_new HO.out b hb; omega)
end Go.Proofs.YtdeplgkhmebalabGreatDoor

namespace Go.Proofs.YtdeplgkhmebalabGreatDoor
open Go.RowKit

abbrev memZ : List UInt8 := List.replicate 64 0
/-- An instance and its store; Y: blocks that others may change. -/
structure ApX (w : World) (B1 xb tb mb : Nat) (Y : Nat → Prop) (keys : List (Int × Int)) (W : World) : Prop where
  ex : ∃ ro mv gv p, InstAt W ro xb tb mb mv gv kpF memZ [5] ∧ StoreAt W tb p keys ∧ (∀ b, ro b → b < B1) ∧ (∀ b, mv.ownBlock = some b → ¬ Y b) ∧ (∀ b, gv.ownBlock = some b → ¬ Y b)
  o1 : B1 ≤ tb
  o2 : tb < xb
  yo : ∀ b, Y b → B1 ≤ b ∧ b ≠ tb ∧ b ≠ xb ∧ b < W.heap.size
  kp : Kp no w W
  wl : w.heap.size ≤ B1
section
variable {w W W' : World} {B1 xb tb mb : Nat} {Y Y' : Nat → Prop} {keys keys' : List (Int × Int)}
theorem ApX.lts (h : ApX w B1 xb tb mb Y keys W) : xb < W.heap.size ∧ tb < W.heap.size := by
  obtain ⟨ro, mv, gv, p, h1, h2, -⟩ := h.ex
  exact ⟨lt_of_blk h1.blk, lt_of_blk h2.blk⟩
theorem ApX.objs (h : ApX w B1 xb tb mb Y keys W) : ∀ b, ibtb xb tb b → ∃ cs t, W.heap[b]? = some (.cells cs t) := by
  obtain ⟨ro, mv, gv, p, h1, h2, -⟩ := h.ex
  rintro b (rfl | rfl)
  · exact ⟨_, _, h1.blk⟩
  · exact ⟨_, _, h2.blk⟩
theorem Kp.overN {S : Nat → Prop} {w W W' : World} (h : Kp no w W) (k : Kp S W W') (hs : ∀ b, S b → w.heap.size ≤ b) : Kp no w W' :=
  h.comp k (fun _ _ h => h) (fun y hl hy => absurd hl (by have := hs y hy; omega))
/-- Others change. -/
theorem ApX.other {S : Nat → Prop} (h : ApX w B1 xb tb mb Y keys W) (k : Kp S W W') (hS : ∀ b, S b → Y b ∧ ∃ cs t, W.heap[b]? = some (.cells cs t)) : ApX w B1 xb tb mb Y keys W' := by
  obtain ⟨ro, mv, gv, p, h1, h2, h3, h4, h5⟩ := h.ex
  have hwl := h.wl
  refine ⟨⟨ro, mv, gv, p, h1.kp k (fun hs => (h.yo _ (hS _ hs).1).2.2.1 rfl) (fun b hb hs => ?_) (fun b hb hs => h4 b hb (hS b hs).1) (fun b hb hs => h5 b hb (hS b hs).1), ⟨k.blk h2.blk (fun hs => (h.yo _ (hS _ hs).1).2.1 rfl), h2.map.kp k (fun b hb hs => ?_), h2.few⟩, h3, h4, h5⟩, h.o1, h.o2, fun b hb => ?_, h.kp.overN k (fun b hb => ?_), h.wl⟩
  · have := h3 b hb
    have := (h.yo _ (hS _ hs).1).1
    omega
  · obtain ⟨cs, t, hc⟩ := (hS b hs).2
    exact h2.map.ne hc b hb rfl
  · obtain ⟨a1, a2, a3, a4⟩ := h.yo b hb
    exact ⟨a1, a2, a3, Nat.lt_of_lt_of_le a4 k.size⟩
  · have := (h.yo _ (hS _ hb).1).1
    omega
/-- Nothing old changes; new blocks join what others may change. -/
theorem ApX.grow (h : ApX w B1 xb tb mb Y keys W) (k : Kp no W W') (hY : ∀ b, Y' b → Y b ∨ (W.heap.size ≤ b ∧ b < W'.heap.size)) : ApX w B1 xb tb mb Y' keys W' := by
  have h' := h.other k (fun _ h => h.elim)
  obtain ⟨ro, mv, gv, p, h1, h2, h3, h4, h5⟩ := h.ex
  have l1 := lt_of_blk h1.blk
  have l2 := lt_of_blk h2.blk
  have o1 := h.o1
  refine ⟨⟨ro, mv, gv, p, h1.kp k (fun h => h) (fun _ _ h => h) (fun _ _ h => h) (fun _ _ h => h), ⟨k.blk h2.blk (fun h => h), h2.map.kp k (fun _ _ h => h), h2.few⟩, h3, fun b hb hy => ?_, fun b hb hy => ?_⟩, h.o1, h.o2, fun b hb => ?_, h'.kp, h.wl⟩
  · rcases hY b hy with e | e
    · exact h4 b hb e
    · have := RowAt.lt_own h1.memR (by simp) b hb
      omega
  · rcases hY b hy with e | e
    · exact h5 b hb e
    · have := RowAt.lt_own h1.glR (by simp) b hb
      omega
  · rcases hY b hb with e | e
    · exact h'.yo b e
    · exact ⟨by omega, by omega, by omega, e.2⟩
theorem ApX.quiet (h : ApX w B1 xb tb mb Y keys W) (k : Kp no W W') : ApX w B1 xb tb mb Y keys W' := h.grow k (fun _ h => .inl h)
theorem ApX.own {ro : Nat → Prop} {mv gv : Value} {p : Option Nat} (h : ApX w B1 xb tb mb Y keys W) (h1 : InstAt W ro xb tb mb mv gv kpF memZ [5]) (h2 : StoreAt W tb p keys) (h3 : ∀ b, ro b → b < B1) (h4 : ∀ b, mv.ownBlock = some b → ¬ Y b) (h5 : ∀ b, gv.ownBlock = some b → ¬ Y b) (hs' : StoreAt W' tb p keys) (k : Kp (one tb) W W') (hY : ∀ b, Y' b → Y b ∨ (W.heap.size ≤ b ∧ b < W'.heap.size)) : ApX w B1 xb tb mb Y' keys W' := by
  have l1 := lt_of_blk h1.blk
  have l2 := lt_of_blk h2.blk
  have o1 := h.o1
  have hwl := h.wl
  refine ⟨⟨ro, mv, gv, p, Half.kpStore h1 h2 k, hs', h3, fun b hb hy => ?_, fun b hb hy => ?_⟩, h.o1, h.o2, fun b hb => ?_, h.kp.overN k (fun b hb => ?_), h.wl⟩
  · rcases hY b hy with e | e
    · exact h4 b hb e
    · have := RowAt.lt_own h1.memR (by simp) b hb
      omega
  · rcases hY b hy with e | e
    · exact h5 b hb e
    · have := RowAt.lt_own h1.glR (by simp) b hb
      omega
  · rcases hY b hb with e | e
    · obtain ⟨a1, a2, a3, a4⟩ := h.yo b e
      exact ⟨a1, a2, a3, Nat.lt_of_lt_of_le a4 k.size⟩
    · exact ⟨by omega, by omega, by omega, e.2⟩
  · have e : b = tb := hb
    omega
/-- A call that gives. -/
theorem ApX.gives {av : Value} {args : List Int} {n K : Nat} {v : Int} {u : Nat} {s' : Mc} (h : ApX w B1 xb tb mb Y keys W) (ha : ValsAt W av args) (hal : args.length ≤ 1000) (hav : ∀ b, av.ownBlock = some b → b ≠ xb ∧ b ≠ tb) (he : refusesM kpF n args 100000 = 0)
    (hK : K ≤ 900000) (hm : callR kpF n args 100000 memZ [5] keys K = some (0, v, u, s')) (hsm : s'.mem = memZ) (hsg : s'.gl = [5]) (hsk : s'.keys.length ≤ 1000) :
    Calls Tryz.prog 9 #[ptrTo xb, .int .i64 n, av, .int .u64 v, .int .i64 u] W fun r w' => r = .returned (.bool true) ∧ ApX w B1 xb tb mb Y s'.keys w' ∧ Kp (ibtb xb tb) W w' := by
  obtain ⟨ro, mv, gv, p, h1, h2, h3, h4, h5⟩ := h.ex
  have o1 := h.o1
  have o2 := h.o2
  have hwl := h.wl
  refine (gives_at h1 h2 kp_okay.ok ha hal hav he hK hm ⟨by rw [hsm]; exact h1.mn, by rw [hsg]; exact h1.gn, hsk⟩).mono ?_
  rintro r w' ⟨hr, ⟨mv1, gv1, p1, j1, j2, j3, j4⟩, k⟩
  rw [hsm, hsg] at j1
  refine ⟨hr, ⟨⟨ro, mv1, gv1, p1, j1, j2, h3, fun b hb hy => ?_, fun b hb hy => ?_⟩, h.o1, h.o2, fun b hb => ?_, h.kp.overN k (fun b hb => ?_), h.wl⟩, k⟩
  · have := j3 b hb
    have := (h.yo b hy).2.2.2
    omega
  · have := j4 b hb
    have := (h.yo b hy).2.2.2
    omega
  · obtain ⟨a1, a2, a3, a4⟩ := h.yo b hb
    exact ⟨a1, a2, a3, Nat.lt_of_lt_of_le a4 k.size⟩
  · rcases hb with rfl | rfl <;> omega
theorem ApX.put {av : Value} {a b : Int} (h : ApX w B1 xb tb mb Y [] W) (ha : ValsAt W av [a, b]) (hav : ∀ b, av.ownBlock = some b → b ≠ xb ∧ b ≠ tb) :
    Calls Tryz.prog 9 #[ptrTo xb, .int .i64 0, av, .int .u64 0, .int .i64 3] W fun r w' => r = .returned (.bool true) ∧ ApX w B1 xb tb mb Y [(wrap64 a, wrap64 b)] w' ∧ Kp (ibtb xb tb) W w' := by
  have hc := kp_put (k := a) (v := b) (F := 99997) (mem := memZ) (gl := [5]) (keys := []) (by simp) (by simp)
  have e : putKey [] (wrap64 a) (wrap64 b) = [(wrap64 a, wrap64 b)] := by unfold putKey; simp [look]
  rw [e] at hc
  exact ApX.gives (n := 0) (v := 0) (u := 3) h ha (by simp) hav (kp_ref0 _ _ (f := 100000) (by omega)) (by omega) hc rfl rfl (by simp)
theorem ApX.get {av : Value} {a x : Int} (h : ApX w B1 xb tb mb Y keys W) (ha : ValsAt W av [a]) (hav : ∀ b, av.ownBlock = some b → b ≠ xb ∧ b ≠ tb) (hl : keys.length ≤ 9) (hx : IntKind.u64.wrap ((look keys (wrap64 a)).getD 0) = x) :
    Calls Tryz.prog 9 #[ptrTo xb, .int .i64 1, av, .int .u64 x, .int .i64 2] W fun r w' => r = .returned (.bool true) ∧ ApX w B1 xb tb mb Y keys w' ∧ Kp (ibtb xb tb) W w' := by
  have hc := kp_get (k := a) (F := 99998) (mem := memZ) (gl := [5]) (keys := keys)
  rw [hx] at hc
  exact ApX.gives (n := 1) (v := x) (u := 2) h ha (by simp) hav (kp_ref1 _ (f := 100000) (by omega)) (by omega) hc rfl rfl (by change keys.length ≤ 1000; omega)
/-- The keys told. -/
theorem ApX.keysTold (h : ApX w B1 xb tb mb Y keys W) :
    Calls Tryz.prog 17 #[ptrTo tb] W fun r w' => (∃ v l, r = .returned v ∧ KeyList l keys ∧ w'.ownsRow W.heap.size 2 1 v l.length (l.map encZ) ∧ ApX w B1 xb tb mb (fun b => Y b ∨ v.ownBlock = some b) keys w') ∧ Kp (one tb) W w' := by
  obtain ⟨ro, mv, gv, p, h1, h2, h3, h4, h5⟩ := h.ex
  refine (keys_any h2).mono ?_
  rintro r w' ⟨⟨v, l, rfl, hl, hrow⟩, hs', k⟩
  exact ⟨⟨v, l, rfl, hl, hrow, h.own h1 h2 h3 h4 h5 hs' k (fun b hb => hb.imp id (fun e => World.ownsRow.lt hrow b e))⟩, k⟩
theorem ApX.globals (h : ApX w B1 xb tb mb Y keys W) :
    Calls Tryz.prog 18 #[ptrTo xb] W fun r w' => (∃ g, r = .returned (.slice (some ⟨g, 0, none⟩) 1 1) ∧ W.heap.size ≤ g ∧ w'.ownsRow W.heap.size 22 1 (.slice (some ⟨g, 0, none⟩) 1 1) 1 [.int .u64 5] ∧ ApX w B1 xb tb mb (fun b => Y b ∨ b = g) keys w') ∧ Kp (one tb) W w' := by
  obtain ⟨ro, mv, gv, p, h1, h2, h3, h4, h5⟩ := h.ex
  refine (globals_at h1 h2).mono ?_
  rintro r w' ⟨⟨g, rfl, hg, hrow⟩, hs', k⟩
  exact ⟨⟨g, rfl, hg, hrow, h.own h1 h2 h3 h4 h5 hs' k (fun b hb => hb.imp id (fun e => by subst e; exact World.ownsRow.lt hrow _ rfl))⟩, k⟩
theorem ApX.memory (h : ApX w B1 xb tb mb Y keys W) :
    Calls Tryz.prog 19 #[ptrTo xb] W fun r w' => (∃ g, r = .returned (.slice (some ⟨g, 0, none⟩) 64 64) ∧ W.heap.size ≤ g ∧ w'.ownsRow W.heap.size 5 1 (.slice (some ⟨g, 0, none⟩) 64 64) 64 (List.replicate 64 (.int .u8 0)) ∧ ApX w B1 xb tb mb (fun b => Y b ∨ b = g) keys w') ∧ Kp (one tb) W w' := by
  obtain ⟨ro, mv, gv, p, h1, h2, h3, h4, h5⟩ := h.ex
  refine (memory_at h1 h2).mono ?_
  rintro r w' ⟨⟨g, rfl, hg, hrow⟩, hs', k⟩
  rw [zero_bytes, List.length_replicate] at hrow
  exact ⟨⟨g, by rw [List.length_replicate], hg, hrow, h.own h1 h2 h3 h4 h5 hs' k (fun b hb => hb.imp id (fun e => by subst e; exact World.ownsRow.lt hrow _ rfl))⟩, k⟩
theorem ApX.type (h : ApX w B1 xb tb mb Y keys W) :
    Calls Tryz.prog 10 #[ptrTo mb, .int .i64 0] W fun r w' => (∃ g g2, r = .returned (.tuple #[.slice (some ⟨g, 0, none⟩) 2 2, .slice (some ⟨g2, 0, none⟩) 0 0, .int .i64 0]) ∧ W.heap.size ≤ g ∧ NB W w' (.slice (some ⟨g, 0, none⟩) 2 2) [126, 126] ∧ ApX w B1 xb tb mb (fun b => Y b ∨ b = g) keys w') ∧ Kp no W w' := by
  obtain ⟨ro, mv, gv, p, h1, h2, h3, h4, h5⟩ := h.ex
  have e1 : (kpF.funcs.getD 0 fn0).typ.1 = [126, 126] := by kernel_rfl
  have e2 : (kpF.funcs.getD 0 fn0).typ.2 = [] := by kernel_rfl
  have ht := type_any (n := 0) h1.mod (by rw [kp_okay.nf]; omega) (by rw [kp_okay.nf]; omega) (by rw [e1]; simp) (by rw [e2]; simp)
  rw [e1, e2] at ht
  refine ht.mono ?_
  rintro r w' ⟨⟨g1, g2, rfl, hg, -, hn1, -⟩, k⟩
  exact ⟨⟨g1, g2, rfl, hg, hn1, h.grow k (fun b hb => hb.imp id (fun e => by subst e; exact World.ownsRow.lt hn1 _ rfl))⟩, k⟩
end
end Go.Proofs.YtdeplgkhmebalabGreatDoor

namespace Go.Proofs.YtdeplgkhmebalabGreatDoor
open Go.RowKit

theorem own_obj' {w : World} {base : Nat} {e : TypeId} {sz : Nat} {v : Value} {n : Nat} {xs : List Value} (h : w.ownsRow base e sz v n xs) : ∀ b, v.ownBlock = some b → ∃ cs t, w.heap[b]? = some (.cells cs t) := by
  obtain ⟨-, ⟨rfl, rfl⟩ | ⟨g, cap, cur, rfl, hg, hh, -⟩⟩ := h
  · intro b hb
    cases hb
  · intro b hb
    cases hb
    exact ⟨_, _, hh⟩
theorem row_cell {w : World} {base g n c : Nat} {e : TypeId} {xs : List Value} (h : w.ownsRow base e 1 (.slice (some ⟨g, 0, none⟩) n c) n xs) {j : Nat} {x : Value} (hx : xs[j]? = some x) :
    w.cell? ⟨g, j, none⟩ = some x ∧ (∃ cs t, w.heap[g]? = some (.cells cs t)) ∧ base ≤ g ∧ g < w.heap.size := by
  obtain ⟨a, o, cap, he, -, hc⟩ := RowAt.get (RowAt.own h) hx
  simp only [Value.slice.injEq, Option.some.injEq, Addr.mk.injEq] at he
  obtain ⟨⟨rfl, rfl, -⟩, -, -⟩ := he
  exact ⟨by simpa using hc, own_obj' h _ rfl, World.ownsRow.lt h _ rfl⟩
theorem row_shape {w : World} {base n : Nat} {e : TypeId} {v : Value} {xs : List Value} (h : w.ownsRow base e 1 v n xs) (hn : 0 < n) : ∃ g c, v = .slice (some ⟨g, 0, none⟩) n c ∧ n ≤ c := by
  obtain ⟨-, ⟨-, h0⟩ | ⟨g, cap, cur, hv, hg, hh, hc, -⟩⟩ := h
  · omega
  · exact ⟨g, cap, hv, hc⟩
theorem obj_frozen {w : World} {g : Nat} (h : ∃ cs t, w.heap[g]? = some (.cells cs t)) (j : Nat) : w.frozen? ⟨g, j, none⟩ = false := by
  obtain ⟨cs, t, h⟩ := h
  exact (cells_of h).2 j
theorem obj_kp {S : Nat → Prop} {w w' : World} {g : Nat} (h : ∃ cs t, w.heap[g]? = some (.cells cs t)) (k : Kp S w w') (hs : ¬ S g) : ∃ cs t, w'.heap[g]? = some (.cells cs t) := by
  obtain ⟨cs, t, h⟩ := h
  exact ⟨cs, t, k.blk h hs⟩
theorem obj_set {w : World} {g b j : Nat} {u : Value} (h : ∃ cs t, w.heap[g]? = some (.cells cs t)) (hb : g ≠ b) : ∃ cs t, (w.setCell ⟨b, j, none⟩ u).heap[g]? = some (.cells cs t) := by
  obtain ⟨cs, t, h⟩ := h
  exact ⟨cs, t, heap_setCell_ne hb u h⟩
theorem one_key {l : List Int} {k v : Int} (h : KeyList l [(k, v)]) : l = [k] := by
  match l, h with
  | [], h => cases h.len
  | [x], h =>
    have := (h.mem x).1 (.head _)
    by_cases e : k = x
    · rw [e]
    · simp [look, e] at this
  | _ :: _ :: _, h => have := h.len; simp at this
theorem no_key {l : List Int} (h : KeyList l []) : l = [] := List.length_eq_zero_iff.1 h.len
section
variable {w w5 w6 w7 : World} {B1 xb yb tb sb mb : Nat} {ro : Nat → Prop} {mv gv mv' gv' : Value}
theorem ap_both (hx : InstAt w6 ro xb tb mb mv gv kpF memZ [5]) (hy : InstAt w7 ro yb sb mb mv' gv' kpF memZ [5]) (hs1 : StoreAt w5 tb none []) (hs2 : StoreAt w5 sb none []) (k56 : Kp no w5 w6) (k67 : Kp no w6 w7) (hkp : Kp no w w5)
    (hro : ∀ b, ro b → b < B1) (h1 : B1 ≤ tb) (h2 : tb < sb) (hxb : w5.heap.size ≤ xb) (hyb : w6.heap.size ≤ yb) (hm : ∀ b, mv.ownBlock = some b → w5.heap.size ≤ b) (hg : ∀ b, gv.ownBlock = some b → w5.heap.size ≤ b) (hm' : ∀ b, mv'.ownBlock = some b → w6.heap.size ≤ b) (hg' : ∀ b, gv'.ownBlock = some b → w6.heap.size ≤ b) (hwl : w.heap.size ≤ B1) :
    ApX w B1 xb tb mb (fun b => b = sb ∨ b = yb) [] w7 ∧ ApX w B1 yb sb mb (fun b => b = tb ∨ b = xb) [] w7 := by
  have l1 := lt_of_blk hs1.blk
  have l2 := lt_of_blk hs2.blk
  have l3 := lt_of_blk hx.blk
  have l4 := lt_of_blk hy.blk
  have s1 := k56.size
  have s2 := k67.size
  have kk := k56.trans k67
  refine ⟨⟨⟨ro, mv, gv, none, hx.kp k67 (fun h => h) (fun _ _ h => h) (fun _ _ h => h) (fun _ _ h => h), ⟨kk.blk hs1.blk (fun h => h), hs1.map.kp kk (fun _ _ h => h), hs1.few⟩, hro, fun b hb hy => ?_, fun b hb hy => ?_⟩, h1, by omega, fun b hb => ?_, hkp.trans kk, hwl⟩,
    ⟨⟨ro, mv', gv', none, hy, ⟨kk.blk hs2.blk (fun h => h), hs2.map.kp kk (fun _ _ h => h), hs2.few⟩, hro, fun b hb hy => ?_, fun b hb hy => ?_⟩, by omega, by omega, fun b hb => ?_, hkp.trans kk, hwl⟩⟩
  · have := hm b hb
    have := RowAt.lt_own hx.memR (by simp) b hb
    omega
  · have := hg b hb
    have := RowAt.lt_own hx.glR (by simp) b hb
    omega
  · rcases hb with rfl | rfl <;> omega
  · have := hm' b hb
    omega
  · have := hg' b hb
    omega
  · rcases hb with rfl | rfl <;> omega
end
end Go.Proofs.YtdeplgkhmebalabGreatDoor

namespace Go.Proofs.YtdeplgkhmebalabGreatDoor
open Go.RowKit

def nOfA : Value → Nat
  | .int _ n => n.toNat
  | _ => 0
theorem ap_load {w : World} {dv : Value} {D : List UInt8} {f : Flat} (hb : BytesAt w dv D) (hd : ∀ b, dv.ownBlock = some b → b < w.heap.size) (hR : RowsOk w) (hl : D.length ≤ 1000000) (hf : loadM D = .ok f) :
    Calls Tryz.prog 8 #[dv] w fun r w' => (∃ mb, r = .returned (.tuple #[ptrTo mb, .int .i64 0, .int .i64 0]) ∧ ModAt w' (made w w') mb 69 f) ∧ Kp no w w' := by
  have hL := load_any hb hd hR hl
  rw [hf] at hL
  exact hL
theorem uw64 (b : Nat) (hb : b < 18446744073709551616) : IntKind.u64.wrap (wrap64 (b : Int)) = (b : Int) := by
  rw [IntKind.wrap_u64]
  by_cases h : b < 9223372036854775808
  · rw [show wrap64 (b : Int) = (b : Int) by unfold wrap64; omega]
    omega
  · rw [show wrap64 (b : Int) = (b : Int) - 18446744073709551616 by unfold wrap64; omega]
    omega
theorem kp_pos : kpBytes.length ≠ 0 := Nat.pos_iff_ne_zero.1 (of_decide_eq_true (show decide (0 < kpBytes.length) = true by kernel_rfl))
/-- What is handed in is written over. -/
theorem nb_set {w W : World} {g n c : Nat} {l : List UInt8} (h : NB w W (.slice (some ⟨g, 0, none⟩) n c) l) (hn : n = l.length) (j : Nat) (u : UInt8) : NB w (W.setCell ⟨g, j, none⟩ (.int .u8 u.toNat)) (.slice (some ⟨g, 0, none⟩) n c) (l.set j u) := by
  subst hn
  have := (World.ownsRow.stored h j (.int .u8 u.toNat)).1
  unfold NB bcs
  rw [List.length_set, List.map_set]
  exact this

set_option maxRecDepth 100000 in
set_option maxHeartbeats 8000000 in
theorem apart_any {w : World} (hR : RowsOk w) (a b : Nat) (n0 : Int) (_ha : a < 18446744073709551616) (hb : b < 18446744073709551616) (hn1 : -9223372036854775808 ≤ n0) (hn2 : n0 < 9223372036854775808) :
    Calls Tryz.prog 4 #[.int .u64 a, .int .u64 b, .int .i64 n0] w fun r w' => r = .returned (.bool true) ∧ Kp no w w' := by
  have hpl : pickM n0 64 < 64 := Nat.mod_lt _ (by decide)
  have hpk := fun W => pickK_any W n0 64 hn1 hn2 (by decide) (by decide)
  generalize pickM n0 64 = pi at *
  have HPk := hide hpk
  have HR := hide hR
  obtain ⟨a64, ha64⟩ : ∃ x, IntKind.i64.wrap (a : Int) = x := ⟨_, rfl⟩
  obtain ⟨b64, hb64⟩ : ∃ x, wrap64 (b : Int) = x := ⟨_, rfl⟩
  have hwa : wrap64 (a : Int) = a64 := by rw [← ha64, IntKind.wrap_i64]; unfold wrap64; omega
  have hub : IntKind.u64.wrap b64 = (b : Int) := by rw [← hb64]; exact uw64 b hb
  have HWa := hide hwa
  have HUb := hide hub
  have HB64 := hide hb64
  clear hpk hR hn1 hn2 hwa hub hb64
  go_enter Tryz.func4, Tryz.ntmps4
  go_wp2_with fail
  refine (keepsK_any _).mono ?_
  rintro r w1 ⟨⟨v1, rfl, h1⟩, k1⟩
  obtain ⟨gc, cc, hv1, hcc, -⟩ : ∃ g c, v1 = .slice (some ⟨g, 0, none⟩) kpBytes.length c ∧ kpBytes.length ≤ c ∧ True := by
    obtain ⟨-, ⟨-, hn⟩ | ⟨g, cap, cur, hv, hg, hh, hc, -⟩⟩ := id h1
    · exact absurd hn kp_pos
    · exact ⟨g, cap, hv, hc, trivial⟩
  subst hv1
  have hgc := World.ownsRow.lt h1 gc rfl
  have hL := ap_load h1.at h1.lt (HR.out.kp k1) (Nat.le_trans kp_okay.len (by omega)) kp_okay.load
  have HL := hide hL
  have K1 := hide k1
  have HC1 := hide h1
  obtain ⟨N, hN⟩ : ∃ N, kpBytes.length = N := ⟨_, rfl⟩
  have hNl : N ≤ 1000 := by rw [← hN]; exact kp_okay.len
  rw [hN] at hcc ⊢
  have HN := hide hN
  clear hL h1 k1 hN
  go_wp2_with fail
  have hLx := HL.out
  rw [HN.out] at hLx
  refine hLx.mono ?_
  rintro r w2 ⟨⟨mb, rfl, hM⟩, k2⟩
  have HM := hide hM
  have K2 := hide k2
  clear hLx hM k2 HL
  go_wp2_with fail
  refine (newStore_any _).mono ?_
  rintro r w3 ⟨rfl, hs3, k3⟩
  have HS3 := hide hs3
  have K3 := hide k3
  clear hs3 k3
  go_wp2_with fail
  refine (newStore_any _).mono ?_
  rintro r w4 ⟨rfl, hs4, k4⟩
  have HS4 := hide hs4
  have K4 := hide k4
  have s1 := K1.out.size
  have s2 := K2.out.size
  have l3 := lt_of_blk HS3.out.blk
  clear hs4 k4
  go_wp2
  go_loopw [13] (fun kv wr => ∃ (k : Nat) (l : List UInt8), k ≤ N ∧ l.length = N ∧ kv = .int .i64 k ∧ NB w wr (.slice (some ⟨gc, 0, none⟩) N cc) l ∧ Kp (one gc) w4 wr) (fun kv _ => N - nOfA kv)
  case atStart =>
    refine ⟨0, kpBytes, by omega, HN.out, rfl, ?_, Kp.refl _ _⟩
    have := ((HC1.out.kp K2.out).kp K3.out).kp K4.out
    rw [HN.out] at this
    exact this
  case round =>
    obtain ⟨k, l, hk, hl, rfl, hnb, hkp⟩ := hrel
    have HNb := hide hnb
    have HKp := hide hkp
    by_cases hkn : k < N
    · have hrow := hnb
      unfold NB at hrow
      rw [hl] at hrow
      obtain ⟨hcell, hobj, -⟩ := row_cell hrow (j := k) (x := .int .u8 (l.getD k 0).toNat) (by simp [bcs, List.getD_eq_getElem?_getD, List.getElem?_eq_getElem (show k < l.length by omega)])
      have hfz := obj_frozen hobj k
      clear hnb hkp hrow hobj
      go_wp2
      go_roundw
      case rel => exact ⟨k + 1, l.set k 77, by omega, by rw [List.length_set]; exact hl, by go_num, nb_set HNb.out hl.symm k 77, HKp.out.set1 k _⟩
      case measure => simp [nOfA]; omega
    · obtain rfl : k = N := by omega
      obtain ⟨w5, hw5⟩ : ∃ w5, w5 = wr := ⟨_, rfl⟩
      subst hw5
      clear hnb hkp HNb
      have s5 := HKp.out.size
      have hM5 : ModAt w5 (made w1 w2) mb 69 kpF := by
        refine ModAt.kp (((HM.out.kp K3.out.any).kp K4.out.any)) (HKp.out.mono (fun y _ hy hr => ?_))
        have e : y = gc := hy
        have := hr.1
        omega
      have hs3 : StoreAt w5 w2.heap.size none [] := ⟨HKp.out.blk (K4.out.blk HS3.out.blk (fun h => h)) (fun e => by have e' : w2.heap.size = gc := e; omega), .inl ⟨rfl, rfl⟩, by simp⟩
      have hs4 : StoreAt w5 w3.heap.size none [] := ⟨HKp.out.blk HS4.out.blk (fun e => by have e' : w3.heap.size = gc := e; omega), .inl ⟨rfl, rfl⟩, by simp⟩
      have hkp5 : Kp no w w5 := (K1.out.trans (K2.out.trans (K3.out.trans K4.out))).overN HKp.out (fun y hy => by have e : y = gc := hy; omega)
      have hst := start_any (tb := w2.heap.size) hM5 (lt_of_blk hs3.blk) (fun y hy => ⟨by have := hy.2; have := lt_of_blk hs3.blk; omega, by have := hy.2; omega⟩) kp_okay.ok.pg kp_okay.ok.gl
      rw [kp_okay.mem, kp_okay.gl] at hst
      have HSt := hide hst
      have HS3' := hide hs3
      have HS4' := hide hs4
      have HM5 := hide hM5
      have K5 := hide hkp5
      have l35 := lt_of_blk hs3.blk
      have l45 := lt_of_blk hs4.blk
      clear hst hs3 hs4 hM5 hkp5 HKp HC1 HM HS3 HS4 K3 K4 HN
      go_wp2_with fail
      refine HSt.out.mono ?_
      rintro r w6 ⟨⟨xb, mv, gv, rfl, hxb, hix, hm, hg⟩, k6⟩
      have hst2 := start_any (tb := w3.heap.size) (HM5.out.kp k6.any) (by have := k6.size; omega) (fun y hy => ⟨by have := hy.2; have := k6.size; omega, by have := hy.2; omega⟩) kp_okay.ok.pg kp_okay.ok.gl
      rw [kp_okay.mem, kp_okay.gl] at hst2
      have HSt2 := hide hst2
      have HIx := hide hix
      have HMx := hide hm
      have HGx := hide hg
      have K6 := hide k6
      clear hst2 hix hm hg k6 HSt
      go_wp2_with fail
      refine HSt2.out.mono ?_
      rintro r w7 ⟨⟨yb, mv', gv', rfl, hyb, hiy, hm', hg'⟩, k7⟩
      obtain ⟨hX, hY⟩ := ap_both (B1 := w2.heap.size) HIx.out hiy HS3'.out HS4'.out K6.out k7 K5.out (fun y hy => hy.2) (Nat.le_refl _) l3 hxb hyb HMx.out HGx.out hm' hg' (by omega)
      have HX := hide hX
      have HY := hide hY
      clear hX hY hiy hm' hg' k7 HSt2 HIx HMx HGx HS3' HS4' HM5
      obtain ⟨tb, htb⟩ : ∃ tb, w2.heap.size = tb := ⟨_, rfl⟩
      obtain ⟨sb, hsb⟩ : ∃ sb, w3.heap.size = sb := ⟨_, rfl⟩
      rw [htb, hsb] at HX HY ⊢
      clear htb hsb
      have lX := HX.out.lts
      have lY := HY.out.lts
      have ox := HX.out.o2
      have oy := HY.out.o2
      have kA : Kp no w7 (w7.alloc (.cells (valCells [(a : Int), (b : Int)]).toArray 22)) := (Kp.refl _ _).alloc _
      have sA : (w7.alloc (.cells (valCells [(a : Int), (b : Int)]).toArray 22)).heap.size = w7.heap.size + 1 := by simp
      have hXa := HX.out.grow (Y' := fun y => (y = sb ∨ y = yb) ∨ y = w7.heap.size) kA (fun y hy => hy.imp id (fun e => by rw [e, sA]; omega))
      have hYa := HY.out.grow (Y' := fun y => (y = tb ∨ y = xb) ∨ y = w7.heap.size) kA (fun y hy => hy.imp id (fun e => by rw [e, sA]; omega))
      have hp := hXa.put (ValsAt.made w7 [(a : Int), (b : Int)]) (fun y hy => by obtain rfl : w7.heap.size = y := Option.some.inj hy; omega)
      rw [HWa.out, HB64.out] at hp
      have HP := hide hp
      have HXa := hide hXa
      have HYa := hide hYa
      clear hp hXa hYa kA HX HY
      go_wp2_with fail
      refine HP.out.mono ?_
      rintro r w8 ⟨rfl, hX8, k8⟩
      have hY8 := HYa.out.other k8 (fun y hy => ⟨.inl (hy.elim .inr .inl), HXa.out.objs y hy⟩)
      have hb8 := k8.blk (heap_alloc_new w7 (.cells (valCells [(a : Int), (b : Int)]).toArray 22)) (by rintro (e | e) <;> omega)
      have hcell8 : w8.cell? ⟨w7.heap.size, 0, none⟩ = some (.int .u64 a) := by rw [(cells_of hb8).1]; rfl
      have hfz8 := (cells_of hb8).2 0
      have s8 := k8.size
      rw [sA] at s8
      have kS : Kp (one w7.heap.size) w8 (w8.setCell ⟨w7.heap.size, 0, none⟩ (.int .u64 77)) := (Kp.refl _ _).set1 0 _
      have hX9 := hX8.other kS (fun y hy => ⟨.inr hy, by have e : y = w7.heap.size := hy; rw [e]; exact ⟨_, _, hb8⟩⟩)
      have hY9 := hY8.other kS (fun y hy => ⟨.inr hy, by have e : y = w7.heap.size := hy; rw [e]; exact ⟨_, _, hb8⟩⟩)
      have e9 : (w8.setCell ⟨w7.heap.size, 0, none⟩ (.int .u64 77)).heap.size = w8.heap.size := by simp [World.setCell]
      have kB : Kp no (w8.setCell ⟨w7.heap.size, 0, none⟩ (.int .u64 77)) ((w8.setCell ⟨w7.heap.size, 0, none⟩ (.int .u64 77)).alloc (.cells (valCells [(a : Int)]).toArray 22)) := (Kp.refl _ _).alloc _
      have hX9' := hX9.quiet kB
      have hY9' := hY9.quiet kB
      have hg := hY9'.get (x := 0) (ValsAt.made (w8.setCell ⟨w7.heap.size, 0, none⟩ (.int .u64 77)) [(a : Int)]) (fun y hy => by have e : y = w8.heap.size := (Option.some.inj hy).symm.trans e9; omega) (by simp) (by simp [look, IntKind.wrap_u64])
      rw [e9] at hg
      have HG := hide hg
      have HX9 := hide hX9'
      have HY9 := hide hY9'
      clear hg hX9 hY9 hX9' hY9' hX8 hY8 k8 hb8 kS kB HP HXa HYa sA e9
      go_wp2_with fail
      refine HG.out.mono ?_
      rintro r w10 ⟨rfl, hY10, k10⟩
      have hX10 := HX9.out.other k10 (fun y hy => ⟨.inl (hy.elim .inr .inl), HY9.out.objs y hy⟩)
      have hk := hX10.keysTold
      have HK := hide hk
      have HX10 := hide hX10
      have HY10 := hide hY10
      clear hk hX10 hY10 k10 HG HX9 HY9 hcell8 hfz8
      go_wp2_with fail
      refine HK.out.mono ?_
      rintro r w11 ⟨⟨v11, l11, rfl, hl11, hr11, hX11⟩, k11⟩
      obtain rfl := one_key hl11
      obtain ⟨lb, cl, hv11, hcl1⟩ := row_shape hr11 (by simp)
      subst hv11
      obtain ⟨hcl, hol, hgl, hgl2⟩ := row_cell hr11 (j := 0) (x := .int .i64 a64) rfl
      have l10 := HX10.out.lts
      have m10 := HY10.out.lts
      have hY11 := HY10.out.other k11 (fun y hy => ⟨.inl (.inl hy), HX10.out.objs y (.inr hy)⟩)
      have hk2 := hY11.keysTold
      have HK2 := hide hk2
      have HX11 := hide hX11
      have HY11 := hide hY11
      have HOl := hide hol
      have hfl := obj_frozen hol 0
      clear hk2 hX11 hY11 k11 HK HX10 HY10 hr11 hl11 hol
      go_wp2_with fail
      refine HK2.out.mono ?_
      rintro r w12 ⟨⟨v12, l12, rfl, hl12, hr12, -⟩, k12⟩
      obtain rfl := no_key hl12
      obtain ⟨ad12, cap12, hv12⟩ := own_shape hr12
      subst hv12
      have hX12 := HX11.out.other k12 (fun y hy => ⟨.inl (.inl (.inl hy)), HY11.out.objs y (.inr hy)⟩)
      have hne : ¬ one sb lb := fun e => by have e' : lb = sb := e; omega
      have hcl12 := k12.cell hcl hne
      have hol12 := obj_kp HOl.out k12 hne
      have hfl12 := obj_frozen hol12 0
      have hX13 := hX12.other (S := one lb) ((Kp.refl _ w12).set1 0 (.int .i64 77)) (fun y hy => by have e : y = lb := hy; rw [e]; exact ⟨.inr rfl, hol12⟩)
      have hg1 := hX13.globals
      have HG1 := hide hg1
      clear hg1 hX12 hX13 k12 HK2 HX11 HY11 HOl hr12 hl12 hol12 hcl hfl hne
      go_wp2_with fail
      refine HG1.out.mono ?_
      rintro r w14 ⟨⟨g1, rfl, -, hrg, hX14⟩, k14⟩
      obtain ⟨hcg, hog, hgg, hgg2⟩ := row_cell hrg (j := 0) (x := .int .u64 5) rfl
      have l14 := hX14.lts
      have hm1 := hX14.memory
      have HM1 := hide hm1
      have HX14 := hide hX14
      have HOg := hide hog
      have hg1t : g1 ≠ tb := (hX14.yo g1 (.inr rfl)).2.1
      clear hm1 hX14 k14 HG1 hrg hog hcl12 hfl12
      go_wp2_with fail
      refine HM1.out.mono ?_
      rintro r w15 ⟨⟨p1, rfl, -, hrp, hX15⟩, k15⟩
      obtain ⟨hcp, hop, hgp, hgp2⟩ := row_cell hrp (j := pi) (x := .int .u8 0) (by rw [List.getElem?_replicate, if_pos hpl])
      have hcg15 := k15.cell hcg hg1t
      have HOg15 := hide (obj_kp HOg.out k15 hg1t)
      have ht1 := hX15.type
      have HT1 := hide ht1
      have HX15 := hide hX15
      have HOp := hide hop
      clear ht1 hX15 k15 HM1 hrp hop HOg HX14 hcg
      go_wp2_with fail
      refine HT1.out.mono ?_
      rintro r w16 ⟨⟨q1, q2, rfl, -, hrq, hX16⟩, k16⟩
      obtain ⟨hcq, hoq, hgq, hgq2⟩ := row_cell hrq (j := 0) (x := .int .u8 126) rfl
      have hcg16 := k16.allCells hcg15
      have hcp16 := k16.allCells hcp
      have hog16 := obj_kp HOg15.out k16 (fun h => h)
      have hop16 := obj_kp HOp.out k16 (fun h => h)
      have hfg := obj_frozen hog16 0
      have kg : Kp (one g1) w16 (w16.setCell ⟨g1, 0, none⟩ (.int .u64 77)) := (Kp.refl _ _).set1 0 _
      have hgp' : p1 ≠ g1 := by omega
      have hgq' : q1 ≠ g1 := by omega
      have hpq' : q1 ≠ p1 := by omega
      have hopA := obj_set (j := 0) (u := .int .u64 77) hop16 hgp'
      have hoqA := obj_set (j := 0) (u := .int .u64 77) hoq hgq'
      have hcpA := kg.cell hcp16 hgp'
      have hcqA := kg.cell hcq hgq'
      have hfpA := obj_frozen hopA pi
      have hXg := hX16.other kg (fun y hy => by have e : y = g1 := hy; rw [e]; exact ⟨.inl (.inl (.inr rfl)), hog16⟩)
      have kp' : Kp (one p1) (w16.setCell ⟨g1, 0, none⟩ (.int .u64 77)) ((w16.setCell ⟨g1, 0, none⟩ (.int .u64 77)).setCell ⟨p1, pi, none⟩ (.int .u8 77)) := (Kp.refl _ _).set1 pi _
      have hoqB := obj_set (j := pi) (u := .int .u8 77) hoqA hpq'
      have hcqB := kp'.cell hcqA hpq'
      have hfqB := obj_frozen hoqB 0
      have hXp := hXg.other kp' (fun y hy => by have e : y = p1 := hy; rw [e]; exact ⟨.inl (.inr rfl), hopA⟩)
      have kq : Kp (one q1) ((w16.setCell ⟨g1, 0, none⟩ (.int .u64 77)).setCell ⟨p1, pi, none⟩ (.int .u8 77)) (((w16.setCell ⟨g1, 0, none⟩ (.int .u64 77)).setCell ⟨p1, pi, none⟩ (.int .u8 77)).setCell ⟨q1, 0, none⟩ (.int .u8 77)) := (Kp.refl _ _).set1 0 _
      have hXq := hXp.other kq (fun y hy => by have e : y = q1 := hy; rw [e]; exact ⟨.inr rfl, hoqB⟩)
      have hG2 := hXq.globals
      have lq := hXq.lts
      have HG2 := hide hG2
      clear hG2 hXq hXp hXg hX16 k16 kg kp' kq hopA hoqA hoqB hog16 hop16 hoq hrq HT1 HX15 HOg15 HOp hcg15 hcp
      go_wp2_with fail
      refine (HPk.out _).mono ?_
      rintro r wz ⟨rfl, hw⟩
      rw [hw]
      clear hw wz
      go_wp2_with fail
      refine HG2.out.mono ?_
      rintro r w18 ⟨⟨g2, rfl, -, hrg, hX18⟩, k18⟩
      obtain ⟨hcg, -, hg2l, hg2l2⟩ := row_cell hrg (j := 0) (x := .int .u64 5) rfl
      have l18 := hX18.lts
      have hg2t : g2 ≠ tb := (hX18.yo g2 (.inr rfl)).2.1
      have hg2x : g2 ≠ xb := (hX18.yo g2 (.inr rfl)).2.2.1
      have hM2 := hX18.memory
      have HM2 := hide hM2
      clear hM2 hX18 k18 HG2 hrg hcg16 hcp16 hcq hcpA hcqA hcqB hfg hfpA hfqB
      go_wp2_with fail
      refine HM2.out.mono ?_
      rintro r w19 ⟨⟨p2, rfl, -, hrp, hX19⟩, k19⟩
      obtain ⟨hcp, -, hp2l, hp2l2⟩ := row_cell hrp (j := pi) (x := .int .u8 0) (by rw [List.getElem?_replicate, if_pos hpl])
      have hcg19 := k19.cell hcg hg2t
      have hp2t : p2 ≠ tb := (hX19.yo p2 (.inr rfl)).2.1
      have hp2x : p2 ≠ xb := (hX19.yo p2 (.inr rfl)).2.2.1
      have hT2 := hX19.type
      have HT2 := hide hT2
      clear hT2 hX19 k19 HM2 hrp hcg
      go_wp2_with fail
      refine HT2.out.mono ?_
      rintro r w20 ⟨⟨q3, q4, rfl, -, hrq, hX20⟩, k20⟩
      obtain ⟨hcq, -, hq3l, hq3l2⟩ := row_cell hrq (j := 0) (x := .int .u8 126) rfl
      have hq3t : q3 ≠ tb := (hX20.yo q3 (.inr rfl)).2.1
      have hq3x : q3 ≠ xb := (hX20.yo q3 (.inr rfl)).2.2.1
      have kC : Kp no w20 (w20.alloc (.cells (valCells [(a : Int)]).toArray 22)) := (Kp.refl _ _).alloc _
      have l20 := hX20.lts
      have hga := (hX20.quiet kC).get (x := (b : Int)) (ValsAt.made w20 [(a : Int)]) (fun y hy => by obtain rfl : w20.heap.size = y := Option.some.inj hy; omega) (by simp) (by rw [HWa.out]; simpa [look] using HUb.out)
      have hcg20 := (k20.trans kC).allCells hcg19
      have hcp20 := (k20.trans kC).allCells hcp
      have hcq20 := kC.allCells hcq
      have HGa := hide hga
      clear hga hX20 k20 kC HT2 hrq hcg19 hcp hcq
      go_wp2_with fail
      refine HGa.out.mono ?_
      rintro r w21 ⟨rfl, hX21, k21⟩
      have hcg21 := k21.cell hcg20 (fun e => e.elim hg2x hg2t)
      have hcp21 := k21.cell hcp20 (fun e => e.elim hp2x hp2t)
      have hcq21 := k21.cell hcq20 (fun e => e.elim hq3x hq3t)
      have hk3 := hX21.keysTold
      have HK3 := hide hk3
      clear hk3 hX21 k21 HGa hcg20 hcp20 hcq20
      go_wp2_with fail
      refine HK3.out.mono ?_
      rintro r w22 ⟨⟨v22, l22, rfl, hl22, hr22, hX22⟩, k22⟩
      obtain rfl := one_key hl22
      obtain ⟨lb2, cl2, hv22, hcl2⟩ := row_shape hr22 (by simp)
      subst hv22
      obtain ⟨hcl, -, -, -⟩ := row_cell hr22 (j := 0) (x := .int .i64 a64) rfl
      have hcg22 := k22.cell hcg21 hg2t
      have hcp22 := k22.cell hcp21 hp2t
      have hcq22 := k22.cell hcq21 hq3t
      have KE := hide hX22.kp
      clear hX22 k22 HK3 hr22 hl22 hcg21 hcp21 hcq21
      go_wp2_with fail
      refine (HPk.out _).mono ?_
      rintro r wz ⟨rfl, hw⟩
      rw [hw]
      clear hw wz
      go_wp2
      go_ret
      exact ⟨rfl, KE.out⟩
/-- For any three numbers. -/
theorem apartW_any {w : World} (hR : RowsOk w) (a0 a1 a2 : Int) (h1 : 0 ≤ a0) (h2 : a0 < 18446744073709551616) (h3 : 0 ≤ a1) (h4 : a1 < 18446744073709551616) (h5 : -9223372036854775808 ≤ a2) (h6 : a2 < 9223372036854775808) :
    Calls Tryz.prog 4 #[.int .u64 a0, .int .u64 a1, .int .i64 a2] w fun r w' => r = .returned (.bool true) ∧ Kp no w w' := by
  obtain ⟨n, rfl⟩ : ∃ n : Nat, a0 = n := ⟨a0.toNat, by omega⟩
  obtain ⟨m, rfl⟩ : ∃ m : Nat, a1 = m := ⟨a1.toNat, by omega⟩
  exact apart_any hR n m a2 (by omega) (by omega) h5 h6
end Go.Proofs.YtdeplgkhmebalabGreatDoor
