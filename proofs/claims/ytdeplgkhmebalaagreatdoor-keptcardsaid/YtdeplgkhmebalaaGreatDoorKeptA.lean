/- Two instances of one store. -/
import Derived.Test.YtdeplgkhmebalaaGreatDoorP32
import Derived.Test.YtdeplgkhmebalaaGreatDoorKeepA

namespace Go.Proofs.YtdeplgkhmebalaaGreatDoor
open Go.RowKit

set_option maxRecDepth 100000 in
set_option maxHeartbeats 2000000 in
theorem gives_at {w : World} {ro : Nat → Prop} {ib tb mb : Nat} {mv gv av : Value} {f : Flat} {mem : List UInt8} {gl args : List Int} {p : Option Nat} {keys : List (Int × Int)} {n K : Nat} (h : InstAt w ro ib tb mb mv gv f mem gl) (hs : StoreAt w tb p keys)
    (hok : FlatOk f) (ha : ValsAt w av args) (hal : args.length ≤ 1000) (hav : ∀ b, av.ownBlock = some b → b ≠ ib ∧ b ≠ tb) (he : refusesM f n args 100000 = 0)
    (hK : K ≤ 900000) {v : Int} {u : Nat} {s' : Mc} (hm : callR f n args 100000 mem gl keys K = some (0, v, u, s')) (hsm : s'.mem.length ≤ 1000000 ∧ s'.gl.length ≤ 1000000 ∧ s'.keys.length ≤ 1000) :
    Calls Tryz.prog 22 #[ptrTo ib, .int .i64 n, av, .int .u64 v, .int .i64 u] w fun r w' => r = .returned (.bool true) ∧
      (∃ mv' gv' p', InstAt w' ro ib tb mb mv' gv' f s'.mem s'.gl ∧ StoreAt w' tb p' s'.keys ∧ (∀ b, mv'.ownBlock = some b → w.heap.size ≤ b) ∧ (∀ b, gv'.ownBlock = some b → w.heap.size ≤ b)) ∧ Kp (ibtb ib tb) w w' := by
  have hc := call_runs (fuel := 100000) h hs hok.ok ha hal hav hok.fn he hK hm hsm
  obtain ⟨ad, cap, hav', -⟩ := RowAt.shape ha
  subst hav'
  have HC := hide hc
  clear hc h hs hok ha hal hav he hm hsm
  go_enter Tryz.func22, Tryz.ntmps22
  go_wp2_with fail
  refine HC.out.mono ?_
  rintro r w1 ⟨rfl, h1, -, k1⟩
  have H1 := hide (h1 trivial)
  have K1 := hide k1
  clear h1 k1 HC
  go_wp2
  go_ret
  obtain ⟨mv', gv', p', i1, i2, i3, i4⟩ := H1.out
  have kq := (Kp.refl no w1).alloc (.cells #[.int .i64 0, .int .i64 0, .int .u64 v, .int .i64 u] 51)
  exact ⟨by simp, ⟨mv', gv', p', i1.kp kq (fun h => h) (fun _ _ h => h) (fun _ _ h => h) (fun _ _ h => h), ⟨kq.blk i2.blk (fun h => h), i2.map.kp kq (fun _ _ h => h), i2.few⟩, i3, i4⟩, K1.out.alloc _⟩

set_option maxRecDepth 100000 in
set_option maxHeartbeats 2000000 in
theorem traps_at {w : World} {ro : Nat → Prop} {ib tb mb : Nat} {mv gv av : Value} {f : Flat} {mem : List UInt8} {gl args : List Int} {p : Option Nat} {keys : List (Int × Int)} {n fuel K : Nat} (h : InstAt w ro ib tb mb mv gv f mem gl) (hs : StoreAt w tb p keys)
    (hok : FlatOk f) (ha : ValsAt w av args) (hal : args.length ≤ 1000) (hav : ∀ b, av.ownBlock = some b → b ≠ ib ∧ b ≠ tb) (he : refusesM f n args fuel = 0)
    (hK : K ≤ 900000) {t : Nat} (ht : t ≠ 0) {u : Nat} {s' : Mc} (hm : callR f n args fuel mem gl keys K = some (t, 0, u, s')) (hsm : s'.mem.length ≤ 1000000 ∧ s'.gl.length ≤ 1000000 ∧ s'.keys.length ≤ 1000) :
    Calls Tryz.prog 30 #[ptrTo ib, .int .i64 n, av, .int .i64 fuel, .int .i64 t, .int .i64 u] w fun r w' => r = .returned (.bool true) ∧ (InstAt w' ro ib tb mb mv gv f mem gl ∧ StoreAt w' tb p keys) ∧ Kp (ibtb ib tb) w w' := by
  have hc := call_runs (fuel := fuel) h hs hok.ok ha hal hav hok.fn he hK hm hsm
  obtain ⟨ad, cap, hav', -⟩ := RowAt.shape ha
  subst hav'
  have HC := hide hc
  have HT := hide ht
  clear hc h hs hok ha hal hav he hm hsm ht
  go_enter Tryz.func30, Tryz.ntmps30
  go_wp2_with fail
  refine HC.out.mono ?_
  rintro r w1 ⟨rfl, -, h1, k1⟩
  have H1 := hide (h1 HT.out)
  have K1 := hide k1
  clear h1 k1 HC
  go_wp2
  go_ret
  obtain ⟨i1, i2⟩ := H1.out
  have kq := (Kp.refl no w1).alloc (.cells #[.int .i64 0, .int .i64 t, .int .u64 0, .int .i64 u] 51)
  exact ⟨by simp, ⟨i1.kp kq (fun h => h) (fun _ _ h => h) (fun _ _ h => h) (fun _ _ h => h), ⟨kq.blk i2.blk (fun h => h), i2.map.kp kq (fun _ _ h => h), i2.few⟩⟩, K1.out.alloc _⟩

set_option maxRecDepth 100000 in
set_option maxHeartbeats 2000000 in
theorem traps_off {w : World} {ro : Nat → Prop} {ib tb mb : Nat} {mv gv av : Value} {f : Flat} {mem : List UInt8} {gl args : List Int} {p : Option Nat} {keys : List (Int × Int)} {n fuel K : Nat} (h : InstAt w ro ib tb mb mv gv f mem gl) (hs : StoreAt w tb p keys)
    (hok : FlatOk f) (ha : ValsAt w av args) (hal : args.length ≤ 1000) (hav : ∀ b, av.ownBlock = some b → b ≠ ib ∧ b ≠ tb) (he : refusesM f n args fuel = 0)
    (hK : K ≤ 900000) {u : Nat} {s' : Mc} (hm : callR f n args fuel mem gl keys K = some (7, 0, u, s')) (hsm : s'.mem.length ≤ 1000000 ∧ s'.gl.length ≤ 1000000 ∧ s'.keys.length ≤ 1000) (U : Nat) :
    Calls Tryz.prog 30 #[ptrTo ib, .int .i64 n, av, .int .i64 fuel, .int .i64 1, .int .i64 U] w fun r w' => r = .returned (.bool false) ∧ (InstAt w' ro ib tb mb mv gv f mem gl ∧ StoreAt w' tb p keys) ∧ Kp (ibtb ib tb) w w' := by
  have hc := call_runs (fuel := fuel) h hs hok.ok ha hal hav hok.fn he hK hm hsm
  obtain ⟨ad, cap, hav', -⟩ := RowAt.shape ha
  subst hav'
  have HC := hide hc
  clear hc h hs hok ha hal hav he hm hsm
  go_enter Tryz.func30, Tryz.ntmps30
  go_wp2_with fail
  refine HC.out.mono ?_
  rintro r w1 ⟨rfl, -, h1, k1⟩
  have H1 := hide (h1 (by decide))
  have K1 := hide k1
  clear h1 k1 HC
  go_wp2
  go_ret
  obtain ⟨i1, i2⟩ := H1.out
  have kq := (Kp.refl no w1).alloc (.cells #[.int .i64 0, .int .i64 7, .int .u64 0, .int .i64 u] 51)
  exact ⟨by simp, ⟨i1.kp kq (fun h => h) (fun _ _ h => h) (fun _ _ h => h) (fun _ _ h => h), ⟨kq.blk i2.blk (fun h => h), i2.map.kp kq (fun _ _ h => h), i2.few⟩⟩, K1.out.alloc _⟩

theorem RowAt.lt_own {w : World} {v : Value} {n : Nat} {xs : List Value} (h : RowAt w v 1 n xs) (hn : 0 < n) : ∀ b, v.ownBlock = some b → b < w.heap.size := by
  have hl : 0 < xs.length := by rw [h.1]; omega
  obtain ⟨a, o, cap, rfl, -, hc⟩ := h.get (k := 0) (x := xs[0]) (by simp [hl])
  intro b hb
  cases hb
  exact World.block_lt_of_cell? w _ hc
/-- What is an instance's own, apart from another instance and from a list. -/
structure Half (B0 : Nat) (X : Nat → Prop) (ib jb : Nat) (ro : Nat → Prop) (mv gv : Value) : Prop where
  ne : ib ≠ jb
  lt : ib < B0
  ro : ∀ b, ro b → b < B0 ∧ b ≠ jb
  mv : ∀ b, mv.ownBlock = some b → b ≠ jb ∧ ¬ X b
  gv : ∀ b, gv.ownBlock = some b → b ≠ jb ∧ ¬ X b
/-- Two instances of one store. -/
structure Duo (w : World) (B0 : Nat) (X : Nat → Prop) (ib jb tb : Nat) (f : Flat) (mem : List UInt8) (gl : List Int) (keys : List (Int × Int)) : Prop where
  ex : ∃ ro mb mv gv ro' mb' mv' gv' p, InstAt w ro ib tb mb mv gv f mem gl ∧ InstAt w ro' jb tb mb' mv' gv' f mem gl ∧ StoreAt w tb p keys ∧ Half B0 X ib jb ro mv gv ∧ Half B0 X jb ib ro' mv' gv'
  tb : tb < B0
  le : B0 ≤ w.heap.size
section
variable {w w' : World} {B0 : Nat} {X : Nat → Prop} {ib jb tb : Nat} {f : Flat} {mem : List UInt8} {gl : List Int} {keys : List (Int × Int)}
theorem Duo.swap (h : Duo w B0 X ib jb tb f mem gl keys) : Duo w B0 X jb ib tb f mem gl keys := by
  obtain ⟨⟨ro, mb, mv, gv, ro', mb', mv', gv', p, h1, h2, h3, h4, h5⟩, h6, h7⟩ := h
  exact ⟨⟨ro', mb', mv', gv', ro, mb, mv, gv, p, h2, h1, h3, h5, h4⟩, h6, h7⟩
theorem Duo.kp {S : Nat → Prop} (h : Duo w B0 X ib jb tb f mem gl keys) (k : Kp S w w') (hS : ∀ b, b < B0 → ¬ S b) (hv : ∀ b, S b → X b ∧ ∃ cs t, w.heap[b]? = some (.cells cs t)) : Duo w' B0 X ib jb tb f mem gl keys := by
  obtain ⟨⟨ro, mb, mv, gv, ro', mb', mv', gv', p, h1, h2, h3, h4, h5⟩, h6, h7⟩ := h
  refine ⟨⟨ro, mb, mv, gv, ro', mb', mv', gv', p, ?_, ?_, ⟨k.blk h3.blk (hS _ h6), h3.map.kp k (fun b hb hs => ?_), h3.few⟩, h4, h5⟩, h6, Nat.le_trans h7 k.size⟩
  · exact h1.kp k (hS _ h4.lt) (fun b hb => hS _ (h4.ro b hb).1) (fun b hb hs => (h4.mv b hb).2 (hv b hs).1) (fun b hb hs => (h4.gv b hb).2 (hv b hs).1)
  · exact h2.kp k (hS _ h5.lt) (fun b hb => hS _ (h5.ro b hb).1) (fun b hb hs => (h5.mv b hb).2 (hv b hs).1) (fun b hb hs => (h5.gv b hb).2 (hv b hs).1)
  · obtain ⟨cs, t, hc⟩ := (hv b hs).2
    exact h3.map.ne hc b hb rfl
theorem Duo.quiet (h : Duo w B0 X ib jb tb f mem gl keys) (k : Kp no w w') : Duo w' B0 X ib jb tb f mem gl keys := h.kp k (fun _ _ h => h) (fun _ h => h.elim)
/-- The list lies elsewhere now. -/
theorem Duo.list {X' : Nat → Prop} (h : Duo w B0 X ib jb tb f mem gl keys) (hm : 0 < mem.length) (hg : 0 < gl.length) (hv : ∀ b, X' b → X b ∨ w.heap.size ≤ b) : Duo w B0 X' ib jb tb f mem gl keys := by
  obtain ⟨⟨ro, mb, mv, gv, ro', mb', mv', gv', p, h1, h2, h3, h4, h5⟩, h6, h7⟩ := h
  have go : ∀ {ib jb : Nat} {ro : Nat → Prop} {mv gv : Value} {mb : Nat}, InstAt w ro ib tb mb mv gv f mem gl → Half B0 X ib jb ro mv gv → Half B0 X' ib jb ro mv gv := by
    intro ib jb ro mv gv mb h1 h4
    refine ⟨h4.ne, h4.lt, h4.ro, fun b hb => ⟨(h4.mv b hb).1, fun e => ?_⟩, fun b hb => ⟨(h4.gv b hb).1, fun e => ?_⟩⟩
    · rcases hv b e with e' | e'
      · exact (h4.mv b hb).2 e'
      · have := RowAt.lt_own h1.memR hm b hb
        omega
    · rcases hv b e with e' | e'
      · exact (h4.gv b hb).2 e'
      · have := RowAt.lt_own h1.glR hg b hb
        omega
  exact ⟨⟨ro, mb, mv, gv, ro', mb', mv', gv', p, h1, h2, h3, go h1 h4, go h2 h5⟩, h6, h7⟩
theorem Half.kpOther {ro : Nat → Prop} {mv gv : Value} {mb : Nat} {p : Option Nat} (h2 : InstAt w ro jb tb mb mv gv f mem gl) (h3 : StoreAt w tb p keys) (h5 : Half B0 X jb ib ro mv gv) (k : Kp (ibtb ib tb) w w') : InstAt w' ro jb tb mb mv gv f mem gl := by
  have hnt := h2.neI h3
  refine h2.kp k ?_ ?_ ?_ ?_
  · rintro (e | e)
    · exact h5.ne e
    · exact hnt e
  · rintro b hb (e | e)
    · exact (h5.ro b hb).2 e
    · exact (h2.roI b hb).2.2 e
  · rintro b hb (e | e)
    · exact (h5.mv b hb).1 e
    · exact (h2.mvI b hb).2 e
  · rintro b hb (e | e)
    · exact (h5.gv b hb).1 e
    · exact (h2.gvI b hb).2 e
theorem Duo.gives {av : Value} {args : List Int} {n K : Nat} {v : Int} {u : Nat} {s' : Mc} (h : Duo w B0 X ib jb tb f mem gl keys) (hok : FlatOk f) (ha : ValsAt w av args) (hal : args.length ≤ 1000) (hav : ∀ b, av.ownBlock = some b → b ≠ ib ∧ b ≠ tb) (he : refusesM f n args 100000 = 0)
    (hK : K ≤ 900000) (hm : callR f n args 100000 mem gl keys K = some (0, v, u, s')) (hsm : s'.mem = mem) (hsg : s'.gl = gl) (hsk : s'.keys.length ≤ 1000) (hvl : ∀ b, X b → b < w.heap.size) :
    Calls Tryz.prog 22 #[ptrTo ib, .int .i64 n, av, .int .u64 v, .int .i64 u] w fun r w' => r = .returned (.bool true) ∧ Duo w' B0 X ib jb tb f mem gl s'.keys ∧ Kp (ibtb ib tb) w w' := by
  obtain ⟨⟨ro, mb, mv, gv, ro', mb', mv', gv', p, h1, h2, h3, h4, h5⟩, h6, h7⟩ := h
  refine (gives_at h1 h3 hok ha hal hav he hK hm ⟨by rw [hsm]; exact h1.mn, by rw [hsg]; exact h1.gn, hsk⟩).mono ?_
  rintro r w' ⟨hr, ⟨mv1, gv1, p1, j1, j2, j3, j4⟩, k⟩
  rw [hsm, hsg] at j1
  refine ⟨hr, ⟨⟨ro, mb, mv1, gv1, ro', mb', mv', gv', p1, j1, Half.kpOther h2 h3 h5 k, j2, ⟨h4.ne, h4.lt, h4.ro, fun b hb => ⟨?_, fun e => ?_⟩, fun b hb => ⟨?_, fun e => ?_⟩⟩, h5⟩, h6, Nat.le_trans h7 k.size⟩, k⟩
  · have := j3 b hb; have := h5.lt; omega
  · have := j3 b hb; have := hvl b e; omega
  · have := j4 b hb; have := h5.lt; omega
  · have := j4 b hb; have := hvl b e; omega
theorem Duo.traps {av : Value} {args : List Int} {n fuel K : Nat} {t : Nat} {u : Nat} {s' : Mc} (h : Duo w B0 X ib jb tb f mem gl keys) (hok : FlatOk f) (ha : ValsAt w av args) (hal : args.length ≤ 1000) (hav : ∀ b, av.ownBlock = some b → b ≠ ib ∧ b ≠ tb) (he : refusesM f n args fuel = 0)
    (hK : K ≤ 900000) (ht : t ≠ 0) (hm : callR f n args fuel mem gl keys K = some (t, 0, u, s')) (hsm : s'.mem.length ≤ 1000000 ∧ s'.gl.length ≤ 1000000 ∧ s'.keys.length ≤ 1000) :
    Calls Tryz.prog 30 #[ptrTo ib, .int .i64 n, av, .int .i64 fuel, .int .i64 t, .int .i64 u] w fun r w' => r = .returned (.bool true) ∧ Duo w' B0 X ib jb tb f mem gl keys ∧ Kp (ibtb ib tb) w w' := by
  obtain ⟨⟨ro, mb, mv, gv, ro', mb', mv', gv', p, h1, h2, h3, h4, h5⟩, h6, h7⟩ := h
  refine (traps_at h1 h3 hok ha hal hav he hK ht hm hsm).mono ?_
  rintro r w' ⟨hr, ⟨j1, j2⟩, k⟩
  exact ⟨hr, ⟨⟨ro, mb, mv, gv, ro', mb', mv', gv', p, j1, Half.kpOther h2 h3 h5 k, j2, h4, h5⟩, h6, Nat.le_trans h7 k.size⟩, k⟩
theorem Duo.trapsOff {av : Value} {args : List Int} {n fuel K : Nat} {u : Nat} {s' : Mc} (h : Duo w B0 X ib jb tb f mem gl keys) (hok : FlatOk f) (ha : ValsAt w av args) (hal : args.length ≤ 1000) (hav : ∀ b, av.ownBlock = some b → b ≠ ib ∧ b ≠ tb) (he : refusesM f n args fuel = 0)
    (hK : K ≤ 900000) (hm : callR f n args fuel mem gl keys K = some (7, 0, u, s')) (hsm : s'.mem.length ≤ 1000000 ∧ s'.gl.length ≤ 1000000 ∧ s'.keys.length ≤ 1000) (U : Nat) :
    Calls Tryz.prog 30 #[ptrTo ib, .int .i64 n, av, .int .i64 fuel, .int .i64 1, .int .i64 U] w fun r w' => r = .returned (.bool false) ∧ Duo w' B0 X ib jb tb f mem gl keys ∧ Kp (ibtb ib tb) w w' := by
  obtain ⟨⟨ro, mb, mv, gv, ro', mb', mv', gv', p, h1, h2, h3, h4, h5⟩, h6, h7⟩ := h
  refine (traps_off h1 h3 hok ha hal hav he hK hm hsm U).mono ?_
  rintro r w' ⟨hr, ⟨j1, j2⟩, k⟩
  exact ⟨hr, ⟨⟨ro, mb, mv, gv, ro', mb', mv', gv', p, j1, Half.kpOther h2 h3 h5 k, j2, h4, h5⟩, h6, Nat.le_trans h7 k.size⟩, k⟩
theorem Half.kpStore {ro : Nat → Prop} {mv gv : Value} {mb : Nat} {p : Option Nat} (h2 : InstAt w ro jb tb mb mv gv f mem gl) (h3 : StoreAt w tb p keys) (k : Kp (one tb) w w') : InstAt w' ro jb tb mb mv gv f mem gl :=
  h2.kp k (h2.neI h3) (fun b hb => (h2.roI b hb).2.2) (fun b hb => (h2.mvI b hb).2) (fun b hb => (h2.gvI b hb).2)
theorem Duo.get (h : Duo w B0 X ib jb tb f mem gl keys) (hne : keys ≠ []) (k : Int) (h1 : -9223372036854775808 ≤ k) (h2 : k < 9223372036854775808) :
    Calls Tryz.prog 37 #[ptrTo tb, .int .i64 k] w fun r w' => r = .returned (.tuple #[.int .i64 ((look keys k).getD 0), .bool (look keys k).isSome]) ∧ Duo w' B0 X ib jb tb f mem gl keys ∧ Kp (one tb) w w' := by
  obtain ⟨⟨ro, mb, mv, gv, ro', mb', mv', gv', p, i1, i2, i3, i4, i5⟩, i6, i7⟩ := h
  obtain ⟨b, rfl⟩ : ∃ b, p = some b := by
    rcases i3.map with ⟨-, h⟩ | ⟨b, hb, -⟩
    · exact absurd h hne
    · exact ⟨b, hb⟩
  refine Calls.mono (get_any i3 k h1 h2) ?_
  rintro r w'' ⟨hr, hs', kA⟩
  exact ⟨hr, ⟨⟨ro, mb, mv, gv, ro', mb', mv', gv', _, Half.kpStore i1 i3 kA, Half.kpStore i2 i3 kA, hs', i4, i5⟩, i6, Nat.le_trans i7 kA.size⟩, kA⟩
theorem Duo.lts (h : Duo w B0 X ib jb tb f mem gl keys) : ib < B0 ∧ jb < B0 ∧ tb < B0 := by
  obtain ⟨⟨ro, mb, mv, gv, ro', mb', mv', gv', p, h1, h2, h3, h4, h5⟩, h6, h7⟩ := h
  exact ⟨h4.lt, h5.lt, h6⟩
/-- One of the two, alone. -/
theorem Duo.inst (h : Duo w B0 X ib jb tb f mem gl keys) : Inst { w with heap := #[] } w ib tb f mem gl keys := by
  obtain ⟨⟨ro, mb, mv, gv, ro', mb', mv', gv', p, i1, i2, i3, i4, i5⟩, i6, i7⟩ := h
  exact ⟨⟨ro, mb, mv, gv, p, i1, i3, fun _ _ => Nat.zero_le _, fun _ _ => Nat.zero_le _, fun _ _ => Nat.zero_le _⟩, Nat.zero_le _, Nat.zero_le _⟩
theorem Duo.store (h : Duo w B0 X ib jb tb f mem gl keys) : ∃ p, StoreAt w tb p keys ∧ ∀ w', StoreAt w' tb p keys → Kp (one tb) w w' → Duo w' B0 X ib jb tb f mem gl keys := by
  obtain ⟨⟨ro, mb, mv, gv, ro', mb', mv', gv', p, i1, i2, i3, i4, i5⟩, i6, i7⟩ := h
  exact ⟨p, i3, fun w'' hs' kA => ⟨⟨ro, mb, mv, gv, ro', mb', mv', gv', _, Half.kpStore i1 i3 kA, Half.kpStore i2 i3 kA, hs', i4, i5⟩, i6, Nat.le_trans i7 kA.size⟩⟩
end
theorem w64 (k : Int) (h1 : -9223372036854775808 ≤ k) (h2 : k < 9223372036854775808) : wrap64 (IntKind.u64.wrap k) = k := by
  rw [IntKind.wrap_u64]
  unfold wrap64
  omega
theorem kp_ref0 (a v : Int) {f : Nat} (hf : f ≤ 100000) : refusesM kpF ((0 : Nat) : Int) [a, v] ((f : Nat) : Int) = 0 := by
  have hfi : fitsM [a, v] [126, 126] = true := by simp [fitsM, fitsAt, List.range, List.range.loop]
  unfold refusesM
  rw [if_neg (by rw [kp_okay.nf]; omega), show (kpF.funcs.getD (((0 : Nat) : Int)).toNat fn0).typ.1 = [126, 126] by kernel_rfl, hfi, if_neg (by simp), if_neg (by omega)]
theorem kp_ref1 (a : Int) {f : Nat} (hf : f ≤ 100000) : refusesM kpF ((1 : Nat) : Int) [a] ((f : Nat) : Int) = 0 := by
  have hfi : fitsM [a] [126] = true := by simp [fitsM, fitsAt]
  unfold refusesM
  rw [if_neg (by rw [kp_okay.nf]; omega), show (kpF.funcs.getD (((1 : Nat) : Int)).toNat fn0).typ.1 = [126] by kernel_rfl, hfi, if_neg (by simp), if_neg (by omega)]
theorem kp_ref2 (a v : Int) {f : Nat} (hf : f ≤ 100000) : refusesM kpF ((2 : Nat) : Int) [a, v] ((f : Nat) : Int) = 0 := by
  have hfi : fitsM [a, v] [126, 126] = true := by simp [fitsM, fitsAt, List.range, List.range.loop]
  unfold refusesM
  rw [if_neg (by rw [kp_okay.nf]; omega), show (kpF.funcs.getD (((2 : Nat) : Int)).toNat fn0).typ.1 = [126, 126] by kernel_rfl, hfi, if_neg (by simp), if_neg (by omega)]
end Go.Proofs.YtdeplgkhmebalaaGreatDoor

namespace Go.Proofs.YtdeplgkhmebalaaGreatDoor
open Go.RowKit

theorem look_at_none {k : Int} : ∀ (m : List (Int × Int)), (∀ j, j < m.length → (m.getD j (0, 0)).1 ≠ k) → look m k = none
  | [], _ => rfl
  | p :: m, h => by
    rw [look_cons, if_neg (show p.1 ≠ k from h 0 (by simp))]
    exact look_at_none m (fun j hj => h (j + 1) (by simp; omega))
theorem look_at_some {k : Int} : ∀ (m : List (Int × Int)) (j : Nat), j < m.length → (m.getD j (0, 0)).1 = k → (∀ i, i < j → (m.getD i (0, 0)).1 ≠ k) → look m k = some (m.getD j (0, 0)).2
  | [], _, h, _, _ => absurd h (by simp)
  | p :: m, 0, _, hk, _ => by rw [look_cons]; exact if_pos hk
  | p :: m, j + 1, hj, hk, h => by
    rw [look_cons, if_neg (show p.1 ≠ k from h 0 (by omega))]
    exact look_at_some m j (by simpa using hj) hk (fun i hi => h (i + 1) (by omega))
theorem put_set {k v : Int} : ∀ (m : List (Int × Int)) (j : Nat), (m.map Prod.fst).Nodup → j < m.length → (m.getD j (0, 0)).1 = k → m.map (fun p => if p.1 = k then (k, v) else p) = m.set j (k, v)
  | [], _, _, h, _ => absurd h (by simp)
  | p :: m, 0, hn, _, hk => by
    obtain rfl : p.1 = k := hk
    rw [List.map_cons, if_pos rfl, List.set_cons_zero]
    congr 1
    rw [List.map_cons, List.nodup_cons] at hn
    refine (List.map_congr_left (g := id) fun q hq => if_neg fun e => hn.1 ?_).trans (List.map_id _)
    rw [← e]
    exact List.mem_map_of_mem hq
  | p :: m, j + 1, hn, hj, hk => by
    rw [List.map_cons, List.nodup_cons] at hn
    have hm : (m.getD j (0, 0)).1 = k := hk
    have hj' : j < m.length := by simpa using hj
    have hpk : p.1 ≠ k := by
      intro e
      apply hn.1
      rw [e, ← hm, List.getD_eq_getElem?_getD, List.getElem?_eq_getElem hj']
      exact List.mem_map_of_mem (List.getElem_mem hj')
    rw [List.map_cons, if_neg hpk, List.set_cons_succ, put_set m j hn.2 hj' hm]
theorem putKey_new {m : List (Int × Int)} {k v : Int} (h : look m k = none) : putKey m k v = m ++ [(k, v)] := by
  unfold putKey
  rw [h]
  rfl
theorem putKey_old {m : List (Int × Int)} {k v : Int} {j : Nat} (hn : (m.map Prod.fst).Nodup) (hj : j < m.length) (hk : (m.getD j (0, 0)).1 = k) (h : ∀ i, i < j → (m.getD i (0, 0)).1 ≠ k) : putKey m k v = m.set j (k, v) := by
  unfold putKey
  rw [look_at_some m j hj hk h]
  exact put_set m j hn hj hk
theorem fst_set {m : List (Int × Int)} {k v : Int} {j : Nat} (hj : j < m.length) (hk : (m.getD j (0, 0)).1 = k) : (m.set j (k, v)).map Prod.fst = m.map Prod.fst := by
  rw [List.map_set]
  apply List.ext_getElem?
  intro i
  rw [List.getElem?_set]
  split
  · rename_i e
    subst e
    rw [List.length_map, if_pos hj, List.getElem?_map]
    rw [List.getD_eq_getElem?_getD, List.getElem?_eq_getElem hj] at hk
    rw [List.getElem?_eq_getElem hj]
    exact congrArg some hk.symm
  · rfl
theorem nodup_new {m : List (Int × Int)} {k v : Int} (hn : (m.map Prod.fst).Nodup) (h : look m k = none) : ((m ++ [(k, v)]).map Prod.fst).Nodup := by
  rw [List.map_append, List.nodup_append]
  refine ⟨hn, by simp, fun a ha b hb e => ?_⟩
  obtain ⟨p, hp, rfl⟩ := List.mem_map.1 ha
  simp at hb
  exact look_none h p hp (e.trans hb)

abbrev mem0 : List UInt8 := List.replicate 64 0
section
variable {W : World} {B0 : Nat} {X : Nat → Prop} {av : Value} {ib jb tb : Nat} {m : List (Int × Int)} {k v : Int}
theorem Duo.apart (h : Duo W B0 X ib jb tb kpF mem0 [5] m) (hab : ∀ b, av.ownBlock = some b → B0 ≤ b) : ∀ b, av.ownBlock = some b → b ≠ ib ∧ b ≠ tb := by
  obtain ⟨⟨ro, mb, mv, gv, ro', mb', mv', gv', p, h1, h2, h3, h4, h5⟩, h6, h7⟩ := h
  intro b hb
  have := hab b hb
  have := h4.lt
  omega
theorem duo_fail (h : Duo W B0 X ib jb tb kpF mem0 [5] m) (hk1 : -9223372036854775808 ≤ k) (hk2 : k < 9223372036854775808) (ha : ValsAt W av [IntKind.u64.wrap k, IntKind.u64.wrap v]) (hab : ∀ b, av.ownBlock = some b → B0 ≤ b) (hml : m.length ≤ 8) (hnf : ¬ ((look m k).isNone ∧ m.length = 8)) :
    Calls Tryz.prog 30 #[ptrTo ib, .int .i64 2, av, .int .i64 100, .int .i64 1, .int .i64 12] W fun r w' => r = .returned (.bool true) ∧ Duo w' B0 X ib jb tb kpF mem0 [5] m ∧ Kp (ibtb ib tb) W w' := by
  have hc := kp_fail (k := IntKind.u64.wrap k) (v := IntKind.u64.wrap v) (g := 5) (keys := m) (by omega) (by rw [w64 k hk1 hk2]; exact hnf)
  exact Duo.traps (n := 2) (fuel := 100) (t := 1) (u := 12) h kp_okay.ok ha (by simp) (h.apart hab) (kp_ref2 _ _ (f := 100) (by omega)) (by omega) (by decide) hc ⟨by simp [kpMem, stTo_len], by simp, by
    change (putKey m _ _).length ≤ 1000
    rw [putKey_len]
    split <;> omega⟩
theorem duo_failT (h : Duo W B0 X ib jb tb kpF mem0 [5] m) (hk1 : -9223372036854775808 ≤ k) (hk2 : k < 9223372036854775808) (ha : ValsAt W av [IntKind.u64.wrap k, IntKind.u64.wrap v]) (hab : ∀ b, av.ownBlock = some b → B0 ≤ b) (hml : m.length = 8) (hnf : (look m k).isNone) :
    Calls Tryz.prog 30 #[ptrTo ib, .int .i64 2, av, .int .i64 100, .int .i64 7, .int .i64 3] W fun r w' => r = .returned (.bool true) ∧ Duo w' B0 X ib jb tb kpF mem0 [5] m ∧ Kp (ibtb ib tb) W w' := by
  have hc := kp_failT (k := IntKind.u64.wrap k) (v := IntKind.u64.wrap v) (mem := mem0) (gl := [5]) (keys := m) hml (by rw [w64 k hk1 hk2]; exact hnf)
  exact Duo.traps (n := 2) (fuel := 100) (t := 7) (u := 3) h kp_okay.ok ha (by simp) (h.apart hab) (kp_ref2 _ _ (f := 100) (by omega)) (by omega) (by decide) hc ⟨by simp, by simp, by change m.length ≤ 1000; omega⟩
theorem duo_failF (h : Duo W B0 X ib jb tb kpF mem0 [5] m) (hk1 : -9223372036854775808 ≤ k) (hk2 : k < 9223372036854775808) (ha : ValsAt W av [IntKind.u64.wrap k, IntKind.u64.wrap v]) (hab : ∀ b, av.ownBlock = some b → B0 ≤ b) (hml : m.length = 8) (hnf : (look m k).isNone) :
    Calls Tryz.prog 30 #[ptrTo ib, .int .i64 2, av, .int .i64 100, .int .i64 1, .int .i64 12] W fun r w' => r = .returned (.bool false) ∧ Duo w' B0 X ib jb tb kpF mem0 [5] m ∧ Kp (ibtb ib tb) W w' := by
  have hc := kp_failT (k := IntKind.u64.wrap k) (v := IntKind.u64.wrap v) (mem := mem0) (gl := [5]) (keys := m) hml (by rw [w64 k hk1 hk2]; exact hnf)
  exact Duo.trapsOff (n := 2) (fuel := 100) (u := 3) h kp_okay.ok ha (by simp) (h.apart hab) (kp_ref2 _ _ (f := 100) (by omega)) (by omega) hc ⟨by simp, by simp, by change m.length ≤ 1000; omega⟩ 12
theorem duo_putT (h : Duo W B0 X ib jb tb kpF mem0 [5] m) (hk1 : -9223372036854775808 ≤ k) (hk2 : k < 9223372036854775808) (ha : ValsAt W av [IntKind.u64.wrap k, IntKind.u64.wrap v]) (hab : ∀ b, av.ownBlock = some b → B0 ≤ b) (hml : m.length = 8) (hnf : (look m k).isNone) :
    Calls Tryz.prog 30 #[ptrTo ib, .int .i64 0, av, .int .i64 100, .int .i64 7, .int .i64 3] W fun r w' => r = .returned (.bool true) ∧ Duo w' B0 X ib jb tb kpF mem0 [5] m ∧ Kp (ibtb ib tb) W w' := by
  have hc := kp_putT (k := IntKind.u64.wrap k) (v := IntKind.u64.wrap v) (F := 97) (mem := mem0) (gl := [5]) (keys := m) hml (by rw [w64 k hk1 hk2]; exact hnf)
  exact Duo.traps (n := 0) (fuel := 100) (t := 7) (u := 3) h kp_okay.ok ha (by simp) (h.apart hab) (kp_ref0 _ _ (f := 100) (by omega)) (by omega) (by decide) hc ⟨by simp, by simp, by change m.length ≤ 1000; omega⟩
theorem duo_put (h : Duo W B0 X ib jb tb kpF mem0 [5] m) (hk1 : -9223372036854775808 ≤ k) (hk2 : k < 9223372036854775808) (hv1 : -9223372036854775808 ≤ v) (hv2 : v < 9223372036854775808) (ha : ValsAt W av [IntKind.u64.wrap k, IntKind.u64.wrap v]) (hab : ∀ b, av.ownBlock = some b → B0 ≤ b) (hml : m.length ≤ 8) (hnf : ¬ ((look m k).isNone ∧ m.length = 8)) (hvl : ∀ b, X b → b < W.heap.size) :
    Calls Tryz.prog 22 #[ptrTo ib, .int .i64 0, av, .int .u64 0, .int .i64 3] W fun r w' => r = .returned (.bool true) ∧ Duo w' B0 X ib jb tb kpF mem0 [5] (putKey m k v) ∧ Kp (ibtb ib tb) W w' := by
  have hc := kp_put (k := IntKind.u64.wrap k) (v := IntKind.u64.wrap v) (F := 99997) (mem := mem0) (gl := [5]) (keys := m) (by omega) (by rw [w64 k hk1 hk2]; exact hnf)
  rw [w64 k hk1 hk2, w64 v hv1 hv2] at hc
  exact Duo.gives (n := 0) (v := 0) (u := 3) h kp_okay.ok ha (by simp) (h.apart hab) (kp_ref0 _ _ (f := 100000) (by omega)) (by omega) hc rfl rfl (by
    change (putKey m _ _).length ≤ 1000
    rw [putKey_len]
    split <;> omega) hvl
theorem duo_get (h : Duo W B0 X ib jb tb kpF mem0 [5] m) (hk1 : -9223372036854775808 ≤ k) (hk2 : k < 9223372036854775808) (ha : ValsAt W av [IntKind.u64.wrap k]) (hab : ∀ b, av.ownBlock = some b → B0 ≤ b) (hml : m.length ≤ 9) (hvl : ∀ b, X b → b < W.heap.size) {x : Int} (hx : (look m k).getD 0 = x) :
    Calls Tryz.prog 22 #[ptrTo ib, .int .i64 1, av, .int .u64 (IntKind.u64.wrap x), .int .i64 2] W fun r w' => r = .returned (.bool true) ∧ Duo w' B0 X ib jb tb kpF mem0 [5] m ∧ Kp (ibtb ib tb) W w' := by
  have hc := kp_get (k := IntKind.u64.wrap k) (F := 99998) (mem := mem0) (gl := [5]) (keys := m)
  rw [w64 k hk1 hk2, hx] at hc
  exact Duo.gives (n := 1) (v := IntKind.u64.wrap x) (u := 2) h kp_okay.ok ha (by simp) (h.apart hab) (kp_ref1 _ (f := 100000) (by omega)) (by omega) hc rfl rfl (by change m.length ≤ 1000; omega) hvl
end
end Go.Proofs.YtdeplgkhmebalaaGreatDoor

namespace Go.Proofs.YtdeplgkhmebalaaGreatDoor
open Go.RowKit

/-- A module that must be one, loaded. -/
theorem load_ok {w : World} {dv : Value} {D : List UInt8} {f : Flat} (hb : BytesAt w dv D) (hd : ∀ b, dv.ownBlock = some b → b < w.heap.size) (hR : RowsOk w) (hl : D.length ≤ 1000000) (hf : loadM D = .ok f) :
    Calls Tryz.prog 35 #[dv] w fun r w' => (∃ mb, r = .returned (.tuple #[ptrTo mb, .int .i64 0, .int .i64 0]) ∧ ModAt w' (made w w') mb 123 f) ∧ Kp no w w' := by
  have hL := load_any hb hd hR hl
  rw [hf] at hL
  exact hL
/-- A second instance of the store. -/
theorem duo_start {w w1 w2 w3 : World} {ib tb mb2 : Nat} {f : Flat} {mem : List UInt8} {gl : List Int} (hI : Inst w w1 ib tb f mem gl []) (k12 : Kp no w1 w2) (k23 : Kp no w2 w3) (hM : ModAt w3 (made w2 w3) mb2 123 f) (hpg : f.pages ≤ 1000) (hgl : f.globals.length ≤ 1000) (hmem : List.replicate (f.pages * 64) (0 : UInt8) = mem) (hglo : f.globals.map (fun (n : Nat) => ((n : Nat) : Int)) = gl) (hm0 : 0 < mem.length) (hg0 : 0 < gl.length) :
    Calls Tryz.prog 36 #[ptrTo tb, ptrTo mb2] w3 fun r w4 => (∃ jb, r = .returned (ptrTo jb) ∧ w3.heap.size ≤ jb ∧ Duo w4 w4.heap.size no ib jb tb f mem gl []) ∧ Kp no w3 w4 := by
  obtain ⟨⟨ro, mb, mv, gv, p, h1, h2, h3, h4, h5⟩, h6, h7⟩ := hI
  have hib := lt_of_blk h1.blk
  have htb := lt_of_blk h2.blk
  have s12 := k12.size
  have s23 := k23.size
  refine (start_any hM (tb := tb) (by omega) (fun b hb => ⟨hb.2, by have := hb.1; omega⟩) hpg hgl).mono ?_
  rintro r w4 ⟨⟨jb, mv', gv', rfl, hjb, hin, hm, hg⟩, k34⟩
  rw [hmem, hglo] at hin
  have s34 := k34.size
  have hjl := lt_of_blk hin.blk
  have kk : Kp no w1 w4 := k12.trans (k23.trans k34)
  refine ⟨⟨jb, rfl, hjb, ⟨⟨ro, mb, mv, gv, made w2 w3, mb2, mv', gv', p, h1.kp kk (fun h => h) (fun _ _ h => h) (fun _ _ h => h) (fun _ _ h => h), hin, ⟨kk.blk h2.blk (fun h => h), h2.map.kp kk (fun _ _ h => h), h2.few⟩, ⟨by omega, by omega, fun b hb => ?_, fun b hb => ⟨?_, fun e => e⟩, fun b hb => ⟨?_, fun e => e⟩⟩, ⟨by omega, by omega, fun b hb => ?_, fun b hb => ⟨?_, fun e => e⟩, fun b hb => ⟨?_, fun e => e⟩⟩⟩, by omega, Nat.le_refl _⟩⟩, k34⟩
  · have := (h1.roI b hb).1
    omega
  · have := RowAt.lt_own h1.memR hm0 b hb
    omega
  · have := RowAt.lt_own h1.glR hg0 b hb
    omega
  · have := hb.1
    have := hb.2
    omega
  · have := hm b hb
    omega
  · have := hg b hb
    omega
end Go.Proofs.YtdeplgkhmebalaaGreatDoor

namespace Go.Proofs.YtdeplgkhmebalaaGreatDoor
open Go.RowKit

theorem info_si64 : (Tryz.prog.info? 2).map (fun i => (i.zero, i.size, i.bytes)) = some (some (.int .i64 0), 1, 8) := by kernel_rfl
/-- A list of numbers that was handed in. -/
def IntsAt (w : World) (v : Value) (l : List Int) : Prop := ∃ ad cap, v = .slice ad l.length cap ∧ l.length ≤ cap ∧ ∀ j, j < l.length → ∃ a o, ad = some ⟨a, o, none⟩ ∧ w.cell? ⟨a, o + j, none⟩ = some (.int .i64 (l.getD j 0))
theorem IntsAt.shape {w : World} {v : Value} {l : List Int} (h : IntsAt w v l) : ∃ ad cap, v = .slice ad l.length cap ∧ l.length ≤ cap := by
  obtain ⟨ad, cap, h1, h2, -⟩ := h
  exact ⟨ad, cap, h1, h2⟩
theorem IntsAt.kp {w w' : World} {v : Value} {l : List Int} (h : IntsAt w v l) (k : Kp no w w') : IntsAt w' v l := by
  obtain ⟨ad, cap, h1, h2, h3⟩ := h
  refine ⟨ad, cap, h1, h2, fun j hj => ?_⟩
  obtain ⟨a, o, h4, h5⟩ := h3 j hj
  exact ⟨a, o, h4, k.cell h5 (fun h => h)⟩
theorem IntsAt.cell {w : World} {v : Value} {l : List Int} (h : IntsAt w v l) {k : Nat} (hk : k < l.length) : ∃ a o cap, v = .slice (some ⟨a, o, none⟩) l.length cap ∧ l.length ≤ cap ∧ w.cell? ⟨a, o + k, none⟩ = some (.int .i64 (l.getD k 0)) := by
  obtain ⟨ad, cap, h1, h2, h3⟩ := h
  obtain ⟨a, o, rfl, h5⟩ := h3 k hk
  exact ⟨a, o, cap, h1, h2, h5⟩
abbrev VRow (B0 : Nat) (w : World) (v : Value) (l : List Int) : Prop := w.ownsRow B0 2 1 v l.length (l.map (Value.int .i64))
abbrev kvX (kv vv : Value) : Nat → Prop := fun b => kv.ownBlock = some b ∨ vv.ownBlock = some b
theorem Kp.over {S : Nat → Prop} {w W W' : World} (h : Kp no w W) (k : Kp S W W') (hs : ∀ b, S b → w.heap.size ≤ b) : Kp no w W' :=
  h.comp k (fun _ _ h => h) (fun y hl hy => absurd hl (by have := hs y hy; omega))
/-- What a round holds. -/
structure KRd (w : World) (B0 a b tb : Nat) (kv vv : Value) (Kl Vl : List Int) (m : List (Int × Int)) (W : World) : Prop where
  duo : Duo W B0 (kvX kv vv) a b tb kpF mem0 [5] m
  ks : VRow B0 W kv Kl
  vs : VRow B0 W vv Vl
  off : ∀ x, kv.ownBlock = some x → vv.ownBlock ≠ some x
  kp : Kp no w W
  ba : w.heap.size ≤ a
  bb : w.heap.size ≤ b
  bt : w.heap.size ≤ tb
  le : w.heap.size ≤ B0
section
variable {w W W' : World} {B0 a b tb ab : Nat} {kv vv : Value} {Kl Vl : List Int} {m m' : List (Int × Int)} {k v : Int}
theorem KRd.swap (h : KRd w B0 a b tb kv vv Kl Vl m W) : KRd w B0 b a tb kv vv Kl Vl m W := ⟨h.duo.swap, h.ks, h.vs, h.off, h.kp, h.bb, h.ba, h.bt, h.le⟩
theorem KRd.lts (h : KRd w B0 a b tb kv vv Kl Vl m W) : a < B0 ∧ b < B0 ∧ tb < B0 := h.duo.lts
theorem KRd.xlt (h : KRd w B0 a b tb kv vv Kl Vl m W) : ∀ x, kvX kv vv x → B0 ≤ x ∧ x < W.heap.size := by
  rintro x (hx | hx)
  · exact World.ownsRow.lt h.ks x hx
  · exact World.ownsRow.lt h.vs x hx
theorem KRd.step {x : Nat} (h : KRd w B0 a b tb kv vv Kl Vl m W) (hx : x = a ∨ x = b) (hd : Duo W' B0 (kvX kv vv) a b tb kpF mem0 [5] m') (k' : Kp (ibtb x tb) W W') : KRd w B0 a b tb kv vv Kl Vl m' W' := by
  obtain ⟨l1, l2, l3⟩ := h.lts
  have hxl : x < B0 := by rcases hx with rfl | rfl <;> assumption
  have hxw : w.heap.size ≤ x := by rcases hx with rfl | rfl; exact h.ba; exact h.bb
  refine ⟨hd, k'.own h.ks (fun y hy => ?_), k'.own h.vs (fun y hy => ?_), h.off, h.kp.over k' (fun y hy => ?_), h.ba, h.bb, h.bt, h.le⟩
  · have := (h.xlt y (.inl hy)).1
    rintro (rfl | rfl) <;> omega
  · have := (h.xlt y (.inr hy)).1
    rintro (rfl | rfl) <;> omega
  · rcases hy with rfl | rfl
    · exact hxw
    · exact h.bt
theorem KRd.quiet (h : KRd w B0 a b tb kv vv Kl Vl m W) (k' : Kp no W W') : KRd w B0 a b tb kv vv Kl Vl m W' :=
  ⟨h.duo.quiet k', k'.own h.ks (fun _ _ h => h), k'.own h.vs (fun _ _ h => h), h.off, h.kp.trans k', h.ba, h.bb, h.bt, h.le⟩
theorem own_obj {w : World} {base : Nat} {e : TypeId} {sz : Nat} {v : Value} {n : Nat} {xs : List Value} (h : w.ownsRow base e sz v n xs) : ∀ b, v.ownBlock = some b → ∃ cs t, w.heap[b]? = some (.cells cs t) := by
  obtain ⟨-, ⟨rfl, rfl⟩ | ⟨g, cap, cur, rfl, hg, hh, -⟩⟩ := h
  · intro b hb
    cases hb
  · intro b hb
    cases hb
    exact ⟨_, _, hh⟩
theorem VRow.app {v : Value} {l : List Int} {x : Int} (h : W.ownsRow B0 2 1 v (l.length + 1) (l.map (Value.int .i64) ++ [Value.int .i64 x])) : VRow B0 W v (l ++ [x]) := by
  show W.ownsRow B0 2 1 v (l ++ [x]).length ((l ++ [x]).map (Value.int .i64))
  rw [List.length_append, List.map_append]
  exact h
theorem VRow.set {g n cap : Nat} {l : List Int} (h : VRow B0 W (.slice (some ⟨g, 0, none⟩) n cap) l) (hn : n = l.length) (j : Nat) (x : Int) : VRow B0 (W.setCell ⟨g, j, none⟩ (.int .i64 x)) (.slice (some ⟨g, 0, none⟩) n cap) (l.set j x) := by
  subst hn
  show (W.setCell ⟨g, j, none⟩ (.int .i64 x)).ownsRow B0 2 1 _ (l.set j x).length ((l.set j x).map (Value.int .i64))
  rw [List.length_set, List.map_set]
  exact (World.ownsRow.stored h j (.int .i64 x)).1
/-- The keys' list grows. -/
theorem KRd.ksApp {g cap : Nat} (h : KRd w B0 a b tb kv vv Kl Vl m W) (k' : Kp (fun y => kv.ownBlock = some y) W W') (ho : W'.ownsRow B0 2 1 (.slice (some ⟨g, 0, none⟩) (Kl.length + 1) cap) (Kl.length + 1) (Kl.map (Value.int .i64) ++ [Value.int .i64 k])) (hg : kv.ownBlock = some g ∨ W.heap.size ≤ g) :
    KRd w B0 a b tb (.slice (some ⟨g, 0, none⟩) (Kl.length + 1) cap) vv (Kl ++ [k]) Vl m W' := by
  obtain ⟨l1, l2, l3⟩ := h.lts
  have hd1 := h.duo.list (X' := fun y => kvX kv vv y ∨ y = g) (by simp) (by simp) (by
    rintro y (hy | rfl)
    · exact .inl hy
    · exact hg.imp .inl id)
  have hd2 := hd1.kp k' (fun y hy hs => by have := (h.xlt y (.inl hs)).1; omega) (fun y hy => ⟨.inl (.inl hy), own_obj h.ks y hy⟩)
  refine ⟨hd2.list (by simp) (by simp) ?_, VRow.app ho, k'.own h.vs (fun y hy hs => h.off y hs hy), fun x hx e => ?_, h.kp.over k' (fun y hy => ?_), h.ba, h.bb, h.bt, h.le⟩
  · rintro y (hy | hy)
    · cases hy
      exact .inl (.inr rfl)
    · exact .inl (.inl (.inr hy))
  · obtain rfl : g = x := Option.some.inj hx
    rcases hg with hg | hg
    · exact h.off _ hg e
    · have := (h.xlt _ (.inr e)).2
      omega
  · have := (h.xlt y (.inl hy)).1
    have := h.le
    omega
/-- The values' list grows. -/
theorem KRd.vsApp {g cap : Nat} (h : KRd w B0 a b tb kv vv Kl Vl m W) (k' : Kp (fun y => vv.ownBlock = some y) W W') (ho : W'.ownsRow B0 2 1 (.slice (some ⟨g, 0, none⟩) (Vl.length + 1) cap) (Vl.length + 1) (Vl.map (Value.int .i64) ++ [Value.int .i64 v])) (hg : vv.ownBlock = some g ∨ W.heap.size ≤ g) :
    KRd w B0 a b tb kv (.slice (some ⟨g, 0, none⟩) (Vl.length + 1) cap) Kl (Vl ++ [v]) m W' := by
  obtain ⟨l1, l2, l3⟩ := h.lts
  have hd1 := h.duo.list (X' := fun y => kvX kv vv y ∨ y = g) (by simp) (by simp) (by
    rintro y (hy | rfl)
    · exact .inl hy
    · exact hg.imp .inr id)
  have hd2 := hd1.kp k' (fun y hy hs => by have := (h.xlt y (.inr hs)).1; omega) (fun y hy => ⟨.inl (.inr hy), own_obj h.vs y hy⟩)
  refine ⟨hd2.list (by simp) (by simp) ?_, k'.own h.ks (fun y hy hs => h.off y hy hs), VRow.app ho, fun x hx e => ?_, h.kp.over k' (fun y hy => ?_), h.ba, h.bb, h.bt, h.le⟩
  · rintro y (hy | hy)
    · exact .inl (.inl (.inl hy))
    · cases hy
      exact .inl (.inr rfl)
  · obtain rfl : g = x := Option.some.inj e
    rcases hg with hg | hg
    · exact h.off _ hx hg
    · have := (h.xlt _ (.inl hx)).2
      omega
  · have := (h.xlt y (.inr hy)).1
    have := h.le
    omega
/-- One of the values is set. -/
theorem KRd.vsSet {g n cap : Nat} (h : KRd w B0 a b tb kv (.slice (some ⟨g, 0, none⟩) n cap) Kl Vl m W) (hn : n = Vl.length) (j : Nat) (v : Int) :
    KRd w B0 a b tb kv (.slice (some ⟨g, 0, none⟩) n cap) Kl (Vl.set j v) m (W.setCell ⟨g, j, none⟩ (.int .i64 v)) := by
  subst hn
  obtain ⟨l1, l2, l3⟩ := h.lts
  have k' : Kp (one g) W (W.setCell ⟨g, j, none⟩ (.int .i64 v)) := (Kp.refl _ W).set1 _ _
  have hgl := (h.xlt g (.inr rfl)).1
  refine ⟨h.duo.kp k' (fun y hy hs => ?_) (fun y hy => ?_), k'.own h.ks (fun y hy hs => ?_), ?_, h.off, h.kp.over k' (fun y hy => ?_), h.ba, h.bb, h.bt, h.le⟩
  · have e : y = g := hs
    omega
  · have e : y = g := hy
    subst e
    exact ⟨.inr rfl, own_obj h.vs _ rfl⟩
  · have e : y = g := hs
    subst e
    exact h.off _ hy rfl
  · exact VRow.set h.vs rfl j v
  · have e : y = g := hy
    have := h.le
    omega
/-- What is handed in lies in a block of its own. -/
structure Ab (B0 ab : Nat) (kv vv : Value) (k v : Int) (W : World) : Prop where
  blk : W.heap[ab]? = some (.cells #[.int .u64 (IntKind.u64.wrap k), .int .u64 (IntKind.u64.wrap v)] 38)
  le : B0 ≤ ab
  off : ¬ kvX kv vv ab
theorem Ab.two (h : Ab B0 ab kv vv k v W) : ValsAt W (.slice (some ⟨ab, 0, none⟩) 2 2) [IntKind.u64.wrap k, IntKind.u64.wrap v] := RowAt.ofBlock h.blk 2 1 rfl
theorem Ab.one (h : Ab B0 ab kv vv k v W) : ValsAt W (.slice (some ⟨ab, 0, none⟩) 1 2) [IntKind.u64.wrap k] := by
  refine ⟨rfl, .inr ⟨ab, 0, 2, rfl, by simp, fun j x hj => ?_⟩⟩
  match j with
  | 0 =>
    have := (cells_of h.blk).1 0
    simp only [valCells, List.map_cons, List.map_nil, List.getElem?_cons_zero] at hj
    cases hj
    simpa using this
  | j + 1 => simp [valCells] at hj
theorem Ab.own (h : Ab B0 ab kv vv k v W) {n c : Nat} : ∀ b, (Value.slice (some ⟨ab, 0, none⟩) n c).ownBlock = some b → B0 ≤ b := by
  intro b hb
  cases hb
  exact h.le
theorem Ab.kp {S : Nat → Prop} (h : Ab B0 ab kv vv k v W) (k' : Kp S W W') (hs : ¬ S ab) : Ab B0 ab kv vv k v W' := ⟨k'.blk h.blk hs, h.le, h.off⟩
/-- A round in which something is handed in. -/
structure KRq (w : World) (B0 a b tb ab : Nat) (kv vv : Value) (Kl Vl : List Int) (k v : Int) (m : List (Int × Int)) (W : World) : Prop where
  rd : KRd w B0 a b tb kv vv Kl Vl m W
  ab : Ab B0 ab kv vv k v W
theorem KRq.step {x : Nat} (h : KRq w B0 a b tb ab kv vv Kl Vl k v m W) (hx : x = a ∨ x = b) (hd : Duo W' B0 (kvX kv vv) a b tb kpF mem0 [5] m') (k' : Kp (ibtb x tb) W W') : KRq w B0 a b tb ab kv vv Kl Vl k v m' W' := by
  refine ⟨h.rd.step hx hd k', h.ab.kp k' ?_⟩
  obtain ⟨l1, l2, l3⟩ := h.rd.lts
  have := h.ab.le
  rintro (e | e)
  · rcases hx with rfl | rfl <;> omega
  · omega
theorem KRq.quiet (h : KRq w B0 a b tb ab kv vv Kl Vl k v m W) (k' : Kp no W W') : KRq w B0 a b tb ab kv vv Kl Vl k v m W' := ⟨h.rd.quiet k', h.ab.kp k' (fun h => h)⟩
theorem KRq.ksApp {g cap : Nat} (h : KRq w B0 a b tb ab kv vv Kl Vl k v m W) (k' : Kp (fun y => kv.ownBlock = some y) W W') (ho : W'.ownsRow B0 2 1 (.slice (some ⟨g, 0, none⟩) (Kl.length + 1) cap) (Kl.length + 1) (Kl.map (Value.int .i64) ++ [Value.int .i64 k])) (hg : kv.ownBlock = some g ∨ W.heap.size ≤ g) :
    KRq w B0 a b tb ab (.slice (some ⟨g, 0, none⟩) (Kl.length + 1) cap) vv (Kl ++ [k]) Vl k v m W' := by
  refine ⟨h.rd.ksApp k' ho hg, k'.blk h.ab.blk (fun e => h.ab.off (.inl e)), h.ab.le, ?_⟩
  have hl := lt_of_blk h.ab.blk
  rintro (e | e)
  · obtain rfl : g = ab := Option.some.inj e
    rcases hg with hg | hg
    · exact h.ab.off (.inl hg)
    · omega
  · exact h.ab.off (.inr e)
theorem KRq.vsApp {g cap : Nat} (h : KRq w B0 a b tb ab kv vv Kl Vl k v m W) (k' : Kp (fun y => vv.ownBlock = some y) W W') (ho : W'.ownsRow B0 2 1 (.slice (some ⟨g, 0, none⟩) (Vl.length + 1) cap) (Vl.length + 1) (Vl.map (Value.int .i64) ++ [Value.int .i64 v])) (hg : vv.ownBlock = some g ∨ W.heap.size ≤ g) :
    KRq w B0 a b tb ab kv (.slice (some ⟨g, 0, none⟩) (Vl.length + 1) cap) Kl (Vl ++ [v]) k v m W' := by
  refine ⟨h.rd.vsApp k' ho hg, k'.blk h.ab.blk (fun e => h.ab.off (.inr e)), h.ab.le, ?_⟩
  have hl := lt_of_blk h.ab.blk
  rintro (e | e)
  · exact h.ab.off (.inl e)
  · obtain rfl : g = ab := Option.some.inj e
    rcases hg with hg | hg
    · exact h.ab.off (.inr hg)
    · omega
theorem KRq.vsSet {g n cap : Nat} (h : KRq w B0 a b tb ab kv (.slice (some ⟨g, 0, none⟩) n cap) Kl Vl k v m W) (hn : n = Vl.length) (j : Nat) :
    KRq w B0 a b tb ab kv (.slice (some ⟨g, 0, none⟩) n cap) Kl (Vl.set j v) k v m (W.setCell ⟨g, j, none⟩ (.int .i64 v)) := by
  refine ⟨h.rd.vsSet hn j v, h.ab.kp ((Kp.refl (Go.Proofs.YtdeplgkhmebalaaGreatDoor.one g) W).set1 _ _) (fun e => h.ab.off (.inr ?_))⟩
  have e' : ab = g := e
  rw [e']
  rfl
theorem KRq.ksApp2 {g cap : Nat} {m0 : List (Int × Int)} (h : KRq w B0 a b tb ab kv vv (m0.map Prod.fst) Vl k v m W) (k' : Kp (fun y => kv.ownBlock = some y) W W') (ho : W'.ownsRow B0 2 1 (.slice (some ⟨g, 0, none⟩) (m0.length + 1) cap) (m0.length + 1) (m0.map (Value.int .i64 ∘ Prod.fst) ++ [Value.int .i64 k])) (hg : kv.ownBlock = some g ∨ W.heap.size ≤ g) :
    KRq w B0 a b tb ab (.slice (some ⟨g, 0, none⟩) (m0.length + 1) cap) vv (m0.map Prod.fst ++ [k]) Vl k v m W' := by
  have := h.ksApp (g := g) (cap := cap) k' (by rw [List.length_map, List.map_map]; exact ho) hg
  rwa [List.length_map] at this
theorem KRq.vsApp2 {g cap : Nat} {m0 : List (Int × Int)} (h : KRq w B0 a b tb ab kv vv Kl (m0.map Prod.snd) k v m W) (k' : Kp (fun y => vv.ownBlock = some y) W W') (ho : W'.ownsRow B0 2 1 (.slice (some ⟨g, 0, none⟩) (m0.length + 1) cap) (m0.length + 1) (m0.map (Value.int .i64 ∘ Prod.snd) ++ [Value.int .i64 v])) (hg : vv.ownBlock = some g ∨ W.heap.size ≤ g) :
    KRq w B0 a b tb ab kv (.slice (some ⟨g, 0, none⟩) (m0.length + 1) cap) Kl (m0.map Prod.snd ++ [v]) k v m W' := by
  have := h.vsApp (g := g) (cap := cap) k' (by rw [List.length_map, List.map_map]; exact ho) hg
  rwa [List.length_map] at this
/-- How a list of numbers lies. -/
theorem VRow.lies {l : List Int} (h : VRow B0 W vv l) {j : Nat} (hj : j < l.length) : ∃ g cap, vv = .slice (some ⟨g, 0, none⟩) l.length cap ∧ l.length ≤ cap ∧ W.cell? ⟨g, j, none⟩ = some (.int .i64 (l.getD j 0)) ∧ W.frozen? ⟨g, j, none⟩ = false := by
  have hr := RowAt.get (RowAt.own h) (k := j) (x := .int .i64 (l.getD j 0)) (by simp [List.getD, List.getElem?_eq_getElem hj])
  obtain ⟨-, ⟨rfl, hn⟩ | ⟨g, cap, cur, rfl, hg, hh, hc, -⟩⟩ := h
  · omega
  · obtain ⟨a', o', c', he, -, hcell⟩ := hr
    simp only [Value.slice.injEq, Option.some.injEq, Addr.mk.injEq] at he
    obtain ⟨⟨rfl, rfl, -⟩, -, rfl⟩ := he
    exact ⟨_, _, rfl, hc, by simpa using hcell, (cells_of hh).2 j⟩
theorem new_one (W : World) (u : Value) (t : TypeId) : ∀ (j : Nat) (x : Value), [u][j]? = some x → (W.alloc (.cells #[u] t)).cell? (Addr.add ⟨W.heap.size, 0, none⟩ j) = some x := by
  intro j x hj
  match j with
  | 0 =>
    simp at hj
    subst hj
    simp [Addr.add]
  | j + 1 => simp at hj
variable (hk1 : -9223372036854775808 ≤ k) (hk2 : k < 9223372036854775808)
include hk1 hk2
theorem KRq.fail (h : KRq w B0 a b tb ab kv vv Kl Vl k v m W) (hml : m.length ≤ 8) (hnf : ¬ ((look m k).isNone ∧ m.length = 8)) :
    Calls Tryz.prog 30 #[ptrTo a, .int .i64 2, .slice (some ⟨ab, 0, none⟩) 2 2, .int .i64 100, .int .i64 1, .int .i64 12] W fun r w' => r = .returned (.bool true) ∧ KRq w B0 a b tb ab kv vv Kl Vl k v m w' :=
  (duo_fail h.rd.duo hk1 hk2 h.ab.two h.ab.own hml hnf).mono fun _ _ ⟨h1, h2, h3⟩ => ⟨h1, h.step (.inl rfl) h2 h3⟩
theorem KRq.failT (h : KRq w B0 a b tb ab kv vv Kl Vl k v m W) (hml : m.length = 8) (hnf : (look m k).isNone) :
    Calls Tryz.prog 30 #[ptrTo a, .int .i64 2, .slice (some ⟨ab, 0, none⟩) 2 2, .int .i64 100, .int .i64 7, .int .i64 3] W fun r w' => r = .returned (.bool true) ∧ KRq w B0 a b tb ab kv vv Kl Vl k v m w' :=
  (duo_failT h.rd.duo hk1 hk2 h.ab.two h.ab.own hml hnf).mono fun _ _ ⟨h1, h2, h3⟩ => ⟨h1, h.step (.inl rfl) h2 h3⟩
theorem KRq.failF (h : KRq w B0 a b tb ab kv vv Kl Vl k v m W) (hml : m.length = 8) (hnf : (look m k).isNone) :
    Calls Tryz.prog 30 #[ptrTo a, .int .i64 2, .slice (some ⟨ab, 0, none⟩) 2 2, .int .i64 100, .int .i64 1, .int .i64 12] W fun r w' => r = .returned (.bool false) ∧ KRq w B0 a b tb ab kv vv Kl Vl k v m w' :=
  (duo_failF h.rd.duo hk1 hk2 h.ab.two h.ab.own hml hnf).mono fun _ _ ⟨h1, h2, h3⟩ => ⟨h1, h.step (.inl rfl) h2 h3⟩
theorem KRq.putT (h : KRq w B0 a b tb ab kv vv Kl Vl k v m W) (hml : m.length = 8) (hnf : (look m k).isNone) :
    Calls Tryz.prog 30 #[ptrTo a, .int .i64 0, .slice (some ⟨ab, 0, none⟩) 2 2, .int .i64 100, .int .i64 7, .int .i64 3] W fun r w' => r = .returned (.bool true) ∧ KRq w B0 a b tb ab kv vv Kl Vl k v m w' :=
  (duo_putT h.rd.duo hk1 hk2 h.ab.two h.ab.own hml hnf).mono fun _ _ ⟨h1, h2, h3⟩ => ⟨h1, h.step (.inl rfl) h2 h3⟩
theorem KRq.put (hv1 : -9223372036854775808 ≤ v) (hv2 : v < 9223372036854775808) (h : KRq w B0 a b tb ab kv vv Kl Vl k v m W) (hml : m.length ≤ 8) (hnf : ¬ ((look m k).isNone ∧ m.length = 8)) :
    Calls Tryz.prog 22 #[ptrTo a, .int .i64 0, .slice (some ⟨ab, 0, none⟩) 2 2, .int .u64 0, .int .i64 3] W fun r w' => r = .returned (.bool true) ∧ KRq w B0 a b tb ab kv vv Kl Vl k v (putKey m k v) w' :=
  (duo_put h.rd.duo hk1 hk2 hv1 hv2 h.ab.two h.ab.own hml hnf (fun y hy => (h.rd.xlt y hy).2)).mono fun _ _ ⟨h1, h2, h3⟩ => ⟨h1, h.step (.inl rfl) h2 h3⟩
theorem KRq.get (h : KRq w B0 a b tb ab kv vv Kl Vl k v m W) (hml : m.length ≤ 9) {x : Int} (hx : (look m k).getD 0 = x) :
    Calls Tryz.prog 22 #[ptrTo b, .int .i64 1, .slice (some ⟨ab, 0, none⟩) 1 2, .int .u64 (IntKind.u64.wrap x), .int .i64 2] W fun r w' => r = .returned (.bool true) ∧ KRq w B0 a b tb ab kv vv Kl Vl k v m w' :=
  (duo_get h.rd.duo.swap hk1 hk2 h.ab.one h.ab.own hml (fun y hy => (h.rd.xlt y hy).2) hx).mono fun _ _ ⟨h1, h2, h3⟩ => ⟨h1, h.step (.inr rfl) h2.swap h3⟩
theorem KRq.tget (h : KRq w B0 a b tb ab kv vv Kl Vl k v m W) {x : Int} (hx : look m k = some x) :
    Calls Tryz.prog 37 #[ptrTo tb, .int .i64 k] W fun r w' => r = .returned (.tuple #[.int .i64 x, .bool true]) ∧ KRq w B0 a b tb ab kv vv Kl Vl k v m w' := by
  refine (h.rd.duo.get (fun e => by rw [e] at hx; cases hx) k hk1 hk2).mono ?_
  rintro r w' ⟨h1, h2, h3⟩
  rw [hx] at h1
  exact ⟨h1, h.step (.inl rfl) h2 (h3.mono (fun y _ hy => .inr hy))⟩
end
end Go.Proofs.YtdeplgkhmebalaaGreatDoor
