/- Whatever is accepted is tame: what the statement meets on its way. -/
import Derived.Test.YtdeplgkhmebalaaGreatDoorTameF
import Derived.Test.YtdeplgkhmebalaaGreatDoorTameH
import Derived.Test.YtdeplgkhmebalaaGreatDoorTameC
import Derived.Test.YtdeplgkhmebalaaGreatDoorP33
import Derived.Test.YtdeplgkhmebalaaGreatDoorTameS

namespace Go.Proofs.YtdeplgkhmebalaaGreatDoor
open Go.RowKit
set_option maxRecDepth 100000 in
theorem module_long {w : World} {dv : Value} {D : List UInt8} (hb : BytesAt w dv D) (hlong : 2000 < D.length) :
    Calls Tryz.prog 54 #[dv] w fun r w' => (∃ fv, r = .returned (.tuple #[.pointer none, fv]) ∧ FaultAt w w' fv (1, 0)) ∧ Kp no w w' := by
  obtain ⟨ad, cap, hv, hcap⟩ := hb.shape
  subst hv
  clear hb
  go_enter Tryz.func54, Tryz.ntmps54
  go_wp2
  go_ret2
  exact ⟨⟨ptrTo w.heap.size, rfl, w.heap.size, rfl, Nat.le_refl _, heap_alloc_new _ _⟩, (Kp.refl _ _).alloc _⟩
set_option maxRecDepth 100000 in
set_option maxHeartbeats 2000000 in
theorem load_long {w : World} {dv : Value} {D : List UInt8} (hb : BytesAt w dv D) (hlong : 2000 < D.length) :
    Calls Tryz.prog 35 #[dv] w fun r w' => r = .returned (.tuple #[.pointer none, .int .i64 1, .int .i64 0]) ∧ Kp no w w' := by
  have hm := module_long hb hlong
  obtain ⟨ad, cap, rfl, hcap⟩ := hb.shape
  have HM := hide hm
  clear hm hb
  go_enter Tryz.func35, Tryz.ntmps35
  go_wp2_with fail
  refine HM.out.mono ?_
  rintro r w1 ⟨⟨fv, rfl, fb, rfl, hfb, hfo⟩, k1⟩
  obtain ⟨hfc, -⟩ := cells_of hfo
  have K1 := hide k1
  clear k1 hfo
  go_wp2_with fail
  refine wp_region_S 11 (fun w' => ∀ o, w'.cell? ⟨fb, o, none⟩ = #[.int .i64 1, .int .i64 0][o]?) (by kernel_rfl) (n := 11) (listed := #[false, false, false, false, false, false, false, false, false, false, false]) rfl (by kernel_rfl) ?hS (fun hS => ?_)
  case hS => exact fun o => hfc o
  refine tk 0 [] rfl (by kernel_rfl) rfl (fun _ _ _ h => h) hS (fun _ h => by (try dsimp only at h); go_simp; all_goals with_reducible rfl) ?_
  simp only [pS]
  refine tk 1 [] rfl (by kernel_rfl) rfl (fun _ _ _ h => h) hS (fun _ h => by (try dsimp only at h); go_simp; all_goals with_reducible rfl) ?_
  simp only [pS]
  refine tk 2 [] rfl (by kernel_rfl) rfl (fun _ _ _ h => h) hS (fun _ h => by (try dsimp only at h); go_simp; all_goals with_reducible rfl) ?_
  simp only [pS]
  refine tk 3 [] rfl (by kernel_rfl) rfl (fun _ _ _ h => h) hS (fun _ h => by (try dsimp only at h); go_simp; all_goals with_reducible rfl) ?_
  simp only [pS]
  refine tk 4 [] rfl (by kernel_rfl) rfl (fun _ _ _ h => h) hS (fun _ h => by (try dsimp only at h); go_simp; all_goals with_reducible rfl) ?_
  simp only [pS]
  refine tk 5 [] rfl (by kernel_rfl) rfl (fun _ _ _ h => h) hS (fun _ h => by (try dsimp only at h); go_simp; all_goals with_reducible rfl) ?_
  simp only [pS]
  refine tk 6 [] rfl (by kernel_rfl) rfl (fun _ _ _ h => h) hS (fun _ h => by (try dsimp only at h); go_simp; all_goals with_reducible rfl) ?_
  simp only [pS]
  refine tk 7 [] rfl (by kernel_rfl) rfl (fun _ _ _ h => h) hS (fun _ h => by (try dsimp only at h); go_simp; all_goals with_reducible rfl) ?_
  simp only [pS]
  refine tk 8 [] rfl (by kernel_rfl) rfl (fun _ _ _ h => h) hS (fun _ h => by (try dsimp only at h); go_simp; all_goals with_reducible rfl) ?_
  simp only [pS]
  refine tk 9 [] rfl (by kernel_rfl) rfl (fun _ _ _ h => h) hS (fun _ h => by (try dsimp only at h); go_simp; all_goals with_reducible rfl) ?_
  simp only [pS]
  refine tk 10 [] rfl (by kernel_rfl) rfl (fun _ _ _ h => h) hS (fun _ h => by (try dsimp only at h); go_simp; all_goals with_reducible rfl) ?_
  simp only [pS]
  refine wpAnyS_done (by kernel_rfl) ?_ _
  clear hS
  go_wp2
  go_ret3
  exact ⟨rfl, K1.out.drew⟩
theorem load_all {w : World} {dv : Value} {D : List UInt8} (hb : BytesAt w dv D) (hd : ∀ b, dv.ownBlock = some b → b < w.heap.size) (hR : RowsOk w) :
    Calls Tryz.prog 35 #[dv] w fun r w' => LoadDone w w' (loadM D) r ∧ Kp no w w' := by
  by_cases hlong : 2000 < D.length
  · have hM : loadM D = .error (1, 0) := by unfold loadM; rw [if_pos hlong]
    rw [hM]
    exact load_long hb hlong
  · exact load_any hb hd hR (by omega)
def t0Bytes : List UInt8 := moduleB 0 [loFn]
def t0F : Flat := flatOf t0Bytes
set_option maxRecDepth 100000 in
theorem t0_ok : isOk (loadM t0Bytes) = true := by kernel_rfl
theorem t0_load : loadM t0Bytes = .ok t0F := flatOf_ok t0_ok
set_option maxRecDepth 100000 in
theorem t0_flat : FlatOk t0F := flatOk_of (by kernel_rfl)
set_option maxRecDepth 100000 in
theorem t0_len : t0Bytes.length ≤ 1000000 := of_decide_eq_true (by kernel_rfl)
def isRun (m : Option (Nat × Int × Nat × Mc)) (t : Nat) (v : Int) (u : Nat) : Bool := match m with
  | none => false
  | some r => r.1 == t && r.2.1 == v && r.2.2.1 == u && decide (r.2.2.2.mem.length ≤ 1000000) && decide (r.2.2.2.gl.length ≤ 1000000) && decide (r.2.2.2.keys.length ≤ 1000)
theorem isRun_spec {m : Option (Nat × Int × Nat × Mc)} {t : Nat} {v : Int} {u : Nat} (h : isRun m t v u = true) : ∃ s, m = some (t, v, u, s) ∧ s.mem.length ≤ 1000000 ∧ s.gl.length ≤ 1000000 ∧ s.keys.length ≤ 1000 := by
  unfold isRun at h
  cases m with
  | none => cases h
  | some r =>
    obtain ⟨a, b, c, s⟩ := r
    simp only [Bool.and_eq_true, beq_iff_eq, decide_eq_true_eq] at h
    obtain ⟨⟨⟨⟨⟨rfl, rfl⟩, rfl⟩, h1⟩, h2⟩, h3⟩ := h
    exact ⟨s, rfl, h1, h2, h3⟩
set_option maxRecDepth 100000 in
theorem t0_run : isRun (callT t0F 0 [3] 100000 (List.replicate (t0F.pages * 64) 0) (t0F.globals.map fun (n : Nat) => ((n : Nat) : Int)) [] 100) 0 6 46 = true := by kernel_rfl
set_option maxRecDepth 100000 in
theorem t0_ref : refusesM t0F ((0 : Nat) : Int) [3] ((100000 : Nat) : Int) = 0 := by kernel_rfl
theorem t0_gives {w w' : World} {ib tb : Nat} {av : Value} (hI : Inst w w' ib tb t0F (List.replicate (t0F.pages * 64) 0) (t0F.globals.map fun (n : Nat) => ((n : Nat) : Int)) []) (hTab : TabW w') (h2 : 2 < w.heap.size) (ha : ValsAt w' av [3]) (hav : ∀ b, av.ownBlock = some b → b ≠ ib ∧ b ≠ tb) :
    Calls Tryz.prog 22 #[ptrTo ib, .int .i64 0, av, .int .u64 6, .int .i64 46] w' fun r w'' => r = .returned (.bool true) ∧ Kp (ibtb ib tb) w' w'' := by
  obtain ⟨s, h1, h3⟩ := isRun_spec t0_run
  have h := givesT_keep (n := 0) (K := 100) (u := 46) (v := 6) hI hTab h2 t0_flat ha (by simp) hav t0_ref (by omega) h1 h3
  exact h.mono fun r w'' ⟨a, _, c⟩ => ⟨a, c⟩
set_option maxRecDepth 100000 in
set_option maxHeartbeats 1000000 in
theorem start2_any {w : World} {ro : Nat → Prop} {tb mb : Nat} {f : Flat} (h : ModAt w ro mb 123 f) (htb : tb < w.heap.size) (hro : ∀ b, ro b → b < w.heap.size ∧ b ≠ tb) (hpg : f.pages ≤ 1000) (hgl : f.globals.length ≤ 1000) :
    Calls Tryz.prog 36 #[ptrTo tb, ptrTo mb] w fun r w' => (∃ ib mv gv, r = .returned (ptrTo ib) ∧ w.heap.size ≤ ib ∧ InstAt w' ro ib tb mb mv gv f (List.replicate (f.pages * 64) 0) (f.globals.map fun (n : Nat) => ((n : Nat) : Int)) ∧ (∀ b, mv.ownBlock = some b → w.heap.size ≤ b ∧ b < ib) ∧ (∀ b, gv.ownBlock = some b → w.heap.size ≤ b ∧ b < ib)) ∧ Kp no w w' := by
  obtain ⟨i0, hi0, hz0, hz1, hz2⟩ := info_parts info_su8
  have hmd := h
  obtain ⟨fv, gv, cv, hg⟩ := h
  obtain ⟨adg, capg, hgv, hcg⟩ := RowAt.shape hg.vals
  subst hgv
  have hgo := hg.blk
  obtain ⟨hc, -⟩ := cells_of hgo
  have hgs : (f.globals.map fun (n : Nat) => ((n : Nat) : Int)).length ≤ 1000000 := by simp; omega
  have HG := hide hg.vals
  have HMd := hide hmd
  have HGo := hide hgo
  have HRo := hide hro
  clear hg hmd hgo hcg hro
  generalize (f.globals.map fun (n : Nat) => ((n : Nat) : Int)) = gs at *
  have hwp : IntKind.i64.wrap ((f.pages : Int) * 64) = ((f.pages * 64 : Nat) : Int) := by rw [IntKind.wrap_i64]; omega
  go_enter Tryz.func36, Tryz.ntmps36
  go_wp2_with (at_make; refine wpList_make_full _ rfl _ _ 25 rfl w.heap.size 5 i0 (.int .u8 0) 1 Tryz.underlying25 hi0 hz0 hz1 _ _ _ _ (f.pages * 64) rfl rfl (by first | rfl | (push_cast; rfl)) (by first | rfl | (push_cast; rfl)) ?c1 ?c2 (Nat.le_refl _) ?_)
  case c1 => rw [hz2]; omega
  case c2 => unfold maxLen; omega
  intro w1 hown hgrow
  have k1 := Kp.ofGrown hgrow
  have hc1 := (cells_of (k1.blk HGo.out (fun h => h))).1
  have K1 := hide k1
  have HO := hide hown
  have hl1 := own_lt hown rfl
  have hV := hide (freshV_any (RowAt.kp HG.out k1 (fun _ _ h => h)) (vals_oneCell gs) hgs)
  clear hgrow hown hc k1
  go_wp2_with fail
  refine hV.out.mono ?_
  rintro r w2 ⟨⟨rfl, ho2⟩, k2⟩
  have K2 := hide k2
  have HO2 := hide ho2
  have hl2 := own_lt ho2 rfl
  have hs1 := K1.out.size
  have hs2 := k2.size
  clear hc1 hV ho2 k2
  go_wp2
  go_ret
  have kF : Kp no w2 (w2.alloc (.cells #[ptrTo tb, ptrTo mb, .slice (some ⟨w.heap.size, 0, none⟩) (f.pages * 64) (f.pages * 64), .slice (some ⟨w1.heap.size, 0, none⟩) gs.length gs.length] 112)) := (Kp.refl no w2).alloc _
  refine ⟨⟨w2.heap.size, .slice (some ⟨w.heap.size, 0, none⟩) (f.pages * 64) (f.pages * 64), .slice (some ⟨w1.heap.size, 0, none⟩) gs.length gs.length, rfl, by omega, ⟨heap_alloc_new _ _, ?_, ?_, ?_, ?_, hgs, ?_, ?_, ?_⟩, ?_, ?_⟩, (K1.out.trans K2.out).trans kF⟩
  · exact HMd.out.kp ((K1.out.trans K2.out).trans kF).any
  · have := RowAt.own (kF.own (K2.out.own HO.out (fun _ _ h => h)) (fun _ _ h => h))
    rw [List.length_replicate, zero_bytes]
    rw [toList_madeCells_one] at this
    exact this
  · exact RowAt.own (kF.own HO2.out (fun _ _ h => h))
  · simp; omega
  · intro b hb
    have := HRo.out b hb
    exact ⟨by simp; omega, by omega, this.2⟩
  · intro b hb
    have hb : some _ = some b := hb
    simp only [Option.some.injEq] at hb
    omega
  · intro b hb
    have hb : some _ = some b := hb
    simp only [Option.some.injEq] at hb
    omega
  · intro b hb
    have hb : some _ = some b := hb
    simp only [Option.some.injEq] at hb
    omega
  · intro b hb
    have hb : some _ = some b := hb
    simp only [Option.some.injEq] at hb
    omega
structure One (ro : Nat → Prop) (mb : Nat) (f : Flat) (Y : Nat → Prop) (ib tb : Nat) (mem : List UInt8) (gl : List Int) (keys : List (Int × Int)) (W : World) : Prop where
  ex : ∃ mv gv p, InstAt W ro ib tb mb mv gv f mem gl ∧ StoreAt W tb p keys ∧ (∀ b, mv.ownBlock = some b → ¬ Y b) ∧ (∀ b, gv.ownBlock = some b → ¬ Y b)
structure Pair (w : World) (B : Nat) (ro : Nat → Prop) (mb : Nat) (f : Flat) (ib tb jb ub : Nat) (mem : List UInt8) (gl : List Int) (keys : List (Int × Int)) (mem' : List UInt8) (gl' : List Int) (keys' : List (Int × Int)) (W : World) : Prop where
  a : One ro mb f (ibtb jb ub) ib tb mem gl keys W
  b : One ro mb f (ibtb ib tb) jb ub mem' gl' keys' W
  roB : ∀ b, ro b → b < B
  wB : w.heap.size ≤ B
  o1 : B ≤ ib ∧ B ≤ tb ∧ B ≤ jb ∧ B ≤ ub
  ne : ib ≠ jb ∧ ib ≠ ub ∧ tb ≠ jb ∧ tb ≠ ub
  kp : Kp no w W
  tab : TabW W
  two : 2 < w.heap.size
section
variable {w W W' : World} {B : Nat} {ro : Nat → Prop} {mb : Nat} {f : Flat} {ib tb jb ub : Nat} {mem : List UInt8} {gl : List Int} {keys : List (Int × Int)} {mem' : List UInt8} {gl' : List Int} {keys' : List (Int × Int)}
theorem Pair.swap (h : Pair w B ro mb f ib tb jb ub mem gl keys mem' gl' keys' W) : Pair w B ro mb f jb ub ib tb mem' gl' keys' mem gl keys W :=
  ⟨h.b, h.a, h.roB, h.wB, ⟨h.o1.2.2.1, h.o1.2.2.2, h.o1.1, h.o1.2.1⟩, ⟨h.ne.1.symm, h.ne.2.2.1.symm, h.ne.2.1.symm, h.ne.2.2.2.symm⟩, h.kp, h.tab, h.two⟩
theorem One.kp {S Y : Nat → Prop} (h : One ro mb f Y ib tb mem gl keys W) (k : Kp S W W') (h1 : ¬ S ib) (h2 : ¬ S tb) (h3 : ∀ b, ro b → ¬ S b) (h4 : ∀ b, S b → Y b ∧ ∃ cs t, W.heap[b]? = some (.cells cs t)) : One ro mb f Y ib tb mem gl keys W' := by
  obtain ⟨mv, gv, p, i1, i2, i3, i4⟩ := h.ex
  refine ⟨mv, gv, p, i1.kp k h1 h3 (fun b hb hs => i3 b hb (h4 b hs).1) (fun b hb hs => i4 b hb (h4 b hs).1), ⟨k.blk i2.blk h2, i2.map.kp k (fun b hb hs => ?_), i2.few⟩, i3, i4⟩
  obtain ⟨cs, t, hc⟩ := (h4 b hs).2
  exact i2.map.ne hc b hb rfl
theorem Pair.quiet (h : Pair w B ro mb f ib tb jb ub mem gl keys mem' gl' keys' W) (k : Kp no W W') : Pair w B ro mb f ib tb jb ub mem gl keys mem' gl' keys' W' :=
  ⟨h.a.kp k (fun h => h) (fun h => h) (fun _ _ h => h) (fun _ h => h.elim), h.b.kp k (fun h => h) (fun h => h) (fun _ _ h => h) (fun _ h => h.elim), h.roB, h.wB, h.o1, h.ne, h.kp.trans k, h.tab.kp k (fun h => h), h.two⟩
theorem Pair.mod (h : Pair w B ro mb f ib tb jb ub mem gl keys mem' gl' keys' W) : ModAt W ro mb 123 f := by
  obtain ⟨mv, gv, p, i1, -⟩ := h.a.ex
  exact i1.mod
theorem Pair.lts (h : Pair w B ro mb f ib tb jb ub mem gl keys mem' gl' keys' W) : ib < W.heap.size ∧ tb < W.heap.size := by
  obtain ⟨mv, gv, p, i1, i2, -⟩ := h.a.ex
  exact ⟨lt_of_blk i1.blk, lt_of_blk i2.blk⟩
theorem Pair.call {av : Value} {args : List Int} {n fuel K : Nat} {t : Nat} {v : Int} {u : Nat} {s' : Mc} (h : Pair w B ro mb f ib tb jb ub mem gl keys mem' gl' keys' W)
    (hok : FlatOk f) (ha : ValsAt W av args) (hal : args.length ≤ 1000) (hav : ∀ b, av.ownBlock = some b → b ≠ ib ∧ b ≠ tb) (he : refusesM f n args fuel = 0)
    (hK : K ≤ 900000) (hm : callT f n args fuel mem gl keys K = some (t, v, u, s')) (hsm : s'.mem.length ≤ 1000000 ∧ s'.gl.length ≤ 1000000 ∧ s'.keys.length ≤ 1000) :
    Calls Tryz.prog 27 #[ptrTo ib, .int .i64 n, av, .int .i64 fuel] W fun r w'' => r = .returned (replyV 0 t v u) ∧
      (t = 0 → Pair w B ro mb f ib tb jb ub s'.mem s'.gl s'.keys mem' gl' keys' w'') ∧ (t ≠ 0 → Pair w B ro mb f ib tb jb ub mem gl keys mem' gl' keys' w'') ∧ Kp (ibtb ib tb) W w'' := by
  obtain ⟨o1, o2, o3, o4⟩ := h.o1
  obtain ⟨n1, n2, n3, n4⟩ := h.ne
  have hwB := h.wB
  have h2 := h.two
  obtain ⟨jl, ul⟩ := h.swap.lts
  obtain ⟨mv, gv, p, i1, i2, i3, i4⟩ := h.a.ex
  refine Calls.mono (callT_runs i1 i2 h.tab (by omega) (by omega) hok.ok ha hal hav hok.fn he hK hm hsm) ?_
  rintro r w'' ⟨hr, hz, hnz, hk⟩
  have hb : One ro mb f (ibtb ib tb) jb ub mem' gl' keys' w'' := h.b.kp hk (fun e => by rcases e with e | e <;> omega) (fun e => by rcases e with e | e <;> omega) (fun b hb e => by have := h.roB b hb; rcases e with e | e <;> omega) (fun b e => ⟨e, by
    rcases e with rfl | rfl
    · exact ⟨_, _, i1.blk⟩
    · exact ⟨_, _, i2.blk⟩⟩)
  have hkp : Kp no w w'' := h.kp.comp hk (fun _ _ h => h) (fun b hb e => by rcases e with e | e <;> omega)
  have htab : TabW w'' := h.tab.kp hk (fun e => by rcases e with e | e <;> omega)
  refine ⟨hr, fun ht => ?_, fun ht => ?_, hk⟩
  · obtain ⟨mv', gv', p', j1, j2, j3, j4⟩ := hz ht
    exact ⟨⟨mv', gv', p', j1, j2, fun b hb e => by have := j3 b hb; rcases e with e | e <;> omega, fun b hb e => by have := j4 b hb; rcases e with e | e <;> omega⟩, hb, h.roB, h.wB, h.o1, h.ne, hkp, htab, h.two⟩
  · obtain ⟨j1, j2⟩ := hnz ht
    exact ⟨⟨mv, gv, p, j1, j2, i3, i4⟩, hb, h.roB, h.wB, h.o1, h.ne, hkp, htab, h.two⟩
theorem Pair.begin {w5 w6 w7 : World} {mv gv mv' gv' : Value} (hx : InstAt w6 ro ib tb mb mv gv f mem gl) (hy : InstAt w7 ro jb ub mb mv' gv' f mem gl) (hs1 : StoreAt w5 tb none []) (hs2 : StoreAt w5 ub none []) (k56 : Kp no w5 w6) (k67 : Kp no w6 w7) (hkp : Kp no w w5)
    (hB : ∀ b, ro b → b < B) (hwB : w.heap.size ≤ B) (ho : B ≤ tb ∧ tb < ub ∧ ub < w5.heap.size) (hi : w5.heap.size ≤ ib) (hj : w6.heap.size ≤ jb) (m1 : ∀ b, mv.ownBlock = some b → w5.heap.size ≤ b ∧ b < ib) (m2 : ∀ b, gv.ownBlock = some b → w5.heap.size ≤ b ∧ b < ib)
    (m3 : ∀ b, mv'.ownBlock = some b → w6.heap.size ≤ b ∧ b < jb) (m4 : ∀ b, gv'.ownBlock = some b → w6.heap.size ≤ b ∧ b < jb) (htab : TabW w7) (h2 : 2 < w.heap.size) :
    Pair w B ro mb f ib tb jb ub mem gl [] mem gl [] w7 := by
  have k57 := k56.trans k67
  have il := lt_of_blk hx.blk
  have h56 := k56.size
  refine ⟨⟨mv, gv, none, hx.kp k67 (fun h => h) (fun _ _ h => h) (fun _ _ h => h) (fun _ _ h => h), ⟨k57.blk hs1.blk (fun h => h), .inl ⟨rfl, rfl⟩, hs1.few⟩, fun b hb e => ?_, fun b hb e => ?_⟩, ⟨mv', gv', none, hy, ⟨k57.blk hs2.blk (fun h => h), .inl ⟨rfl, rfl⟩, hs2.few⟩, fun b hb e => ?_, fun b hb e => ?_⟩, hB, hwB, ⟨by omega, by omega, by omega, by omega⟩, ⟨by omega, by omega, by omega, by omega⟩, hkp.trans k57, htab, h2⟩
  · have := m1 b hb; rcases e with e | e <;> omega
  · have := m2 b hb; rcases e with e | e <;> omega
  · have := m3 b hb; rcases e with e | e <;> omega
  · have := m4 b hb; rcases e with e | e <;> omega
end
def argT (a : Int) (t : UInt8) : Int := if t = 127 then a % 4294967296 else a
def argsT (a : Int) (ps : List UInt8) : List Int := ps.map (argT a)
theorem args_seg {a : Int} (h0 : 0 ≤ a) (h1 : a < 18446744073709551616) : ∀ ps : List UInt8, Seg (argsT a ps) ps
  | [] => trivial
  | t :: ps => by
    refine ⟨?_, args_seg h0 h1 ps⟩
    unfold argT InTy
    split
    · omega
    · exact ⟨h0, h1⟩
theorem args_fit {a : Int} (h0 : 0 ≤ a) (h1 : a < 18446744073709551616) (ps : List UInt8) : fitsM (argsT a ps) ps = true := by
  have hs := args_seg h0 h1 ps
  have hl : (argsT a ps).length = ps.length := by unfold argsT; simp
  unfold fitsM
  simp only [Bool.and_eq_true, decide_eq_true_eq, List.all_eq_true, List.mem_range]
  refine ⟨hl, fun k hk => ?_⟩
  have := hs.get (k := k) hk
  unfold fitsAt
  by_cases h : ps.getD k 0 = 127
  · rw [h] at this
    have := this.nar
    simp only [h, beq_self_eq_true, Bool.true_and, Bool.not_eq_true', decide_eq_false_iff_not]
    omega
  · have hb : (ps.getD k 0 == 127) = false := by rw [beq_eq_false_iff_ne]; exact h
    rw [hb]; rfl
theorem args_ref {f : Flat} {a : Int} (h0 : 0 ≤ a) (h1 : a < 18446744073709551616) {n fuel : Nat} (hn : n < f.funcs.length) (hf : fuel ≤ 100000) : refusesM f n (argsT a (f.funcs.getD n fn0).typ.1) fuel = 0 := by
  unfold refusesM
  rw [if_neg (by omega), show ((n : Int)).toNat = n by omega, if_neg (by rw [args_fit h0 h1]; decide), if_neg (by omega)]
end Go.Proofs.YtdeplgkhmebalaaGreatDoor
