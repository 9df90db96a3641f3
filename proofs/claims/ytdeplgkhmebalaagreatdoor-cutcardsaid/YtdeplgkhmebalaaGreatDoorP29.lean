/- A call of a function from outside: the machine made, run, asked. -/
import Derived.Test.YtdeplgkhmebalaaGreatDoorP27
import Derived.Test.YtdeplgkhmebalaaGreatDoorP28

namespace Go.Proofs.YtdeplgkhmebalaaGreatDoor
open Go.RowKit

/-- What a call gives: the trap, the value, what was burned, and the state behind it. -/
def callR (f : Flat) (n : Nat) (args : List Int) (fuel : Nat) (mem : List UInt8) (gl : List Int) (keys : List (Int × Int)) (K : Nat) : Option (Nat × Int × Nat × Mc) :=
  match runR f K (enterR f ⟨args, [], 0, fuel, mem, gl, keys⟩ n) with
  | none => none
  | some (t, s) => if s.fuel ≤ fuel ∧ s.stack.length ≤ 1000000 then some (t, (if t = 0 ∧ 0 < s.stack.length then topR s else 0), fuel - s.fuel, s) else none

abbrev replyV (e t : Int) (v : Int) (u : Int) : Value := .agg #[.int .i64 e, .int .i64 t, .int .u64 v, .int .i64 u]

structure Behind (w' : World) (B sb kb : Nat) (low : Nat → Prop) (mem : List UInt8) (gl : List Int) (keys : List (Int × Int)) (mv gv : Value) : Prop where
  blk : w'.heap[sb]? = some (.cells #[mv, gv, .map (some kb)] 125)
  memR : w'.ownsRow B 5 1 mv mem.length (byteCells' mem)
  glR : w'.ownsRow B 38 1 gv gl.length (valCells gl)
  keys : KeysAt w' kb keys

/-- The machine as it is at first, its stack laid. -/
theorem MSt.first {W0 w W : World} {ro : Nat → Prop} {fb : Nat} {ft : TypeId} {f : Flat} {sb kb gm gg : Nat} {mem : List UInt8} {gl : List Int} {keys : List (Int × Int)} {args : List Int} {fuel : Nat} {sv : Value} {mb rb : Nat}
    (hst : StateAt W0 w sb mem gl keys kb gm gg) (hmod : ModAt w ro fb ft f) (hro : ∀ b, ro b → b < W0.heap.size) (h0 : W0.heap.size ≤ w.heap.size) (hrb : rb = w.heap.size) (hmb : mb = w.heap.size + 1) (k : Kp no w W) (hsz : w.heap.size + 1 < W.heap.size)
    (hm : W.heap[mb]? = some (.cells #[ptrTo fb, ptrTo sb, sv, .slice none 0 0, .int .i64 0, .int .i64 fuel] 172))
    (hs : W.ownsRow (w.heap.size + 2) 38 1 sv args.length (valCells args)) :
    MSt ⟨W0.heap.size, fun b => b < W0.heap.size ∨ b = rb, mb, sb, kb, fb, ft, f, ro⟩ W ⟨args, [], 0, fuel, mem, gl, keys⟩ := by
  have e1 := hst.o1
  have e2 := hst.o2
  have e3 := hst.o3
  have e4 := hst.o4
  have e5 := lt_of_blk hst.blk
  have hsb : ∀ b, sv.ownBlock = some b → w.heap.size + 2 ≤ b := own_new hs
  refine ⟨fun b => if b = mb then 1 else if b = sb then 2 else if b = gm then 5 else if b = gg then 6 else if b = kb then 7 else if sv.ownBlock = some b then 3 else 0, sv, .slice none 0 0, .slice (some ⟨gm, 0, none⟩) mem.length mem.length, .slice (some ⟨gg, 0, none⟩) gl.length gl.length, ?_⟩
  refine ⟨Nat.le_trans h0 k.size, hmod.kp k.any, hm, k.blk hst.blk (fun h => h), own_le hs (by show W0.heap.size ≤ _; omega), ⟨rfl, .inl ⟨rfl, rfl⟩⟩, k.own hst.memR (fun _ _ h => h), k.own hst.glR (fun _ _ h => h), hst.keys.kp k (fun h => h), ?_, ?_, ?_, ?_, ?_, ?_, ?_, ?_, ?_, ?_⟩
  · simp
  · show (if sb = mb then 1 else if sb = sb then 2 else _) = 2
    rw [if_neg (by omega), if_pos rfl]
  · intro b hb
    have := hsb b hb
    show (if b = mb then 1 else if b = sb then 2 else if b = gm then 5 else if b = gg then 6 else if b = kb then 7 else if sv.ownBlock = some b then 3 else 0) = 3
    rw [if_neg (by omega), if_neg (by omega), if_neg (by omega), if_neg (by omega), if_neg (by omega), if_pos hb]
  · intro b hb; cases hb
  · intro b hb
    cases hb
    show (if gm = mb then 1 else if gm = sb then 2 else if gm = gm then 5 else _) = 5
    rw [if_neg (by omega), if_neg (by omega), if_pos rfl]
  · intro b hb
    cases hb
    show (if gg = mb then 1 else if gg = sb then 2 else if gg = gm then 5 else if gg = gg then 6 else _) = 6
    rw [if_neg (by omega), if_neg (by omega), if_neg (by omega), if_pos rfl]
  · show (if kb = mb then 1 else if kb = sb then 2 else if kb = gm then 5 else if kb = gg then 6 else if kb = kb then 7 else _) = 7
    rw [if_neg (by omega), if_neg (by omega), if_neg (by omega), if_neg (by omega), if_pos rfl]
  · intro b hb
    have hb' : b < W0.heap.size ∨ b = w.heap.size := by rw [← hrb]; exact hb
    show (if b = mb then 1 else if b = sb then 2 else if b = gm then 5 else if b = gg then 6 else if b = kb then 7 else if sv.ownBlock = some b then 3 else 0) = 0
    rw [if_neg (by omega), if_neg (by omega), if_neg (by omega), if_neg (by omega), if_neg (by omega), if_neg (fun e => by have := hsb b e; omega)]
  · intro b hb
    have hb' : b < W0.heap.size ∨ b = w.heap.size := by rw [← hrb]; exact hb
    omega
  · intro b hb
    exact .inl (hro b hb)


theorem MSt.behind {E : MEnv} {w w' : World} {s : Mc} (h : MSt E w s) (k : Kp E.lo w w') : ∃ mv gv, Behind w' E.B E.sb E.kb (fun _ => False) s.mem s.gl s.keys mv gv := by
  obtain ⟨role, sv, cv, mv, gv, h⟩ := h
  exact ⟨mv, gv, k.blk h.st (fun hl => by have := h.low _ hl; rw [h.r2] at this; cases this), k.own h.mem (fun b hb hl => by have := h.low _ hl; rw [h.r5 b hb] at this; cases this),
    k.own h.gl (fun b hb hl => by have := h.low _ hl; rw [h.r6 b hb] at this; cases this), h.keys.kp k (fun hl => by have := h.low _ hl; rw [h.r7] at this; cases this)⟩

theorem reply_fin {W : World} {rb : Nat} {c0 c1 c2 c3 : Value} {ty : TypeId} (h : W.heap[rb]? = some (.cells #[c0, c1, c2, c3] ty)) (d0 d1 d2 d3 : Value) :
    ((((W.setCell ⟨rb, 0, none⟩ d0).setCell ⟨rb, 1, none⟩ d1).setCell ⟨rb, 2, none⟩ d2).setCell ⟨rb, 3, none⟩ d3).heap[rb]? = some (.cells #[d0, d1, d2, d3] ty) ∧ Kp (one rb) W ((((W.setCell ⟨rb, 0, none⟩ d0).setCell ⟨rb, 1, none⟩ d1).setCell ⟨rb, 2, none⟩ d2).setCell ⟨rb, 3, none⟩ d3) :=
  ⟨heap_setCell (heap_setCell (heap_setCell (heap_setCell h d0) d1) d2) d3, ((((Kp.refl _ W).set1 0 _).set1 1 _).set1 2 _).set1 3 _⟩

set_option maxRecDepth 100000 in
set_option maxHeartbeats 2000000 in
theorem runCall_any {W0 w : World} {ro : Nat → Prop} {fb : Nat} {ft : TypeId} {f : Flat} {sb kb gm gg : Nat} {mem : List UInt8} {gl : List Int} {keys : List (Int × Int)} {av : Value} {args : List Int} {n fuel K : Nat}
    (hst : StateAt W0 w sb mem gl keys kb gm gg) (hmod : ModAt w ro fb ft f) (hro : ∀ b, ro b → b < W0.heap.size) (h0 : W0.heap.size ≤ w.heap.size) (ha : ValsAt w av args) (hok : f.Ok) (hn : n < f.funcs.length) (hp1 : (f.funcs.getD n fn0).typ.1.length = args.length) (hp2 : (f.funcs.getD n fn0).typ.1.length ≤ (f.funcs.getD n fn0).locals) (hp3 : (f.funcs.getD n fn0).locals ≤ 1000)
    (hfu : fuel ≤ 100000) (hgl : gl.length ≤ 1000000) (hK : K ≤ 900000) {t : Nat} {v : Int} {u : Nat} {s' : Mc} (hm : callR f n args fuel mem gl keys K = some (t, v, u, s')) :
    Calls Tryz.prog 51 #[ptrTo fb, .int .i64 n, av, .int .i64 fuel, ptrTo sb] w fun r w' => r = .returned (replyV 0 t v u) ∧ (∃ mv gv, Behind w' W0.heap.size sb kb (fun _ => False) s'.mem s'.gl s'.keys mv gv) ∧ Kp (fun b => W0.heap.size ≤ b) w w' := by
  have hal : args.length ≤ 1000 := by omega
  have hsb := hst.o4
  have hsbl := lt_of_blk hst.blk
  obtain ⟨i0, hi0, hz0, hz1, hz2⟩ := info_parts info_u64'
  obtain ⟨ada, capa, hav, hca⟩ := RowAt.shape ha
  subst hav
  unfold callR at hm
  cases hr : runR f K (enterR f ⟨args, [], 0, fuel, mem, gl, keys⟩ n) with
  | none => rw [hr] at hm; cases hm
  | some ts =>
  obtain ⟨t', s1⟩ := ts
  rw [hr] at hm
  simp only at hm
  split at hm
  case isFalse => cases hm
  case isTrue hfs =>
  obtain ⟨hfs, hsl⟩ := hfs
  simp only [Option.some.injEq, Prod.mk.injEq] at hm
  obtain ⟨rfl, hv, hu, rfl⟩ := hm
  have HSt := hide hst
  have HMod := hide hmod
  have HRo := hide hro
  have HA := hide ha
  have HOk := hide hok
  have HR := hide hr
  have HV := hide hv
  have HU := hide hu
  have HP1 := hide hp1
  have HP2 := hide hp2
  have HP3 := hide hp3
  clear hst hmod hro ha hok hr hv hu hp1 hp2 hp3
  go_enter Tryz.func51, Tryz.ntmps51
  go_wp2_with (at_builtin; refine wpList_append_at _ rfl _ _ 53 rfl (w.heap.size + 2) 38 i0 (.int .u64 0) 1 8 Tryz.underlying53 hi0 hz0 hz1 hz2 rfl (by decide) _ 0 [] rfl ⟨rfl, .inl ⟨rfl, rfl⟩⟩ _ args.length _ rfl (RowAt.kp HA.out (((Kp.refl no w).alloc _).alloc _) (fun _ _ h => h)) (vals_oneCell args) ?c3 ?c4 ?c5 ?_)
  case c3 => unfold maxLen; omega
  case c4 => omega
  case c5 => simp
  intro v3 w3 hown3 hgrow3 hat3
  obtain ⟨ad3, cap3, hv3⟩ := own_shape hown3
  subst hv3
  have kW : Kp no w ((w.alloc (.cells #[.int .i64 0, .int .i64 0, .int .u64 0, .int .i64 0] 51)).alloc (.cells #[ptrTo fb, ptrTo sb, .slice none 0 0, .slice none 0 0, .int .i64 0, .int .i64 fuel] 172)) := ((Kp.refl no w).alloc _).alloc _
  have k3 := Kp.ofGrown hgrow3
  have hmo : w3.heap[w.heap.size + 1]? = some (.cells #[ptrTo fb, ptrTo sb, .slice none 0 0, .slice none 0 0, .int .i64 0, .int .i64 fuel] 172) := by
    have := heap_alloc_new (w.alloc (.cells #[.int .i64 0, .int .i64 0, .int .u64 0, .int .i64 0] 51)) (.cells #[ptrTo fb, ptrTo sb, .slice none 0 0, .slice none 0 0, .int .i64 0, .int .i64 fuel] 172)
    rw [show (w.alloc (.cells #[.int .i64 0, .int .i64 0, .int .u64 0, .int .i64 0] 51)).heap.size = w.heap.size + 1 by simp] at this
    exact k3.blk this (fun h => h)
  have hro3 : w3.heap[w.heap.size]? = some (.cells #[.int .i64 0, .int .i64 0, .int .u64 0, .int .i64 0] 51) := k3.blk (heap_alloc_old (heap_alloc_new w _)) (fun h => h)
  have hs3 : w.heap.size + 2 ≤ w3.heap.size := by have := k3.size; simp at this; omega
  have k3' : Kp no w w3 := kW.trans k3
  obtain ⟨hmc, hmf⟩ := cells_of hmo
  have k4 : Kp no w (w3.setCell ⟨w.heap.size + 1, 2, none⟩ (.slice ad3 args.length cap3)) := k3'.setCell (p := ⟨w.heap.size + 1, 2, none⟩) (.inr (by simp)) _
  have hm4 : (w3.setCell ⟨w.heap.size + 1, 2, none⟩ (.slice ad3 args.length cap3)).heap[w.heap.size + 1]? = some (.cells #[ptrTo fb, ptrTo sb, .slice ad3 args.length cap3, .slice none 0 0, .int .i64 0, .int .i64 fuel] 172) := heap_setCell hmo _
  have hr4 : (w3.setCell ⟨w.heap.size + 1, 2, none⟩ (.slice ad3 args.length cap3)).heap[w.heap.size]? = some (.cells #[.int .i64 0, .int .i64 0, .int .u64 0, .int .i64 0] 51) := heap_setCell_ne (by omega) _ hro3
  have ho4 : (w3.setCell ⟨w.heap.size + 1, 2, none⟩ (.slice ad3 args.length cap3)).ownsRow (w.heap.size + 2) 38 1 (.slice ad3 args.length cap3) args.length (valCells args) :=
    ((Kp.refl (one (w.heap.size + 1)) w3).set1 2 _).own hown3 (fun b hb (e : b = _) => by have := own_new hown3 b hb; omega)
  have hst := MSt.first (args := args) (fuel := fuel) (rb := w.heap.size) (mb := w.heap.size + 1) HSt.out HMod.out HRo.out h0 rfl rfl k4 (by simp [World.setCell]; omega) hm4 ho4
  have HM := hide hst
  have K4 := hide k4
  have HR4 := hide hr4
  clear hown3 hgrow3 hat3 kW k3 hmo hro3 k3' k4 hm4 hr4 ho4 hst
  go_wp2_with fail
  generalize w3.setCell ⟨w.heap.size + 1, 2, none⟩ (.slice ad3 args.length cap3) = w4 at *
  obtain ⟨E, hE⟩ : ∃ E : MEnv, E = ⟨W0.heap.size, fun b => b < W0.heap.size ∨ b = w.heap.size, w.heap.size + 1, sb, kb, fb, ft, f, ro⟩ := ⟨_, rfl⟩
  have hme : E.mb = w.heap.size + 1 := by rw [hE]
  have hfe : E.f = f := by rw [hE]
  have hle : E.lo w.heap.size := by rw [hE]; exact .inr rfl
  have hue : ∀ {a b}, Kp (upm E) a b → Kp (fun b => W0.heap.size ≤ b) a b := fun k => k.mono (fun b _ hb => by rw [hE] at hb; exact Nat.le_of_not_lt (fun h => hb (.inl h)))
  have hen := enterR_any (E := E) (w := w4) (s := ⟨args, [], 0, fuel, mem, gl, keys⟩) (by rw [hE]; exact HM.out) (by simp) (by simp; omega) (n := n) (by rw [hfe]; exact hn) (by rw [hfe]; exact HOk.out.nf) (by rw [hfe]; show _ ≤ args.length; have := HP1.out; omega) (by rw [hfe]; exact HP2.out) (by rw [hfe]; exact HP3.out)
  rw [hme, hfe] at hen
  refine hen.mono ?_
  rintro r w5 ⟨rfl, h5, k5⟩
  have hrun := run_any h5 (by rw [hfe]; exact HOk.out) (K := K) (N := 2000) ⟨by show (args ++ List.replicate ((f.funcs.getD n fn0).locals - (f.funcs.getD n fn0).typ.1.length) 0).length ≤ 2000; rw [List.length_append, List.length_replicate]; have := HP3.out; omega, by simp [enterR], hgl, by show fuel ≤ 1000000; omega⟩ (by omega) (by rw [hfe]; exact HR.out)
  rw [hme] at hrun
  have HRun := hide hrun
  have K5 := hide ((hue k5))
  have HR5 := hide (k5.blk HR4.out (fun h => h hle))
  clear h5 k5 hen HM hrun HR4
  go_wp2_with fail
  refine HRun.out.mono ?_
  rintro r w6 ⟨rfl, h6, k6⟩
  have HM6 := hide h6
  have K6 := hide (K5.out.trans (hue k6))
  have HR6 := hide (k6.blk HR5.out (fun h => h hle))
  clear h6 k6 HRun HR5 K5
  go_upto_region 5 with fail
  obtain ⟨sv6, cv6, hmo6, ⟨ad6, cap6, hsv6, -⟩, -⟩ := HM6.out.open
  subst hsv6
  rw [hme] at hmo6
  have hmo6' : w6.heap[w.heap.size + 1]? = some (.cells #[ptrTo E.fb, ptrTo E.sb, .slice ad6 s1.stack.length cap6, cv6, .int .i64 s1.pos, .int .i64 s1.fuel] 172) := hmo6
  have hm7 : ∀ obj q, (w6.alloc obj).cell? ⟨w.heap.size + 1, q, none⟩ = #[ptrTo E.fb, ptrTo E.sb, .slice ad6 s1.stack.length cap6, cv6, .int .i64 s1.pos, .int .i64 s1.fuel][q]? := fun obj q => (cells_of (heap_alloc_old hmo6')).1 q
  have hlt6 : w.heap.size + 1 < w6.heap.size := lt_of_blk hmo6'
  have hne : ¬ w6.heap.size = w.heap.size + 1 := by omega
  have hne' : ¬ w.heap.size + 1 = w6.heap.size := by omega
  have hwu : IntKind.i64.wrap ((fuel : Int) - (s1.fuel : Int)) = (u : Int) := by have := HU.out; rw [IntKind.wrap_i64]; omega
  have hr7 : ∀ obj q, (w6.alloc obj).cell? ⟨w.heap.size, q, none⟩ = #[.int .i64 0, .int .i64 0, .int .u64 0, .int .i64 0][q]? := fun obj q => (cells_of (heap_alloc_old HR6.out)).1 q
  have hf7 : ∀ obj q, (w6.alloc obj).frozen? ⟨w.heap.size, q, none⟩ = false := fun obj q => (cells_of (heap_alloc_old HR6.out)).2 q
  have KT := hide (K4.out.any.trans K6.out)
  clear hmo6 hmo6' K4 K6
  rcases Nat.eq_zero_or_pos t' with ht0 | htp
  · subst ht0
    rcases Nat.eq_zero_or_pos s1.stack.length with hs0 | hsp
    · have hv : v = 0 := by have := HV.out; rw [if_neg (by omega)] at this; exact this.symm
      rw [hs0] at hm7
      have HV2 := hide hv
      clear hv HV
      go_wp2_with fail
      have hend := reply_fin (heap_alloc_old (o := (.cells #[.int .i64 0, .int .i64 0, .int .u64 0, .int .i64 u] 51)) HR6.out) (.int .i64 0) (.int .i64 0) (.int .u64 0) (.int .i64 u)
      obtain ⟨hfb, hfk⟩ := hend
      have hfin := (cells_of hfb).1
      refine bodyPost_ret (v := replyV 0 0 0 u) (by simp [results, Tryz.results51, go_sem, hfin]) rfl ?_
      have kA := (Kp.refl no w6).alloc (.cells #[.int .i64 0, .int .i64 0, .int .u64 0, .int .i64 u] 51)
      refine ⟨by rw [HV2.out]; rfl, ?_, ?_⟩
      · have hb := HM6.out.behind (kA.any.trans (hfk.mono (fun b _ (hb : b = _) => by rw [hb]; exact hle)))
        rw [hE] at hb
        exact hb
      · exact (KT.out.trans kA.any).trans (hfk.mono (fun b _ (hb : b = _) => by rw [hb]; exact h0))
    · obtain ⟨m, hsm⟩ : ∃ m, s1.stack.length = m + 1 := ⟨s1.stack.length - 1, by omega⟩
      have hv : v = topR s1 := by have := HV.out; rw [if_pos ⟨rfl, by omega⟩] at this; exact this.symm
      rw [hsm] at hm7
      have kA := (Kp.refl no w6).alloc (.cells #[.int .i64 0, .int .i64 0, .int .u64 0, .int .i64 u] 51)
      have hg := HM6.out.guard kA (fun b => b = w6.heap.size) (fun b hb => ⟨by rw [hb]; exact Nat.le_refl _, by rw [hb]; simp⟩)
      have htk := takeR_any hg (by omega) (by omega)
      change Calls _ _ #[ptrTo E.mb] _ _ at htk
      rw [hme, ← hv] at htk
      have HTk := hide htk
      have hb2 := hide (heap_alloc_new w6 (.cells #[.int .i64 0, .int .i64 0, .int .u64 0, .int .i64 u] 51))
      have hb1 := hide (heap_alloc_old (o := .cells #[.int .i64 0, .int .i64 0, .int .u64 0, .int .i64 u] 51) HR6.out)
      have KA := hide kA
      clear hv HV hg htk hsm kA
      go_wp2_with fail
      refine HTk.out.mono ?_
      rintro r w9 ⟨rfl, h9, k9⟩
      have hc2 := k9.blk hb2.out (fun h => h (.inr rfl))
      have hc1 := k9.blk hb1.out (fun h => h (.inl hle))
      obtain ⟨hq2, hz2'⟩ := cells_of hc2
      obtain ⟨hq1, hz1'⟩ := cells_of hc1
      have H9 := hide h9
      have K9 := hide k9
      have C1 := hide hc1
      have hnr : ¬ w6.heap.size = w.heap.size := by omega
      have hnr' : ¬ w.heap.size = w6.heap.size := by omega
      clear h9 k9 hc1 hc2 HTk hm7 hr7 hf7
      go_wp2_with fail
      have hx : (w9.setCell ⟨w6.heap.size, 2, none⟩ (.int .u64 v)).heap[w.heap.size]? = some (.cells #[.int .i64 0, .int .i64 0, .int .u64 0, .int .i64 0] 51) := heap_setCell_ne hnr' _ C1.out
      obtain ⟨hfb, hfk⟩ := reply_fin hx (.int .i64 0) (.int .i64 0) (.int .u64 v) (.int .i64 u)
      have hfin := (cells_of hfb).1
      refine bodyPost_ret (v := replyV 0 0 v u) (by simp [results, Tryz.results51, go_sem, hfin]) rfl ?_
      refine ⟨rfl, ?_, ?_⟩
      · have hb := H9.out.behind (((Kp.refl (E.plus fun b => b = w6.heap.size).lo w9).setCell (p := ⟨w6.heap.size, 2, none⟩) (.inl (.inr rfl)) (.int .u64 v)).trans (hfk.mono (fun b _ (hb : b = _) => by rw [hb]; exact .inl hle)))
        change ∃ mv gv, Behind _ E.B E.sb E.kb _ s1.mem s1.gl s1.keys mv gv at hb
        rw [hE] at hb
        exact hb
      · exact (((KT.out.trans KA.out.any).trans (hue (upm_plus K9.out))).setCell (p := ⟨w6.heap.size, 2, none⟩) (.inl (by show W0.heap.size ≤ w6.heap.size; omega)) _).trans (hfk.mono (fun b _ (hb : b = _) => by rw [hb]; exact h0))
  · obtain ⟨m, rfl⟩ : ∃ m, t' = m + 1 := ⟨t' - 1, by omega⟩
    have hv : v = 0 := by have := HV.out; rw [if_neg (by omega)] at this; exact this.symm
    have HV2 := hide hv
    have hnz : (((m + 1 : Nat) : Int) == 0) = false := by simp; omega
    have hnz2 : (((m : Nat) : Int) + 1 == 0) = false := by simp; omega
    clear hv HV
    go_wp2_with fail
    have hend := reply_fin (heap_alloc_old (o := (.cells #[.int .i64 0, .int .i64 ((m : Int) + 1), .int .u64 0, .int .i64 u] 51)) HR6.out) (.int .i64 0) (.int .i64 ((m : Int) + 1)) (.int .u64 0) (.int .i64 u)
    obtain ⟨hfb, hfk⟩ := hend
    have hfin := (cells_of hfb).1
    refine bodyPost_ret (v := replyV 0 ((m : Int) + 1) 0 u) (by simp [results, Tryz.results51, go_sem, hfin]) rfl ?_
    have kA := (Kp.refl no w6).alloc (.cells #[.int .i64 0, .int .i64 ((m : Int) + 1), .int .u64 0, .int .i64 u] 51)
    refine ⟨by rw [HV2.out]; rfl, ?_, ?_⟩
    · have hb := HM6.out.behind (kA.any.trans (hfk.mono (fun b _ (hb : b = _) => by rw [hb]; exact hle)))
      rw [hE] at hb
      exact hb
    · exact (KT.out.trans kA.any).trans (hfk.mono (fun b _ (hb : b = _) => by rw [hb]; exact h0))
end Go.Proofs.YtdeplgkhmebalaaGreatDoor
