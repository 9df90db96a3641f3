/- The run of a module's code: entering and leaving functions. -/
import Derived.Test.YtdeplgkhmebalaaGreatDoorP24
import Derived.Test.YtdeplgkhmebalaaGreatDoorP06

namespace Go.Proofs.YtdeplgkhmebalaaGreatDoor
open Go.RowKit
section
variable {E : MEnv} {w : World} {s : Mc}
def leaveR (s : Mc) : Mc := { sinkR s (curR s).1 (s.stack.length - (curR s).2.1) with calls := s.calls.take (s.calls.length - 1), pos := (curR s).2.2 }
set_option maxRecDepth 100000 in
set_option maxHeartbeats 1000000 in
theorem leaveR_any (h : MSt E w s) (hc0 : 0 < s.calls.length) (hc1 : s.calls.length ≤ 16) (hs : s.stack.length ≤ 1000000000) (hl1 : (curR s).1 ≤ (curR s).2.1) (hl2 : (curR s).2.1 ≤ s.stack.length) :
    Calls Tryz.prog 164 #[ptrTo E.mb] w fun r w' => r = .returned (.tuple #[]) ∧ MSt E w' (leaveR s) ∧ Kp (upm E) w w' := by
  have hro := h.roLo
  have hin := innerR_any h hc0 hc1
  have HL : Hid (leaveR s = { sinkR s (curR s).1 (s.stack.length - (curR s).2.1) with calls := s.calls.take (s.calls.length - 1), pos := (curR s).2.2 }) := hide rfl
  have hguard := fun W (kW : Kp no w W) (o : Obj) => h.guard (kW.alloc o) (fun b => b = W.heap.size) (fun b hb => ⟨by rw [hb]; exact kW.size, by rw [hb]; simp⟩)
  generalize hcv : curR s = c at *
  obtain ⟨lo, fl, bk⟩ := c
  simp only at hl1 hl2 HL
  have HI := hide hin
  have HCv := hide hcv
  have HRo := hide hro
  have HG := hide hguard
  clear h hin hcv hguard hro
  go_enter Tryz.func164, Tryz.ntmps164
  go_wp2_with fail
  refine HI.out.mono ?_
  rintro e w1 ⟨⟨g, rfl, hcur⟩, k1⟩
  obtain ⟨-, c0, c1, c2⟩ := hcur.kp k1
  simp only [HCv.out] at c0 c1 c2
  have HK1 := hide k1
  clear hcur k1
  go_wp2_with fail
  clear c0 c1 c2
  have hg := HG.out w1 HK1.out (.cells #[.int .i64 lo, .int .i64 fl, .int .i64 bk] 210)
  have hbo : (w1.alloc (.cells #[.int .i64 lo, .int .i64 fl, .int .i64 bk] 210)).heap[w1.heap.size]? = some (.cells #[.int .i64 lo, .int .i64 fl, .int .i64 bk] 210) := heap_alloc_new _ _
  have kW : Kp no w (w1.alloc (.cells #[.int .i64 lo, .int .i64 fl, .int .i64 bk] 210)) := HK1.out.alloc _
  have hsW : (w1.alloc (.cells #[.int .i64 lo, .int .i64 fl, .int .i64 bk] 210)).heap.size = w1.heap.size + 1 := by simp
  generalize w1.alloc (.cells #[.int .i64 lo, .int .i64 fl, .int .i64 bk] 210) = W at *
  obtain ⟨sv, cv, hmo, ⟨ad, cap, rfl, hcap⟩, ⟨adc, capc, rfl, hcapc⟩, -, -, -, -, -, -, -, -⟩ := hg.open
  have hmo' : W.heap[E.mb]? = some (machObj E s (.slice ad s.stack.length cap) (.slice adc s.calls.length capc)) := hmo
  have hsk := fun W' (kW : Kp no W W') => sinkR_any (hg.quiet kW) (hh := lo) (k := s.stack.length - fl) (by omega) hs
  have hw1 : IntKind.i64.wrap ((s.stack.length : Int) - (fl : Int)) = ((s.stack.length - fl : Nat) : Int) := by rw [IntKind.wrap_i64]; omega
  obtain ⟨S, hSd⟩ : ∃ S : World → Prop, S = fun w' => (∀ q, w'.cell? ⟨w1.heap.size, q, none⟩ = #[.int .i64 lo, .int .i64 fl, .int .i64 bk][q]?) ∧ w'.cell? ⟨E.mb, 2, none⟩ = some (.slice ad s.stack.length cap) := ⟨_, rfl⟩
  have hSk : ∀ W', Kp no W W' → S W' := fun W' k => by rw [hSd]; exact ⟨(cells_of (k.blk hbo (fun h => h))).1, (cells_of (k.blk hmo' (fun h => h))).1 2⟩
  have HSk := hide hSk
  have HSd := hide hSd
  have HSi := hide hsk
  have HBo := hide hbo
  have KW := hide kW
  clear hg hmo hmo' hsk hSk hSd hbo kW HG
  refine wp_region_S 11 (S) (by kernel_rfl) (n := 12) (listed := #[false, false, false, false, false, false, false, false, false, false, false, false]) rfl (by kernel_rfl) ?hS (fun hS => ?_)
  case hS => exact HSk.out _ ((Kp.refl _ _).drew)
  have hSd := HSd.out
  subst hSd
  refine tk 0 [] rfl (by kernel_rfl) rfl (fun _ _ _ h => h) hS (fun _ h => by (try dsimp only at h); go_simp; all_goals with_reducible rfl) ?_
  simp only [pS]
  refine tk 1 [2] rfl (by kernel_rfl) rfl (fun _ _ _ h => h) hS (fun _ h => by (try dsimp only at h); go_simp; all_goals with_reducible rfl) ?_
  simp only [pS]
  refine tk 2 [] rfl (by kernel_rfl) rfl (fun _ _ _ h => h) hS (fun _ h => by (try dsimp only at h); go_simp; all_goals with_reducible rfl) ?_
  simp only [pS]
  refine tk 3 [4,5,6,7,10] rfl (by kernel_rfl) rfl (fun _ _ _ h => h) hS (fun _ h => by (try dsimp only at h); go_simp; all_goals with_reducible rfl) ?_
  simp only [pS]
  refine tk 4 [5,6,7,10] rfl (by kernel_rfl) rfl (fun _ _ _ h => h) hS (fun _ h => by (try dsimp only at h); go_simp; all_goals with_reducible rfl) ?_
  simp only [pS]
  refine tk 5 [6,7,10] rfl (by kernel_rfl) rfl (fun _ _ _ h => h) hS (fun _ h => by (try dsimp only at h); go_simp; all_goals with_reducible rfl) ?_
  simp only [pS]
  refine tk 6 [7,10] rfl (by kernel_rfl) rfl (fun _ _ _ h => h) hS (fun _ h => by (try dsimp only at h); go_simp; all_goals with_reducible rfl) ?_
  simp only [pS]
  refine tk 7 [10] rfl (by kernel_rfl) rfl (fun _ _ _ h => h) hS (fun _ h => by (try dsimp only at h); go_simp; all_goals with_reducible rfl) ?_
  simp only [pS]
  refine tk 8 [9,10] rfl (by kernel_rfl) rfl (fun _ _ _ h => h) hS (fun _ h => by (try dsimp only at h); go_simp; all_goals with_reducible rfl) ?_
  simp only [pS]
  refine tk 9 [10] rfl (by kernel_rfl) rfl (fun _ _ _ h => h) hS (fun _ h => by (try dsimp only at h); go_simp; all_goals with_reducible rfl) ?_
  simp only [pS]
  refine tk 10 [] rfl (by kernel_rfl) rfl (fun _ _ _ h => h) hS (fun _ h => by (try dsimp only at h); go_simp; all_goals with_reducible rfl) ?_
  simp only [pS]
  refine wpAnyS_end 11 (listed' := #[true, true, true, true, true, true, true, true, true, true, true, true]) rfl (by kernel_rfl) (by kernel_rfl) (by kernel_rfl) (fun K hK => ?_)
  refine step_call (by rfl) 198 _ _ (by rfl) enters_sink _ (by rfl) (HSi.out _ ((Kp.refl _ _).drew)) ?_
  rintro e w2 ⟨rfl, h2, k2⟩
  refine ⟨_, rfl, hK _ _ ?_⟩
  clear hK K hS HSk HSd HSi
  refine wpAnyS_done (by kernel_rfl) ?_ _
  have hbo2 := k2.blk HBo.out (fun h => h (.inr rfl))
  have K2 := hide k2
  obtain ⟨hb2, -⟩ := cells_of hbo2
  obtain ⟨sv2, cv2, hmo2, ⟨ad2, cap2, hsv2, -⟩, ⟨adc2, capc2, hcv2, hcapc2⟩, n1, n2, -, -, hownc, -, -, hcup, -⟩ := h2.open
  have hmo2' : w2.heap[E.mb]? = some (machObj E (sinkR s lo (s.stack.length - fl)) sv2 cv2) := hmo2
  have hcl : (sinkR s lo (s.stack.length - fl)).calls = s.calls := rfl
  rw [hcl] at hcv2 hcapc2
  subst hcv2
  have hfin := fun W' (kW : Kp no w2 W') => hcup W' W' (.slice adc2 (s.calls.length - 1) capc2) (s.calls.take (s.calls.length - 1)) kW (by
    have := own_prefix (kW.own hownc (fun _ _ h => h)) (m := s.calls.length - 1) (by omega)
    rw [List.length_take, show min (s.calls.length - 1) s.calls.length = s.calls.length - 1 by omega, flat_take callLen]
    exact this) (grownBy_refl _ _) (.inl (ownBlock_len _ _ _ _ _))
  have hSk : ∀ W', Kp no w2 W' → ∀ q, W'.cell? ⟨E.mb, q, none⟩ = #[ptrTo E.fb, ptrTo E.sb, sv2, .slice adc2 s.calls.length capc2, .int .i64 s.pos, .int .i64 s.fuel][q]? := fun W' k => (cells_of (k.blk hmo2' (fun h => h))).1
  have hfr : ∀ W', Kp no w2 W' → W'.frozen? ⟨E.mb, 3, none⟩ = false := fun W' k => (cells_of (k.blk hmo2' (fun h => h))).2 3
  have hfr' := hfr _ ((Kp.refl no w2).drew)
  have hw3 : IntKind.i64.wrap ((s.calls.length : Int) - 1) = ((s.calls.length - 1 : Nat) : Int) := by rw [IntKind.wrap_i64]; omega
  have hle3 : s.calls.length - 1 ≤ capc2 := by omega
  generalize s.calls.length - 1 = n1c at *
  have HSk := hide hSk
  have HFin := hide hfin
  have HB2 := hide hbo2
  clear h2 hmo2 hmo2' hownc hcup hSk hfr hfin k2 hbo2
  go_wp2_with fail
  refine wp_region_S 14 (fun w' => ∀ q, w'.cell? ⟨E.mb, q, none⟩ = #[ptrTo E.fb, ptrTo E.sb, sv2, .slice adc2 s.calls.length capc2, .int .i64 s.pos, .int .i64 s.fuel][q]?) (by kernel_rfl) (n := 15) (listed := #[false, false, false, false, false, false, false, false, false, false, false, false, false, false, false]) rfl (by kernel_rfl) ?hS (fun hS => ?_)
  case hS => exact HSk.out _ ((Kp.refl _ _).drew)
  refine tk 0 [] rfl (by kernel_rfl) rfl (fun _ _ _ h => h) hS (fun _ h => by (try dsimp only at h); go_simp; all_goals with_reducible rfl) ?_
  simp only [pS]
  refine tk 1 [] rfl (by kernel_rfl) rfl (fun _ _ _ h => h) hS (fun _ h => by (try dsimp only at h); go_simp; all_goals with_reducible rfl) ?_
  simp only [pS]
  refine tk 2 [] rfl (by kernel_rfl) rfl (fun _ _ _ h => h) hS (fun _ h => by (try dsimp only at h); go_simp; all_goals with_reducible rfl) ?_
  simp only [pS]
  refine tk 3 [] rfl (by kernel_rfl) rfl (fun _ _ _ h => h) hS (fun _ h => by (try dsimp only at h); go_simp; all_goals with_reducible rfl) ?_
  simp only [pS]
  refine tk 4 [] rfl (by kernel_rfl) rfl (fun _ _ _ h => h) hS (fun _ h => by (try dsimp only at h); go_simp; all_goals with_reducible rfl) ?_
  simp only [pS]
  refine tk 5 [] rfl (by kernel_rfl) rfl (fun _ _ _ h => h) hS (fun _ h => by (try dsimp only at h); go_simp; all_goals with_reducible rfl) ?_
  simp only [pS]
  refine tk 6 [] rfl (by kernel_rfl) rfl (fun _ _ _ h => h) hS (fun _ h => by (try dsimp only at h); go_simp; all_goals with_reducible rfl) ?_
  simp only [pS]
  refine tk 7 [] rfl (by kernel_rfl) rfl (fun _ _ _ h => h) hS (fun _ h => by (try dsimp only at h); go_simp; all_goals with_reducible rfl) ?_
  simp only [pS]
  refine tk 8 [] rfl (by kernel_rfl) rfl (fun _ _ _ h => h) hS (fun _ h => by (try dsimp only at h); go_simp; all_goals with_reducible rfl) ?_
  simp only [pS]
  refine tk 9 [] rfl (by kernel_rfl) rfl (fun _ _ _ h => h) hS (fun _ h => by (try dsimp only at h); go_simp; all_goals with_reducible rfl) ?_
  simp only [pS]
  refine tk 10 [] rfl (by kernel_rfl) rfl (fun _ _ _ h => h) hS (fun _ h => by (try dsimp only at h); go_simp; all_goals with_reducible rfl) ?_
  simp only [pS]
  refine tk 11 [] rfl (by kernel_rfl) rfl (fun _ _ _ h => h) hS (fun _ h => by (try dsimp only at h); go_simp; all_goals with_reducible rfl) ?_
  simp only [pS]
  refine tk 12 [13] rfl (by kernel_rfl) rfl (fun _ _ _ h => h) hS (fun _ h => by (try dsimp only at h); go_simp; all_goals with_reducible rfl) ?_
  simp only [pS]
  refine tk 13 [] rfl (by kernel_rfl) rfl (fun _ _ _ h => h) hS (fun _ h => by (try dsimp only at h); go_simp; all_goals with_reducible rfl) ?_
  simp only [pS]
  refine wpAnyS_end 14 (listed' := #[true, true, true, true, true, true, true, true, true, true, true, true, true, true, true]) rfl (by kernel_rfl) (by kernel_rfl) (by kernel_rfl) (fun K hK => ?_)
  go_simp
  refine hK _ _ ?_
  clear hK K hS HSk
  refine wpAnyS_done (by kernel_rfl) ?_ _
  have hx3 := HFin.out w2 (Kp.refl no w2)
  change MSt _ (World.setCell w2 ⟨E.mb, 3, none⟩ _) _ ∧ Kp _ _ (World.setCell w2 ⟨E.mb, 3, none⟩ _) at hx3
  have h3 := hx3.1.quiet ((Kp.refl no _).drew)
  have k3 := hx3.2.drew
  clear hx3
  generalize (World.setCell w2 ⟨E.mb, 3, none⟩ (.slice adc2 n1c capc2)).drew = w3 at *
  have hbo3 := k3.blk HB2.out (fun h => h (.inr rfl))
  obtain ⟨hb3, -⟩ := cells_of hbo3
  obtain ⟨sv3, cv3, hmo3, -, -, -, -, -, -, -, -, -, -, hpos, -⟩ := h3.open
  have hmo3' : w3.heap[E.mb]? = some (machObj E { sinkR s lo (s.stack.length - fl) with calls := s.calls.take n1c } sv3 cv3) := hmo3
  obtain ⟨hm3, hmf3⟩ := cells_of hmo3'
  have hfin3 := hpos w3 bk (Kp.refl no w3)
  have HFin3 := hide hfin3
  have K3 := hide k3
  clear h3 hmo3 hmo3' hbo3 hpos hfin3 k3 hb2 hfr' HFin
  go_wp2
  go_end0
  refine ⟨rfl, ?_, ?_⟩
  · rw [HL.out]; exact HFin3.out.1.free HRo.out
  · exact (KW.out.any.drew).trans (upm_plus ((K2.out.trans K3.out).trans HFin3.out.2))
theorem MSt.fn (h : MSt E w s) {n : Nat} (hn : n < E.f.funcs.length) : ∃ fv gv cv a o cap ap cp ar cr, w.heap[E.fb]? = some (.cells #[fv, gv, .int .i64 E.f.pages, cv] E.ft) ∧ fv = .slice (some ⟨a, o, none⟩) E.f.funcs.length cap ∧ E.f.funcs.length ≤ cap ∧ E.lo E.fb ∧ E.lo a ∧
    w.cell? ⟨a, o + n * 4, none⟩ = some (.slice ap (E.f.funcs.getD n fn0).typ.1.length cp) ∧ w.cell? ⟨a, o + n * 4 + 1, none⟩ = some (.slice ar (E.f.funcs.getD n fn0).typ.2.length cr) ∧
    w.cell? ⟨a, o + n * 4 + 2, none⟩ = some (.int .i64 (E.f.funcs.getD n fn0).locals) ∧ w.cell? ⟨a, o + n * 4 + 3, none⟩ = some (.int .i64 (E.f.funcs.getD n fn0).entry) := by
  have hro := h.roLo
  obtain ⟨fv, gv, cv, hm⟩ := h.mod
  obtain ⟨ad, cap, hfv, hcap, hk⟩ := hm.funcs
  obtain ⟨a, o, pv, rv, rfl, hra, h1, h2, h3, h4, h5, -, h6, -⟩ := hk n hn
  obtain ⟨ap, cp, rfl, -⟩ := h5.shape
  obtain ⟨ar, cr, rfl, -⟩ := h6.shape
  exact ⟨fv, gv, cv, a, o, cap, ap, cp, ar, cr, hm.blk, hfv, hcap, hro _ hm.own, hro _ hra, h1, h2, h3, h4⟩
theorem MSt.loLt (h : MSt E w s) {b : Nat} (hb : E.lo b) : b < w.heap.size ∧ b ≠ E.mb := by
  obtain ⟨role, sv, cv, mv, gv, h⟩ := h
  exact ⟨h.loS b hb, fun e => by have := h.low b hb; rw [e, h.r1] at this; cases this⟩
def enterR (f : Flat) (s : Mc) (n : Nat) : Mc :=
  { s with stack := s.stack ++ List.replicate ((f.funcs.getD n fn0).locals - (f.funcs.getD n fn0).typ.1.length) 0, calls := s.calls ++ [(s.stack.length - (f.funcs.getD n fn0).typ.1.length, s.stack.length + ((f.funcs.getD n fn0).locals - (f.funcs.getD n fn0).typ.1.length), s.pos)], pos := (f.funcs.getD n fn0).entry }
set_option maxRecDepth 100000 in
set_option maxHeartbeats 1000000 in
theorem enterR_full (h : MSt E w s) (hc : s.calls.length = 16) (n : Int) :
    Calls Tryz.prog 71 #[ptrTo E.mb, .int .i64 n] w fun r w' => r = .returned (.int .i64 6) ∧ w' = w := by
  obtain ⟨sv, cv, hmo, ⟨ad, cap, rfl, hcap⟩, ⟨adc, capc, rfl, hcapc⟩, -, -, -, -, -, -, -, -⟩ := h.open
  obtain ⟨hm, hmf⟩ := cells_of hmo
  rw [hc] at hm
  clear h hmo
  go_enter Tryz.func71, Tryz.ntmps71
  go_wp2
  go_ret
  exact ⟨rfl, rfl⟩
set_option maxRecDepth 100000 in
set_option maxHeartbeats 2000000 in
theorem enterR_any (h : MSt E w s) (hc : s.calls.length < 16) (hs : s.stack.length ≤ 1000000000) {n : Nat} (hn : n < E.f.funcs.length) (_hnf : E.f.funcs.length ≤ 1000) (hp1 : (E.f.funcs.getD n fn0).typ.1.length ≤ s.stack.length) (hp2 : (E.f.funcs.getD n fn0).typ.1.length ≤ (E.f.funcs.getD n fn0).locals) (hp3 : (E.f.funcs.getD n fn0).locals ≤ 1000) :
    Calls Tryz.prog 71 #[ptrTo E.mb, .int .i64 n] w fun r w' => r = .returned (.int .i64 0) ∧ MSt E w' (enterR E.f s n) ∧ Kp (upm E) w w' := by
  have hro := h.roLo
  obtain ⟨fv, gv, cdv, a, o, capf, ap, cp, ar, cr, hfb, rfl, hcapf, hlf, hla, c0, c1, c2, c3⟩ := h.fn hn
  have HE : Hid (enterR E.f s n = { s with stack := s.stack ++ List.replicate ((E.f.funcs.getD n fn0).locals - (E.f.funcs.getD n fn0).typ.1.length) 0, calls := s.calls ++ [(s.stack.length - (E.f.funcs.getD n fn0).typ.1.length, s.stack.length + ((E.f.funcs.getD n fn0).locals - (E.f.funcs.getD n fn0).typ.1.length), s.pos)], pos := (E.f.funcs.getD n fn0).entry }) := hide rfl
  generalize enterR E.f s n = R at *
  generalize E.f.funcs.getD n fn0 = fn at *
  obtain ⟨sv, cv, hmo, ⟨ad, cap, rfl, hcap⟩, ⟨adc, capc, rfl, hcapc⟩, -, -, -, -, -, -, -, -⟩ := h.open
  obtain ⟨hm, hmf⟩ := cells_of hmo
  obtain ⟨hfc, -⟩ := cells_of hfb
  have hguard := fun (o : Obj) => h.guard ((Kp.refl no w).alloc o) (fun b => b = w.heap.size) (fun b hb => ⟨by rw [hb]; exact Nat.le_refl _, by rw [hb]; simp⟩)
  have hmW : ∀ obj q, (w.alloc obj).cell? ⟨E.mb, q, none⟩ = #[ptrTo E.fb, ptrTo E.sb, .slice ad s.stack.length cap, .slice adc s.calls.length capc, .int .i64 s.pos, .int .i64 s.fuel][q]? := fun obj q => (cells_of (heap_alloc_old hmo)).1 q
  have HG := hide hguard
  have HRo := hide hro
  have hB := h.base
  clear h hmo hfb hguard hro
  go_enter Tryz.func71, Tryz.ntmps71
  go_wp2_with fail
  clear hmW hm hmf hfc c0 c1 c2 c3
  have hg := HG.out (.cells #[.slice ap fn.typ.1.length cp, .slice ar fn.typ.2.length cr, .int .i64 fn.locals, .int .i64 fn.entry] 140)
  have hbo : (w.alloc (.cells #[.slice ap fn.typ.1.length cp, .slice ar fn.typ.2.length cr, .int .i64 fn.locals, .int .i64 fn.entry] 140)).heap[w.heap.size]? = some (.cells #[.slice ap fn.typ.1.length cp, .slice ar fn.typ.2.length cr, .int .i64 fn.locals, .int .i64 fn.entry] 140) := heap_alloc_new _ _
  have kW : Kp no w (w.alloc (.cells #[.slice ap fn.typ.1.length cp, .slice ar fn.typ.2.length cr, .int .i64 fn.locals, .int .i64 fn.entry] 140)) := (Kp.refl no w).alloc _
  have hsW : (w.alloc (.cells #[.slice ap fn.typ.1.length cp, .slice ar fn.typ.2.length cr, .int .i64 fn.locals, .int .i64 fn.entry] 140)).heap.size = w.heap.size + 1 := by simp
  generalize w.alloc (.cells #[.slice ap fn.typ.1.length cp, .slice ar fn.typ.2.length cr, .int .i64 fn.locals, .int .i64 fn.entry] 140) = W at *
  obtain ⟨i0, hi0, hz0, hz1, hz2⟩ := info_parts info_u64'
  obtain ⟨i1, hi1, hy0, hy1, hy2⟩ := info_parts info_call
  have hbW := hg.base
  have hmbl := hg.mbLt
  obtain ⟨sv1, cv1, hmo1, ⟨ad1, cap1, hsv1, hcap1⟩, ⟨adc1, capc1, hcv1, -⟩, n1, n2, -, hown1, -, -, hup1, -, -, -, -, hlo1⟩ := hg.open
  subst hsv1 hcv1
  have hmo1' : W.heap[E.mb]? = some (machObj E s (.slice ad1 s.stack.length cap1) (.slice adc1 s.calls.length capc1)) := hmo1
  have hlb := (hlo1 w.heap.size (.inr rfl)).1
  have hwm : IntKind.i64.wrap ((fn.locals : Int) - (fn.typ.1.length : Int)) = ((fn.locals - fn.typ.1.length : Nat) : Int) := by rw [IntKind.wrap_i64]; omega
  obtain ⟨m, hmd⟩ : ∃ m, m = fn.locals - fn.typ.1.length := ⟨_, rfl⟩
  have hm1000 : m ≤ 1000 := by omega
  have hE := HE.out
  rw [← hmd] at hwm hE
  have HE' := hide hE
  have HMd := hide hmd
  obtain ⟨S, hSd⟩ : ∃ S : World → Prop, S = fun w' => (∀ q, w'.cell? ⟨w.heap.size, q, none⟩ = #[.slice ap fn.typ.1.length cp, .slice ar fn.typ.2.length cr, .int .i64 fn.locals, .int .i64 fn.entry][q]?) ∧ (∀ q, w'.cell? ⟨E.mb, q, none⟩ = #[ptrTo E.fb, ptrTo E.sb, .slice ad1 s.stack.length cap1, .slice adc1 s.calls.length capc1, .int .i64 s.pos, .int .i64 s.fuel][q]?) := ⟨_, rfl⟩
  have hSk : ∀ W', Kp (fun b => some b = (Value.slice ad1 s.stack.length cap1).ownBlock) W W' → S W' := fun W' k => by rw [hSd]; exact ⟨(cells_of (k.blk hbo hlb)).1, (cells_of (k.blk hmo1' n1)).1⟩
  have hfz : ∀ W', Kp (fun b => some b = (Value.slice ad1 s.stack.length cap1).ownBlock) W W' → W'.frozen? ⟨E.mb, 2, none⟩ = false := fun W' k => (cells_of (k.blk hmo1' n1)).2 2
  have hbk : ∀ W', Kp (fun b => some b = (Value.slice ad1 s.stack.length cap1).ownBlock) W W' → W'.heap[w.heap.size]? = some (.cells #[.slice ap fn.typ.1.length cp, .slice ar fn.typ.2.length cr, .int .i64 fn.locals, .int .i64 fn.entry] 140) := fun W' k => k.blk hbo hlb
  have HSk := hide hSk
  have HSd := hide hSd
  have HFz := hide hfz
  have HBk := hide hbk
  have HO1 := hide hown1
  have HU1 := hide hup1
  have KW := hide kW
  have HBo := hide hbo
  clear hg hmo1 hmo1' hown1 hup1 hlo1 hSk hSd hfz hbk kW HG hE hmd HE hbo
  refine wp_region_S 12 (S) (by kernel_rfl) (n := 13) (listed := #[false, false, false, false, false, false, false, false, false, false, false, false, false]) rfl (by kernel_rfl) ?hS (fun hS => ?_)
  case hS => exact HSk.out _ ((Kp.refl _ _).drew)
  have hSd := HSd.out
  subst hSd
  refine tk 0 [] rfl (by kernel_rfl) rfl (fun _ _ _ h => h) hS (fun _ h => by (try dsimp only at h); go_simp; all_goals with_reducible rfl) ?_
  simp only [pS]
  refine tk 1 [] rfl (by kernel_rfl) rfl (fun _ _ _ h => h) hS (fun _ h => by (try dsimp only at h); go_simp; all_goals with_reducible rfl) ?_
  simp only [pS]
  refine tk 2 [] rfl (by kernel_rfl) rfl (fun _ _ _ h => h) hS (fun _ h => by (try dsimp only at h); go_simp; all_goals with_reducible rfl) ?_
  simp only [pS]
  refine tk 3 [] rfl (by kernel_rfl) rfl (fun _ _ _ h => h) hS (fun _ h => by (try dsimp only at h); go_simp; all_goals with_reducible rfl) ?_
  simp only [pS]
  refine tk 4 [] rfl (by kernel_rfl) rfl (fun _ _ _ h => h) hS (fun _ h => by (try dsimp only at h); go_simp; all_goals with_reducible rfl) ?_
  simp only [pS]
  refine tk 5 [] rfl (by kernel_rfl) rfl (fun _ _ _ h => h) hS (fun _ h => by (try dsimp only at h); go_simp; all_goals with_reducible rfl) ?_
  simp only [pS]
  refine tk 6 [] rfl (by kernel_rfl) rfl (fun _ _ _ h => h) hS (fun _ h => by (try dsimp only at h); go_simp; all_goals with_reducible rfl) ?_
  simp only [pS]
  refine tk 7 [] rfl (by kernel_rfl) rfl (fun _ _ _ h => h) hS (fun _ h => by (try dsimp only at h); go_simp; all_goals with_reducible rfl) ?_
  simp only [pS]
  refine tk 8 [] rfl (by kernel_rfl) rfl (fun _ _ _ h => h) hS (fun _ h => by (try dsimp only at h); go_simp; all_goals with_reducible rfl) ?_
  simp only [pS]
  refine wpAnyS_one 9 (listed' := #[true, true, true, true, true, true, true, true, true, true, false, false, false]) rfl (by kernel_rfl) (by kernel_rfl) (fun K hK => ?_)
  refine step_append_zeros _ (by rfl) _ _ _ _ (by rfl) E.B 38 i0 (.int .u64 0) 8 .i64 Tryz.underlying53 Tryz.underlying3 hi0 hz0 hz1 hz2 rfl rfl _ s.stack.length _ (by rfl) (((Kp.refl no W).drew).own HO1.out (fun _ _ h => h)) m (by rfl) (by unfold maxLen; omega) (by omega) hbW ?_
  intro v1 w5 hown5 hgrow hat
  have k5 : Kp (fun b => some b = (Value.slice ad1 s.stack.length cap1).ownBlock) W w5 := ((Kp.refl _ _).drew).grown hgrow (fun k e => .inl e.symm)
  have hfz5 := HFz.out _ k5
  refine hK _ _ (HSk.out _ k5) (fun hS => ?_)
  clear hK K
  obtain ⟨ad5, cap5, rfl⟩ := own_shape hown5
  refine tk 10 [11] rfl (by kernel_rfl) rfl (fun _ _ _ h => h) hS (fun _ h => by (try dsimp only at h); go_simp; all_goals with_reducible rfl) ?_
  simp only [pS]
  refine tk 11 [] rfl (by kernel_rfl) rfl (fun _ _ _ h => h) hS (fun _ h => by (try dsimp only at h); go_simp; all_goals with_reducible rfl) ?_
  simp only [pS]
  refine wpAnyS_end 12 (listed' := #[true, true, true, true, true, true, true, true, true, true, true, true, true]) rfl (by kernel_rfl) (by kernel_rfl) (by kernel_rfl) (fun K hK => ?_)
  go_simp
  refine hK _ _ ?_
  clear hK K
  refine wpAnyS_done (by kernel_rfl) ?_ _
  have hx2 := HU1.out W.drew w5 _ (s.stack ++ List.replicate m 0) ((Kp.refl no W).drew) (by
    have e1 : (s.stack ++ List.replicate m (0 : Int)).length = s.stack.length + m := by simp
    have e2 : valCells (s.stack ++ List.replicate m (0 : Int)) = valCells s.stack ++ List.replicate m (.int .u64 0) := by simp [valCells]
    rw [e1, e2]
    exact hown5) hgrow hat
  change MSt _ (World.setCell w5 ⟨E.mb, 2, none⟩ _) _ ∧ Kp _ _ (World.setCell w5 ⟨E.mb, 2, none⟩ _) at hx2
  obtain ⟨h2, k2⟩ := hx2
  generalize World.setCell w5 ⟨E.mb, 2, none⟩ (.slice ad5 (s.stack.length + m) cap5) = w2 at *
  have hbo2 := k2.blk HBo.out (fun h => h (.inr rfl))
  have K2 := hide k2
  have hb2 := h2.base
  have hmbl2 := h2.mbLt
  have hlo2 := h2.loLt (b := w.heap.size) (.inr rfl)
  clear hown5 hgrow hat k2 hS HSk HSd HFz HBk HO1 HU1 k5 hfz5
  obtain ⟨sv2, cv2, hmo2, ⟨ad2, cap2, hsv2, hcap2⟩, ⟨adc2, capc2, hcv2, -⟩, n1', n2', -, -, hownc, -, -, hcup, -⟩ := h2.open
  have hsl : ({ s with stack := s.stack ++ List.replicate m 0 } : Mc).stack.length = s.stack.length + m := by simp
  have hcl : ({ s with stack := s.stack ++ List.replicate m 0 } : Mc).calls = s.calls := rfl
  rw [hsl] at hsv2
  rw [hcl] at hcv2
  subst hsv2 hcv2
  have hmo2' : w2.heap[E.mb]? = some (.cells #[ptrTo E.fb, ptrTo E.sb, .slice ad2 (s.stack.length + m) cap2, .slice adc2 s.calls.length capc2, .int .i64 s.pos, .int .i64 s.fuel] 172) := hmo2
  obtain ⟨S, hSd⟩ : ∃ S : World → Prop, S = fun w' => (∀ q, w'.cell? ⟨E.mb, q, none⟩ = #[ptrTo E.fb, ptrTo E.sb, .slice ad2 (s.stack.length + m) cap2, .slice adc2 s.calls.length capc2, .int .i64 s.pos, .int .i64 s.fuel][q]?) := ⟨_, rfl⟩
  have hSk : ∀ W', Kp (fun b => some b = (Value.slice adc2 s.calls.length capc2).ownBlock) w2 W' → S W' := fun W' k => by rw [hSd]; exact (cells_of (k.blk hmo2' n2')).1
  have hfz : ∀ W', Kp (fun b => some b = (Value.slice adc2 s.calls.length capc2).ownBlock) w2 W' → W'.frozen? ⟨E.mb, 3, none⟩ = false := fun W' k => (cells_of (k.blk hmo2' n2')).2 3
  obtain ⟨lo, hlod⟩ : ∃ lo, lo = s.stack.length - fn.typ.1.length := ⟨_, rfl⟩
  have hlo3 : (s.stack.length : Int) - (fn.typ.1.length : Int) = (lo : Int) := by omega
  have HSk := hide hSk
  have HSd := hide hSd
  have HFz := hide hfz
  have HOc := hide hownc
  have HCup := hide hcup
  have HBo2 := hide hbo2
  have HLo := hide hlod
  clear h2 hmo2 hmo2' hownc hcup hSk hSd hfz hbo2 hlod
  go_wp2_with fail
  refine wp_region_S 20 (S) (by kernel_rfl) (n := 21) (listed := #[false, false, false, false, false, false, false, false, false, false, false, false, false, false, false, false, false, false, false, false, false]) rfl (by kernel_rfl) ?hS (fun hS => ?_)
  case hS => exact HSk.out _ ((Kp.refl _ _).drew)
  have hSd := HSd.out
  subst hSd
  refine tk 0 [] rfl (by kernel_rfl) rfl (fun _ _ _ h => h) hS (fun _ h => by (try dsimp only at h); go_simp; all_goals with_reducible rfl) ?_
  simp only [pS]
  refine tk 1 [] rfl (by kernel_rfl) rfl (fun _ _ _ h => h) hS (fun _ h => by (try dsimp only at h); go_simp; all_goals with_reducible rfl) ?_
  simp only [pS]
  refine tk 2 [] rfl (by kernel_rfl) rfl (fun _ _ _ h => h) hS (fun _ h => by (try dsimp only at h); go_simp; all_goals with_reducible rfl) ?_
  simp only [pS]
  refine tk 3 [] rfl (by kernel_rfl) rfl (fun _ _ _ h => h) hS (fun _ h => by (try dsimp only at h); go_simp; all_goals with_reducible rfl) ?_
  simp only [pS]
  refine tk 4 [] rfl (by kernel_rfl) rfl (fun _ _ _ h => h) hS (fun _ h => by (try dsimp only at h); go_simp; all_goals with_reducible rfl) ?_
  simp only [pS]
  refine tk 5 [] rfl (by kernel_rfl) rfl (fun _ _ _ h => h) hS (fun _ h => by (try dsimp only at h); go_simp; all_goals with_reducible rfl) ?_
  simp only [pS]
  refine tk 6 [] rfl (by kernel_rfl) rfl (fun _ _ _ h => h) hS (fun _ h => by (try dsimp only at h); go_simp; all_goals with_reducible rfl) ?_
  simp only [pS]
  refine tk 7 [] rfl (by kernel_rfl) rfl (fun _ _ _ h => h) hS (fun _ h => by (try dsimp only at h); go_simp; all_goals with_reducible rfl) ?_
  simp only [pS]
  refine tk 8 [] rfl (by kernel_rfl) rfl (fun _ _ _ h => h) hS (fun _ h => by (try dsimp only at h); go_simp; all_goals with_reducible rfl) ?_
  simp only [pS]
  refine tk 9 [] rfl (by kernel_rfl) rfl (fun _ _ _ h => h) hS (fun _ h => by (try dsimp only at h); go_simp; all_goals with_reducible rfl) ?_
  simp only [pS]
  refine tk 10 [] rfl (by kernel_rfl) rfl (fun _ _ _ h => h) hS (fun _ h => by (try dsimp only at h); go_simp; all_goals with_reducible rfl) ?_
  simp only [pS]
  refine tk 11 [] rfl (by kernel_rfl) rfl (fun _ _ _ h => h) hS (fun _ h => by (try dsimp only at h); go_simp; all_goals with_reducible rfl) ?_
  simp only [pS]
  refine tk 12 [] rfl (by kernel_rfl) rfl (fun _ _ _ h => h) hS (fun _ h => by (try dsimp only at h); go_simp; all_goals with_reducible rfl) ?_
  simp only [pS]
  refine tk 13 [] rfl (by kernel_rfl) rfl (fun _ _ _ h => h) hS (fun _ h => by (try dsimp only at h); go_simp; all_goals with_reducible rfl) ?_
  simp only [pS]
  refine tk 14 [] rfl (by kernel_rfl) rfl (fun _ _ _ h => h) hS (fun _ h => by (try dsimp only at h); go_simp; all_goals with_reducible rfl) ?_
  simp only [pS]
  refine tk 15 [] rfl (by kernel_rfl) rfl (fun _ _ _ h => h) hS (fun _ h => by (try dsimp only at h); go_simp; all_goals with_reducible rfl) ?_
  simp only [pS]
  refine wpAnyS_one 16 (listed' := #[true, true, true, true, true, true, true, true, true, true, true, true, true, true, true, true, true, false, false, false, false]) rfl (by kernel_rfl) (by kernel_rfl) (fun K hK => ?_)
  go_simp
  refine hK _ _ (HSk.out _ (((Kp.refl _ _).drew).alloc _)) (fun hS => ?_)
  clear hK K
  refine wpAnyS_one 17 (listed' := #[true, true, true, true, true, true, true, true, true, true, true, true, true, true, true, true, true, true, false, false, false]) rfl (by kernel_rfl) (by kernel_rfl) (fun K hK => ?_)
  refine step_append_at _ (by rfl) _ _ _ (by rfl) E.B 210 i1 _ 3 24 Tryz.underlying170 hi1 hy0 hy1 hy2 rfl (by omega) _ s.calls.length _ (by rfl) (((((Kp.refl no w2).drew).alloc _)).own HOc.out (fun _ _ h => h)) (.slice (some ⟨w2.heap.size, 0, none⟩) 1 1) 1 [.int .i64 lo, .int .i64 ((s.stack.length + m : Nat) : Int), .int .i64 s.pos] (by rfl) (RowAt.allocAt rfl #[.int .i64 lo, .int .i64 ((s.stack.length + m : Nat) : Int), .int .i64 s.pos] _ 1 3 rfl) (by simp [Value.oneCell']) (by simp only [maxLen]; omega) (by omega) (by simp; omega) ?_
  intro v1 w6 hown6 hgrow hat
  have k6 : Kp (fun b => some b = (Value.slice adc2 s.calls.length capc2).ownBlock) w2 w6 := (((Kp.refl _ _).drew).alloc _).grown hgrow (fun k e => .inl e.symm)
  have hfz6 := HFz.out _ k6
  refine hK _ _ (HSk.out _ k6) (fun hS => ?_)
  clear hK K
  obtain ⟨ad6, cap6, rfl⟩ := own_shape hown6
  refine tk 18 [19] rfl (by kernel_rfl) rfl (fun _ _ _ h => h) hS (fun _ h => by (try dsimp only at h); go_simp; all_goals with_reducible rfl) ?_
  simp only [pS]
  refine tk 19 [] rfl (by kernel_rfl) rfl (fun _ _ _ h => h) hS (fun _ h => by (try dsimp only at h); go_simp; all_goals with_reducible rfl) ?_
  simp only [pS]
  refine wpAnyS_end 20 (listed' := #[true, true, true, true, true, true, true, true, true, true, true, true, true, true, true, true, true, true, true, true, true]) rfl (by kernel_rfl) (by kernel_rfl) (by kernel_rfl) (fun K hK => ?_)
  go_simp
  refine hK _ _ ?_
  clear hK K
  refine wpAnyS_done (by kernel_rfl) ?_ _
  have hx3 := HCup.out _ w6 _ (s.calls ++ [(lo, s.stack.length + m, s.pos)]) (((Kp.refl no w2).drew).alloc _) (by
    have e1 : (s.calls ++ [(lo, s.stack.length + m, s.pos)]).length = s.calls.length + 1 := by simp
    have e2 : (s.calls ++ [(lo, s.stack.length + m, s.pos)]).flatMap callCells = s.calls.flatMap callCells ++ [.int .i64 (lo : Nat), .int .i64 ((s.stack.length + m : Nat) : Int), .int .i64 (s.pos : Nat)] := by simp [List.flatMap_append, callCells]
    rw [e1, e2]
    exact hown6) hgrow hat
  change MSt _ (World.setCell w6 ⟨E.mb, 3, none⟩ _) _ ∧ Kp _ _ (World.setCell w6 ⟨E.mb, 3, none⟩ _) at hx3
  obtain ⟨h3, k3⟩ := hx3
  generalize World.setCell w6 ⟨E.mb, 3, none⟩ (.slice ad6 (s.calls.length + 1) cap6) = w3 at *
  have hbo3 := k3.blk HBo2.out (fun h => h (.inr rfl))
  obtain ⟨hb3, -⟩ := cells_of hbo3
  obtain ⟨sv3, cv3, hmo3, -, -, -, -, -, -, -, -, -, -, hpos, -⟩ := h3.open
  have hmo3' : w3.heap[E.mb]? = some (.cells #[ptrTo E.fb, ptrTo E.sb, sv3, cv3, .int .i64 s.pos, .int .i64 s.fuel] 172) := hmo3
  obtain ⟨hm3, hmf3⟩ := cells_of hmo3'
  have hfin3 := hpos w3 fn.entry (Kp.refl no w3)
  have HFin3 := hide hfin3
  have K3 := hide k3
  clear h3 hmo3 hmo3' hbo3 hpos hfin3 k3 hS HSk HSd HFz HOc HCup k6 hfz6 hown6 hgrow hat
  go_wp2
  go_ret
  refine ⟨rfl, ?_, ?_⟩
  · rw [HE'.out, ← HLo.out]
    have := HFin3.out.1.free HRo.out
    exact this
  · exact KW.out.any.trans (upm_plus ((K2.out.trans K3.out).trans HFin3.out.2))
end
def jumpOk (s : Mc) (x : Ins) : Bool := decide (0 < s.calls.length) && decide ((curR s).2.1 + x.height + x.keep ≤ s.stack.length)
theorem jumpOk_spec {s : Mc} {x : Ins} (h : jumpOk s x = true) : 0 < s.calls.length ∧ (curR s).2.1 + x.height + x.keep ≤ s.stack.length := by simpa [jumpOk] using h
def jumpB (s : Mc) (x : Ins) : Option (Nat × Mc) := if jumpOk s x then some (0, jumpR s x) else none
def enterB (f : Flat) (s : Mc) (n : Nat) : Option (Nat × Mc) :=
  if s.calls.length = 16 then some (6, s)
  else if n < f.funcs.length ∧ (f.funcs.getD n fn0).typ.1.length ≤ s.stack.length ∧ (f.funcs.getD n fn0).typ.1.length ≤ (f.funcs.getD n fn0).locals ∧ (f.funcs.getD n fn0).locals ≤ 1000 then some (0, enterR f s n) else none
def controlR (f : Flat) (s : Mc) (x : Ins) : Option (Nat × Mc) :=
  if x.op = 0 then some (1, s)
  else if x.op = 1 ∨ x.op = 2 ∨ x.op = 3 then some (0, s)
  else if x.op = 4 then (if s.stack.length = 0 then none else if topR s = 0 then jumpB (popR s) x else some (0, popR s))
  else if x.op = 5 ∨ x.op = 12 then jumpB s x
  else if x.op = 11 then (if 0 < s.calls.length ∧ (curR s).1 ≤ (curR s).2.1 ∧ (curR s).2.1 ≤ s.stack.length then some (0, leaveR s) else none)
  else if x.op = 13 then (if s.stack.length = 0 then none else if topR s = 0 then some (0, popR s) else jumpB (popR s) x)
  else if x.op = 14 then (if s.stack.length = 0 ∨ topR s < 0 then none else if s.pos + (min (topR s) x.num).toNat < f.code.length then jumpB (popR s) (f.code.getD (s.pos + (min (topR s) x.num).toNat) ins0) else none)
  else if x.op = 16 then enterB f s x.num
  else none
structure Flat.Ok (f : Flat) : Prop where
  nf : f.funcs.length ≤ 1000
  nc : f.code.length ≤ 1000000000
  nm : ∀ x ∈ f.code, x.op = 16 → x.num < 1000000
abbrev insAgg (x : Ins) : Value := .agg #[.int .u8 x.op.toNat, .int .u64 x.num, .int .i64 x.goal, .int .i64 x.height, .int .i64 x.keep]
abbrev insObj (x : Ins) : Obj := .cells #[.int .u8 x.op.toNat, .int .u64 x.num, .int .i64 x.goal, .int .i64 x.height, .int .i64 x.keep] 214
def RDone (E : MEnv) (w w' : World) (m : Option (Nat × Mc)) (r : Ending) : Prop := ∀ t s', m = some (t, s') → r = .returned (.int .i64 t) ∧ MSt E w' s' ∧ Kp (upm E) w w'
section
variable {E : MEnv} {w : World} {s : Mc}
theorem MSt.box (h : MSt E w s) (o : Obj) : MSt (E.plus (fun b => b = w.heap.size)) (w.alloc o) s := h.guard ((Kp.refl no w).alloc o) _ (fun b hb => ⟨by rw [hb]; exact Nat.le_refl _, by rw [hb]; simp⟩)
theorem jump_plus {P : Nat → Prop} (h : MSt (E.plus P) w s) (hc1 : s.calls.length ≤ 16) (hs : s.stack.length ≤ 1000000000) {x : Ins} (hj : jumpOk s x = true) :
    Calls Tryz.prog 163 #[ptrTo E.mb, .agg #[.int .i64 x.goal, .int .i64 x.height, .int .i64 x.keep]] w fun r w' => r = .returned (.tuple #[]) ∧ MSt (E.plus P) w' (jumpR s x) ∧ Kp (upm (E.plus P)) w w' :=
  jumpR_any h (jumpOk_spec hj).1 hc1 hs (jumpOk_spec hj).2
theorem take_plus {P : Nat → Prop} (h : MSt (E.plus P) w s) (hs0 : 0 < s.stack.length) (hs : s.stack.length ≤ 1000000000) :
    Calls Tryz.prog 73 #[ptrTo E.mb] w fun r w' => r = .returned (.int .u64 (topR s)) ∧ MSt (E.plus P) w' (popR s) ∧ Kp (upm (E.plus P)) w w' := takeR_any h hs0 hs
theorem put_plus {P : Nat → Prop} (h : MSt (E.plus P) w s) (v : Int) (hs : s.stack.length ≤ 1000000000) :
    Calls Tryz.prog 134 #[ptrTo E.mb, .int .u64 v] w fun r w' => r = .returned (.tuple #[]) ∧ MSt (E.plus P) w' (putR s v) ∧ Kp (upm (E.plus P)) w w' := putR_any h v hs
theorem pop_len (s : Mc) : (popR s).stack.length ≤ s.stack.length := by unfold popR; simp
set_option maxRecDepth 100000 in
set_option maxHeartbeats 1000000 in
theorem control_still (h : MSt E w s) {x : Ins} {t : Nat} (hx : (x.op = 0 ∧ t = 1) ∨ ((x.op = 1 ∨ x.op = 2 ∨ x.op = 3) ∧ t = 0)) :
    Calls Tryz.prog 130 #[ptrTo E.mb, insAgg x] w fun r w' => r = .returned (.int .i64 t) ∧ MSt E w' s ∧ Kp (upm E) w w' := by
  have hf := h.quiet ((Kp.refl no w).alloc (insObj x))
  have HF := hide hf
  clear h hf
  obtain ⟨op, num, goal, height, keep⟩ := x
  simp only at hx
  rcases hx with ⟨rfl, rfl⟩ | ⟨rfl | rfl | rfl, rfl⟩
  all_goals
    go_enter Tryz.func130, Tryz.ntmps130
    go_wp2
    go_ret
    exact ⟨rfl, HF.out, (Kp.refl _ _).alloc _⟩
set_option maxRecDepth 100000 in
set_option maxHeartbeats 1000000 in
theorem control_jump (h : MSt E w s) (hc1 : s.calls.length ≤ 16) (hs : s.stack.length ≤ 1000000000) {x : Ins} (hx : x.op = 5 ∨ x.op = 12) (hj : jumpOk s x = true) :
    Calls Tryz.prog 130 #[ptrTo E.mb, insAgg x] w fun r w' => r = .returned (.int .i64 0) ∧ MSt E w' (jumpR s x) ∧ Kp (upm E) w w' := by
  have hro := h.roLo
  have hju := jump_plus (h.box (insObj x)) hc1 hs hj
  have HJ := hide hju
  have HRo := hide hro
  generalize jumpR s x = R at *
  obtain ⟨op, num, goal, height, keep⟩ := x
  simp only at hx HJ
  clear h hju hro hj
  rcases hx with rfl | rfl
  all_goals
    go_enter Tryz.func130, Tryz.ntmps130
    go_wp2_with fail
    refine HJ.out.mono ?_
    rintro e w1 ⟨rfl, h1, k1⟩
    have H1 := hide h1
    have K1 := hide k1
    clear h1 k1
    go_wp2
    go_ret
    exact ⟨rfl, H1.out.free HRo.out, ((Kp.refl _ _).alloc _).trans (upm_plus K1.out)⟩
set_option maxRecDepth 100000 in
set_option maxHeartbeats 1000000 in
theorem control_pop (h : MSt E w s) (hs0 : 0 < s.stack.length) (hs : s.stack.length ≤ 1000000000) {x : Ins} (hx : (x.op = 4 ∧ (topR s == 0) = false) ∨ (x.op = 13 ∧ (topR s == 0) = true)) :
    Calls Tryz.prog 130 #[ptrTo E.mb, insAgg x] w fun r w' => r = .returned (.int .i64 0) ∧ MSt E w' (popR s) ∧ Kp (upm E) w w' := by
  have hro := h.roLo
  have hta := take_plus (h.box (insObj x)) hs0 hs
  have HT := hide hta
  have HRo := hide hro
  generalize popR s = R at *
  generalize topR s = v at *
  obtain ⟨op, num, goal, height, keep⟩ := x
  simp only at hx HT
  clear h hta hro
  rcases hx with ⟨rfl, hv⟩ | ⟨rfl, hv⟩
  all_goals
    go_enter Tryz.func130, Tryz.ntmps130
    go_wp2_with fail
    refine HT.out.mono ?_
    rintro e w1 ⟨rfl, h1, k1⟩
    have H1 := hide h1
    have K1 := hide k1
    clear h1 k1
    go_wp2
    go_ret
    exact ⟨rfl, H1.out.free HRo.out, ((Kp.refl _ _).alloc _).trans (upm_plus K1.out)⟩
set_option maxRecDepth 100000 in
set_option maxHeartbeats 1000000 in
theorem control_popjump (h : MSt E w s) (hc1 : s.calls.length ≤ 16) (hs0 : 0 < s.stack.length) (hs : s.stack.length ≤ 1000000000) {x : Ins} (hx : (x.op = 4 ∧ (topR s == 0) = true) ∨ (x.op = 13 ∧ (topR s == 0) = false)) (hj : jumpOk (popR s) x = true) :
    Calls Tryz.prog 130 #[ptrTo E.mb, insAgg x] w fun r w' => r = .returned (.int .i64 0) ∧ MSt E w' (jumpR (popR s) x) ∧ Kp (upm E) w w' := by
  have hro := h.roLo
  have hta := take_plus (h.box (insObj x)) hs0 hs
  have hju := fun W (hW : MSt (E.plus (fun b => b = w.heap.size)) W (popR s)) => jump_plus hW hc1 (Nat.le_trans (pop_len s) hs) hj
  have HT := hide hta
  have HJ := hide hju
  have HRo := hide hro
  generalize jumpR (popR s) x = R at *
  generalize popR s = R1 at *
  generalize topR s = v at *
  obtain ⟨op, num, goal, height, keep⟩ := x
  simp only at hx HT HJ
  clear h hta hro hju hj
  rcases hx with ⟨rfl, hv⟩ | ⟨rfl, hv⟩
  all_goals
    go_enter Tryz.func130, Tryz.ntmps130
    go_wp2_with fail
    refine HT.out.mono ?_
    rintro e w1 ⟨rfl, h1, k1⟩
    have H1 := hide h1
    have K1 := hide k1
    have hb := (cells_of (k1.blk (heap_alloc_new w _) (fun h => h (.inr rfl)))).1
    clear h1 k1
    go_wp2_with fail
    refine (HJ.out _ H1.out).mono ?_
    rintro e w2 ⟨rfl, h2, k2⟩
    have H2 := hide h2
    have K2 := hide k2
    clear h2 k2
    go_wp2
    go_ret
    exact ⟨rfl, H2.out.free HRo.out, ((Kp.refl _ _).alloc _).trans (upm_plus (K1.out.trans K2.out))⟩
set_option maxRecDepth 100000 in
set_option maxHeartbeats 1000000 in
theorem control_end (h : MSt E w s) (hc0 : 0 < s.calls.length) (hc1 : s.calls.length ≤ 16) (hs : s.stack.length ≤ 1000000000) (hl1 : (curR s).1 ≤ (curR s).2.1) (hl2 : (curR s).2.1 ≤ s.stack.length) {x : Ins} (hx : x.op = 11) :
    Calls Tryz.prog 130 #[ptrTo E.mb, insAgg x] w fun r w' => r = .returned (.int .i64 0) ∧ MSt E w' (leaveR s) ∧ Kp (upm E) w w' := by
  have hro := h.roLo
  have hle : Calls Tryz.prog 164 #[ptrTo E.mb] (w.alloc (insObj x)) fun r w' => r = .returned (.tuple #[]) ∧ MSt (E.plus (fun b => b = w.heap.size)) w' (leaveR s) ∧ Kp (upm (E.plus (fun b => b = w.heap.size))) (w.alloc (insObj x)) w' := leaveR_any (h.box (insObj x)) hc0 hc1 hs hl1 hl2
  have HT := hide hle
  have HRo := hide hro
  generalize leaveR s = R at *
  obtain ⟨op, num, goal, height, keep⟩ := x
  simp only at hx HT
  clear h hle hro
  subst hx
  go_enter Tryz.func130, Tryz.ntmps130
  go_wp2_with fail
  refine HT.out.mono ?_
  rintro e w1 ⟨rfl, h1, k1⟩
  have H1 := hide h1
  have K1 := hide k1
  clear h1 k1
  go_wp2
  go_ret
  exact ⟨rfl, H1.out.free HRo.out, ((Kp.refl _ _).alloc _).trans (upm_plus K1.out)⟩
set_option maxRecDepth 100000 in
set_option maxHeartbeats 1000000 in
theorem control_call (h : MSt E w s) (hc1 : s.calls.length ≤ 16) (hs : s.stack.length ≤ 1000000000) (hok : E.f.Ok) {x : Ins} (hx : x.op = 16) (hnum : x.num < 1000000) {t : Nat} {s' : Mc} (hm : enterB E.f s x.num = some (t, s')) :
    Calls Tryz.prog 130 #[ptrTo E.mb, insAgg x] w fun r w' => r = .returned (.int .i64 t) ∧ MSt E w' s' ∧ Kp (upm E) w w' := by
  have hro := h.roLo
  have hen : Calls Tryz.prog 71 #[ptrTo E.mb, .int .i64 x.num] (w.alloc (insObj x)) fun r w' => r = .returned (.int .i64 t) ∧ MSt (E.plus (fun b => b = w.heap.size)) w' s' ∧ Kp (upm (E.plus (fun b => b = w.heap.size))) (w.alloc (insObj x)) w' := by
    unfold enterB at hm
    split at hm
    · rename_i h16
      cases hm
      refine (enterR_full (h.box (insObj x)) h16 x.num).mono ?_
      rintro e w1 ⟨rfl, rfl⟩
      exact ⟨rfl, h.box _, Kp.refl _ _⟩
    · rename_i h16
      split at hm
      · rename_i hcond
        cases hm
        exact enterR_any (h.box (insObj x)) (by omega) hs hcond.1 hok.nf hcond.2.1 hcond.2.2.1 hcond.2.2.2
      · cases hm
  have HT := hide hen
  have HRo := hide hro
  obtain ⟨op, num, goal, height, keep⟩ := x
  simp only at hx HT hnum
  have hw : IntKind.i64.wrap (num : Int) = num := by rw [IntKind.wrap_i64]; omega
  clear h hen hro hm
  subst hx
  go_enter Tryz.func130, Tryz.ntmps130
  go_wp2_with fail
  refine HT.out.mono ?_
  rintro e w1 ⟨rfl, h1, k1⟩
  have H1 := hide h1
  have K1 := hide k1
  clear h1 k1
  go_wp2
  go_ret
  exact ⟨rfl, H1.out.free HRo.out, ((Kp.refl _ _).alloc _).trans (upm_plus K1.out)⟩
end
section
variable {E : MEnv} {w : World} {s : Mc}
theorem MSt.ins (h : MSt E w s) {n : Nat} (hn : n < E.f.code.length) : ∃ fv gv cv a o cap, w.heap[E.fb]? = some (.cells #[fv, gv, .int .i64 E.f.pages, cv] E.ft) ∧ cv = .slice (some ⟨a, o, none⟩) E.f.code.length cap ∧ E.f.code.length ≤ cap ∧ E.lo E.fb ∧ E.lo a ∧
    w.cell? ⟨a, o + n * 5, none⟩ = some (.int .u8 (E.f.code.getD n ins0).op.toNat) ∧ w.cell? ⟨a, o + n * 5 + 1, none⟩ = some (.int .u64 (E.f.code.getD n ins0).num) ∧
    w.cell? ⟨a, o + n * 5 + 2, none⟩ = some (.int .i64 (E.f.code.getD n ins0).goal) ∧ w.cell? ⟨a, o + n * 5 + 3, none⟩ = some (.int .i64 (E.f.code.getD n ins0).height) ∧ w.cell? ⟨a, o + n * 5 + 4, none⟩ = some (.int .i64 (E.f.code.getD n ins0).keep) := by
  have hro := h.roLo
  obtain ⟨fv, gv, cv, hm⟩ := h.mod
  obtain ⟨ad, cap, hfv, hcap, hk⟩ := hm.code
  obtain ⟨a, o, rfl, hra, h1, h2, h3, h4, h5⟩ := hk n hn
  exact ⟨fv, gv, cv, a, o, cap, hm.blk, hfv, hcap, hro _ hm.own, hro _ hra, h1, h2, h3, h4, h5⟩
theorem MSt.insP {P : Nat → Prop} (h : MSt (E.plus P) w s) {n : Nat} (hn : n < E.f.code.length) : ∃ fv gv cv a o cap, w.heap[E.fb]? = some (.cells #[fv, gv, .int .i64 E.f.pages, cv] E.ft) ∧ cv = .slice (some ⟨a, o, none⟩) E.f.code.length cap ∧ E.f.code.length ≤ cap ∧ (E.plus P).lo E.fb ∧ (E.plus P).lo a ∧
    w.cell? ⟨a, o + n * 5, none⟩ = some (.int .u8 (E.f.code.getD n ins0).op.toNat) ∧ w.cell? ⟨a, o + n * 5 + 1, none⟩ = some (.int .u64 (E.f.code.getD n ins0).num) ∧
    w.cell? ⟨a, o + n * 5 + 2, none⟩ = some (.int .i64 (E.f.code.getD n ins0).goal) ∧ w.cell? ⟨a, o + n * 5 + 3, none⟩ = some (.int .i64 (E.f.code.getD n ins0).height) ∧ w.cell? ⟨a, o + n * 5 + 4, none⟩ = some (.int .i64 (E.f.code.getD n ins0).keep) := h.ins hn
theorem enters_jump : ∀ args w, (callFunc 163 args).run Tryz.prog w = .ok (.enter 163 args) w := enters_of Tryz.func163 (by kernel_rfl) rfl
set_option maxRecDepth 100000 in
set_option maxHeartbeats 2000000 in
theorem control_table (h : MSt E w s) (hc1 : s.calls.length ≤ 16) (hs0 : 0 < s.stack.length) (hs : s.stack.length ≤ 1000000000) (hok : E.f.Ok) {x : Ins} (hx : x.op = 14) (hv0 : 0 ≤ topR s) (hlt : s.pos + (min (topR s) x.num).toNat < E.f.code.length)
    (hj : jumpOk (popR s) (E.f.code.getD (s.pos + (min (topR s) x.num).toNat) ins0) = true) :
    Calls Tryz.prog 130 #[ptrTo E.mb, insAgg x] w fun r w' => r = .returned (.int .i64 0) ∧ MSt E w' (jumpR (popR s) (E.f.code.getD (s.pos + (min (topR s) x.num).toNat) ins0)) ∧ Kp (upm E) w w' := by
  have hro := h.roLo
  have hnc := hok.nc
  have hbx := h.box (insObj x)
  have hta := fun W (kW : Kp no (w.alloc (insObj x)) W) => take_plus (hbx.quiet kW) hs0 hs
  have hju := fun W (hW : MSt (E.plus (fun b => b = w.heap.size)) W (popR s)) => jump_plus hW hc1 (Nat.le_trans (pop_len s) hs) hj
  have hins := fun W (hW : MSt (E.plus (fun b => b = w.heap.size)) W (popR s)) => hW.insP hlt
  have hpp : (popR s).pos = s.pos := rfl
  obtain ⟨d, hd⟩ : ∃ d, d = (min (topR s) x.num).toNat := ⟨_, rfl⟩
  have hmin : min (topR s) (x.num : Int) = (d : Int) := by omega
  rw [← hd] at hju hins hlt
  rw [← hd]
  generalize E.f.code.getD (s.pos + d) ins0 = y at *
  have HT := hide hta
  have HJ := hide hju
  have HI := hide hins
  have HRo := hide hro
  generalize hR : jumpR (popR s) y = R at *
  generalize topR s = v at *
  obtain ⟨op, num, goal, height, keep⟩ := x
  simp only at hx HT hmin
  subst hx
  have hbo : (w.alloc (.cells #[.int .u8 14, .int .u64 num, .int .i64 goal, .int .i64 height, .int .i64 keep] 214)).heap[w.heap.size]? = some (.cells #[.int .u8 14, .int .u64 num, .int .i64 goal, .int .i64 height, .int .i64 keep] 214) := heap_alloc_new _ _
  have HBo := hide hbo
  clear h hta hro hju hj hins hbx hbo hR hd
  go_enter Tryz.func130, Tryz.ntmps130
  go_wp2_with fail
  refine wp_region_S 6 (fun w' => ∀ q, w'.cell? ⟨w.heap.size, q, none⟩ = #[.int .u8 14, .int .u64 num, .int .i64 goal, .int .i64 height, .int .i64 keep][q]?) (by kernel_rfl) (n := 6) (listed := #[false, false, false, false, false, false]) rfl (by kernel_rfl) ?hS (fun hS => ?_)
  case hS => exact (cells_of (w := (w.alloc _).drew) HBo.out).1
  refine tk 0 [] rfl (by kernel_rfl) rfl (fun _ _ _ h => h) hS (fun _ h => by (try dsimp only at h); go_simp; all_goals with_reducible rfl) ?_
  simp only [pS]
  refine tk 2 [] rfl (by kernel_rfl) rfl (fun _ _ _ h => h) hS (fun _ h => by (try dsimp only at h); go_simp; all_goals with_reducible rfl) ?_
  simp only [pS]
  refine tk 3 [] rfl (by kernel_rfl) rfl (fun _ _ _ h => h) hS (fun _ h => by (try dsimp only at h); go_simp; all_goals with_reducible rfl) ?_
  simp only [pS]
  refine wpAnyS_one 1 (listed' := #[true, true, true, true, false, false]) rfl (by kernel_rfl) (by kernel_rfl) (fun K hK => ?_)
  refine step_call (by rfl) 73 _ _ (by rfl) enters_take _ (by rfl) (HT.out _ ((Kp.refl _ _).drew)) ?_
  rintro e w1 ⟨rfl, h1, k1⟩
  refine ⟨_, rfl, hK _ _ (cells_of (k1.blk HBo.out (fun h => h (.inr rfl)))).1 (fun hS => ?_)⟩
  clear hK K
  simp only [pS]
  refine wpAnyS_one 4 (listed' := #[true, true, true, true, true, false]) rfl (by kernel_rfl) (by kernel_rfl) (fun K hK => ?_)
  go_simp
  refine hK _ _ hS (fun hS => ?_)
  clear hK K
  refine wpAnyS_one 5 (listed' := #[true, true, true, true, true, true]) rfl (by kernel_rfl) (by kernel_rfl) (fun K hK => ?_)
  go_simp
  refine hK _ _ hS (fun hS => ?_)
  clear hK K hS
  refine wpAnyS_done (by kernel_rfl) ?_ _
  obtain ⟨fv, gv, cdv, a, o, cap, hfb, hcdv, hcap, hlf, hla, c0, c1, c2, c3, c4⟩ := HI.out _ h1
  obtain ⟨sv, cv, hmo, ⟨ad, caps, hsv, -⟩, -, -, -, -, -, -, -, -, -, -, -, -, hlo⟩ := h1.open
  subst hcdv
  have hmo' : w1.heap[E.mb]? = some (.cells #[ptrTo E.fb, ptrTo E.sb, sv, cv, .int .i64 s.pos, .int .i64 s.fuel] 172) := hmo
  have hfb' : w1.heap[E.fb]? = some (.cells #[fv, gv, .int .i64 E.f.pages, .slice (some ⟨a, o, none⟩) E.f.code.length cap] E.ft) := hfb
  have d1 : w1.cell? ⟨a, o + (s.pos + d) * 5 + 2, none⟩ = some (.int .i64 y.goal) := c2
  have d2 : w1.cell? ⟨a, o + (s.pos + d) * 5 + 2 + 1, none⟩ = some (.int .i64 y.height) := c3
  have d3 : w1.cell? ⟨a, o + (s.pos + d) * 5 + 2 + 2, none⟩ = some (.int .i64 y.keep) := c4
  have hw1 : IntKind.i64.wrap (d : Int) = d := by rw [IntKind.wrap_i64]; omega
  have hw2 : IntKind.i64.wrap ((s.pos : Int) + (d : Int)) = ((s.pos + d : Nat) : Int) := by rw [IntKind.wrap_i64]; omega
  have hw3 : s.pos + d < E.f.code.length := hlt
  obtain ⟨k, hk⟩ : ∃ k, k = s.pos + d := ⟨_, rfl⟩
  rw [← hk] at d1 d2 d3 hw2 hw3
  obtain ⟨S, hSd⟩ : ∃ S : World → Prop, S = fun w' => (∀ q, w'.cell? ⟨E.mb, q, none⟩ = #[ptrTo E.fb, ptrTo E.sb, sv, cv, .int .i64 s.pos, .int .i64 s.fuel][q]?) ∧ (∀ q, w'.cell? ⟨E.fb, q, none⟩ = #[fv, gv, .int .i64 E.f.pages, .slice (some ⟨a, o, none⟩) E.f.code.length cap][q]?) ∧ w'.cell? ⟨a, o + k * 5 + 2, none⟩ = some (.int .i64 y.goal) ∧ w'.cell? ⟨a, o + k * 5 + 2 + 1, none⟩ = some (.int .i64 y.height) ∧ w'.cell? ⟨a, o + k * 5 + 2 + 2, none⟩ = some (.int .i64 y.keep) := ⟨_, rfl⟩
  have hSk : S w1.drew := by rw [hSd]; exact ⟨(cells_of (w := w1.drew) hmo').1, (cells_of (w := w1.drew) hfb').1, d1, d2, d3⟩
  have hju := HJ.out _ (h1.quiet ((Kp.refl no w1).drew))
  have HSk := hide hSk
  have HSd := hide hSd
  have HJu := hide hju
  have K1 := hide k1
  clear hju h1 k1 hmo hmo' hfb hfb' c0 c1 c2 c3 c4 d1 d2 d3 hSk hSd hlo HI HJ HT hmin hk hlt hpp
  go_wp2_with fail
  refine wp_region_S 18 (S) (by kernel_rfl) (n := 19) (listed := #[false, false, false, false, false, false, false, false, false, false, false, false, false, false, false, false, false, false, false]) rfl (by kernel_rfl) ?hS (fun hS => ?_)
  case hS => exact HSk.out
  have hSd := HSd.out
  subst hSd
  refine tk 0 [] rfl (by kernel_rfl) rfl (fun _ _ _ h => h) hS (fun _ h => by (try dsimp only at h); go_simp; all_goals with_reducible rfl) ?_
  simp only [pS]
  refine tk 1 [2,3,4,5,6,7,15,16,17] rfl (by kernel_rfl) rfl (fun _ _ _ h => h) hS (fun _ h => by (try dsimp only at h); go_simp; all_goals with_reducible rfl) ?_
  simp only [pS]
  refine tk 2 [3,4,5,6,7,15,16,17] rfl (by kernel_rfl) rfl (fun _ _ _ h => h) hS (fun _ h => by (try dsimp only at h); go_simp; all_goals with_reducible rfl) ?_
  simp only [pS]
  refine tk 3 [4,5,6,7,15,16,17] rfl (by kernel_rfl) rfl (fun _ _ _ h => h) hS (fun _ h => by (try dsimp only at h); go_simp; all_goals with_reducible rfl) ?_
  simp only [pS]
  refine tk 4 [5,6,7,15,16,17] rfl (by kernel_rfl) rfl (fun _ _ _ h => h) hS (fun _ h => by (try dsimp only at h); go_simp; all_goals with_reducible rfl) ?_
  simp only [pS]
  refine tk 5 [6,7,15,16,17] rfl (by kernel_rfl) rfl (fun _ _ _ h => h) hS (fun _ h => by (try dsimp only at h); go_simp; all_goals with_reducible rfl) ?_
  simp only [pS]
  refine tk 6 [7,15,16,17] rfl (by kernel_rfl) rfl (fun _ _ _ h => h) hS (fun _ h => by (try dsimp only at h); go_simp; all_goals with_reducible rfl) ?_
  simp only [pS]
  refine tk 7 [15,16,17] rfl (by kernel_rfl) rfl (fun _ _ _ h => h) hS (fun _ h => by (try dsimp only at h); go_simp; all_goals with_reducible rfl) ?_
  simp only [pS]
  refine tk 8 [9,10,11,14,15,16,17] rfl (by kernel_rfl) rfl (fun _ _ _ h => h) hS (fun _ h => by (try dsimp only at h); go_simp; all_goals with_reducible rfl) ?_
  simp only [pS]
  refine tk 9 [10,11,14,15,16,17] rfl (by kernel_rfl) rfl (fun _ _ _ h => h) hS (fun _ h => by (try dsimp only at h); go_simp; all_goals with_reducible rfl) ?_
  simp only [pS]
  refine tk 10 [11,14,15,16,17] rfl (by kernel_rfl) rfl (fun _ _ _ h => h) hS (fun _ h => by (try dsimp only at h); go_simp; all_goals with_reducible rfl) ?_
  simp only [pS]
  refine tk 11 [14,15,16,17] rfl (by kernel_rfl) rfl (fun _ _ _ h => h) hS (fun _ h => by (try dsimp only at h); go_simp; all_goals with_reducible rfl) ?_
  simp only [pS]
  refine tk 12 [13,14,15,16,17] rfl (by kernel_rfl) rfl (fun _ _ _ h => h) hS (fun _ h => by (try dsimp only at h); go_simp; all_goals with_reducible rfl) ?_
  simp only [pS]
  refine tk 13 [14,15,16,17] rfl (by kernel_rfl) rfl (fun _ _ _ h => h) hS (fun _ h => by (try dsimp only at h); go_simp; all_goals with_reducible rfl) ?_
  simp only [pS]
  refine tk 14 [15,16,17] rfl (by kernel_rfl) rfl (fun _ _ _ h => h) hS (fun _ h => by (try dsimp only at h); go_simp; all_goals with_reducible rfl) ?_
  simp only [pS]
  refine tk 15 [16,17] rfl (by kernel_rfl) rfl (fun _ _ _ h => h) hS (fun _ h => by (try dsimp only at h); go_simp; all_goals with_reducible rfl) ?_
  simp only [pS]
  refine tk 16 [17] rfl (by kernel_rfl) rfl (fun _ _ _ h => h) hS (fun _ h => by (try dsimp only at h); go_simp; all_goals with_reducible rfl) ?_
  simp only [pS]
  refine tk 17 [] rfl (by kernel_rfl) rfl (fun _ _ _ h => h) hS (fun _ h => by (try dsimp only at h); go_simp; all_goals with_reducible rfl) ?_
  simp only [pS]
  refine wpAnyS_end 18 (listed' := #[true, true, true, true, true, true, true, true, true, true, true, true, true, true, true, true, true, true, true]) rfl (by kernel_rfl) (by kernel_rfl) (by kernel_rfl) (fun K hK => ?_)
  refine step_call (by rfl) 163 _ _ (by rfl) enters_jump _ (by rfl) HJu.out ?_
  rintro e w2 ⟨rfl, h2, k2⟩
  refine ⟨_, rfl, hK _ _ ?_⟩
  clear hK K hS HSk HSd HJu
  refine wpAnyS_done (by kernel_rfl) ?_ _
  have H2 := hide h2
  have K2 := hide k2
  clear h2 k2
  go_wp2
  go_ret
  exact ⟨rfl, H2.out.free HRo.out, (((Kp.refl _ _).alloc _).drew).trans (upm_plus ((K1.out.drew).trans K2.out))⟩
theorem control_any (h : MSt E w s) (hc1 : s.calls.length ≤ 16) (hs : s.stack.length ≤ 1000000000) (hok : E.f.Ok) {x : Ins} (hnum : x.op = 16 → x.num < 1000000) {t : Nat} {s' : Mc} (hm : controlR E.f s x = some (t, s')) :
    Calls Tryz.prog 130 #[ptrTo E.mb, insAgg x] w fun r w' => r = .returned (.int .i64 t) ∧ MSt E w' s' ∧ Kp (upm E) w w' := by
  unfold controlR at hm
  split at hm
  · rename_i hop; cases hm; exact control_still h (.inl ⟨hop, rfl⟩)
  split at hm
  · rename_i hop; cases hm; exact control_still h (.inr ⟨hop, rfl⟩)
  split at hm
  · rename_i hop
    split at hm
    · cases hm
    · rename_i hl
      split at hm
      · rename_i hv
        unfold jumpB at hm
        split at hm
        · rename_i hj
          cases hm
          exact control_popjump h hc1 (by omega) hs (.inl ⟨hop, by simpa using hv⟩) hj
        · cases hm
      · rename_i hv
        cases hm
        exact control_pop h (by omega) hs (.inl ⟨hop, by simpa using hv⟩)
  split at hm
  · rename_i hop
    unfold jumpB at hm
    split at hm
    · rename_i hj
      cases hm
      exact control_jump h hc1 hs hop hj
    · cases hm
  split at hm
  · rename_i hop
    split at hm
    · rename_i hl
      cases hm
      exact control_end h hl.1 hc1 hs hl.2.1 hl.2.2 hop
    · cases hm
  split at hm
  · rename_i hop
    split at hm
    · cases hm
    · rename_i hl
      split at hm
      · rename_i hv
        cases hm
        exact control_pop h (by omega) hs (.inr ⟨hop, by simpa using hv⟩)
      · rename_i hv
        unfold jumpB at hm
        split at hm
        · rename_i hj
          cases hm
          exact control_popjump h hc1 (by omega) hs (.inr ⟨hop, by simpa using hv⟩) hj
        · cases hm
  split at hm
  · rename_i hop
    split at hm
    · cases hm
    · rename_i hl
      split at hm
      · rename_i hlt
        unfold jumpB at hm
        split at hm
        · rename_i hj
          cases hm
          exact control_table h hc1 (by omega) hs hok hop (by omega) hlt hj
        · cases hm
      · cases hm
  split at hm
  · rename_i hop
    exact control_call h hc1 hs hok hop (hnum hop) hm
  · cases hm
end
section
variable {E : MEnv} {w : World} {s : Mc}
theorem MSt.openS (h : MSt E w s) : ∃ mv gv, w.heap[E.sb]? = some (stObj E mv gv) ∧ (∃ ad cap, mv = .slice ad s.mem.length cap ∧ s.mem.length ≤ cap) ∧ (∃ ad cap, gv = .slice ad s.gl.length cap ∧ s.gl.length ≤ cap) ∧
    w.ownsRow E.B 5 1 mv s.mem.length (byteCells' s.mem) ∧ w.ownsRow E.B 38 1 gv s.gl.length (valCells s.gl) ∧ KeysAt w E.kb s.keys ∧ E.sb ≠ E.mb ∧ E.kb ≠ E.mb ∧ E.kb ≠ E.sb ∧
    (some E.mb ≠ mv.ownBlock ∧ some E.sb ≠ mv.ownBlock ∧ some E.mb ≠ gv.ownBlock ∧ some E.sb ≠ gv.ownBlock) ∧
    (∀ b, E.lo b → some b ≠ mv.ownBlock ∧ some b ≠ gv.ownBlock ∧ b ≠ E.sb ∧ b ≠ E.kb) ∧
    (∀ W a k v, Kp no w W → gv.ownBlock = some a → k < s.gl.length → MSt E (W.setCell ⟨a, k, none⟩ (.int .u64 v)) { s with gl := s.gl.set k v } ∧ Kp (upm E) w (W.setCell ⟨a, k, none⟩ (.int .u64 v))) ∧
    (∀ W a k (c : UInt8), Kp no w W → mv.ownBlock = some a → k < s.mem.length → MSt E (W.setCell ⟨a, k, none⟩ (.int .u8 c.toNat)) { s with mem := s.mem.set k c } ∧ Kp (upm E) w (W.setCell ⟨a, k, none⟩ (.int .u8 c.toNat))) ∧
    (∀ W w5 v1 l, Kp no w W → w5.ownsRow E.B 5 1 v1 l.length (byteCells' l) → W.grownBy w5 mv.ownBlock → (v1.ownBlock = mv.ownBlock ∨ v1.ownBlock = some W.heap.size) → MSt E (w5.setCell ⟨E.sb, 0, none⟩ v1) { s with mem := l } ∧ Kp (upm E) w (w5.setCell ⟨E.sb, 0, none⟩ v1)) ∧
    (∀ W w5 m, Kp no w W → KeysAt w5 E.kb m → W.grownBy w5 (some E.kb) → MSt E w5 { s with keys := m } ∧ Kp (upm E) w w5) := by
  obtain ⟨role, sv, cv, mv, gv, h⟩ := h
  have q : ∀ {v : Value} {k : Nat} {b j : Nat}, (∀ b, v.ownBlock = some b → role b = k) → role b = j → j ≠ k → some b ≠ v.ownBlock := fun hv hb hjk e => hjk (by rw [← hb, hv _ e.symm])
  have d : ∀ {a b i j : Nat}, role a = i → role b = j → i ≠ j → a ≠ b := fun ha hb hij e => hij (by rw [← ha, ← hb, e])
  refine ⟨mv, gv, h.st, (RowAt.own h.mem).shape, (RowAt.own h.gl).shape, h.mem, h.gl, h.keys, d h.r2 h.r1 (by decide), d h.r7 h.r1 (by decide), d h.r7 h.r2 (by decide), ⟨q h.r5 h.r1 (by decide), q h.r5 h.r2 (by decide), q h.r6 h.r1 (by decide), q h.r6 h.r2 (by decide)⟩,
    fun b hb => ⟨q h.r5 (h.low b hb) (by decide), q h.r6 (h.low b hb) (by decide), d (h.low b hb) h.r2 (by decide), d (h.low b hb) h.r7 (by decide)⟩, fun W a k v kW ha hk => ?_, fun W a k c kW ha hk => ?_, fun W w5 v1 l kW ho hg hat => ?_, fun W w5 m kW hk hg => ?_⟩
  · have h2 := h.quiet kW
    obtain ⟨ad, cap, rfl, -⟩ := (RowAt.own h2.gl).shape
    obtain ⟨g', cap', hv, -, -⟩ := h2.gl.form (by omega)
    cases hv
    cases ha
    have k5 : Kp (fun b => (fun r => r = 2 ∨ r = 5 ∨ r = 6 ∨ r = 7) (role b)) W (W.setCell ⟨g', k, none⟩ (.int .u64 v)) := (Kp.refl _ W).setAt (.inr (.inr (.inl (h2.r6 g' rfl)))) _ _
    have k1 : Kp (one g') W (W.setCell ⟨g', k, none⟩ (.int .u64 v)) := (Kp.refl _ W).set1 _ _
    have hst := (h2.gl.stored k (.int .u64 v)).1
    have hset : (valCells s.gl).set k (.int .u64 v) = valCells (s.gl.set k v) := by simp [valCells, List.map_set]
    rw [hset] at hst
    have hn : ∀ {b j : Nat}, role b = j → j ≠ 6 → ¬ one g' b := fun hb hj (e : _ = g') => hj (by rw [← hb, e, h2.r6 g' rfl])
    exact ⟨⟨role, sv, cv, mv, _, h2.setSt (s' := { s with gl := s.gl.set k v }) (gv' := .slice (some ⟨g', 0, none⟩) s.gl.length cap) k5 rfl rfl rfl rfl (k1.blk h2.st (hn h2.r2 (by decide))) (k1.own h2.mem (fun b hb => hn (h2.r5 b hb) (by decide))) (by simpa using hst) (h2.keys.kp k1 (hn h2.r7 (by decide))) h2.r5 h2.r6⟩, kW.any.trans (h2.up (X := fun r => r = 2 ∨ r = 5 ∨ r = 6 ∨ r = 7) k5 (by decide))⟩
  · have h2 := h.quiet kW
    obtain ⟨ad, cap, rfl, -⟩ := (RowAt.own h2.mem).shape
    obtain ⟨g', cap', hv, -, -⟩ := h2.mem.form (by omega)
    cases hv
    cases ha
    have k5 : Kp (fun b => (fun r => r = 2 ∨ r = 5 ∨ r = 6 ∨ r = 7) (role b)) W (W.setCell ⟨g', k, none⟩ (.int .u8 c.toNat)) := (Kp.refl _ W).setAt (.inr (.inl (h2.r5 g' rfl))) _ _
    have k1 : Kp (one g') W (W.setCell ⟨g', k, none⟩ (.int .u8 c.toNat)) := (Kp.refl _ W).set1 _ _
    have hst := (h2.mem.stored k (.int .u8 c.toNat)).1
    have hset : (byteCells' s.mem).set k (.int .u8 c.toNat) = byteCells' (s.mem.set k c) := by simp [byteCells', List.map_set]
    rw [hset] at hst
    have hn : ∀ {b j : Nat}, role b = j → j ≠ 5 → ¬ one g' b := fun hb hj (e : _ = g') => hj (by rw [← hb, e, h2.r5 g' rfl])
    exact ⟨⟨role, sv, cv, _, gv, h2.setSt (s' := { s with mem := s.mem.set k c }) (mv' := .slice (some ⟨g', 0, none⟩) s.mem.length cap) k5 rfl rfl rfl rfl (k1.blk h2.st (hn h2.r2 (by decide))) (by simpa using hst) (k1.own h2.gl (fun b hb => hn (h2.r6 b hb) (by decide))) (h2.keys.kp k1 (hn h2.r7 (by decide))) h2.r5 h2.r6⟩, kW.any.trans (h2.up (X := fun r => r = 2 ∨ r = 5 ∨ r = 6 ∨ r = 7) k5 (by decide))⟩
  · have h2 : MStG E W s (newRole role W.heap.size 5) sv cv mv gv := (h.quiet kW).renew 5
    have hv : ∀ b, v1.ownBlock = some b → newRole role W.heap.size 5 b = 5 := by
      intro b hb
      rcases hat with e | e
      · exact h2.r5 b (e ▸ hb)
      · rw [hb] at e; cases e; exact newRole_new (Nat.le_refl _)
    have k4 : Kp (fun b => (fun r => r = 2 ∨ r = 5 ∨ r = 6 ∨ r = 7) (newRole role W.heap.size 5 b)) W w5 := (Kp.refl _ W).grown hg (fun b hb => .inl (.inr (.inl (h2.r5 b hb))))
    have k5 : Kp (fun b => (fun r => r = 2 ∨ r = 5 ∨ r = 6 ∨ r = 7) (newRole role W.heap.size 5 b)) W (w5.setCell ⟨E.sb, 0, none⟩ v1) := k4.setAt (.inl h2.r2) _ _
    have k45 : Kp (fun b => some b = mv.ownBlock ∨ b = E.sb) W (w5.setCell ⟨E.sb, 0, none⟩ v1) := Kp.setAt (S := fun b => some b = mv.ownBlock ∨ b = E.sb) ((Kp.refl _ W).grown hg (fun b hb => .inl (.inl hb.symm))) (.inr rfl) _ _
    have hn : ∀ {b j : Nat}, newRole role W.heap.size 5 b = j → j ≠ 5 → j ≠ 2 → ¬ (some b = mv.ownBlock ∨ b = E.sb) := fun hb h5 h2' e => e.elim (fun e => h5 (by rw [← hb, h2.r5 _ e.symm])) (fun e => h2' (by rw [← hb, e, h2.r2]))
    have hm : w5.heap[E.sb]? = some (stObj E mv gv) := (hg.block E.sb (lt_of_blk h2.st) (fun e => by have := h2.r5 _ e.symm; rw [h2.r2] at this; cases this)).trans h2.st
    have ho' : (w5.setCell ⟨E.sb, 0, none⟩ v1).ownsRow E.B 5 1 v1 l.length (byteCells' l) := ((Kp.refl (one E.sb) w5).set1 _ _).own ho (fun b hb (e : b = E.sb) => by have := hv b hb; rw [e, h2.r2] at this; cases this)
    exact ⟨⟨_, sv, cv, v1, gv, h2.setSt (s' := { s with mem := l }) k5 rfl rfl rfl rfl (heap_setCell hm _) ho' (k45.own h2.gl (fun b hb => hn (h2.r6 b hb) (by decide) (by decide))) (h2.keys.kp k45 (hn h2.r7 (by decide) (by decide))) hv h2.r6⟩, kW.any.trans (h2.up (X := fun r => r = 2 ∨ r = 5 ∨ r = 6 ∨ r = 7) k5 (by decide))⟩
  · have h2 := h.quiet kW
    have k1 : Kp (one E.kb) W w5 := (Kp.refl _ W).grown hg (fun b hb => by cases hb; exact .inl rfl)
    have k5 : Kp (fun b => (fun r => r = 2 ∨ r = 5 ∨ r = 6 ∨ r = 7) (role b)) W w5 := k1.mono (fun b _ (e : b = E.kb) => by rw [e]; exact .inr (.inr (.inr h2.r7)))
    have hn : ∀ {b j : Nat}, role b = j → j ≠ 7 → ¬ one E.kb b := fun hb hj (e : _ = E.kb) => hj (by rw [← hb, e, h2.r7])
    exact ⟨⟨role, sv, cv, mv, gv, h2.setSt (s' := { s with keys := m }) k5 rfl rfl rfl rfl (k1.blk h2.st (hn h2.r2 (by decide))) (k1.own h2.mem (fun b hb => hn (h2.r5 b hb) (by decide))) (k1.own h2.gl (fun b hb => hn (h2.r6 b hb) (by decide))) hk h2.r5 h2.r6⟩, kW.any.trans (h2.up (X := fun r => r = 2 ∨ r = 5 ∨ r = 6 ∨ r = 7) k5 (by decide))⟩
set_option maxRecDepth 100000 in
set_option maxHeartbeats 1000000 in
theorem takeR_one (h : MSt E w s) (hs0 : 0 < s.stack.length) (hs : s.stack.length ≤ 1000000000) :
    Calls Tryz.prog 73 #[ptrTo E.mb] w fun r w' => r = .returned (.int .u64 (topR s)) ∧ MSt E w' (popR s) ∧ Kp (one E.mb) w w' ∧ Kp (upm E) w w' := by
  have hB := h.base
  have hmbl := h.mbLt
  obtain ⟨sv, cv, hmo, ⟨ad, cap, rfl, hcap⟩, -, n1, n2, -, hown, -, -, hup, -⟩ := h.open
  obtain ⟨a, rfl, hcell, hfr⟩ := stack_cell hown rfl (k := s.stack.length - 1) (by omega)
  obtain ⟨hc, hf⟩ := cells_of hmo
  have hres := hup w w (.slice (some ⟨a, 0, none⟩) (s.stack.length - 1) cap) (s.stack.take (s.stack.length - 1)) (Kp.refl no w) (by
    have := own_prefix hown (m := s.stack.length - 1) (by omega)
    rw [List.length_take, show min (s.stack.length - 1) s.stack.length = s.stack.length - 1 by omega]
    simpa [valCells, List.map_take] using this) (grownBy_refl _ _) (.inl rfl)
  have hv : s.stack.getD (s.stack.length - 1) 0 = topR s := rfl
  have HRes := hide hres
  rw [hv] at hcell
  generalize topR s = v at *
  clear h hmo hown hup hres hv
  go_enter Tryz.func73, Tryz.ntmps73
  go_wp2
  go_ret
  exact ⟨rfl, HRes.out.1, (Kp.refl _ _).set1 _ _, HRes.out.2⟩
def chooseR (s : Mc) : Mc := putR (popR (popR (popR s))) (if topR s = 0 then topR (popR s) else topR (popR (popR s)))
set_option maxRecDepth 100000 in
set_option maxHeartbeats 1000000 in
theorem choose_any' (h : MSt E w s) (hs0 : 3 ≤ s.stack.length) (hs : s.stack.length ≤ 1000000000) :
    Calls Tryz.prog 131 #[ptrTo E.mb] w fun r w' => r = .returned (.tuple #[]) ∧ MSt E w' (chooseR s) ∧ Kp (upm E) w w' := by
  have l1 : (popR s).stack.length = s.stack.length - 1 := by unfold popR; simp
  have l2 : (popR (popR s)).stack.length = s.stack.length - 2 := by rw [show (popR (popR s)).stack.length = (popR s).stack.length - 1 by unfold popR; simp, l1]; omega
  have l3 := pop_len (popR (popR s))
  have t1 := takeR_any h (by omega) hs
  have t2 := fun W (hW : MSt E W (popR s)) => takeR_any hW (by omega) (by omega)
  have t3 := fun W (hW : MSt E W (popR (popR s))) => takeR_any hW (by omega) (by omega)
  have hR : chooseR s = putR (popR (popR (popR s))) (if topR s = 0 then topR (popR s) else topR (popR (popR s))) := rfl
  have p1 := fun v W (hW : MSt E W (popR (popR (popR s)))) => putR_any hW v (by omega)
  generalize topR (popR (popR s)) = v3 at *
  generalize topR (popR s) = v2 at *
  generalize topR s = v1 at *
  generalize chooseR s = R at *
  have T1 := hide t1
  have T2 := hide t2
  have T3 := hide t3
  have P1 := hide p1
  have HR := hide hR
  clear h t1 t2 t3 p1 hR l1 l2 l3
  by_cases hv : v1 = 0
  · subst hv
    go_enter Tryz.func131, Tryz.ntmps131
    go_wp2_with fail
    refine T1.out.mono ?_
    rintro e w1 ⟨rfl, h1, k1⟩
    go_wp2_with fail
    refine (T2.out _ h1).mono ?_
    rintro e w2 ⟨rfl, h2, k2⟩
    go_wp2_with fail
    refine (T3.out _ h2).mono ?_
    rintro e w3 ⟨rfl, h3, k3⟩
    go_wp2_with fail
    refine (P1.out _ _ h3).mono ?_
    rintro e w4 ⟨rfl, h4, k4⟩
    go_wp2
    go_end0
    rw [HR.out]
    exact ⟨rfl, h4, ((k1.trans k2).trans k3).trans k4⟩
  · have hb : (v1 == 0) = false := by simpa using hv
    go_enter Tryz.func131, Tryz.ntmps131
    go_wp2_with fail
    refine T1.out.mono ?_
    rintro e w1 ⟨rfl, h1, k1⟩
    go_wp2_with fail
    refine (T2.out _ h1).mono ?_
    rintro e w2 ⟨rfl, h2, k2⟩
    go_wp2_with fail
    refine (T3.out _ h2).mono ?_
    rintro e w3 ⟨rfl, h3, k3⟩
    go_wp2_with fail
    refine (P1.out _ _ h3).mono ?_
    rintro e w4 ⟨rfl, h4, k4⟩
    go_wp2
    go_end0
    rw [HR.out, if_neg hv]
    exact ⟨rfl, h4, ((k1.trans k2).trans k3).trans k4⟩
end
def variableR (s : Mc) (x : Ins) : Option Mc :=
  if x.op = 32 then (if 0 < s.calls.length ∧ (curR s).1 + x.num < s.stack.length then some (putR s (s.stack.getD ((curR s).1 + x.num) 0)) else none)
  else if x.op = 33 then (if 0 < s.calls.length ∧ (curR s).1 + x.num + 1 < s.stack.length then some { popR s with stack := (popR s).stack.set ((curR s).1 + x.num) (topR s) } else none)
  else if x.op = 34 then (if 0 < s.calls.length ∧ (curR s).1 + x.num + 1 < s.stack.length then some (putR { popR s with stack := (popR s).stack.set ((curR s).1 + x.num) (topR s) } (topR s)) else none)
  else if x.op = 35 then (if x.num < s.gl.length then some (putR s (s.gl.getD x.num 0)) else none)
  else if x.op = 36 then (if x.num < s.gl.length ∧ 0 < s.stack.length then some { popR s with gl := s.gl.set x.num (topR s) } else none)
  else none
section
variable {E : MEnv} {w : World} {s : Mc}
theorem local_plus {P : Nat → Prop} (h : MSt (E.plus P) w s) (hc0 : 0 < s.calls.length) (hc1 : s.calls.length ≤ 16) {n : Nat} (hn : (curR s).1 + n ≤ 1000000000) :
    Calls Tryz.prog 165 #[ptrTo E.mb, .int .u64 n] w fun r w' => r = .returned (.int .i64 ((curR s).1 + n : Nat)) ∧ Kp no w w' := localR_any h hc0 hc1 hn
set_option maxRecDepth 100000 in
set_option maxHeartbeats 1000000 in
theorem variable_get (h : MSt E w s) (hc0 : 0 < s.calls.length) (hc1 : s.calls.length ≤ 16) (hs : s.stack.length ≤ 1000000000) {x : Ins} (hx : x.op = 32) (hn : (curR s).1 + x.num < s.stack.length) :
    Calls Tryz.prog 132 #[ptrTo E.mb, insAgg x] w fun r w' => r = .returned (.tuple #[]) ∧ MSt E w' (putR s (s.stack.getD ((curR s).1 + x.num) 0)) ∧ Kp (upm E) w w' := by
  have hro := h.roLo
  have hbx := h.box (insObj x)
  have hlo := fun W (kW : Kp no (w.alloc (insObj x)) W) => local_plus (hbx.quiet kW) hc0 hc1 (n := x.num) (by omega)
  have hput := fun v W (kW : Kp no (w.alloc (insObj x)) W) => put_plus (hbx.quiet kW) v hs
  obtain ⟨sv, cv, hmo, ⟨ad, cap, rfl, hcap⟩, -, -, -, -, hown, -, -, -⟩ := hbx.open
  have hmo' : (w.alloc (insObj x)).heap[E.mb]? = some (.cells #[ptrTo E.fb, ptrTo E.sb, .slice ad s.stack.length cap, cv, .int .i64 s.pos, .int .i64 s.fuel] 172) := hmo
  obtain ⟨a, rfl, hcell, hfr⟩ := stack_cell hown rfl (k := (curR s).1 + x.num) hn
  obtain ⟨op, num, goal, height, keep⟩ := x
  simp only at hx hn hlo hput hcell hmo'
  subst hx
  obtain ⟨k, hk⟩ : ∃ k, k = (curR s).1 + num := ⟨_, rfl⟩
  rw [← hk] at hlo hcell hn ⊢
  generalize s.stack.getD k 0 = v at *
  obtain ⟨W, hW⟩ : ∃ W, W = w.alloc (.cells #[.int .u8 32, .int .u64 num, .int .i64 goal, .int .i64 height, .int .i64 keep] 214) := ⟨_, rfl⟩
  have hbo : W.heap[w.heap.size]? = some (.cells #[.int .u8 32, .int .u64 num, .int .i64 goal, .int .i64 height, .int .i64 keep] 214) := by rw [hW]; exact heap_alloc_new _ _
  have kW : Kp no w W := by rw [hW]; exact (Kp.refl _ _).alloc _
  have hmoW : W.heap[E.mb]? = some (.cells #[ptrTo E.fb, ptrTo E.sb, .slice (some ⟨a, 0, none⟩) s.stack.length cap, cv, .int .i64 s.pos, .int .i64 s.fuel] 172) := by rw [hW]; exact hmo'
  have hcW : W.cell? ⟨a, k, none⟩ = some (.int .u64 v) := by rw [hW]; exact hcell
  have hlo' : ∀ W', Kp no W W' → Calls Tryz.prog 165 #[ptrTo E.mb, .int .u64 num] W' fun r w' => r = .returned (.int .i64 k) ∧ Kp no W' w' := by rw [hW]; exact hlo
  have hput' : ∀ v W', Kp no W W' → Calls Tryz.prog 134 #[ptrTo E.mb, .int .u64 v] W' fun r w' => r = .returned (.tuple #[]) ∧ MSt (E.plus (fun b => b = w.heap.size)) w' (putR s v) ∧ Kp (upm (E.plus (fun b => b = w.heap.size))) W' w' := by rw [hW]; exact hput
  obtain ⟨S, hSd⟩ : ∃ S : World → Prop, S = fun w' => (∀ q, w'.cell? ⟨w.heap.size, q, none⟩ = #[.int .u8 32, .int .u64 num, .int .i64 goal, .int .i64 height, .int .i64 keep][q]?) ∧ (∀ q, w'.cell? ⟨E.mb, q, none⟩ = #[ptrTo E.fb, ptrTo E.sb, .slice (some ⟨a, 0, none⟩) s.stack.length cap, cv, .int .i64 s.pos, .int .i64 s.fuel][q]?) ∧ w'.cell? ⟨a, k, none⟩ = some (.int .u64 v) := ⟨_, rfl⟩
  have hSk : ∀ W', Kp no W W' → S W' := fun W' k => by rw [hSd]; exact ⟨(cells_of (k.blk hbo (fun h => h))).1, (cells_of (k.blk hmoW (fun h => h))).1, k.allCells hcW⟩
  have HSk := hide hSk
  have HSd := hide hSd
  have HL := hide hlo'
  have HP := hide hput'
  have HRo := hide hro
  have KW := hide kW
  have HW := hide hW
  clear h hbx hlo hput hmo hmo' hown hcell hfr hbo hmoW hcW hlo' hput' hSk hSd kW hro hk hW
  go_enter Tryz.func132, Tryz.ntmps132
  go_wp2_with fail
  rw [← HW.out]
  refine wp_region_S 11 (S) (by kernel_rfl) (n := 12) (listed := #[false, false, false, false, false, false, false, false, false, false, false, false]) rfl (by kernel_rfl) ?hS (fun hS => ?_)
  case hS => exact HSk.out _ ((Kp.refl _ _).drew)
  have hSd := HSd.out
  subst hSd
  refine tk 0 [] rfl (by kernel_rfl) rfl (fun _ _ _ h => h) hS (fun _ h => by (try dsimp only at h); go_simp; all_goals with_reducible rfl) ?_
  simp only [pS]
  refine tk 1 [2,3,4,9,10] rfl (by kernel_rfl) rfl (fun _ _ _ h => h) hS (fun _ h => by (try dsimp only at h); go_simp; all_goals with_reducible rfl) ?_
  simp only [pS]
  refine tk 2 [3,4,9,10] rfl (by kernel_rfl) rfl (fun _ _ _ h => h) hS (fun _ h => by (try dsimp only at h); go_simp; all_goals with_reducible rfl) ?_
  simp only [pS]
  refine tk 3 [4,9,10] rfl (by kernel_rfl) rfl (fun _ _ _ h => h) hS (fun _ h => by (try dsimp only at h); go_simp; all_goals with_reducible rfl) ?_
  simp only [pS]
  refine tk 4 [9,10] rfl (by kernel_rfl) rfl (fun _ _ _ h => h) hS (fun _ h => by (try dsimp only at h); go_simp; all_goals with_reducible rfl) ?_
  simp only [pS]
  refine tk 5 [8] rfl (by kernel_rfl) rfl (fun _ _ _ h => h) hS (fun _ h => by (try dsimp only at h); go_simp; all_goals with_reducible rfl) ?_
  simp only [pS]
  refine tk 6 [7,8] rfl (by kernel_rfl) rfl (fun _ _ _ h => h) hS (fun _ h => by (try dsimp only at h); go_simp; all_goals with_reducible rfl) ?_
  simp only [pS]
  refine tk 7 [8] rfl (by kernel_rfl) rfl (fun _ _ _ h => h) hS (fun _ h => by (try dsimp only at h); go_simp; all_goals with_reducible rfl) ?_
  simp only [pS]
  refine wpAnyS_one 8 (listed' := #[true, true, true, true, true, true, true, true, true, false, false, false]) rfl (by kernel_rfl) (by kernel_rfl) (fun K hK => ?_)
  refine step_call (by rfl) 165 _ _ (by rfl) enters_local _ (by rfl) (HL.out _ ((Kp.refl _ _).drew)) ?_
  rintro e w1 ⟨rfl, k1⟩
  have k01 : Kp no W w1 := Kp.trans ((Kp.refl no W).drew) k1
  refine ⟨_, rfl, hK _ _ (HSk.out _ k01) (fun hS => ?_)⟩
  clear hK K
  simp only [pS]
  refine tk 9 [10] rfl (by kernel_rfl) rfl (fun _ _ _ h => h) hS (fun _ h => by (try dsimp only at h); go_simp; all_goals with_reducible rfl) ?_
  simp only [pS]
  refine tk 10 [] rfl (by kernel_rfl) rfl (fun _ _ _ h => h) hS (fun _ h => by (try dsimp only at h); go_simp; all_goals with_reducible rfl) ?_
  simp only [pS]
  refine wpAnyS_end 11 (listed' := #[true, true, true, true, true, true, true, true, true, true, true, true]) rfl (by kernel_rfl) (by kernel_rfl) (by kernel_rfl) (fun K hK => ?_)
  refine step_call (by rfl) 134 _ _ (by rfl) enters_put _ (by rfl) (HP.out _ _ k01) ?_
  rintro e w2 ⟨rfl, h2, k2⟩
  refine ⟨_, rfl, hK _ _ ?_⟩
  clear hK K hS HSk HSd HL HP
  refine wpAnyS_done (by kernel_rfl) ?_ _
  have H2 := hide h2
  have K2 := hide k2
  have K01 := hide k01
  clear h2 k2 k1 k01
  go_wp2
  go_end0
  exact ⟨rfl, H2.out.free HRo.out, (KW.out.any.trans K01.out.any).trans (upm_plus K2.out)⟩
set_option maxRecDepth 100000 in
set_option maxHeartbeats 1000000 in
theorem variable_set (h : MSt E w s) (hc0 : 0 < s.calls.length) (hc1 : s.calls.length ≤ 16) (hs : s.stack.length ≤ 1000000000) {x : Ins} (hx : x.op = 33) (hn : (curR s).1 + x.num + 1 < s.stack.length) :
    Calls Tryz.prog 132 #[ptrTo E.mb, insAgg x] w fun r w' => r = .returned (.tuple #[]) ∧ MSt E w' { popR s with stack := (popR s).stack.set ((curR s).1 + x.num) (topR s) } ∧ Kp (upm E) w w' := by
  have hro := h.roLo
  have hta : Calls Tryz.prog 73 #[ptrTo E.mb] (w.alloc (insObj x)) fun r w' => r = .returned (.int .u64 (topR s)) ∧ MSt (E.plus (fun b => b = w.heap.size)) w' (popR s) ∧ Kp (upm (E.plus (fun b => b = w.heap.size))) (w.alloc (insObj x)) w' := takeR_any (h.box (insObj x)) (by omega) hs
  have lp : (popR s).stack.length = s.stack.length - 1 := by unfold popR; simp
  have hlo := fun W (hW : MSt (E.plus (fun b => b = w.heap.size)) W (popR s)) => local_plus hW hc0 hc1 (n := x.num) (show (curR s).1 + x.num ≤ 1000000000 by omega)
  have hcur : curR (popR s) = curR s := rfl
  rw [hcur] at hlo
  obtain ⟨op, num, goal, height, keep⟩ := x
  simp only at hx hn hlo hta
  subst hx
  obtain ⟨k, hk⟩ : ∃ k, k = (curR s).1 + num := ⟨_, rfl⟩
  rw [← hk] at hlo hn ⊢
  have hbo : (w.alloc (.cells #[.int .u8 33, .int .u64 num, .int .i64 goal, .int .i64 height, .int .i64 keep] 214)).heap[w.heap.size]? = some (.cells #[.int .u8 33, .int .u64 num, .int .i64 goal, .int .i64 height, .int .i64 keep] 214) := heap_alloc_new _ _
  generalize topR s = v at *
  have HT := hide hta
  have HL := hide hlo
  have HRo := hide hro
  have HBo := hide hbo
  clear h hta hlo hbo hro hk hcur
  go_enter Tryz.func132, Tryz.ntmps132
  go_wp2_with fail
  refine HT.out.mono ?_
  rintro e w1 ⟨rfl, h1, k1⟩
  have hbo1 := k1.blk HBo.out (fun h => h (.inr rfl))
  obtain ⟨sv, cv, hmo, ⟨ad, cap, rfl, hcap⟩, -, n1, -, -, hown, -, -, -, -, -, -, hset, -⟩ := h1.open
  rw [lp] at hmo hown hset
  have hmo' : w1.heap[E.mb]? = some (.cells #[ptrTo E.fb, ptrTo E.sb, .slice ad (s.stack.length - 1) cap, cv, .int .i64 s.pos, .int .i64 s.fuel] 172) := hmo
  obtain ⟨a, rfl, hcell, hfr⟩ := stack_cell hown lp.symm (k := k) (by omega)
  have hfin := fun W (kW : Kp no w1 W) => hset W a k v kW rfl (by omega)
  have hklt : k < s.stack.length - 1 := by omega
  obtain ⟨S, hSd⟩ : ∃ S : World → Prop, S = fun w' => (∀ q, w'.cell? ⟨w.heap.size, q, none⟩ = #[.int .u8 33, .int .u64 num, .int .i64 goal, .int .i64 height, .int .i64 keep][q]?) ∧ (∀ q, w'.cell? ⟨E.mb, q, none⟩ = #[ptrTo E.fb, ptrTo E.sb, .slice (some ⟨a, 0, none⟩) (s.stack.length - 1) cap, cv, .int .i64 s.pos, .int .i64 s.fuel][q]?) := ⟨_, rfl⟩
  have hSk : ∀ W', Kp no w1 W' → S W' := fun W' k => by rw [hSd]; exact ⟨(cells_of (k.blk hbo1 (fun h => h))).1, (cells_of (k.blk hmo' (fun h => h))).1⟩
  have hcc : ∀ W', Kp no w1 W' → W'.cell? ⟨a, k, none⟩ = some (.int .u64 ((popR s).stack.getD k 0)) := fun W' k => k.allCells hcell
  have hff : ∀ W', Kp no w1 W' → W'.frozen? ⟨a, k, none⟩ = false := fun W' k => (k.own hown (fun _ _ h => h)).frozenAt _
  have HSk := hide hSk
  have HSd := hide hSd
  have HCc := hide hcc
  have HFf := hide hff
  have HFin := hide hfin
  have HLo := hide (fun W (kW : Kp no w1 W) => HL.out _ (h1.quiet kW))
  have K1 := hide k1
  clear h1 k1 hmo hmo' hown hcell hfr hset hSk hSd hcc hff hfin hbo1 lp
  go_wp2_with fail
  refine wp_region_S 10 (S) (by kernel_rfl) (n := 11) (listed := #[false, false, false, false, false, false, false, false, false, false, false]) rfl (by kernel_rfl) ?hS (fun hS => ?_)
  case hS => exact HSk.out _ ((Kp.refl _ _).drew)
  have hSd := HSd.out
  subst hSd
  refine tk 0 [] rfl (by kernel_rfl) rfl (fun _ _ _ h => h) hS (fun _ h => by (try dsimp only at h); go_simp; all_goals with_reducible rfl) ?_
  simp only [pS]
  refine tk 1 [] rfl (by kernel_rfl) rfl (fun _ _ _ h => h) hS (fun _ h => by (try dsimp only at h); go_simp; all_goals with_reducible rfl) ?_
  simp only [pS]
  refine tk 2 [] rfl (by kernel_rfl) rfl (fun _ _ _ h => h) hS (fun _ h => by (try dsimp only at h); go_simp; all_goals with_reducible rfl) ?_
  simp only [pS]
  refine tk 3 [] rfl (by kernel_rfl) rfl (fun _ _ _ h => h) hS (fun _ h => by (try dsimp only at h); go_simp; all_goals with_reducible rfl) ?_
  simp only [pS]
  refine tk 4 [] rfl (by kernel_rfl) rfl (fun _ _ _ h => h) hS (fun _ h => by (try dsimp only at h); go_simp; all_goals with_reducible rfl) ?_
  simp only [pS]
  refine tk 5 [] rfl (by kernel_rfl) rfl (fun _ _ _ h => h) hS (fun _ h => by (try dsimp only at h); go_simp; all_goals with_reducible rfl) ?_
  simp only [pS]
  refine tk 6 [] rfl (by kernel_rfl) rfl (fun _ _ _ h => h) hS (fun _ h => by (try dsimp only at h); go_simp; all_goals with_reducible rfl) ?_
  simp only [pS]
  refine tk 8 [] rfl (by kernel_rfl) rfl (fun _ _ _ h => h) hS (fun _ h => by (try dsimp only at h); go_simp; all_goals with_reducible rfl) ?_
  simp only [pS]
  refine wpAnyS_one 7 (listed' := #[true, true, true, true, true, true, true, true, true, false, false]) rfl (by kernel_rfl) (by kernel_rfl) (fun K hK => ?_)
  refine step_call (by rfl) 165 _ _ (by rfl) enters_local _ (by rfl) (HLo.out _ ((Kp.refl _ _).drew)) ?_
  rintro e w2 ⟨rfl, k2⟩
  have k12 : Kp no w1 w2 := Kp.trans ((Kp.refl no w1).drew) k2
  have hc2 := HCc.out _ k12
  have hf2 := HFf.out _ k12
  refine ⟨_, rfl, hK _ _ (HSk.out _ k12) (fun hS => ?_)⟩
  clear hK K
  simp only [pS]
  refine tk 9 [] rfl (by kernel_rfl) rfl (fun _ _ _ h => h) hS (fun _ h => by (try dsimp only at h); go_simp; all_goals with_reducible rfl) ?_
  simp only [pS]
  refine wpAnyS_end 10 (listed' := #[true, true, true, true, true, true, true, true, true, true, true]) rfl (by kernel_rfl) (by kernel_rfl) (by kernel_rfl) (fun K hK => ?_)
  go_simp
  refine hK _ _ ?_
  clear hK K hS HSk HSd
  refine wpAnyS_done (by kernel_rfl) ?_ _
  obtain ⟨h3, k3⟩ := HFin.out _ k12
  generalize World.setCell w2 ⟨a, k, none⟩ (.int .u64 v) = w3 at *
  have K3 := hide k3
  have H3 := hide h3
  clear h3 k3 k2 k12 hc2 hf2 HCc HFf HFin
  go_wp2
  go_end0
  exact ⟨rfl, H3.out.free HRo.out, ((Kp.refl _ _).alloc _).trans (upm_plus (K1.out.trans K3.out))⟩
set_option maxRecDepth 100000 in
set_option maxHeartbeats 1000000 in
theorem variable_tee (h : MSt E w s) (hc0 : 0 < s.calls.length) (hc1 : s.calls.length ≤ 16) (hs : s.stack.length ≤ 1000000000) {x : Ins} (hx : x.op = 34) (hn : (curR s).1 + x.num + 1 < s.stack.length) :
    Calls Tryz.prog 132 #[ptrTo E.mb, insAgg x] w fun r w' => r = .returned (.tuple #[]) ∧ MSt E w' (putR { popR s with stack := (popR s).stack.set ((curR s).1 + x.num) (topR s) } (topR s)) ∧ Kp (upm E) w w' := by
  have hro := h.roLo
  have hta : Calls Tryz.prog 73 #[ptrTo E.mb] (w.alloc (insObj x)) fun r w' => r = .returned (.int .u64 (topR s)) ∧ MSt (E.plus (fun b => b = w.heap.size)) w' (popR s) ∧ Kp (upm (E.plus (fun b => b = w.heap.size))) (w.alloc (insObj x)) w' := takeR_any (h.box (insObj x)) (by omega) hs
  have lp : (popR s).stack.length = s.stack.length - 1 := by unfold popR; simp
  have hlo := fun W (hW : MSt (E.plus (fun b => b = w.heap.size)) W (popR s)) => local_plus hW hc0 hc1 (n := x.num) (show (curR s).1 + x.num ≤ 1000000000 by omega)
  have hcur : curR (popR s) = curR s := rfl
  rw [hcur] at hlo
  obtain ⟨op, num, goal, height, keep⟩ := x
  simp only at hx hn hlo hta
  subst hx
  obtain ⟨k, hk⟩ : ∃ k, k = (curR s).1 + num := ⟨_, rfl⟩
  rw [← hk] at hlo hn ⊢
  have hbo : (w.alloc (.cells #[.int .u8 34, .int .u64 num, .int .i64 goal, .int .i64 height, .int .i64 keep] 214)).heap[w.heap.size]? = some (.cells #[.int .u8 34, .int .u64 num, .int .i64 goal, .int .i64 height, .int .i64 keep] 214) := heap_alloc_new _ _
  generalize topR s = v at *
  have HT := hide hta
  have HL := hide hlo
  have HRo := hide hro
  have HBo := hide hbo
  clear h hta hlo hbo hro hk hcur
  go_enter Tryz.func132, Tryz.ntmps132
  go_wp2_with fail
  refine HT.out.mono ?_
  rintro e w1 ⟨rfl, h1, k1⟩
  have hbo1 := k1.blk HBo.out (fun h => h (.inr rfl))
  obtain ⟨sv, cv, hmo, ⟨ad, cap, rfl, hcap⟩, -, n1, -, -, hown, -, -, -, -, -, -, hset, -⟩ := h1.open
  rw [lp] at hmo hown hset
  have hmo' : w1.heap[E.mb]? = some (.cells #[ptrTo E.fb, ptrTo E.sb, .slice ad (s.stack.length - 1) cap, cv, .int .i64 s.pos, .int .i64 s.fuel] 172) := hmo
  obtain ⟨a, rfl, hcell, hfr⟩ := stack_cell hown lp.symm (k := k) (by omega)
  have hfin := fun W (kW : Kp no w1 W) => hset W a k v kW rfl (by omega)
  have hklt : k < s.stack.length - 1 := by omega
  obtain ⟨S, hSd⟩ : ∃ S : World → Prop, S = fun w' => (∀ q, w'.cell? ⟨w.heap.size, q, none⟩ = #[.int .u8 34, .int .u64 num, .int .i64 goal, .int .i64 height, .int .i64 keep][q]?) ∧ (∀ q, w'.cell? ⟨E.mb, q, none⟩ = #[ptrTo E.fb, ptrTo E.sb, .slice (some ⟨a, 0, none⟩) (s.stack.length - 1) cap, cv, .int .i64 s.pos, .int .i64 s.fuel][q]?) := ⟨_, rfl⟩
  have hSk : ∀ W', Kp no w1 W' → S W' := fun W' k => by rw [hSd]; exact ⟨(cells_of (k.blk hbo1 (fun h => h))).1, (cells_of (k.blk hmo' (fun h => h))).1⟩
  have hcc : ∀ W', Kp no w1 W' → W'.cell? ⟨a, k, none⟩ = some (.int .u64 ((popR s).stack.getD k 0)) := fun W' k => k.allCells hcell
  have hff : ∀ W', Kp no w1 W' → W'.frozen? ⟨a, k, none⟩ = false := fun W' k => (k.own hown (fun _ _ h => h)).frozenAt _
  have HSk := hide hSk
  have HSd := hide hSd
  have HCc := hide hcc
  have HFf := hide hff
  have HFin := hide hfin
  have HLo := hide (fun W (kW : Kp no w1 W) => HL.out _ (h1.quiet kW))
  have K1 := hide k1
  clear h1 k1 hmo hmo' hown hcell hfr hset hSk hSd hcc hff hfin hbo1 lp
  go_wp2_with fail
  refine wp_region_S 10 (S) (by kernel_rfl) (n := 11) (listed := #[false, false, false, false, false, false, false, false, false, false, false]) rfl (by kernel_rfl) ?hS (fun hS => ?_)
  case hS => exact HSk.out _ ((Kp.refl _ _).drew)
  have hSd := HSd.out
  subst hSd
  refine tk 0 [] rfl (by kernel_rfl) rfl (fun _ _ _ h => h) hS (fun _ h => by (try dsimp only at h); go_simp; all_goals with_reducible rfl) ?_
  simp only [pS]
  refine tk 1 [] rfl (by kernel_rfl) rfl (fun _ _ _ h => h) hS (fun _ h => by (try dsimp only at h); go_simp; all_goals with_reducible rfl) ?_
  simp only [pS]
  refine tk 2 [] rfl (by kernel_rfl) rfl (fun _ _ _ h => h) hS (fun _ h => by (try dsimp only at h); go_simp; all_goals with_reducible rfl) ?_
  simp only [pS]
  refine tk 3 [] rfl (by kernel_rfl) rfl (fun _ _ _ h => h) hS (fun _ h => by (try dsimp only at h); go_simp; all_goals with_reducible rfl) ?_
  simp only [pS]
  refine tk 4 [] rfl (by kernel_rfl) rfl (fun _ _ _ h => h) hS (fun _ h => by (try dsimp only at h); go_simp; all_goals with_reducible rfl) ?_
  simp only [pS]
  refine tk 5 [] rfl (by kernel_rfl) rfl (fun _ _ _ h => h) hS (fun _ h => by (try dsimp only at h); go_simp; all_goals with_reducible rfl) ?_
  simp only [pS]
  refine tk 6 [] rfl (by kernel_rfl) rfl (fun _ _ _ h => h) hS (fun _ h => by (try dsimp only at h); go_simp; all_goals with_reducible rfl) ?_
  simp only [pS]
  refine tk 8 [] rfl (by kernel_rfl) rfl (fun _ _ _ h => h) hS (fun _ h => by (try dsimp only at h); go_simp; all_goals with_reducible rfl) ?_
  simp only [pS]
  refine wpAnyS_one 7 (listed' := #[true, true, true, true, true, true, true, true, true, false, false]) rfl (by kernel_rfl) (by kernel_rfl) (fun K hK => ?_)
  refine step_call (by rfl) 165 _ _ (by rfl) enters_local _ (by rfl) (HLo.out _ ((Kp.refl _ _).drew)) ?_
  rintro e w2 ⟨rfl, k2⟩
  have k12 : Kp no w1 w2 := Kp.trans ((Kp.refl no w1).drew) k2
  have hc2 := HCc.out _ k12
  have hf2 := HFf.out _ k12
  refine ⟨_, rfl, hK _ _ (HSk.out _ k12) (fun hS => ?_)⟩
  clear hK K
  simp only [pS]
  refine tk 9 [] rfl (by kernel_rfl) rfl (fun _ _ _ h => h) hS (fun _ h => by (try dsimp only at h); go_simp; all_goals with_reducible rfl) ?_
  simp only [pS]
  refine wpAnyS_end 10 (listed' := #[true, true, true, true, true, true, true, true, true, true, true]) rfl (by kernel_rfl) (by kernel_rfl) (by kernel_rfl) (fun K hK => ?_)
  go_simp
  refine hK _ _ ?_
  clear hK K hS HSk HSd
  refine wpAnyS_done (by kernel_rfl) ?_ _
  obtain ⟨h3, k3⟩ := HFin.out _ k12
  generalize World.setCell w2 ⟨a, k, none⟩ (.int .u64 v) = w3 at *
  have K3 := hide k3
  have hput := put_plus h3 v (by show ((popR s).stack.set k v).length ≤ _; rw [List.length_set]; exact Nat.le_trans (pop_len s) hs)
  have HPu := hide hput
  clear h3 k3 k2 k12 hc2 hf2 HCc HFf HFin hput
  go_wp2_with fail
  refine HPu.out.mono ?_
  rintro e w4 ⟨rfl, h4, k4⟩
  go_wp2
  go_end0
  exact ⟨rfl, h4.free HRo.out, ((Kp.refl _ _).alloc _).trans (upm_plus ((K1.out.trans K3.out).trans k4))⟩
theorem gl_cell {W : World} {ad : Option Addr} {cap n : Nat} {l : List Int} (h : W.ownsRow E.B 38 1 (.slice ad n cap) n (valCells l)) (hn : n = l.length) {k : Nat} (hk : k < n) : ∃ a, ad = some ⟨a, 0, none⟩ ∧ W.cell? ⟨a, k, none⟩ = some (.int .u64 (l.getD k 0)) ∧ W.frozen? ⟨a, k, none⟩ = false := stack_cell h hn hk
set_option maxRecDepth 100000 in
set_option maxHeartbeats 1000000 in
theorem variable_gget (h : MSt E w s) (hs : s.stack.length ≤ 1000000000) {x : Ins} (hx : x.op = 35) (hn : x.num < s.gl.length) (hgl : s.gl.length ≤ 1000000) :
    Calls Tryz.prog 132 #[ptrTo E.mb, insAgg x] w fun r w' => r = .returned (.tuple #[]) ∧ MSt E w' (putR s (s.gl.getD x.num 0)) ∧ Kp (upm E) w w' := by
  have hro := h.roLo
  have hbx := h.box (insObj x)
  have hput := fun v W (kW : Kp no (w.alloc (insObj x)) W) => put_plus (hbx.quiet kW) v hs
  obtain ⟨sv, cv, hmo, -, -, -, -, -, -, -, -, -⟩ := hbx.open
  obtain ⟨mv, gv, hst, -, ⟨ad, cap, rfl, hcap⟩, -, hown, -⟩ := hbx.openS
  have hmo' : (w.alloc (insObj x)).heap[E.mb]? = some (.cells #[ptrTo E.fb, ptrTo E.sb, sv, cv, .int .i64 s.pos, .int .i64 s.fuel] 172) := hmo
  have hst' : (w.alloc (insObj x)).heap[E.sb]? = some (.cells #[mv, .slice ad s.gl.length cap, .map (some E.kb)] 125) := hst
  obtain ⟨a, rfl, hcell, hfr⟩ := gl_cell hown rfl (k := x.num) hn
  obtain ⟨op, num, goal, height, keep⟩ := x
  simp only at hx hn hput hcell hmo' hst' ⊢
  subst hx
  generalize s.gl.getD num 0 = v at *
  obtain ⟨W, hW⟩ : ∃ W, W = w.alloc (.cells #[.int .u8 35, .int .u64 num, .int .i64 goal, .int .i64 height, .int .i64 keep] 214) := ⟨_, rfl⟩
  have hbo : W.heap[w.heap.size]? = some (.cells #[.int .u8 35, .int .u64 num, .int .i64 goal, .int .i64 height, .int .i64 keep] 214) := by rw [hW]; exact heap_alloc_new _ _
  have kW : Kp no w W := by rw [hW]; exact (Kp.refl _ _).alloc _
  have hmoW : W.heap[E.mb]? = some (.cells #[ptrTo E.fb, ptrTo E.sb, sv, cv, .int .i64 s.pos, .int .i64 s.fuel] 172) := by rw [hW]; exact hmo'
  have hstW : W.heap[E.sb]? = some (.cells #[mv, .slice (some ⟨a, 0, none⟩) s.gl.length cap, .map (some E.kb)] 125) := by rw [hW]; exact hst'
  have hcW : W.cell? ⟨a, num, none⟩ = some (.int .u64 v) := by rw [hW]; exact hcell
  have hput' : ∀ v W', Kp no W W' → Calls Tryz.prog 134 #[ptrTo E.mb, .int .u64 v] W' fun r w' => r = .returned (.tuple #[]) ∧ MSt (E.plus (fun b => b = w.heap.size)) w' (putR s v) ∧ Kp (upm (E.plus (fun b => b = w.heap.size))) W' w' := by rw [hW]; exact hput
  obtain ⟨S, hSd⟩ : ∃ S : World → Prop, S = fun w' => (∀ q, w'.cell? ⟨w.heap.size, q, none⟩ = #[.int .u8 35, .int .u64 num, .int .i64 goal, .int .i64 height, .int .i64 keep][q]?) ∧ (∀ q, w'.cell? ⟨E.mb, q, none⟩ = #[ptrTo E.fb, ptrTo E.sb, sv, cv, .int .i64 s.pos, .int .i64 s.fuel][q]?) ∧ (∀ q, w'.cell? ⟨E.sb, q, none⟩ = #[mv, .slice (some ⟨a, 0, none⟩) s.gl.length cap, .map (some E.kb)][q]?) ∧ w'.cell? ⟨a, num, none⟩ = some (.int .u64 v) := ⟨_, rfl⟩
  have hSk : ∀ W', Kp no W W' → S W' := fun W' k => by rw [hSd]; exact ⟨(cells_of (k.blk hbo (fun h => h))).1, (cells_of (k.blk hmoW (fun h => h))).1, (cells_of (k.blk hstW (fun h => h))).1, k.allCells hcW⟩
  have hwn : IntKind.i64.wrap (num : Int) = num := by rw [IntKind.wrap_i64]; omega
  have HSk := hide hSk
  have HSd := hide hSd
  have HP := hide hput'
  have HRo := hide hro
  have KW := hide kW
  have HW := hide hW
  clear h hbx hput hmo hmo' hst hst' hown hcell hfr hbo hmoW hstW hcW hput' hSk hSd kW hro hW
  go_enter Tryz.func132, Tryz.ntmps132
  go_wp2_with fail
  rw [← HW.out]
  refine wp_region_S 12 (S) (by kernel_rfl) (n := 13) (listed := #[false, false, false, false, false, false, false, false, false, false, false, false, false]) rfl (by kernel_rfl) ?hS (fun hS => ?_)
  case hS => exact HSk.out _ ((Kp.refl _ _).drew)
  have hSd := HSd.out
  subst hSd
  refine tk 0 [] rfl (by kernel_rfl) rfl (fun _ _ _ h => h) hS (fun _ h => by (try dsimp only at h); go_simp; all_goals with_reducible rfl) ?_
  simp only [pS]
  refine tk 1 [2,3,4,5,6,7,10,11] rfl (by kernel_rfl) rfl (fun _ _ _ h => h) hS (fun _ h => by (try dsimp only at h); go_simp; all_goals with_reducible rfl) ?_
  simp only [pS]
  refine tk 2 [3,4,5,6,7,10,11] rfl (by kernel_rfl) rfl (fun _ _ _ h => h) hS (fun _ h => by (try dsimp only at h); go_simp; all_goals with_reducible rfl) ?_
  simp only [pS]
  refine tk 3 [4,5,6,7,10,11] rfl (by kernel_rfl) rfl (fun _ _ _ h => h) hS (fun _ h => by (try dsimp only at h); go_simp; all_goals with_reducible rfl) ?_
  simp only [pS]
  refine tk 4 [5,6,7,10,11] rfl (by kernel_rfl) rfl (fun _ _ _ h => h) hS (fun _ h => by (try dsimp only at h); go_simp; all_goals with_reducible rfl) ?_
  simp only [pS]
  refine tk 5 [6,7,10,11] rfl (by kernel_rfl) rfl (fun _ _ _ h => h) hS (fun _ h => by (try dsimp only at h); go_simp; all_goals with_reducible rfl) ?_
  simp only [pS]
  refine tk 6 [7,10,11] rfl (by kernel_rfl) rfl (fun _ _ _ h => h) hS (fun _ h => by (try dsimp only at h); go_simp; all_goals with_reducible rfl) ?_
  simp only [pS]
  refine tk 7 [10,11] rfl (by kernel_rfl) rfl (fun _ _ _ h => h) hS (fun _ h => by (try dsimp only at h); go_simp; all_goals with_reducible rfl) ?_
  simp only [pS]
  refine tk 8 [9,10,11] rfl (by kernel_rfl) rfl (fun _ _ _ h => h) hS (fun _ h => by (try dsimp only at h); go_simp; all_goals with_reducible rfl) ?_
  simp only [pS]
  refine tk 9 [10,11] rfl (by kernel_rfl) rfl (fun _ _ _ h => h) hS (fun _ h => by (try dsimp only at h); go_simp; all_goals with_reducible rfl) ?_
  simp only [pS]
  refine tk 10 [11] rfl (by kernel_rfl) rfl (fun _ _ _ h => h) hS (fun _ h => by (try dsimp only at h); go_simp; all_goals with_reducible rfl) ?_
  simp only [pS]
  refine tk 11 [] rfl (by kernel_rfl) rfl (fun _ _ _ h => h) hS (fun _ h => by (try dsimp only at h); go_simp; all_goals with_reducible rfl) ?_
  simp only [pS]
  refine wpAnyS_end 12 (listed' := #[true, true, true, true, true, true, true, true, true, true, true, true, true]) rfl (by kernel_rfl) (by kernel_rfl) (by kernel_rfl) (fun K hK => ?_)
  refine step_call (by rfl) 134 _ _ (by rfl) enters_put _ (by rfl) (HP.out _ _ ((Kp.refl _ _).drew)) ?_
  rintro e w2 ⟨rfl, h2, k2⟩
  refine ⟨_, rfl, hK _ _ ?_⟩
  clear hK K hS HSk HSd HP
  refine wpAnyS_done (by kernel_rfl) ?_ _
  have H2 := hide h2
  have K2 := hide k2
  clear h2 k2
  go_wp2
  go_end0
  exact ⟨rfl, H2.out.free HRo.out, (KW.out.any.drew).trans (upm_plus K2.out)⟩
set_option maxRecDepth 100000 in
set_option maxHeartbeats 1000000 in
theorem variable_gset (h : MSt E w s) (hs : s.stack.length ≤ 1000000000) {x : Ins} (hx : x.op = 36) (hn : x.num < s.gl.length) (hgl : s.gl.length ≤ 1000000) (hs0 : 0 < s.stack.length) :
    Calls Tryz.prog 132 #[ptrTo E.mb, insAgg x] w fun r w' => r = .returned (.tuple #[]) ∧ MSt E w' { popR s with gl := s.gl.set x.num (topR s) } ∧ Kp (upm E) w w' := by
  have hro := h.roLo
  have hbx := h.box (insObj x)
  have hta : ∀ W, Kp no (w.alloc (insObj x)) W → Calls Tryz.prog 73 #[ptrTo E.mb] W fun r w' => r = .returned (.int .u64 (topR s)) ∧ MSt (E.plus (fun b => b = w.heap.size)) w' (popR s) ∧ Kp (one E.mb) W w' ∧ Kp (upm (E.plus (fun b => b = w.heap.size))) W w' := fun W kW => takeR_one (hbx.quiet kW) hs0 hs
  obtain ⟨sv, cv, hmo, -, -, -, -, -, -, -, -, -⟩ := hbx.open
  obtain ⟨mv, gv, hst, -, ⟨ad, cap, rfl, hcap⟩, -, hown, -, nsb, -, -, ⟨-, -, ng1, ng2⟩, hlo, -⟩ := hbx.openS
  have hmo' : (w.alloc (insObj x)).heap[E.mb]? = some (.cells #[ptrTo E.fb, ptrTo E.sb, sv, cv, .int .i64 s.pos, .int .i64 s.fuel] 172) := hmo
  have hst' : (w.alloc (insObj x)).heap[E.sb]? = some (.cells #[mv, .slice ad s.gl.length cap, .map (some E.kb)] 125) := hst
  have nsb' : E.sb ≠ E.mb := nsb
  have nbx : w.heap.size ≠ E.mb := fun e => by have := h.mbLt; omega
  obtain ⟨a, rfl, hcell, hfr⟩ := gl_cell hown rfl (k := x.num) hn
  have nga : a ≠ E.mb := fun e => ng1 (by rw [e]; rfl)
  obtain ⟨op, num, goal, height, keep⟩ := x
  simp only at hx hn hta hcell hmo' hst' ⊢
  subst hx
  generalize topR s = v at *
  obtain ⟨W, hW⟩ : ∃ W, W = w.alloc (.cells #[.int .u8 36, .int .u64 num, .int .i64 goal, .int .i64 height, .int .i64 keep] 214) := ⟨_, rfl⟩
  have hbo : W.heap[w.heap.size]? = some (.cells #[.int .u8 36, .int .u64 num, .int .i64 goal, .int .i64 height, .int .i64 keep] 214) := by rw [hW]; exact heap_alloc_new _ _
  have kW : Kp no w W := by rw [hW]; exact (Kp.refl _ _).alloc _
  have hmoW : W.heap[E.mb]? = some (.cells #[ptrTo E.fb, ptrTo E.sb, sv, cv, .int .i64 s.pos, .int .i64 s.fuel] 172) := by rw [hW]; exact hmo'
  have hstW : W.heap[E.sb]? = some (.cells #[mv, .slice (some ⟨a, 0, none⟩) s.gl.length cap, .map (some E.kb)] 125) := by rw [hW]; exact hst'
  have hta' : ∀ W', Kp no W W' → Calls Tryz.prog 73 #[ptrTo E.mb] W' fun r w' => r = .returned (.int .u64 v) ∧ MSt (E.plus (fun b => b = w.heap.size)) w' (popR s) ∧ Kp (one E.mb) W' w' ∧ Kp (upm (E.plus (fun b => b = w.heap.size))) W' w' := by rw [hW]; exact hta
  obtain ⟨S, hSd⟩ : ∃ S : World → Prop, S = fun w' => (∀ q, w'.cell? ⟨w.heap.size, q, none⟩ = #[.int .u8 36, .int .u64 num, .int .i64 goal, .int .i64 height, .int .i64 keep][q]?) ∧ w'.cell? ⟨E.mb, 1, none⟩ = some (ptrTo E.sb) ∧ (∀ q, w'.cell? ⟨E.sb, q, none⟩ = #[mv, .slice (some ⟨a, 0, none⟩) s.gl.length cap, .map (some E.kb)][q]?) := ⟨_, rfl⟩
  have hSk0 : S W.drew := by rw [hSd]; exact ⟨(cells_of (w := W.drew) hbo).1, (cells_of (w := W.drew) hmoW).1 1, (cells_of (w := W.drew) hstW).1⟩
  have hSk : ∀ W', Kp (one E.mb) W W' → MSt (E.plus (fun b => b = w.heap.size)) W' (popR s) → S W' := fun W' k h' => by
    obtain ⟨sv', cv', hmo', -⟩ := h'.open
    rw [hSd]; exact ⟨(cells_of (k.blk hbo nbx)).1, (cells_of hmo').1 1, (cells_of (k.blk hstW nsb')).1⟩
  have hwn : IntKind.i64.wrap (num : Int) = num := by rw [IntKind.wrap_i64]; omega
  have HSk := hide hSk
  have HSk0 := hide hSk0
  have HSd := hide hSd
  have HT := hide hta'
  have HRo := hide hro
  have KW := hide kW
  have HW := hide hW
  have HSt := hide hstW
  clear h hbx hta hmo hmo' hst hst' hown hcell hfr hbo hmoW hstW hta' hSk hSk0 hSd kW hro hW hlo
  go_enter Tryz.func132, Tryz.ntmps132
  go_wp2_with fail
  rw [← HW.out]
  refine wp_region_S 12 (S) (by kernel_rfl) (n := 13) (listed := #[false, false, false, false, false, false, false, false, false, false, false, false, false]) rfl (by kernel_rfl) ?hS (fun hS => ?_)
  case hS => exact HSk0.out
  have hSd := HSd.out
  subst hSd
  refine tk 0 [] rfl (by kernel_rfl) rfl (fun _ _ _ h => h) hS (fun _ h => by (try dsimp only at h); go_simp; all_goals with_reducible rfl) ?_
  simp only [pS]
  refine tk 1 [] rfl (by kernel_rfl) rfl (fun _ _ _ h => h) hS (fun _ h => by (try dsimp only at h); go_simp; all_goals with_reducible rfl) ?_
  simp only [pS]
  refine tk 2 [] rfl (by kernel_rfl) rfl (fun _ _ _ h => h) hS (fun _ h => by (try dsimp only at h); go_simp; all_goals with_reducible rfl) ?_
  simp only [pS]
  refine tk 3 [] rfl (by kernel_rfl) rfl (fun _ _ _ h => h) hS (fun _ h => by (try dsimp only at h); go_simp; all_goals with_reducible rfl) ?_
  simp only [pS]
  refine tk 4 [] rfl (by kernel_rfl) rfl (fun _ _ _ h => h) hS (fun _ h => by (try dsimp only at h); go_simp; all_goals with_reducible rfl) ?_
  simp only [pS]
  refine tk 5 [] rfl (by kernel_rfl) rfl (fun _ _ _ h => h) hS (fun _ h => by (try dsimp only at h); go_simp; all_goals with_reducible rfl) ?_
  simp only [pS]
  refine tk 6 [] rfl (by kernel_rfl) rfl (fun _ _ _ h => h) hS (fun _ h => by (try dsimp only at h); go_simp; all_goals with_reducible rfl) ?_
  simp only [pS]
  refine tk 7 [] rfl (by kernel_rfl) rfl (fun _ _ _ h => h) hS (fun _ h => by (try dsimp only at h); go_simp; all_goals with_reducible rfl) ?_
  simp only [pS]
  refine tk 8 [] rfl (by kernel_rfl) rfl (fun _ _ _ h => h) hS (fun _ h => by (try dsimp only at h); go_simp; all_goals with_reducible rfl) ?_
  simp only [pS]
  refine tk 9 [] rfl (by kernel_rfl) rfl (fun _ _ _ h => h) hS (fun _ h => by (try dsimp only at h); go_simp; all_goals with_reducible rfl) ?_
  simp only [pS]
  refine wpAnyS_one 10 (listed' := #[true, true, true, true, true, true, true, true, true, true, true, false, false]) rfl (by kernel_rfl) (by kernel_rfl) (fun K hK => ?_)
  refine step_call (by rfl) 73 _ _ (by rfl) enters_take _ (by rfl) (HT.out _ ((Kp.refl _ _).drew)) ?_
  rintro e w1 ⟨rfl, h1, k1, k1'⟩
  have k01 : Kp (one E.mb) W w1 := Kp.trans ((Kp.refl _ W).drew) k1
  obtain ⟨mv1, gv1, hst1, -, -, -, hown1, -, -, -, -, -, -, hgset, -⟩ := h1.openS
  have hst1' : w1.heap[E.sb]? = some (.cells #[mv1, gv1, .map (some E.kb)] 125) := hst1
  have e1 := k01.blk HSt.out nsb'
  rw [e1] at hst1'
  cases hst1'
  obtain ⟨a', ha', hcell1, hfr1⟩ := gl_cell hown1 rfl (k := num) hn
  cases ha'
  have hfin := hgset w1 a num v (Kp.refl no w1) rfl hn
  refine ⟨_, rfl, hK _ _ (HSk.out _ k01 h1) (fun hS => ?_)⟩
  clear hK K
  simp only [pS]
  refine tk 11 [] rfl (by kernel_rfl) rfl (fun _ _ _ h => h) hS (fun _ h => by (try dsimp only at h); go_simp; all_goals with_reducible rfl) ?_
  simp only [pS]
  refine wpAnyS_end 12 (listed' := #[true, true, true, true, true, true, true, true, true, true, true, true, true]) rfl (by kernel_rfl) (by kernel_rfl) (by kernel_rfl) (fun K hK => ?_)
  go_simp
  refine hK _ _ ?_
  clear hK K hS HSk HSk0 HSd HT
  refine wpAnyS_done (by kernel_rfl) ?_ _
  have HFin := hide hfin
  have K1 := hide k1'
  clear h1 k1 k1' k01 hst1 hown1 hgset hfin hcell1 hfr1 e1
  go_wp2
  go_end0
  exact ⟨rfl, HFin.out.1.free HRo.out, (KW.out.any.drew).trans (upm_plus (K1.out.trans HFin.out.2))⟩
theorem variable_any (h : MSt E w s) (hc1 : s.calls.length ≤ 16) (hs : s.stack.length ≤ 1000000000) (hgl : s.gl.length ≤ 1000000) {x : Ins} {s' : Mc} (hm : variableR s x = some s') :
    Calls Tryz.prog 132 #[ptrTo E.mb, insAgg x] w fun r w' => r = .returned (.tuple #[]) ∧ MSt E w' s' ∧ Kp (upm E) w w' := by
  unfold variableR at hm
  split at hm
  · rename_i hop
    split at hm
    · rename_i hc; cases hm; exact variable_get h hc.1 hc1 hs hop hc.2
    · cases hm
  split at hm
  · rename_i hop
    split at hm
    · rename_i hc; cases hm; exact variable_set h hc.1 hc1 hs hop hc.2
    · cases hm
  split at hm
  · rename_i hop
    split at hm
    · rename_i hc; cases hm; exact variable_tee h hc.1 hc1 hs hop hc.2
    · cases hm
  split at hm
  · rename_i hop
    split at hm
    · rename_i hc; cases hm; exact variable_gget h hs hop hc hgl
    · cases hm
  split at hm
  · rename_i hop
    split at hm
    · rename_i hc; cases hm; exact variable_gset h hs hop hc.1 hgl hc.2
    · cases hm
  · cases hm
end
end Go.Proofs.YtdeplgkhmebalaaGreatDoor
