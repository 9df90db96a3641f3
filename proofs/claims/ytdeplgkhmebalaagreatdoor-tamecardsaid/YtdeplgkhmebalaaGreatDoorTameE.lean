/- The run of a module's code: the loop, with all instructions. -/
import Derived.Test.YtdeplgkhmebalaaGreatDoorTameD

namespace Go.Proofs.YtdeplgkhmebalaaGreatDoor
open Go.RowKit
def runT (f : Flat) : Nat → Mc → Option (Nat × Mc)
  | 0, _ => none
  | n + 1, s =>
    if s.calls.length = 0 then some (0, s)
    else if s.pos < f.code.length then
      (if burnsR (f.code.getD s.pos ins0).op then
        (if s.fuel = 0 then some (5, { s with pos := s.pos + 1 })
        else afterR (stepT f { s with pos := s.pos + 1, fuel := s.fuel - 1 } (f.code.getD s.pos ins0)) (runT f n))
      else afterR (stepT f { s with pos := s.pos + 1 } (f.code.getD s.pos ins0)) (runT f n))
    else none
theorem runT_cases {f : Flat} {k : Nat} {s : Mc} {t : Nat} {s' : Mc} (h : runT f (k + 1) s = some (t, s')) :
    (s.calls.length = 0 ∧ t = 0 ∧ s' = s) ∨ (s.calls.length ≠ 0 ∧ s.pos < f.code.length ∧
      ((burnsR (f.code.getD s.pos ins0).op = true ∧ s.fuel = 0 ∧ t = 5 ∧ s' = { s with pos := s.pos + 1 }) ∨
       (burnsR (f.code.getD s.pos ins0).op = true ∧ s.fuel ≠ 0 ∧ ∃ t1 s1, stepT f { s with pos := s.pos + 1, fuel := s.fuel - 1 } (f.code.getD s.pos ins0) = some (t1, s1) ∧ ((t1 ≠ 0 ∧ t = t1 ∧ s' = s1) ∨ (t1 = 0 ∧ runT f k s1 = some (t, s')))) ∨
       (burnsR (f.code.getD s.pos ins0).op = false ∧ ∃ t1 s1, stepT f { s with pos := s.pos + 1 } (f.code.getD s.pos ins0) = some (t1, s1) ∧ ((t1 ≠ 0 ∧ t = t1 ∧ s' = s1) ∨ (t1 = 0 ∧ runT f k s1 = some (t, s')))))) := by
  have haf : ∀ {m : Option (Nat × Mc)}, afterR m (runT f k) = some (t, s') → ∃ t1 s1, m = some (t1, s1) ∧ ((t1 ≠ 0 ∧ t = t1 ∧ s' = s1) ∨ (t1 = 0 ∧ runT f k s1 = some (t, s'))) := by
    intro m hm
    unfold afterR at hm
    split at hm
    · cases hm
    · rename_i t1 s1
      split at hm
      · rename_i h0; exact ⟨t1, s1, rfl, .inr ⟨h0, hm⟩⟩
      · rename_i h0; cases hm; exact ⟨t, s', rfl, .inl ⟨h0, rfl, rfl⟩⟩
  rw [runT] at h
  split at h
  · rename_i h0; cases h; exact .inl ⟨h0, rfl, rfl⟩
  · rename_i h0
    refine .inr ⟨h0, ?_⟩
    split at h
    · rename_i hp
      refine ⟨hp, ?_⟩
      split at h
      · rename_i hb
        split at h
        · rename_i hf; cases h; exact .inl ⟨hb, hf, rfl, rfl⟩
        · rename_i hf; exact .inr (.inl ⟨hb, hf, haf h⟩)
      · rename_i hb
        exact .inr (.inr ⟨by simpa using hb, haf h⟩)
    · cases h
section
variable {E : MEnv} {w : World} {s : Mc}
set_option maxRecDepth 100000 in
set_option maxHeartbeats 4000000 in
theorem runT_any (h : MSt E w s) (hTab : TabE E w) (hok : E.f.Ok) {K N : Nat} (hs : s.Ok N) (hN : N + 1000 * K ≤ 1000000000) {t : Nat} {s' : Mc} (hm : runT E.f K s = some (t, s')) :
    Calls Tryz.prog 72 #[ptrTo E.mb] w fun r w' => r = .returned (.int .i64 t) ∧ MSt E w' s' ∧ Kp (upm E) w w' := by
  have H := hide h
  have HTab := hide hTab
  clear hTab
  have HM := hide hm
  have HOk := hide hok
  have HS := hide hs
  have HNn := hide hN
  clear h hm hok hs hN
  go_enter Tryz.func72, Tryz.ntmps72
  go_wp2
  go_loopg [] K (fun k wr => ∃ sk M, MSt E wr sk ∧ sk.Ok M ∧ M + 1000 * k ≤ 1000000000 ∧ Kp (upm E) w wr ∧ runT E.f k sk = some (t, s'))
  case atStart => exact ⟨s, N, H.out, HS.out, HNn.out, Kp.refl _ _, HM.out⟩
  case round =>
    obtain ⟨sk, M, hst, hso, hM, hkp, hrun⟩ := hrel
    obtain ⟨k, hgk⟩ : ∃ k, gk = k + 1 := by
      cases gk with
      | zero => cases hrun
      | succ k => exact ⟨k, rfl⟩
    subst hgk
    obtain ⟨sv, cv, hmo, -, ⟨adc, capc, rfl, -⟩, -, -, -, -, -, -, -⟩ := hst.open
    obtain ⟨hmc, hmf⟩ := cells_of hmo
    have HSt := hide hst
    have HK := hide hkp
    have HSo := hide hso
    have HMk := hide hM
    have hcl := hso.cl
    clear hM
    rcases runT_cases hrun with ⟨hc0, ht, hs'⟩ | ⟨hc0, hpos, hrest⟩
    · have HT := hide ht
      have HS' := hide hs'
      rw [hc0] at hmc
      clear hst hkp hmo hso hrun ht hs' hc0 hcl hmf
      go_wp2
      go_ret
      rw [HT.out, HS'.out]
      exact ⟨rfl, HSt.out, HK.out⟩
    · obtain ⟨n, hn⟩ : ∃ n, sk.calls.length = n + 1 := ⟨sk.calls.length - 1, by omega⟩
      rw [hn] at hmc
      obtain ⟨x, hx⟩ : ∃ x, E.f.code.getD sk.pos ins0 = x := ⟨_, rfl⟩
      rw [hx] at hrest
      have hnum : x.op = 16 → x.num < 1000000 := by
        rw [← hx, List.getD_eq_getElem?_getD, List.getElem?_eq_getElem hpos]
        exact HOk.out.nm _ (List.getElem_mem _)
      obtain ⟨sv', cv', fv, gv, a, o, cap, hat⟩ := hst.at' hpos hx
      have hmo' : wr.heap[E.mb]? = some (.cells #[ptrTo E.fb, ptrTo E.sb, sv, .slice adc (n + 1) capc, .int .i64 sk.pos, .int .i64 sk.fuel] 172) := by rw [← hn]; exact hmo
      obtain ⟨S, hSd⟩ : ∃ S : World → Prop, S = fun w' => (∀ q, w'.cell? ⟨E.mb, q, none⟩ = #[ptrTo E.fb, ptrTo E.sb, sv, .slice adc (n + 1) capc, .int .i64 sk.pos, .int .i64 sk.fuel][q]?) ∧ (∀ q, w'.cell? ⟨E.fb, q, none⟩ = #[fv, gv, .int .i64 E.f.pages, .slice (some ⟨a, o, none⟩) E.f.code.length cap][q]?) ∧ w'.cell? ⟨a, o + sk.pos * 5, none⟩ = some (.int .u8 x.op.toNat) ∧ w'.cell? ⟨a, o + sk.pos * 5 + 1, none⟩ = some (.int .u64 x.num) ∧ w'.cell? ⟨a, o + sk.pos * 5 + 2, none⟩ = some (.int .i64 x.goal) ∧ w'.cell? ⟨a, o + sk.pos * 5 + 3, none⟩ = some (.int .i64 x.height) ∧ w'.cell? ⟨a, o + sk.pos * 5 + 4, none⟩ = some (.int .i64 x.keep) := ⟨_, rfl⟩
      have hSk : ∀ W', Kp no wr W' → S W' := fun W' k => by rw [hSd]; exact ⟨(cells_of (k.blk hmo' (fun h => h))).1, (cells_of (k.blk hat.mod (fun h => h))).1, k.allCells hat.c0, k.allCells hat.c1, k.allCells hat.c2, k.allCells hat.c3, k.allCells hat.c4⟩
      have hcap := hat.cap
      have HSk := hide hSk
      have HSd := hide hSd
      have HRest := hide hrest
      have HNum := hide hnum
      have hpl : sk.pos < E.f.code.length := hpos
      have hnc := HOk.out.nc
      have hpw : IntKind.i64.wrap ((sk.pos : Int) + 1) = ((sk.pos + 1 : Nat) : Int) := by rw [IntKind.wrap_i64]; omega
      clear hst hkp hmo hmo' hat hSk hSd hrun hrest hso hmf hx hnum hnc hn hc0 hcl
      go_wp2_with fail
      refine wp_region_S 14 (S) (by kernel_rfl) (n := 15) (listed := #[false, false, false, false, false, false, false, false, false, false, false, false, false, false, false]) rfl (by kernel_rfl) ?hS (fun hS => ?_)
      case hS => exact HSk.out _ ((Kp.refl _ _).drew)
      have hSd := HSd.out
      subst hSd
      refine tk 0 [] rfl (by kernel_rfl) rfl (fun _ _ _ h => h) hS (fun _ h => by (try dsimp only at h); go_simp; all_goals with_reducible rfl) ?_
      simp only [pS]
      refine tk 1 [] rfl (by kernel_rfl) rfl (fun _ _ _ h => h) hS (fun _ h => by (try dsimp only at h); go_simp; all_goals with_reducible rfl) ?_
      simp only [pS]
      refine tk 2 [] rfl (by kernel_rfl) rfl (fun _ _ _ h => h) hS (fun _ h => by (try dsimp only at h); go_simp; all_goals with_reducible rfl) ?_
      simp only [pS]
      refine tk 3 [] rfl (by kernel_rfl) rfl (fun _ _ _ h => h) hS (fun _ h => by (try dsimp only at h); go_simp; all_goals with_reducible rfl) ?_
      simp only [pS]
      refine tk 4 [] rfl (by kernel_rfl) rfl (fun _ _ _ h => h) hS (fun _ h => by (try dsimp only at h); go_simp; all_goals with_reducible rfl) ?_
      simp only [pS]
      refine tk 5 [] rfl (by kernel_rfl) rfl (fun _ _ _ h => h) hS (fun _ h => by (try dsimp only at h); go_simp; all_goals with_reducible rfl) ?_
      simp only [pS]
      refine tk 6 [] rfl (by kernel_rfl) rfl (fun _ _ _ h => h) hS (fun _ h => by (try dsimp only at h); go_simp; all_goals with_reducible rfl) ?_
      simp only [pS]
      refine tk 7 [] rfl (by kernel_rfl) rfl (fun _ _ _ h => h) hS (fun _ h => by (try dsimp only at h); go_simp; all_goals with_reducible rfl) ?_
      simp only [pS]
      refine tk 8 [] rfl (by kernel_rfl) rfl (fun _ _ _ h => h) hS (fun _ h => by (try dsimp only at h); go_simp; all_goals with_reducible rfl) ?_
      simp only [pS]
      refine tk 9 [] rfl (by kernel_rfl) rfl (fun _ _ _ h => h) hS (fun _ h => by (try dsimp only at h); go_simp; all_goals with_reducible rfl) ?_
      simp only [pS]
      refine tk 10 [] rfl (by kernel_rfl) rfl (fun _ _ _ h => h) hS (fun _ h => by (try dsimp only at h); go_simp; all_goals with_reducible rfl) ?_
      simp only [pS]
      refine tk 11 [] rfl (by kernel_rfl) rfl (fun _ _ _ h => h) hS (fun _ h => by (try dsimp only at h); go_simp; all_goals with_reducible rfl) ?_
      simp only [pS]
      refine tk 12 [] rfl (by kernel_rfl) rfl (fun _ _ _ h => h) hS (fun _ h => by (try dsimp only at h); go_simp; all_goals with_reducible rfl) ?_
      simp only [pS]
      refine wpAnyS_one 13 (listed' := #[true, true, true, true, true, true, true, true, true, true, true, true, true, true, false]) rfl (by kernel_rfl) (by kernel_rfl) (fun K hK => ?_)
      go_simp
      refine hK _ _ (HSk.out _ (((Kp.refl _ _).drew).alloc _)) (fun hS => ?_)
      clear hK K
      refine wpAnyS_end 14 (listed' := #[true, true, true, true, true, true, true, true, true, true, true, true, true, true, true]) rfl (by kernel_rfl) (by kernel_rfl) (by kernel_rfl) (fun K hK => ?_)
      go_simp
      refine hK _ _ ?_
      clear hK K hS HSk HSd hmc
      refine wpAnyS_done (by kernel_rfl) ?_ _
      have kW : Kp no wr (wr.alloc (insObj x)).drew := ((Kp.refl _ _).alloc _).drew
      have hbo : ((wr.alloc (insObj x)).drew).heap[wr.heap.size]? = some (insObj x) := heap_alloc_new _ _
      have hstW := HSt.out.quiet kW
      generalize (wr.alloc (insObj x)).drew = W at *
      obtain ⟨sv1, cv1, hmo1, -, -, -, -, -, -, -, -, -, -, hsp, -⟩ := hstW.open
      have hmo1' : W.heap[E.mb]? = some (.cells #[ptrTo E.fb, ptrTo E.sb, sv1, cv1, .int .i64 sk.pos, .int .i64 sk.fuel] 172) := hmo1
      obtain ⟨hmc1, hmf1⟩ := cells_of hmo1'
      have hnb : wr.heap.size ≠ E.mb := fun e => by have := HSt.out.mbLt; omega
      obtain ⟨h2, k2⟩ := hsp W (sk.pos + 1) (Kp.refl no W)
      have hbo2 : (W.setCell ⟨E.mb, 4, none⟩ (.int .i64 ((sk.pos + 1 : Nat) : Int))).heap[wr.heap.size]? = some (insObj x) := heap_setCell_ne hnb _ hbo
      have H2 := hide h2
      have K2 := hide k2
      have KW := hide kW
      have HBo2 := hide hbo2
      clear hstW hmo1 hmo1' hsp h2 k2 kW hbo2 hbo
      go_upto_region 4 with fail
      have ec : ((sk.pos + 1 : Nat) : Int) = (sk.pos : Int) + 1 := by omega
      have h2 := H2.out
      have k2 := K2.out
      have hbo2 := HBo2.out
      rw [ec] at h2 k2 hbo2
      clear H2 K2 HBo2 ec
      generalize World.setCell W ⟨E.mb, 4, none⟩ (.int .i64 ((sk.pos : Int) + 1)) = w2 at *
      have H2 := hide h2
      obtain ⟨sv2, cv2, hmo2, -, -, -, -, -, -, -, -, -, -, -, hsf, -⟩ := h2.open
      have hmo2' : w2.heap[E.mb]? = some (.cells #[ptrTo E.fb, ptrTo E.sb, sv2, cv2, .int .i64 ((sk.pos + 1 : Nat) : Int), .int .i64 sk.fuel] 172) := hmo2
      obtain ⟨hmc2, hmf2⟩ := cells_of hmo2'
      obtain ⟨hbc2, -⟩ := cells_of hbo2
      have hbn := burns_any x.op w2
      have HBn := hide hbn
      have HSf := hide hsf
      have KA := hide ((HK.out.trans KW.out.any).trans k2)
      clear hmc1 hmf1 h2 k2 hmo2 hmo2' hsf hbn hpl hcap hpw
      rcases HRest.out with ⟨hb, hf0, ht, hs'⟩ | ⟨hb, hf0, t1, s1, hstep, hnx⟩ | ⟨hb, t1, s1, hstep, hnx⟩
      · rw [hb] at HBn
        rw [hf0] at hmc2
        have HT := hide ht
        have HS' := hide hs'
        clear hb hf0 ht hs' HRest
        go_wp2_with fail
        refine HBn.out.mono ?_
        rintro e w3 ⟨rfl, rfl⟩
        go_wp2
        go_ret
        rw [HT.out, HS'.out]
        exact ⟨rfl, H2.out, KA.out⟩
      · rw [hb] at HBn
        obtain ⟨fu, hfu⟩ : ∃ fu, sk.fuel = fu + 1 := ⟨sk.fuel - 1, by omega⟩
        obtain ⟨h3, k3⟩ := HSf.out w2 fu (Kp.refl no w2)
        have e3 : ({ sk with pos := sk.pos + 1, fuel := sk.fuel - 1 } : Mc) = { sk with pos := sk.pos + 1, fuel := fu } := by rw [hfu]; rfl
        rw [e3] at hstep
        have hfub : fu ≤ 1000000 := by have := HSo.out.fu; omega
        have hfb : (((fu : Int) + 1) == 0) = false := by simp only [beq_eq_false_iff_ne]; omega
        have hfw : wrap64 (fu : Int) = fu := by unfold wrap64; omega
        have hso3 : Mc.Ok ({ sk with pos := sk.pos + 1, fuel := fu } : Mc) M := ⟨HSo.out.st, HSo.out.cl, HSo.out.gl, hfub⟩
        have hstp := stepT_any h3 (HTab.out.kp (KA.out.trans k3)) HSo.out.cl (Nat.le_trans HSo.out.st (by have := HMk.out; omega)) HSo.out.gl HOk.out HNum.out hstep
        have hok1 := stepT_ok hso3 hstep
        rw [hfu] at hmc2
        have hnb3 : (World.setCell w2 ⟨E.mb, 5, none⟩ (.int .i64 fu)).heap[wr.heap.size]? = some (insObj x) := heap_setCell_ne hnb _ hbo2
        obtain ⟨hbc3, -⟩ := cells_of hnb3
        have HStp := hide hstp
        have HOk1 := hide hok1
        have HNx := hide hnx
        have K3 := hide k3
        clear hstp hok1 hnx k3 h3 hso3 hstep e3 hf0 hfu hb HRest hnb3
        rcases HNx.out with ⟨ht1, ht, hs'⟩ | ⟨ht1, hgo⟩
        · obtain ⟨m, hm1⟩ : ∃ m, t1 = m + 1 := ⟨t1 - 1, by omega⟩
          subst hm1
          have HT := hide ht
          have HS' := hide hs'
          clear ht1 ht hs' HNx
          go_wp2_with fail
          refine HBn.out.mono ?_
          rintro e w3 ⟨rfl, rfl⟩
          go_wp2_with fail
          refine HStp.out.mono ?_
          rintro e w4 ⟨rfl, h4, k4⟩
          have H4 := hide h4
          have K4 := hide ((KA.out.trans K3.out).trans k4)
          clear h4 k4
          go_wp2
          go_ret
          rw [HT.out, HS'.out]
          exact ⟨rfl, H4.out, K4.out⟩
        · subst ht1
          have HGo := hide hgo
          clear hgo HNx
          go_wp2_with fail
          refine HBn.out.mono ?_
          rintro e w3 ⟨rfl, rfl⟩
          go_wp2_with fail
          refine HStp.out.mono ?_
          rintro e w4 ⟨rfl, h4, k4⟩
          have H4 := hide h4
          have K4 := hide ((KA.out.trans K3.out).trans k4)
          clear h4 k4
          go_wp2
          go_roundg k
          case measure => omega
          case rel => exact ⟨s1, M + 1000, H4.out, HOk1.out, by have := HMk.out; omega, K4.out, HGo.out⟩
      · rw [hb] at HBn
        have h3 := H2.out
        have hso3 : Mc.Ok ({ sk with pos := sk.pos + 1 } : Mc) M := ⟨HSo.out.st, HSo.out.cl, HSo.out.gl, HSo.out.fu⟩
        have hstp := stepT_any h3 (HTab.out.kp KA.out) HSo.out.cl (Nat.le_trans HSo.out.st (by have := HMk.out; omega)) HSo.out.gl HOk.out HNum.out hstep
        have hok1 := stepT_ok hso3 hstep
        have HStp := hide hstp
        have HOk1 := hide hok1
        have HNx := hide hnx
        clear hstp hok1 hnx h3 hso3 hstep hb HRest
        rcases HNx.out with ⟨ht1, ht, hs'⟩ | ⟨ht1, hgo⟩
        · obtain ⟨m, hm1⟩ : ∃ m, t1 = m + 1 := ⟨t1 - 1, by omega⟩
          subst hm1
          have HT := hide ht
          have HS' := hide hs'
          clear ht1 ht hs' HNx
          go_wp2_with fail
          refine HBn.out.mono ?_
          rintro e w3 ⟨rfl, rfl⟩
          go_wp2_with fail
          refine HStp.out.mono ?_
          rintro e w4 ⟨rfl, h4, k4⟩
          have H4 := hide h4
          have K4 := hide (KA.out.trans k4)
          clear h4 k4
          go_wp2
          go_ret
          rw [HT.out, HS'.out]
          exact ⟨rfl, H4.out, K4.out⟩
        · subst ht1
          have HGo := hide hgo
          clear hgo HNx
          go_wp2_with fail
          refine HBn.out.mono ?_
          rintro e w3 ⟨rfl, rfl⟩
          go_wp2_with fail
          refine HStp.out.mono ?_
          rintro e w4 ⟨rfl, h4, k4⟩
          have H4 := hide h4
          have K4 := hide (KA.out.trans k4)
          clear h4 k4
          go_wp2
          go_roundg k
          case measure => omega
          case rel => exact ⟨s1, M + 1000, H4.out, HOk1.out, by have := HMk.out; omega, K4.out, HGo.out⟩
end
end Go.Proofs.YtdeplgkhmebalaaGreatDoor
