/- A function's type told. -/
import Derived.Test.YtdeplgkhmebalaaGreatDoorP30
import Derived.Test.YtdeplgkhmebalaaGreatDoorP32

namespace Go.Proofs.YtdeplgkhmebalaaGreatDoor
open Go.RowKit
structure TypeTold (w w' : World) (r : Ending) (ps rs : List UInt8) : Prop where
  ex : ∃ g1 g2, r = .returned (.tuple #[.slice (some ⟨g1, 0, none⟩) ps.length ps.length, .slice (some ⟨g2, 0, none⟩) rs.length rs.length, .int .i64 0]) ∧ w.heap.size ≤ g1 ∧ g1 < g2 ∧ NB w w' (.slice (some ⟨g1, 0, none⟩) ps.length ps.length) ps ∧ NB w w' (.slice (some ⟨g2, 0, none⟩) rs.length rs.length) rs
set_option maxRecDepth 100000 in
set_option maxHeartbeats 2000000 in
theorem type_any {w : World} {ro : Nat → Prop} {mb : Nat} {f : Flat} {n : Nat} (h : ModAt w ro mb 123 f) (hn : n < f.funcs.length) (_hnf : f.funcs.length ≤ 1000) (hp : (f.funcs.getD n fn0).typ.1.length ≤ 1000) (hr : (f.funcs.getD n fn0).typ.2.length ≤ 1000) :
    Calls Tryz.prog 41 #[ptrTo mb, .int .i64 n] w fun r w' => TypeTold w w' r (f.funcs.getD n fn0).typ.1 (f.funcs.getD n fn0).typ.2 ∧ Kp no w w' := by
  have hfn := funcs_any h
  obtain ⟨fv, gv, cv, hg⟩ := h
  obtain ⟨ad, cap, rfl, hcap, hk⟩ := hg.funcs
  obtain ⟨hc, -⟩ := cells_of hg.blk
  obtain ⟨a, o, pv, rv, rfl, -, c0, c1, -, -, hb, -, hb2, -⟩ := hk n hn
  obtain ⟨adp, capp, rfl, hcp⟩ := RowAt.shape hb
  obtain ⟨adr, capr, rfl, hcr⟩ := RowAt.shape hb2
  generalize (f.funcs.getD n fn0).typ.1 = ps at *
  generalize (f.funcs.getD n fn0).typ.2 = rs at *
  have HFn := hide hfn
  have HB := hide hb
  have HB2 := hide hb2
  clear hfn hk hb hb2 hg
  go_enter Tryz.func41, Tryz.ntmps41
  go_wp2_with fail
  refine HFn.out.mono ?_
  rintro r w1 ⟨rfl, hw⟩
  rw [hw]
  clear hw w1 HFn
  go_wp2_with fail
  obtain ⟨W1, hW1⟩ : ∃ W1, w.alloc (.cells #[.slice adp ps.length capp, .slice adr rs.length capr] 138) = W1 := ⟨_, rfl⟩
  have hblk : W1.heap[w.heap.size]? = some (.cells #[.slice adp ps.length capp, .slice adr rs.length capr] 138) := by rw [← hW1]; exact heap_alloc_new _ _
  have k1 : Kp no w W1 := by rw [← hW1]; exact (Kp.refl _ _).alloc _
  rw [hW1]
  obtain ⟨S, hSd⟩ : ∃ S : World → Prop, S = fun w' => ∀ q, w'.cell? ⟨w.heap.size, q, none⟩ = #[.slice adp ps.length capp, .slice adr rs.length capr][q]? := ⟨_, rfl⟩
  have hSk : ∀ W', Kp no W1 W' → S W' := fun W' k => by rw [hSd]; exact (cells_of (k.blk hblk (fun h => h))).1
  have HSk := hide hSk
  have K1 := hide k1
  have HSd := hide hSd
  clear hSk hSd hblk k1 hW1 hc c0 c1
  refine wp_region_S 9 (S) (by kernel_rfl) (n := 9) (listed := #[false, false, false, false, false, false, false, false, false]) rfl (by kernel_rfl) ?hS (fun hS => ?_)
  case hS => exact HSk.out _ ((Kp.refl _ _).drew)
  have hSd := HSd.out
  subst hSd
  refine tk 0 [] rfl (by kernel_rfl) rfl (fun _ _ _ h => h) hS (fun _ h => by (try dsimp only at h); go_simp; all_goals with_reducible rfl) ?_
  simp only [pS]
  refine tk 1 [] rfl (by kernel_rfl) rfl (fun _ _ _ h => h) hS (fun _ h => by (try dsimp only at h); go_simp; all_goals with_reducible rfl) ?_
  simp only [pS]
  refine tk 3 [] rfl (by kernel_rfl) rfl (fun _ _ _ h => h) hS (fun _ h => by (try dsimp only at h); go_simp; all_goals with_reducible rfl) ?_
  simp only [pS]
  refine tk 4 [] rfl (by kernel_rfl) rfl (fun _ _ _ h => h) hS (fun _ h => by (try dsimp only at h); go_simp; all_goals with_reducible rfl) ?_
  simp only [pS]
  refine wpAnyS_one 2 (listed' := #[true, true, true, true, true, false, false, false, false]) rfl (by kernel_rfl) (by kernel_rfl) (fun K hK => ?_)
  have hB := freshB_any (w := W1.drew) (RowAt.kp HB.out (K1.out.drew) (fun _ _ h => h)) (bytes_oneCell ps) (by omega)
  refine step_call (by rfl) 53 _ _ (by rfl) enters_freshB _ (by rfl) hB ?_
  rintro r w2 ⟨⟨rfl, ho2⟩, k2⟩
  have k2' : Kp no W1 w2 := ((Kp.refl no W1).drew).trans k2
  refine ⟨_, rfl, hK _ _ (HSk.out _ k2') (fun hS => ?_)⟩
  clear hK K hB
  simp only [pS]
  refine wpAnyS_one 5 (listed' := #[true, true, true, true, true, true, false, false, false]) rfl (by kernel_rfl) (by kernel_rfl) (fun K hK => ?_)
  have hB := freshB_any (w := w2) (RowAt.kp HB2.out (K1.out.trans k2') (fun _ _ h => h)) (bytes_oneCell rs) (by omega)
  refine step_call (by rfl) 53 _ _ (by rfl) enters_freshB _ (by rfl) hB ?_
  rintro r w3 ⟨⟨rfl, ho3⟩, k3⟩
  refine ⟨_, rfl, hK _ _ (HSk.out _ (k2'.trans k3)) (fun hS => ?_)⟩
  clear hK K hB
  simp only [pS]
  refine tk 6 [] rfl (by kernel_rfl) rfl (fun _ _ _ h => h) hS (fun _ h => by (try dsimp only at h); go_simp; all_goals with_reducible rfl) ?_
  simp only [pS]
  refine tk 7 [] rfl (by kernel_rfl) rfl (fun _ _ _ h => h) hS (fun _ h => by (try dsimp only at h); go_simp; all_goals with_reducible rfl) ?_
  simp only [pS]
  refine tk 8 [] rfl (by kernel_rfl) rfl (fun _ _ _ h => h) hS (fun _ h => by (try dsimp only at h); go_simp; all_goals with_reducible rfl) ?_
  simp only [pS]
  refine wpAnyS_done (by kernel_rfl) ?_ _
  clear hS
  have hl2 := own_lt ho2 rfl
  have h12 := k2'.size
  have h0 := K1.out.size
  have hx2 := hide (own_le (k3.own ho2 (fun _ _ h => h)) (show w.heap.size ≤ W1.drew.heap.size from h0))
  have hx3 := hide (own_le ho3 (Nat.le_trans h0 h12))
  have KF := hide (K1.out.trans (k2'.trans k3))
  clear ho2 ho3 k2 k2' k3
  go_wp2
  go_ret3
  exact ⟨⟨_, _, rfl, h0, hl2, hx2.out, hx3.out⟩, KF.out⟩
end Go.Proofs.YtdeplgkhmebalaaGreatDoor
