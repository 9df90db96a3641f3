/- What an instance tells of its globals. -/
import Derived.Test.YtdeplgkhmebalabGreatDoorP32
import Derived.Test.YtdeplgkhmebalabGreatDoorP26

namespace Go.Proofs.YtdeplgkhmebalabGreatDoor
open Go.RowKit Go.MuLone

set_option maxRecDepth 100000 in
set_option maxHeartbeats 2000000 in
theorem globals_keep {w w' : World} {ib tb : Nat} {f : Flat} {mem : List UInt8} {gl : List Int} {keys : List (Int × Int)} (hI : Inst w w' ib tb f mem gl keys) :
    Calls Tryz.prog 18 #[ptrTo ib] w' fun r w'' => (∃ b, r = .returned (.slice (some ⟨b, 0, none⟩) gl.length gl.length) ∧ w'.heap.size ≤ b ∧ ValsAt w'' (.slice (some ⟨b, 0, none⟩) gl.length gl.length) gl) ∧ Inst w w'' ib tb f mem gl keys ∧ Kp (ibtb ib tb) w' w'' := by
  obtain ⟨⟨ro, mb, mv, gv, p, h, hs, h3, h4, h5⟩, h6, h7⟩ := hI
  have hne := h.neI hs
  have hio := h.blk
  have hso := hs.blk
  obtain ⟨hic, -⟩ := cells_of hio
  obtain ⟨hsc, hsf⟩ := cells_of hso
  have hst := started_any hio
  have htl := lt_of_blk hso
  have hil := lt_of_blk hio
  obtain ⟨adg, capg, hgv, -⟩ := RowAt.shape h.glR
  subst hgv
  have kL : Kp (one tb) w' (w'.setCell ⟨tb, 0, none⟩ (.int .i32 1)) := (Kp.refl _ w').set1 0 _
  have hi1 := kL.blk hio hne
  have hs1 : (w'.setCell ⟨tb, 0, none⟩ (.int .i32 1)).heap[tb]? = some (.cells #[.int .i32 1, .int .u32 0, .map p] 85) := heap_setCell hso _
  have hfr := freshV_any (RowAt.kp h.glR kL (fun b hb => (h.gvI b hb).2)) (vals_oneCell gl) h.gn
  have hsz1 : (w'.setCell ⟨tb, 0, none⟩ (.int .i32 1)).heap.size = w'.heap.size := by simp [World.setCell]
  have HSt := hide hst
  have H := hide h
  have HS := hide hs
  have HFr := hide hfr
  have KL := hide kL
  have HS1 := hide hs1
  have H3 := hide h3
  have H4 := hide h4
  have H5 := hide h5
  clear h hs hst hio hso hfr kL hs1 h3 h4 h5
  go_enter_defers Tryz.func18, Tryz.ntmps18
  go_wp2_with fail
  refine HSt.out.mono ?_
  rintro r w1 ⟨rfl, hw⟩
  rw [hw]
  clear hw w1
  go_wp2_with fail
  refine (lock_free muLib ⟨tb, 0, none⟩ _ (hsc 0) (hsf 0)).mono ?_
  rintro r w1 ⟨rfl, hw⟩
  rw [hw]
  clear hw w1
  obtain ⟨W1, hW1⟩ : ∃ W1, W1 = w'.setCell ⟨tb, 0, none⟩ (.int .i32 1) := ⟨_, rfl⟩
  rw [← hW1] at hi1 HS1 HFr KL hsz1 ⊢
  clear hW1
  obtain ⟨hic1, -⟩ := cells_of hi1
  clear hi1 hic hsc hsf
  go_wp2_with fail
  refine HFr.out.mono ?_
  rintro r w2 ⟨⟨rfl, ho⟩, k2⟩
  have HO := hide ho
  have K2 := hide k2
  have hs2 := k2.blk HS1.out (fun h => h)
  clear ho k2 HFr
  go_wp2_with fail
  refine leaves_cons (f := 27) (args := #[.pointer (some ⟨tb, 0, none⟩)]) (by simp) (by simp [go_sem]) ?_
  refine (unlock_deferred muLib ⟨tb, 0, none⟩ .returning _ ((cells_of hs2).1 0) ((cells_of hs2).2 0)).mono ?_
  rintro r u' w3 ⟨rfl, rfl, rfl⟩
  rw [hsz1] at HO
  have kA : Kp (one tb) w' (w2.setCell ⟨tb, 0, none⟩ (.int .i32 0)) := (KL.out.then K2.out).set1 0 _
  refine ⟨_, results_tmp rfl _ _ _, ⟨w'.heap.size, rfl, Nat.le_refl _, ?_⟩, ⟨⟨ro, mb, mv, _, p, H.out.kp kA hne (fun b hb => (H.out.roI b hb).2.2) (fun b hb => (H.out.mvI b hb).2) (fun b hb => (H.out.gvI b hb).2), ⟨heap_setCell hs2 _, HS.out.map.kp kA (HS.out.map.ne HS.out.blk), HS.out.few⟩, H3.out, H4.out, H5.out⟩, h6, h7⟩, kA.mono (fun b _ hb => .inr hb)⟩
  exact RowAt.kp (RowAt.own HO.out) ((Kp.refl (one tb) w2).set1 0 _) (fun b hb (e : b = tb) => by have := own_new HO.out b hb; omega)
end Go.Proofs.YtdeplgkhmebalabGreatDoor

namespace Go.Proofs.YtdeplgkhmebalabGreatDoor
open Go.RowKit Go.MuLone
open Go.Maps (Keyed)

set_option maxRecDepth 100000 in
set_option maxHeartbeats 2000000 in
theorem memory_keep {w w' : World} {ib tb : Nat} {f : Flat} {mem : List UInt8} {gl : List Int} {keys : List (Int × Int)} (hI : Inst w w' ib tb f mem gl keys) :
    Calls Tryz.prog 19 #[ptrTo ib] w' fun r w'' => (∃ b, r = .returned (.slice (some ⟨b, 0, none⟩) mem.length mem.length) ∧ w'.heap.size ≤ b ∧ BytesAt w'' (.slice (some ⟨b, 0, none⟩) mem.length mem.length) mem) ∧ Inst w w'' ib tb f mem gl keys ∧ Kp (ibtb ib tb) w' w'' := by
  obtain ⟨⟨ro, mb, mv, gv, p, h, hs, h3, h4, h5⟩, h6, h7⟩ := hI
  have hne := h.neI hs
  have hio := h.blk
  have hso := hs.blk
  obtain ⟨hic, -⟩ := cells_of hio
  obtain ⟨hsc, hsf⟩ := cells_of hso
  have hst := started_any hio
  have htl := lt_of_blk hso
  have hil := lt_of_blk hio
  obtain ⟨adm, capm, hmv, -⟩ := RowAt.shape h.memR
  subst hmv
  have kL : Kp (one tb) w' (w'.setCell ⟨tb, 0, none⟩ (.int .i32 1)) := (Kp.refl _ w').set1 0 _
  have hi1 := kL.blk hio hne
  have hs1 : (w'.setCell ⟨tb, 0, none⟩ (.int .i32 1)).heap[tb]? = some (.cells #[.int .i32 1, .int .u32 0, .map p] 85) := heap_setCell hso _
  have hfr := freshB_any (RowAt.kp h.memR kL (fun b hb => (h.mvI b hb).2)) (bytes'_oneCell mem) h.mn
  have hsz1 : (w'.setCell ⟨tb, 0, none⟩ (.int .i32 1)).heap.size = w'.heap.size := by simp [World.setCell]
  have HSt := hide hst
  have H := hide h
  have HS := hide hs
  have HFr := hide hfr
  have KL := hide kL
  have HS1 := hide hs1
  have H3 := hide h3
  have H4 := hide h4
  have H5 := hide h5
  clear h hs hst hio hso hfr kL hs1 h3 h4 h5
  go_enter_defers Tryz.func19, Tryz.ntmps19
  go_wp2_with fail
  refine HSt.out.mono ?_
  rintro r w1 ⟨rfl, hw⟩
  rw [hw]
  clear hw w1
  go_wp2_with fail
  refine (lock_free muLib ⟨tb, 0, none⟩ _ (hsc 0) (hsf 0)).mono ?_
  rintro r w1 ⟨rfl, hw⟩
  rw [hw]
  clear hw w1
  obtain ⟨W1, hW1⟩ : ∃ W1, W1 = w'.setCell ⟨tb, 0, none⟩ (.int .i32 1) := ⟨_, rfl⟩
  rw [← hW1] at hi1 HS1 HFr KL hsz1 ⊢
  clear hW1
  obtain ⟨hic1, -⟩ := cells_of hi1
  clear hi1 hic hsc hsf
  go_wp2_with fail
  refine HFr.out.mono ?_
  rintro r w2 ⟨⟨rfl, ho⟩, k2⟩
  have HO := hide ho
  have K2 := hide k2
  have hs2 := k2.blk HS1.out (fun h => h)
  clear ho k2 HFr
  go_wp2_with fail
  refine leaves_cons (f := 27) (args := #[.pointer (some ⟨tb, 0, none⟩)]) (by simp) (by simp [go_sem]) ?_
  refine (unlock_deferred muLib ⟨tb, 0, none⟩ .returning _ ((cells_of hs2).1 0) ((cells_of hs2).2 0)).mono ?_
  rintro r u' w3 ⟨rfl, rfl, rfl⟩
  rw [hsz1] at HO
  have kA : Kp (one tb) w' (w2.setCell ⟨tb, 0, none⟩ (.int .i32 0)) := (KL.out.then K2.out).set1 0 _
  refine ⟨_, results_tmp rfl _ _ _, ⟨w'.heap.size, rfl, Nat.le_refl _, ?_⟩, ⟨⟨ro, mb, _, gv, p, H.out.kp kA hne (fun b hb => (H.out.roI b hb).2.2) (fun b hb => (H.out.mvI b hb).2) (fun b hb => (H.out.gvI b hb).2), ⟨heap_setCell hs2 _, HS.out.map.kp kA (HS.out.map.ne HS.out.blk), HS.out.few⟩, H3.out, H4.out, H5.out⟩, h6, h7⟩, kA.mono (fun b _ hb => .inr hb)⟩
  exact RowAt.kp (RowAt.own HO.out) ((Kp.refl (one tb) w2).set1 0 _) (fun b hb (e : b = tb) => by have := own_new HO.out b hb; omega)

end Go.Proofs.YtdeplgkhmebalabGreatDoor
