/- A loop: the statement's own walk. -/
import Derived.Test.YtdeplgkhmebalaaGreatDoorP32
import Derived.Test.YtdeplgkhmebalaaGreatDoorP29

namespace Go.Proofs.YtdeplgkhmebalaaGreatDoor
open Go.RowKit
theorem bp_swap {P : Program} {fn : Func} {R : Ending → World → Prop} {e : Exit} {a : Act} {w w' : World} (h : w = w') (g : bodyPost P fn R e a w') : bodyPost P fn R e a w := h ▸ g
set_option maxRecDepth 100000 in
set_option maxHeartbeats 2000000 in
theorem sums_keep (w : World) : Calls Tryz.prog 16 #[] w fun r w' => (∃ x0 x1 x2 x3, r = .returned (.agg #[x0, x1, x2, x3]) ∧ BytesAt w' x0 loFn.params ∧ BytesAt w' x1 loFn.results ∧ BytesAt w' x2 loFn.locals ∧ BytesAt w' x3 loFn.code) ∧ Kp no w w' := by
  go_enter Tryz.func16, Tryz.ntmps16
  go_wp2_with fail
  refine (oneK_any _ 127).mono ?_
  rintro r w2 ⟨⟨v2, rfl, h2⟩, k2⟩
  obtain ⟨a2, c2, hv2, -⟩ := h2.at.shape
  subst hv2
  have H2 := hide h2
  have K2 := hide k2
  clear h2 k2
  go_wp2_with fail
  refine (oneK_any _ 127).mono ?_
  rintro r w3 ⟨⟨v3, rfl, h3⟩, k3⟩
  obtain ⟨a3, c3, hv3, -⟩ := h3.at.shape
  subst hv3
  have H3 := hide h3
  have K3 := hide k3
  clear h3 k3
  go_wp2_with fail
  refine (oneK_any _ 127).mono ?_
  rintro r w4 ⟨⟨v4, rfl, h4⟩, k4⟩
  obtain ⟨a4, c4, hv4, -⟩ := h4.at.shape
  subst hv4
  have H4 := hide h4
  have K4 := hide k4
  clear h4 k4
  have k14 : Kp no (w.alloc (.cells #[.slice none 0 0, .slice none 0 0, .slice none 0 0, .slice none 0 0] 27)) w4 := (K2.out.trans K3.out).trans K4.out
  have hb4 := k14.blk (heap_alloc_new w _) (fun h => h)
  have hr5 : ∀ obj q, (w4.alloc obj).cell? ⟨w.heap.size, q, none⟩ = #[.slice none 0 0, .slice none 0 0, .slice none 0 0, .slice none 0 0][q]? := fun obj q => (cells_of (heap_alloc_old hb4)).1 q
  have hf5 : ∀ obj q, (w4.alloc obj).frozen? ⟨w.heap.size, q, none⟩ = false := fun obj q => (cells_of (heap_alloc_old hb4)).2 q
  have HB4 := hide hb4
  have K14 := hide k14
  clear hb4 k14
  go_wp2_with fail
  obtain ⟨hfb, hfk⟩ := reply_fin (heap_alloc_old (o := .cells (bcs loFn.code).toArray 5) HB4.out) (.slice a2 1 c2) (.slice a3 1 c3) (.slice a4 1 c4) (.slice (some ⟨w4.heap.size, 0, none⟩) 36 36)
  have hsz1 : (w.alloc (.cells #[.slice none 0 0, .slice none 0 0, .slice none 0 0, .slice none 0 0] 27)).heap.size = w.heap.size + 1 := by simp
  have hs2 := K2.out.size
  have hs3 := K3.out.size
  have hs4 := K4.out.size
  have b2 := RowAt.kp ((H2.out.at.kq (K3.out.trans K4.out)).kq ((Kp.refl no w4).alloc (.cells (bcs loFn.code).toArray 5))) hfk (fun b hb (e : b = _) => by have := own_new H2.out b hb; omega)
  have b3 := RowAt.kp ((H3.out.at.kq K4.out).kq ((Kp.refl no w4).alloc (.cells (bcs loFn.code).toArray 5))) hfk (fun b hb (e : b = _) => by have := own_new H3.out b hb; omega)
  have b4 := RowAt.kp (H4.out.at.kq ((Kp.refl no w4).alloc (.cells (bcs loFn.code).toArray 5))) hfk (fun b hb (e : b = _) => by have := own_new H4.out b hb; omega)
  have b5 := RowAt.kp ((NB.made w4 loFn.code (by simp [loFn, maxLen])).at) hfk (fun b hb (e : b = _) => by have hb : some _ = some b := hb; simp only [Option.some.injEq] at hb; omega)
  have kF : Kp no w (((((w4.alloc (.cells (bcs loFn.code).toArray 5)).setCell ⟨w.heap.size, 0, none⟩ (.slice a2 1 c2)).setCell ⟨w.heap.size, 1, none⟩ (.slice a3 1 c3)).setCell ⟨w.heap.size, 2, none⟩ (.slice a4 1 c4)).setCell ⟨w.heap.size, 3, none⟩ (.slice (some ⟨w4.heap.size, 0, none⟩) 36 36)) :=
    ((((Kp.refl no w).alloc _).trans K14.out).alloc _).comp hfk (fun _ _ h => h) (fun b hb (h : b = _) => by omega)
  refine bp_swap (w' := ((((w4.alloc (.cells (bcs loFn.code).toArray 5)).setCell ⟨w.heap.size, 0, none⟩ (.slice a2 1 c2)).setCell ⟨w.heap.size, 1, none⟩ (.slice a3 1 c3)).setCell ⟨w.heap.size, 2, none⟩ (.slice a4 1 c4)).setCell ⟨w.heap.size, 3, none⟩ (.slice (some ⟨w4.heap.size, 0, none⟩) 36 36)) (by kernel_rfl) ?_
  generalize ((((w4.alloc (.cells (bcs loFn.code).toArray 5)).setCell ⟨w.heap.size, 0, none⟩ (.slice a2 1 c2)).setCell ⟨w.heap.size, 1, none⟩ (.slice a3 1 c3)).setCell ⟨w.heap.size, 2, none⟩ (.slice a4 1 c4)).setCell ⟨w.heap.size, 3, none⟩ (.slice (some ⟨w4.heap.size, 0, none⟩) 36 36) = WF at *
  have hfin := (cells_of hfb).1
  refine bodyPost_ret (v := .agg #[.slice a2 1 c2, .slice a3 1 c3, .slice a4 1 c4, .slice (some ⟨w4.heap.size, 0, none⟩) 36 36]) (by simp [results, Tryz.results16, go_sem, hfin]) rfl ?_
  exact ⟨⟨_, _, _, _, rfl, b2, b3, b4, b5⟩, kF⟩
end Go.Proofs.YtdeplgkhmebalaaGreatDoor
