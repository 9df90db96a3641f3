/- What a store tells of a key. -/
import Derived.Test.YtdeplgkhmebalaaGreatDoorP33
import Derived.Test.YtdeplgkhmebalaaGreatDoorP26
import Derived.Test.YtdeplgkhmebalaaGreatDoorCellsD
import Derived.Test.YtdeplgkhmebalaaGreatDoorP32

namespace Go.Proofs.YtdeplgkhmebalaaGreatDoor
open Go.RowKit Go.MuLone
open Go.Maps (Keyed)

theorem key_of (k : Int) (h1 : -9223372036854775808 ≤ k) (h2 : k < 9223372036854775808) : keyOf Tryz.prog 2 (.int .i64 k) = some (.int .i64 k) := by
  have h := key64 k
  rwa [show wrap64 k = k by unfold wrap64; omega] at h

set_option maxRecDepth 100000 in
set_option maxHeartbeats 2000000 in
theorem get_any {w : World} {tb b : Nat} {keys : List (Int × Int)} (hs : StoreAt w tb (some b) keys) (k : Int) (h1 : -9223372036854775808 ≤ k) (h2 : k < 9223372036854775808) :
    Calls Tryz.prog 37 #[ptrTo tb, .int .i64 k] w fun r w' => r = .returned (.tuple #[.int .i64 ((look keys k).getD 0), .bool (look keys k).isSome]) ∧ StoreAt w' tb (some b) keys ∧ Kp (one tb) w w' := by
  have hso := hs.blk
  obtain ⟨hsc, hsf⟩ := cells_of hso
  have htl := lt_of_blk hso
  have hkey := key_of k h1 h2
  have kL : Kp (one tb) w (w.setCell ⟨tb, 0, none⟩ (.int .i32 1)) := (Kp.refl _ w).set1 0 _
  have hs1 : (w.setCell ⟨tb, 0, none⟩ (.int .i32 1)).heap[tb]? = some (.cells #[.int .i32 1, .int .u32 0, .map (some b)] 110) := heap_setCell hso _
  have hmap := hs.map.kp kL (hs.map.ne hs.blk)
  have hsz1 : (w.setCell ⟨tb, 0, none⟩ (.int .i32 1)).heap.size = w.heap.size := by simp [World.setCell]
  have HS := hide hs
  have KL := hide kL
  have HS1 := hide hs1
  have HKy := hide hkey
  have HMap := hide hmap
  clear hs hso kL hs1 hkey hmap
  go_enter_defers Tryz.func37, Tryz.ntmps37
  go_wp2_with fail
  refine (lock_free muLib ⟨tb, 0, none⟩ _ (hsc 0) (hsf 0)).mono ?_
  rintro r w1 ⟨rfl, hw⟩
  rw [hw]
  clear hw w1
  obtain ⟨W1, hW1⟩ : ∃ W1, W1 = w.setCell ⟨tb, 0, none⟩ (.int .i32 1) := ⟨_, rfl⟩
  rw [← hW1] at HS1 HMap KL hsz1 ⊢
  clear hW1
  obtain ⟨hsc1, hsf1⟩ := cells_of HS1.out
  obtain ⟨D, n, hown, hn, hrep⟩ : KeysAt W1 b keys := by
    rcases HMap.out with ⟨h, -⟩ | ⟨b', hb, h⟩
    · cases h
    · cases hb; exact h
  have HOwn := hide hown
  have HRep := hide hrep
  clear hown hrep hsc hsf
  go_wp2_with (at_lookup; refine wpList_lookup_own_ok_int _ rfl _ _ 108 rfl 2 2 .i64 keyed64 Tryz.underlying108 Tryz.underlying2 (zero64 _) b n D rfl HOwn.out _ _ rfl HKy.out ?_)
  intro c hat hwc
  have hcv : c = (look keys k).getD 0 := by
    have := ((HRep.out).2 k).2
    rw [hat] at this
    change _ = DataW.lit (Lit.int .i64 ((look keys k).getD 0)) at this
    simpa using this
  have hcb : Maps.has D (.int .i64 k) = (look keys k).isSome := ((HRep.out).2 k).1
  have HCv := hide hcv
  have HCb := hide hcb
  clear hat hwc hcv hcb
  go_wp2_with fail
  refine leaves_cons (f := 48) (args := #[.pointer (some ⟨tb, 0, none⟩)]) (by simp) (by simp [go_sem]) ?_
  refine (unlock_deferred muLib ⟨tb, 0, none⟩ .returning _ (hsc1 0) (hsf1 0)).mono ?_
  rintro r u' w3 ⟨rfl, rfl, rfl⟩
  have kA : Kp (one tb) w (W1.setCell ⟨tb, 0, none⟩ (.int .i32 0)) := KL.out.set1 0 _
  refine ⟨_, results_tmp2 rfl _ _ _, ?_, ⟨heap_setCell HS1.out _, HS.out.map.kp kA (HS.out.map.ne HS.out.blk), HS.out.few⟩, kA⟩
  rw [← HCv.out, ← HCb.out]
  rfl

theorem get_keep {w w' : World} {ib tb : Nat} {f : Flat} {mem : List UInt8} {gl : List Int} {keys : List (Int × Int)} (hI : Inst w w' ib tb f mem gl keys) (hne : keys ≠ []) (k : Int) (h1 : -9223372036854775808 ≤ k) (h2 : k < 9223372036854775808) :
    Calls Tryz.prog 37 #[ptrTo tb, .int .i64 k] w' fun r w'' => r = .returned (.tuple #[.int .i64 ((look keys k).getD 0), .bool (look keys k).isSome]) ∧ Inst w w'' ib tb f mem gl keys ∧ Kp (ibtb ib tb) w' w'' := by
  obtain ⟨⟨ro, mb, mv, gv, p, h, hs, h3, h4, h5⟩, h6, h7⟩ := hI
  have hni := h.neI hs
  obtain ⟨b, rfl⟩ : ∃ b, p = some b := by
    rcases hs.map with ⟨-, h⟩ | ⟨b, hb, -⟩
    · exact absurd h hne
    · exact ⟨b, hb⟩
  refine Calls.mono (get_any hs k h1 h2) ?_
  rintro r w'' ⟨hr, hs', kA⟩
  exact ⟨hr, ⟨⟨ro, mb, mv, gv, _, h.kp kA hni (fun b hb => (h.roI b hb).2.2) (fun b hb => (h.mvI b hb).2) (fun b hb => (h.gvI b hb).2), hs', h3, h4, h5⟩, h6, h7⟩, kA.mono (fun b _ hb => .inr hb)⟩
end Go.Proofs.YtdeplgkhmebalaaGreatDoor

namespace Go.Proofs.YtdeplgkhmebalaaGreatDoor
open Go.RowKit

set_option maxRecDepth 100000 in
set_option maxHeartbeats 1000000 in
theorem type_refused {w : World} {ro : Nat → Prop} {mb : Nat} {f : Flat} {n : Int} (h : ModAt w ro mb 123 f) (hn : n < 0 ∨ (f.funcs.length : Int) ≤ n) :
    Calls Tryz.prog 41 #[ptrTo mb, .int .i64 n] w fun r w' => r = .returned (.tuple #[.slice none 0 0, .slice none 0 0, .int .i64 4]) ∧ w' = w := by
  have hfn := funcs_any h
  have HFn := hide hfn
  clear h hfn
  by_cases h0 : n < 0
  · go_enter Tryz.func41, Tryz.ntmps41
    go_wp2
    go_ret3
    exact ⟨rfl, rfl⟩
  · have h1 : (f.funcs.length : Int) ≤ n := by omega
    go_enter Tryz.func41, Tryz.ntmps41
    go_wp2_with fail
    refine HFn.out.mono ?_
    rintro r w1 ⟨rfl, rfl⟩
    go_wp2
    go_ret3
    exact ⟨rfl, rfl⟩

theorem callI_refused {w w' : World} {ib tb : Nat} {av : Value} {f : Flat} {mem : List UInt8} {gl args : List Int} {keys : List (Int × Int)} {n fuel : Int} (hI : Inst w w' ib tb f mem gl keys)
    (hok : FlatOk f) (ha : ValsAt w' av args) (hal : args.length ≤ 1000) (hav : ∀ b, av.ownBlock = some b → b ≠ ib ∧ b ≠ tb) (e : Nat) (he : refusesM f n args fuel = ((e + 1 : Nat) : Int)) :
    Calls Tryz.prog 27 #[ptrTo ib, .int .i64 n, av, .int .i64 fuel] w' fun r w'' => r = .returned (replyV ((e + 1 : Nat) : Int) 0 0 0) ∧ Inst w w'' ib tb f mem gl keys ∧ Kp (ibtb ib tb) w' w'' := by
  obtain ⟨⟨ro, mb, mv, gv, p, h1, h2, h3, h4, h5⟩, h6, h7⟩ := hI
  refine Calls.mono (call_refused h1 h2 hok.ok.nf ha hal hav (fun k hk => Nat.le_trans (hok.fn k hk).1 (hok.fn k hk).2) e he) ?_
  rintro r w'' ⟨hr, i1, i2, hk⟩
  exact ⟨hr, ⟨⟨ro, mb, mv, gv, p, i1, i2, h3, h4, h5⟩, h6, h7⟩, hk⟩
end Go.Proofs.YtdeplgkhmebalaaGreatDoor

namespace Go.Proofs.YtdeplgkhmebalaaGreatDoor
open Go.RowKit
theorem FnsAt.made3 {W : World} {f0 f1 f2 : FnS} {x0 x1 x2 x3 x4 x5 x6 x7 x8 x9 x10 x11 : Value} (h0 : FnIn W f0 x0 x1 x2 x3) (h1 : FnIn W f1 x4 x5 x6 x7) (h2 : FnIn W f2 x8 x9 x10 x11) (t : TypeId) :
    FnsAt (W.alloc (.cells #[x0, x1, x2, x3, x4, x5, x6, x7, x8, x9, x10, x11] t)) (.slice (some ⟨W.heap.size, 0, none⟩) 3 3) [f0, f1, f2] := by
  have k : Kp no W (W.alloc (.cells #[x0, x1, x2, x3, x4, x5, x6, x7, x8, x9, x10, x11] t)) := (Kp.refl _ _).alloc _
  refine ⟨[x0, x1, x2, x3, x4, x5, x6, x7, x8, x9, x10, x11], RowAt.ofBlock (heap_alloc_new W (.cells #[x0, x1, x2, x3, x4, x5, x6, x7, x8, x9, x10, x11] t)) 3 4 rfl, fun j hj => ?_⟩
  match j, hj with
  | 0, _ => exact ⟨x0, x1, x2, x3, rfl, rfl, rfl, rfl, h0.kq k⟩
  | 1, _ => exact ⟨x4, x5, x6, x7, rfl, rfl, rfl, rfl, h1.kq k⟩
  | 2, _ => exact ⟨x8, x9, x10, x11, rfl, rfl, rfl, rfl, h2.kq k⟩
  | j + 3, h => exact absurd h (by simp)
def kpFns : List FnS := [⟨[126, 126], [], [], [32, 0, 32, 1, 225]⟩, ⟨[126], [126], [], [32, 0, 224]⟩, ⟨[126, 126], [], [], [32, 0, 32, 1, 225, 32, 1, 36, 0, 65, 0, 65, 7, 54, 0, 65, 1, 64, 26, 0]⟩]
def kpBytes : List UInt8 := moduleB 1 kpFns
def kpF : Flat := flatOf kpBytes
theorem kp_okB : (isOk (loadM kpBytes) && flatOkB kpF && decide (kpBytes.length ≤ 1000) && decide (kpF.globals = [5]) && decide (kpF.pages = 1) && decide (kpF.funcs.length = 3)) = true := by kernel_rfl
structure KpOk : Prop where
  load : loadM kpBytes = .ok kpF
  ok : FlatOk kpF
  len : kpBytes.length ≤ 1000
  gl : kpF.globals.map (fun (n : Nat) => ((n : Nat) : Int)) = [5]
  mem : List.replicate (kpF.pages * 64) (0 : UInt8) = List.replicate 64 0
  nf : kpF.funcs.length = 3
theorem kp_okay : KpOk := by
  have h := kp_okB
  simp only [Bool.and_eq_true, decide_eq_true_eq] at h
  obtain ⟨⟨⟨⟨⟨h1, h2⟩, h3⟩, h4⟩, h5⟩, h6⟩ := h
  exact ⟨flatOf_ok h1, flatOk_of h2, h3, by rw [h4]; rfl, by rw [h5], h6⟩
set_option maxRecDepth 100000 in
set_option maxHeartbeats 2000000 in
theorem keepsK_any (w : World) : Calls Tryz.prog 34 #[] w fun r w' => (∃ v, r = .returned v ∧ NB w w' v kpBytes) ∧ Kp no w w' := by
  go_enter Tryz.func34, Tryz.ntmps34
  go_wp2_with fail
  refine (twoK_any _ 126).mono ?_
  rintro r w1 ⟨⟨v1, rfl, h1⟩, k1⟩
  obtain ⟨a1, c1, hv1, -⟩ := h1.at.shape
  subst hv1
  have H1 := hide h1
  have K1 := hide k1
  clear h1 k1
  go_wp2_with fail
  refine (oneK_any _ 126).mono ?_
  rintro r w2 ⟨⟨v2, rfl, h2⟩, k2⟩
  obtain ⟨a2, c2, hv2, -⟩ := h2.at.shape
  subst hv2
  have H2 := hide h2
  have HP := hide ((NB.made w1 [32, 0, 32, 1, 225] (by simp [maxLen])).at.kq k2)
  have K2 := hide (((Kp.refl no w1).alloc (.cells (bcs [32, 0, 32, 1, 225]).toArray 5)).trans k2)
  clear h2 k2
  go_wp2_with fail
  refine (oneK_any _ 126).mono ?_
  rintro r w3 ⟨⟨v3, rfl, h3⟩, k3⟩
  obtain ⟨a3, c3, hv3, -⟩ := h3.at.shape
  subst hv3
  have H3 := hide h3
  have K3 := hide k3
  clear h3 k3
  go_wp2_with fail
  refine (twoK_any _ 126).mono ?_
  rintro r w4 ⟨⟨v4, rfl, h4⟩, k4⟩
  obtain ⟨a4, c4, hv4, -⟩ := h4.at.shape
  subst hv4
  have H4 := hide h4
  have HG := hide ((NB.made w3 [32, 0, 224] (by simp [maxLen])).at.kq k4)
  have K4 := hide (((Kp.refl no w3).alloc (.cells (bcs [32, 0, 224]).toArray 5)).trans k4)
  clear h4 k4
  go_wp2_with fail
  have kz : Kp no w4 (w4.alloc (.cells (bcs [32, 0, 32, 1, 225, 32, 1, 36, 0, 65, 0, 65, 7, 54, 0, 65, 1, 64, 26, 0]).toArray 5)) := (Kp.refl no w4).alloc _
  have hF := FnsAt.made3 (W := w4.alloc (.cells (bcs [32, 0, 32, 1, 225, 32, 1, 36, 0, 65, 0, 65, 7, 54, 0, 65, 1, 64, 26, 0]).toArray 5)) (f0 := ⟨[126, 126], [], [], [32, 0, 32, 1, 225]⟩) (f1 := ⟨[126], [126], [], [32, 0, 224]⟩) (f2 := ⟨[126, 126], [], [], [32, 0, 32, 1, 225, 32, 1, 36, 0, 65, 0, 65, 7, 54, 0, 65, 1, 64, 26, 0]⟩)
    ⟨((((H1.out.at.kq K2.out).kq K3.out).kq K4.out).kq kz), RowAt.nil _ 1, RowAt.nil _ 1, (((HP.out.kq K3.out).kq K4.out).kq kz)⟩
    ⟨(((H2.out.at.kq K3.out).kq K4.out).kq kz), ((H3.out.at.kq K4.out).kq kz), RowAt.nil _ 1, (HG.out.kq kz)⟩
    ⟨(H4.out.at.kq kz), RowAt.nil _ 1, RowAt.nil _ 1, (NB.made w4 [32, 0, 32, 1, 225, 32, 1, 36, 0, 65, 0, 65, 7, 54, 0, 65, 1, 64, 26, 0] (by simp [maxLen])).at⟩ 27
  rw [show (w4.alloc (.cells (bcs [32, 0, 32, 1, 225, 32, 1, 36, 0, 65, 0, 65, 7, 54, 0, 65, 1, 64, 26, 0]).toArray 5)).heap.size = w4.heap.size + 1 by simp] at hF
  have hM := module_keep (pages := 1) hF (by simp) (by omega) (Nat.le_trans kp_okay.len (by omega))
  refine hM.mono ?_
  rintro r w5 ⟨⟨v5, rfl, h5⟩, k5⟩
  have KE := hide (K1.out.trans (K2.out.trans (K3.out.trans (K4.out.trans ((kz.alloc _).trans k5)))))
  have H5 := hide h5
  obtain ⟨a5, c5, hv5, -⟩ := h5.at.shape
  subst hv5
  clear hF hM h5 k5 kz
  go_wp2
  go_ret
  refine ⟨⟨_, rfl, NB.newer H5.out ?_⟩, KE.out⟩
  have g1 := K1.out.size
  have g2 := K2.out.size
  have g3 := K3.out.size
  have g4 := K4.out.size
  simp
  omega
end Go.Proofs.YtdeplgkhmebalaaGreatDoor

namespace Go.Proofs.YtdeplgkhmebalaaGreatDoor
open Go.RowKit
section
variable (k v : Int) (F : Nat) (mem : List UInt8) (gl : List Int) (keys : List (Int × Int))
set_option maxRecDepth 100000 in
theorem kr_p1 : stepsR kpF 2 (enterR kpF ⟨[k, v], [], 0, F + 3, mem, gl, keys⟩ 0) = some ⟨[k, v, k, v], [(0, 2, 0)], 2, F + 1, mem, gl, keys⟩ := by kernel_rfl
set_option maxRecDepth 100000 in
theorem kr_p2 : runR kpF 6 ⟨[k, v, k, v], [(0, 2, 0)], 2, F + 1, mem, gl, keys⟩ = afterR (setKeyR ⟨[k, v, k, v], [(0, 2, 0)], 3, F, mem, gl, keys⟩) (runR kpF 5) := by kernel_rfl
set_option maxRecDepth 100000 in
theorem kr_p3 : runR kpF 5 ⟨[k, v], [(0, 2, 0)], 3, F, mem, gl, keys⟩ = some (0, ⟨[], [], 0, F, mem, gl, keys⟩) := by kernel_rfl
set_option maxRecDepth 100000 in
theorem kr_g1 : stepsR kpF 1 (enterR kpF ⟨[k], [], 0, F + 2, mem, gl, keys⟩ 1) = some ⟨[k, k], [(0, 1, 0)], 5, F + 1, mem, gl, keys⟩ := by kernel_rfl
set_option maxRecDepth 100000 in
theorem kr_g2 : runR kpF 6 ⟨[k, k], [(0, 1, 0)], 5, F + 1, mem, gl, keys⟩ = afterR ((getKeyR ⟨[k, k], [(0, 1, 0)], 6, F, mem, gl, keys⟩).map (fun s' => (0, s'))) (runR kpF 5) := by kernel_rfl
set_option maxRecDepth 100000 in
theorem kr_g3 (r : Int) : runR kpF 5 ⟨[k, r], [(0, 1, 0)], 6, F, mem, gl, keys⟩ = some (0, ⟨[r], [], 0, F, mem, gl, keys⟩) := by kernel_rfl
set_option maxRecDepth 100000 in
theorem kr_f1 : stepsR kpF 2 (enterR kpF ⟨[k, v], [], 0, F + 3, mem, gl, keys⟩ 2) = some ⟨[k, v, k, v], [(0, 2, 0)], 9, F + 1, mem, gl, keys⟩ := by kernel_rfl
set_option maxRecDepth 100000 in
theorem kr_f2 : runR kpF 16 ⟨[k, v, k, v], [(0, 2, 0)], 9, F + 1, mem, gl, keys⟩ = afterR (setKeyR ⟨[k, v, k, v], [(0, 2, 0)], 10, F, mem, gl, keys⟩) (runR kpF 15) := by kernel_rfl
def kpMem : List UInt8 := stTo (List.replicate 64 0) 0 7 4 ++ List.replicate 64 0
set_option maxRecDepth 100000 in
theorem kr_f3 (g : Int) : runR kpF 15 ⟨[k, v], [(0, 2, 0)], 10, 97, List.replicate 64 0, [g], keys⟩ = some (1, ⟨[k, v], [(0, 2, 0)], 19, 88, kpMem, [v], keys⟩) := by kernel_rfl
end
section
variable {k v : Int} {F : Nat} {mem : List UInt8} {gl : List Int} {keys : List (Int × Int)}
theorem kr_set {q : Nat} (hl : keys.length ≤ 900) (hn : ¬ ((look keys (wrap64 k)).isNone ∧ keys.length = 8)) : setKeyR ⟨[k, v, k, v], [(0, 2, 0)], q, F, mem, gl, keys⟩ = some (0, ⟨[k, v], [(0, 2, 0)], q, F, mem, gl, putKey keys (wrap64 k) (wrap64 v)⟩) := by
  have hT : topR ⟨[k, v, k, v], [(0, 2, 0)], q, F, mem, gl, keys⟩ = v := rfl
  have hP : popR ⟨[k, v, k, v], [(0, 2, 0)], q, F, mem, gl, keys⟩ = ⟨[k, v, k], [(0, 2, 0)], q, F, mem, gl, keys⟩ := rfl
  have hT2 : topR ⟨[k, v, k], [(0, 2, 0)], q, F, mem, gl, keys⟩ = k := rfl
  have hP2 : popR ⟨[k, v, k], [(0, 2, 0)], q, F, mem, gl, keys⟩ = ⟨[k, v], [(0, 2, 0)], q, F, mem, gl, keys⟩ := rfl
  unfold setKeyR
  simp only [hT, hP, hT2, hP2]
  rw [if_neg (by simp; omega), if_neg hn]
theorem kr_setT {q : Nat} (hl : keys.length = 8) (hn : (look keys (wrap64 k)).isNone) : setKeyR ⟨[k, v, k, v], [(0, 2, 0)], q, F, mem, gl, keys⟩ = some (7, ⟨[k, v], [(0, 2, 0)], q, F, mem, gl, keys⟩) := by
  have hT : topR ⟨[k, v, k, v], [(0, 2, 0)], q, F, mem, gl, keys⟩ = v := rfl
  have hP : popR ⟨[k, v, k, v], [(0, 2, 0)], q, F, mem, gl, keys⟩ = ⟨[k, v, k], [(0, 2, 0)], q, F, mem, gl, keys⟩ := rfl
  have hT2 : topR ⟨[k, v, k], [(0, 2, 0)], q, F, mem, gl, keys⟩ = k := rfl
  have hP2 : popR ⟨[k, v, k], [(0, 2, 0)], q, F, mem, gl, keys⟩ = ⟨[k, v], [(0, 2, 0)], q, F, mem, gl, keys⟩ := rfl
  unfold setKeyR
  simp only [hT, hP, hT2, hP2]
  rw [if_neg (by simp; omega), if_pos ⟨hn, hl⟩]
theorem call_none {f : Flat} {n K u : Nat} {args : List Int} {fuel : Nat} {s : Mc} (h : runR f K (enterR f ⟨args, [], 0, fuel, mem, gl, keys⟩ n) = some (0, s)) (hf : s.fuel + u = fuel) (hl : s.stack = []) : callR f n args fuel mem gl keys K = some (0, 0, u, s) := by
  unfold callR
  rw [h]
  simp only
  rw [if_pos ⟨by omega, by rw [hl]; simp⟩, if_neg (by rw [hl]; simp), show fuel - s.fuel = u by omega]
/-- A key's value put. -/
theorem kp_put (hl : keys.length ≤ 900) (hn : ¬ ((look keys (wrap64 k)).isNone ∧ keys.length = 8)) : callR kpF 0 [k, v] (F + 3) mem gl keys 8 = some (0, 0, 3, ⟨[], [], 0, F, mem, gl, putKey keys (wrap64 k) (wrap64 v)⟩) :=
  call_none ((steps_run (m := 6) 2 _ _ (kr_p1 k v F mem gl keys)).trans (((kr_p2 k v F mem gl keys).trans (congrArg (fun z => afterR z (runR kpF 5)) (kr_set hl hn))).trans (after_go.trans (kr_p3 k v F mem gl _)))) rfl rfl
theorem kp_putT (hl : keys.length = 8) (hn : (look keys (wrap64 k)).isNone) : callR kpF 0 [k, v] (F + 3) mem gl keys 8 = some (7, 0, 3, ⟨[k, v], [(0, 2, 0)], 3, F, mem, gl, keys⟩) :=
  call_trap ((steps_run (m := 6) 2 _ _ (kr_p1 k v F mem gl keys)).trans (((kr_p2 k v F mem gl keys).trans (congrArg (fun z => afterR z (runR kpF 5)) (kr_setT hl hn))).trans after_trap)) rfl (by simp)
theorem kp_get : callR kpF 1 [k] (F + 2) mem gl keys 7 = some (0, IntKind.u64.wrap ((look keys (wrap64 k)).getD 0), 2, ⟨[IntKind.u64.wrap ((look keys (wrap64 k)).getD 0)], [], 0, F, mem, gl, keys⟩) :=
  call_gives ((steps_run (m := 6) 1 _ _ (kr_g1 k F mem gl keys)).trans (((kr_g2 k F mem gl keys).trans (congrArg (fun z => afterR z (runR kpF 5)) (show (getKeyR ⟨[k, k], [(0, 1, 0)], 6, F, mem, gl, keys⟩).map (fun s' => (0, s')) = some (0, ⟨[k, IntKind.u64.wrap ((look keys (wrap64 k)).getD 0)], [(0, 1, 0)], 6, F, mem, gl, keys⟩) from rfl))).trans (after_go.trans (kr_g3 k F mem gl keys _)))) rfl rfl
/-- All is changed, and it fails. -/
theorem kp_fail {g : Int} (hl : keys.length ≤ 900) (hn : ¬ ((look keys (wrap64 k)).isNone ∧ keys.length = 8)) : callR kpF 2 [k, v] 100 (List.replicate 64 0) [g] keys 18 = some (1, 0, 12, ⟨[k, v], [(0, 2, 0)], 19, 88, kpMem, [v], putKey keys (wrap64 k) (wrap64 v)⟩) :=
  call_trap ((steps_run (m := 16) 2 _ _ (kr_f1 k v 97 (List.replicate 64 0) [g] keys)).trans (((kr_f2 k v 97 (List.replicate 64 0) [g] keys).trans (congrArg (fun z => afterR z (runR kpF 15)) (kr_set hl hn))).trans (after_go.trans (kr_f3 k v _ g)))) rfl (by simp)
theorem kp_failT (hl : keys.length = 8) (hn : (look keys (wrap64 k)).isNone) : callR kpF 2 [k, v] 100 mem gl keys 18 = some (7, 0, 3, ⟨[k, v], [(0, 2, 0)], 10, 97, mem, gl, keys⟩) :=
  call_trap ((steps_run (m := 16) 2 _ _ (kr_f1 k v 97 mem gl keys)).trans (((kr_f2 k v 97 mem gl keys).trans (congrArg (fun z => afterR z (runR kpF 15)) (kr_setT hl hn))).trans after_trap)) rfl (by simp)
end
end Go.Proofs.YtdeplgkhmebalaaGreatDoor
