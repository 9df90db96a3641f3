/- A call from outside, with all instructions. -/
import Derived.Test.YtdeplgkhmebalaaGreatDoorTameE
import Derived.Test.YtdeplgkhmebalaaGreatDoorP29
import Derived.Test.YtdeplgkhmebalaaGreatDoorP31
import Derived.Test.YtdeplgkhmebalaaGreatDoorP32

namespace Go.Proofs.YtdeplgkhmebalaaGreatDoor
open Go.RowKit
def callT (f : Flat) (n : Nat) (args : List Int) (fuel : Nat) (mem : List UInt8) (gl : List Int) (keys : List (Int × Int)) (K : Nat) : Option (Nat × Int × Nat × Mc) :=
  match runT f K (enterR f ⟨args, [], 0, fuel, mem, gl, keys⟩ n) with
  | none => none
  | some (t, s) => if s.fuel ≤ fuel ∧ s.stack.length ≤ 1000000 then some (t, (if t = 0 ∧ 0 < s.stack.length then topR s else 0), fuel - s.fuel, s) else none
set_option maxRecDepth 100000 in
set_option maxHeartbeats 2000000 in
theorem runCallT_any {W0 w : World} {ro : Nat → Prop} {fb : Nat} {ft : TypeId} {f : Flat} {sb kb gm gg : Nat} {mem : List UInt8} {gl : List Int} {keys : List (Int × Int)} {av : Value} {args : List Int} {n fuel K : Nat}
    (hst : StateAt W0 w sb mem gl keys kb gm gg) (hmod : ModAt w ro fb ft f) (hro : ∀ b, ro b → b < W0.heap.size) (h0 : W0.heap.size ≤ w.heap.size) (ha : ValsAt w av args) (hok : f.Ok) (hn : n < f.funcs.length) (hp1 : (f.funcs.getD n fn0).typ.1.length = args.length) (hp2 : (f.funcs.getD n fn0).typ.1.length ≤ (f.funcs.getD n fn0).locals) (hp3 : (f.funcs.getD n fn0).locals ≤ 1000)
    (hTab : TabW w) (h2W : 2 < W0.heap.size) (hfu : fuel ≤ 100000) (hgl : gl.length ≤ 1000000) (hK : K ≤ 900000) {t : Nat} {v : Int} {u : Nat} {s' : Mc} (hm : callT f n args fuel mem gl keys K = some (t, v, u, s')) :
    Calls Tryz.prog 51 #[ptrTo fb, .int .i64 n, av, .int .i64 fuel, ptrTo sb] w fun r w' => r = .returned (replyV 0 t v u) ∧ (∃ mv gv, Behind w' W0.heap.size sb kb (fun _ => False) s'.mem s'.gl s'.keys mv gv) ∧ Kp (fun b => W0.heap.size ≤ b) w w' := by
  have hal : args.length ≤ 1000 := by omega
  have hsb := hst.o4
  have hsbl := lt_of_blk hst.blk
  obtain ⟨i0, hi0, hz0, hz1, hz2⟩ := info_parts info_u64'
  obtain ⟨ada, capa, hav, hca⟩ := RowAt.shape ha
  subst hav
  unfold callT at hm
  cases hr : runT f K (enterR f ⟨args, [], 0, fuel, mem, gl, keys⟩ n) with
  | none => rw [hr] at hm; cases hm
  | some ts =>
  obtain ⟨t', s1⟩ := ts
  rw [hr] at hm
  simp only at hm
  split at hm
  case isFalse => cases hm
  case isTrue hfs =>
  obtain ⟨hfs, hsl⟩ := hfs
  simp only [Option.some.injEq, Prod.mk.injEq] at hm
  obtain ⟨rfl, hv, hu, rfl⟩ := hm
  have HTab := hide hTab
  have H2W := hide h2W
  clear hTab h2W
  have HSt := hide hst
  have HMod := hide hmod
  have HRo := hide hro
  have HA := hide ha
  have HOk := hide hok
  have HR := hide hr
  have HV := hide hv
  have HU := hide hu
  have HP1 := hide hp1
  have HP2 := hide hp2
  have HP3 := hide hp3
  clear hst hmod hro ha hok hr hv hu hp1 hp2 hp3
  go_enter Tryz.func51, Tryz.ntmps51
  go_wp2_with (at_builtin; refine wpList_append_at _ rfl _ _ 53 rfl (w.heap.size + 2) 38 i0 (.int .u64 0) 1 8 Tryz.underlying53 hi0 hz0 hz1 hz2 rfl (by decide) _ 0 [] rfl ⟨rfl, .inl ⟨rfl, rfl⟩⟩ _ args.length _ rfl (RowAt.kp HA.out (((Kp.refl no w).alloc _).alloc _) (fun _ _ h => h)) (vals_oneCell args) ?c3 ?c4 ?c5 ?_)
  case c3 => unfold maxLen; omega
  case c4 => omega
  case c5 => simp
  intro v3 w3 hown3 hgrow3 hat3
  obtain ⟨ad3, cap3, hv3⟩ := own_shape hown3
  subst hv3
  have kW : Kp no w ((w.alloc (.cells #[.int .i64 0, .int .i64 0, .int .u64 0, .int .i64 0] 51)).alloc (.cells #[ptrTo fb, ptrTo sb, .slice none 0 0, .slice none 0 0, .int .i64 0, .int .i64 fuel] 172)) := ((Kp.refl no w).alloc _).alloc _
  have k3 := Kp.ofGrown hgrow3
  have hmo : w3.heap[w.heap.size + 1]? = some (.cells #[ptrTo fb, ptrTo sb, .slice none 0 0, .slice none 0 0, .int .i64 0, .int .i64 fuel] 172) := by
    have := heap_alloc_new (w.alloc (.cells #[.int .i64 0, .int .i64 0, .int .u64 0, .int .i64 0] 51)) (.cells #[ptrTo fb, ptrTo sb, .slice none 0 0, .slice none 0 0, .int .i64 0, .int .i64 fuel] 172)
    rw [show (w.alloc (.cells #[.int .i64 0, .int .i64 0, .int .u64 0, .int .i64 0] 51)).heap.size = w.heap.size + 1 by simp] at this
    exact k3.blk this (fun h => h)
  have hro3 : w3.heap[w.heap.size]? = some (.cells #[.int .i64 0, .int .i64 0, .int .u64 0, .int .i64 0] 51) := k3.blk (heap_alloc_old (heap_alloc_new w _)) (fun h => h)
  have hs3 : w.heap.size + 2 ≤ w3.heap.size := by have := k3.size; simp at this; omega
  have k3' : Kp no w w3 := kW.trans k3
  obtain ⟨hmc, hmf⟩ := cells_of hmo
  have k4 : Kp no w (w3.setCell ⟨w.heap.size + 1, 2, none⟩ (.slice ad3 args.length cap3)) := k3'.setCell (p := ⟨w.heap.size + 1, 2, none⟩) (.inr (by simp)) _
  have hm4 : (w3.setCell ⟨w.heap.size + 1, 2, none⟩ (.slice ad3 args.length cap3)).heap[w.heap.size + 1]? = some (.cells #[ptrTo fb, ptrTo sb, .slice ad3 args.length cap3, .slice none 0 0, .int .i64 0, .int .i64 fuel] 172) := heap_setCell hmo _
  have hr4 : (w3.setCell ⟨w.heap.size + 1, 2, none⟩ (.slice ad3 args.length cap3)).heap[w.heap.size]? = some (.cells #[.int .i64 0, .int .i64 0, .int .u64 0, .int .i64 0] 51) := heap_setCell_ne (by omega) _ hro3
  have ho4 : (w3.setCell ⟨w.heap.size + 1, 2, none⟩ (.slice ad3 args.length cap3)).ownsRow (w.heap.size + 2) 38 1 (.slice ad3 args.length cap3) args.length (valCells args) :=
    ((Kp.refl (one (w.heap.size + 1)) w3).set1 2 _).own hown3 (fun b hb (e : b = _) => by have := own_new hown3 b hb; omega)
  have hst := MSt.first (args := args) (fuel := fuel) (rb := w.heap.size) (mb := w.heap.size + 1) HSt.out HMod.out HRo.out h0 rfl rfl k4 (by simp [World.setCell]; omega) hm4 ho4
  have HM := hide hst
  have K4 := hide k4
  have HR4 := hide hr4
  clear hown3 hgrow3 hat3 kW k3 hmo hro3 k3' k4 hm4 hr4 ho4 hst
  go_wp2_with fail
  generalize w3.setCell ⟨w.heap.size + 1, 2, none⟩ (.slice ad3 args.length cap3) = w4 at *
  obtain ⟨E, hE⟩ : ∃ E : MEnv, E = ⟨W0.heap.size, fun b => b < W0.heap.size ∨ b = w.heap.size, w.heap.size + 1, sb, kb, fb, ft, f, ro⟩ := ⟨_, rfl⟩
  have hme : E.mb = w.heap.size + 1 := by rw [hE]
  have hfe : E.f = f := by rw [hE]
  have hle : E.lo w.heap.size := by rw [hE]; exact .inr rfl
  have hue : ∀ {a b}, Kp (upm E) a b → Kp (fun b => W0.heap.size ≤ b) a b := fun k => k.mono (fun b _ hb => by rw [hE] at hb; exact Nat.le_of_not_lt (fun h => hb (.inl h)))
  have hen := enterR_any (E := E) (w := w4) (s := ⟨args, [], 0, fuel, mem, gl, keys⟩) (by rw [hE]; exact HM.out) (by simp) (by simp; omega) (n := n) (by rw [hfe]; exact hn) (by rw [hfe]; exact HOk.out.nf) (by rw [hfe]; show _ ≤ args.length; have := HP1.out; omega) (by rw [hfe]; exact HP2.out) (by rw [hfe]; exact HP3.out)
  rw [hme, hfe] at hen
  refine hen.mono ?_
  rintro r w5 ⟨rfl, h5, k5⟩
  have hrun := runT_any h5 (TabE.kp (E := E) ⟨HTab.out.kp K4.out (fun h => h), by rw [hE]; exact .inl H2W.out⟩ k5) (by rw [hfe]; exact HOk.out) (K := K) (N := 2000) ⟨by show (args ++ List.replicate ((f.funcs.getD n fn0).locals - (f.funcs.getD n fn0).typ.1.length) 0).length ≤ 2000; rw [List.length_append, List.length_replicate]; have := HP3.out; omega, by simp [enterR], hgl, by show fuel ≤ 1000000; omega⟩ (by omega) (by rw [hfe]; exact HR.out)
  rw [hme] at hrun
  have HRun := hide hrun
  have K5 := hide ((hue k5))
  have HR5 := hide (k5.blk HR4.out (fun h => h hle))
  clear h5 k5 hen HM hrun HR4
  go_wp2_with fail
  refine HRun.out.mono ?_
  rintro r w6 ⟨rfl, h6, k6⟩
  have HM6 := hide h6
  have K6 := hide (K5.out.trans (hue k6))
  have HR6 := hide (k6.blk HR5.out (fun h => h hle))
  clear h6 k6 HRun HR5 K5
  go_upto_region 5 with fail
  obtain ⟨sv6, cv6, hmo6, ⟨ad6, cap6, hsv6, -⟩, -⟩ := HM6.out.open
  subst hsv6
  rw [hme] at hmo6
  have hmo6' : w6.heap[w.heap.size + 1]? = some (.cells #[ptrTo E.fb, ptrTo E.sb, .slice ad6 s1.stack.length cap6, cv6, .int .i64 s1.pos, .int .i64 s1.fuel] 172) := hmo6
  have hm7 : ∀ obj q, (w6.alloc obj).cell? ⟨w.heap.size + 1, q, none⟩ = #[ptrTo E.fb, ptrTo E.sb, .slice ad6 s1.stack.length cap6, cv6, .int .i64 s1.pos, .int .i64 s1.fuel][q]? := fun obj q => (cells_of (heap_alloc_old hmo6')).1 q
  have hlt6 : w.heap.size + 1 < w6.heap.size := lt_of_blk hmo6'
  have hne : ¬ w6.heap.size = w.heap.size + 1 := by omega
  have hne' : ¬ w.heap.size + 1 = w6.heap.size := by omega
  have hwu : IntKind.i64.wrap ((fuel : Int) - (s1.fuel : Int)) = (u : Int) := by have := HU.out; rw [IntKind.wrap_i64]; omega
  have hr7 : ∀ obj q, (w6.alloc obj).cell? ⟨w.heap.size, q, none⟩ = #[.int .i64 0, .int .i64 0, .int .u64 0, .int .i64 0][q]? := fun obj q => (cells_of (heap_alloc_old HR6.out)).1 q
  have hf7 : ∀ obj q, (w6.alloc obj).frozen? ⟨w.heap.size, q, none⟩ = false := fun obj q => (cells_of (heap_alloc_old HR6.out)).2 q
  have KT := hide (K4.out.any.trans K6.out)
  clear hmo6 hmo6' K4 K6
  rcases Nat.eq_zero_or_pos t' with ht0 | htp
  · subst ht0
    rcases Nat.eq_zero_or_pos s1.stack.length with hs0 | hsp
    · have hv : v = 0 := by have := HV.out; rw [if_neg (by omega)] at this; exact this.symm
      rw [hs0] at hm7
      have HV2 := hide hv
      clear hv HV
      go_wp2_with fail
      have hend := reply_fin (heap_alloc_old (o := (.cells #[.int .i64 0, .int .i64 0, .int .u64 0, .int .i64 u] 51)) HR6.out) (.int .i64 0) (.int .i64 0) (.int .u64 0) (.int .i64 u)
      obtain ⟨hfb, hfk⟩ := hend
      have hfin := (cells_of hfb).1
      refine bodyPost_ret (v := replyV 0 0 0 u) (by simp [results, Tryz.results51, go_sem, hfin]) rfl ?_
      have kA := (Kp.refl no w6).alloc (.cells #[.int .i64 0, .int .i64 0, .int .u64 0, .int .i64 u] 51)
      refine ⟨by rw [HV2.out]; rfl, ?_, ?_⟩
      · have hb := HM6.out.behind (kA.any.trans (hfk.mono (fun b _ (hb : b = _) => by rw [hb]; exact hle)))
        rw [hE] at hb
        exact hb
      · exact (KT.out.trans kA.any).trans (hfk.mono (fun b _ (hb : b = _) => by rw [hb]; exact h0))
    · obtain ⟨m, hsm⟩ : ∃ m, s1.stack.length = m + 1 := ⟨s1.stack.length - 1, by omega⟩
      have hv : v = topR s1 := by have := HV.out; rw [if_pos ⟨rfl, by omega⟩] at this; exact this.symm
      rw [hsm] at hm7
      have kA := (Kp.refl no w6).alloc (.cells #[.int .i64 0, .int .i64 0, .int .u64 0, .int .i64 u] 51)
      have hg := HM6.out.guard kA (fun b => b = w6.heap.size) (fun b hb => ⟨by rw [hb]; exact Nat.le_refl _, by rw [hb]; simp⟩)
      have htk := takeR_any hg (by omega) (by omega)
      change Calls _ _ #[ptrTo E.mb] _ _ at htk
      rw [hme, ← hv] at htk
      have HTk := hide htk
      have hb2 := hide (heap_alloc_new w6 (.cells #[.int .i64 0, .int .i64 0, .int .u64 0, .int .i64 u] 51))
      have hb1 := hide (heap_alloc_old (o := .cells #[.int .i64 0, .int .i64 0, .int .u64 0, .int .i64 u] 51) HR6.out)
      have KA := hide kA
      clear hv HV hg htk hsm kA
      go_wp2_with fail
      refine HTk.out.mono ?_
      rintro r w9 ⟨rfl, h9, k9⟩
      have hc2 := k9.blk hb2.out (fun h => h (.inr rfl))
      have hc1 := k9.blk hb1.out (fun h => h (.inl hle))
      obtain ⟨hq2, hz2'⟩ := cells_of hc2
      obtain ⟨hq1, hz1'⟩ := cells_of hc1
      have H9 := hide h9
      have K9 := hide k9
      have C1 := hide hc1
      have hnr : ¬ w6.heap.size = w.heap.size := by omega
      have hnr' : ¬ w.heap.size = w6.heap.size := by omega
      clear h9 k9 hc1 hc2 HTk hm7 hr7 hf7
      go_wp2_with fail
      have hx : (w9.setCell ⟨w6.heap.size, 2, none⟩ (.int .u64 v)).heap[w.heap.size]? = some (.cells #[.int .i64 0, .int .i64 0, .int .u64 0, .int .i64 0] 51) := heap_setCell_ne hnr' _ C1.out
      obtain ⟨hfb, hfk⟩ := reply_fin hx (.int .i64 0) (.int .i64 0) (.int .u64 v) (.int .i64 u)
      have hfin := (cells_of hfb).1
      refine bodyPost_ret (v := replyV 0 0 v u) (by simp [results, Tryz.results51, go_sem, hfin]) rfl ?_
      refine ⟨rfl, ?_, ?_⟩
      · have hb := H9.out.behind (((Kp.refl (E.plus fun b => b = w6.heap.size).lo w9).setCell (p := ⟨w6.heap.size, 2, none⟩) (.inl (.inr rfl)) (.int .u64 v)).trans (hfk.mono (fun b _ (hb : b = _) => by rw [hb]; exact .inl hle)))
        change ∃ mv gv, Behind _ E.B E.sb E.kb _ s1.mem s1.gl s1.keys mv gv at hb
        rw [hE] at hb
        exact hb
      · exact (((KT.out.trans KA.out.any).trans (hue (upm_plus K9.out))).setCell (p := ⟨w6.heap.size, 2, none⟩) (.inl (by show W0.heap.size ≤ w6.heap.size; omega)) _).trans (hfk.mono (fun b _ (hb : b = _) => by rw [hb]; exact h0))
  · obtain ⟨m, rfl⟩ : ∃ m, t' = m + 1 := ⟨t' - 1, by omega⟩
    have hv : v = 0 := by have := HV.out; rw [if_neg (by omega)] at this; exact this.symm
    have HV2 := hide hv
    have hnz : (((m + 1 : Nat) : Int) == 0) = false := by simp; omega
    have hnz2 : (((m : Nat) : Int) + 1 == 0) = false := by simp; omega
    clear hv HV
    go_wp2_with fail
    have hend := reply_fin (heap_alloc_old (o := (.cells #[.int .i64 0, .int .i64 ((m : Int) + 1), .int .u64 0, .int .i64 u] 51)) HR6.out) (.int .i64 0) (.int .i64 ((m : Int) + 1)) (.int .u64 0) (.int .i64 u)
    obtain ⟨hfb, hfk⟩ := hend
    have hfin := (cells_of hfb).1
    refine bodyPost_ret (v := replyV 0 ((m : Int) + 1) 0 u) (by simp [results, Tryz.results51, go_sem, hfin]) rfl ?_
    have kA := (Kp.refl no w6).alloc (.cells #[.int .i64 0, .int .i64 ((m : Int) + 1), .int .u64 0, .int .i64 u] 51)
    refine ⟨by rw [HV2.out]; rfl, ?_, ?_⟩
    · have hb := HM6.out.behind (kA.any.trans (hfk.mono (fun b _ (hb : b = _) => by rw [hb]; exact hle)))
      rw [hE] at hb
      exact hb
    · exact (KT.out.trans kA.any).trans (hfk.mono (fun b _ (hb : b = _) => by rw [hb]; exact h0))
open Go.RowKit Go.MuLone
theorem TabW.lt {w : World} (h : TabW w) : 2 < w.heap.size := by
  have := h 0 (by decide)
  rcases Nat.lt_or_ge 2 w.heap.size with h' | h'
  · exact h'
  · simp [World.cell?, Array.getElem?_eq_none h'] at this
set_option maxRecDepth 100000 in
set_option maxHeartbeats 4000000 in
theorem callT_runs {w : World} {ro : Nat → Prop} {ib tb mb : Nat} {mv gv av : Value} {f : Flat} {mem : List UInt8} {gl args : List Int} {p : Option Nat} {keys : List (Int × Int)} {n fuel K : Nat} (h : InstAt w ro ib tb mb mv gv f mem gl) (hs : StoreAt w tb p keys)
    (hTab : TabW w) (_h2i : ib ≠ 2) (h2t : tb ≠ 2) (hok : f.Ok) (ha : ValsAt w av args) (hal : args.length ≤ 1000) (hav : ∀ b, av.ownBlock = some b → b ≠ ib ∧ b ≠ tb) (hpl : ∀ k, k < f.funcs.length → (f.funcs.getD k fn0).typ.1.length ≤ (f.funcs.getD k fn0).locals ∧ (f.funcs.getD k fn0).locals ≤ 1000) (he : refusesM f n args fuel = 0)
    (hK : K ≤ 900000) {t : Nat} {v : Int} {u : Nat} {s' : Mc} (hm : callT f n args fuel mem gl keys K = some (t, v, u, s')) (hsm : s'.mem.length ≤ 1000000 ∧ s'.gl.length ≤ 1000000 ∧ s'.keys.length ≤ 1000) :
    Calls Tryz.prog 27 #[ptrTo ib, .int .i64 n, av, .int .i64 fuel] w fun r w' => r = .returned (replyV 0 t v u) ∧
      (t = 0 → ∃ mv' gv' p', InstAt w' ro ib tb mb mv' gv' f s'.mem s'.gl ∧ StoreAt w' tb p' s'.keys ∧ (∀ b, mv'.ownBlock = some b → w.heap.size ≤ b) ∧ (∀ b, gv'.ownBlock = some b → w.heap.size ≤ b)) ∧ (t ≠ 0 → InstAt w' ro ib tb mb mv gv f mem gl ∧ StoreAt w' tb p keys) ∧ Kp (ibtb ib tb) w w' := by
  have hne := h.neI hs
  have hrf0 : (n : Nat) < f.funcs.length ∧ fitsM args (f.funcs.getD n fn0).typ.1 = true ∧ fuel ≤ 100000 := by
    unfold refusesM at he
    split at he
    · cases he
    · split at he
      · cases he
      · split at he
        · cases he
        · rename_i h1 h2 h3
          refine ⟨by omega, ?_, by omega⟩
          rw [show ((n : Int)).toNat = n by omega] at h2
          simpa using h2
  obtain ⟨hn, hfit, hfu⟩ := hrf0
  have hpa : (f.funcs.getD n fn0).typ.1.length = args.length := by
    unfold fitsM at hfit
    simp only [Bool.and_eq_true, decide_eq_true_eq] at hfit
    exact hfit.1.symm
  obtain ⟨ada, capa, hav', hca⟩ := RowAt.shape ha
  subst hav'
  have hio := h.blk
  have hso := hs.blk
  have hi1 : ∀ obj q, (w.alloc obj).cell? ⟨ib, q, none⟩ = #[ptrTo tb, ptrTo mb, mv, gv][q]? := fun obj q => (cells_of (heap_alloc_old hio)).1 q
  have hst := fun obj => started_any (heap_alloc_old (o := obj) hio)
  have hl1 : ∀ obj, (w.alloc obj).cell? ⟨tb, 0, none⟩ = some (.int .i32 0) := fun obj => (cells_of (heap_alloc_old hso)).1 0
  have hf1 : ∀ obj, (w.alloc obj).frozen? ⟨tb, 0, none⟩ = false := fun obj => (cells_of (heap_alloc_old hso)).2 0
  have HTab := hide hTab
  have h2l := hTab.lt
  clear hTab
  have HSt := hide hst
  have H := hide h
  have HS := hide hs
  have HA := hide ha
  have HOk := hide hok
  have HPl := hide hpl
  have HM := hide hm
  have HPa := hide hpa
  have htl := lt_of_blk hso
  have hil := lt_of_blk hio
  clear h hs ha hio hso hst hok hpl hm hfit hpa
  go_enter_defers Tryz.func27, Tryz.ntmps27
  go_wp2_with fail
  refine (HSt.out _).mono ?_
  rintro r w1 ⟨rfl, rfl⟩
  go_wp2_with fail
  refine (lock_free muLib ⟨tb, 0, none⟩ _ (hl1 _) (hf1 _)).mono ?_
  rintro r w1 ⟨rfl, rfl⟩
  have hL := Locked.of H.out HS.out HA.out hav
  have hsz1 : ((w.alloc rep0).setCell ⟨tb, 0, none⟩ (.int .i32 1)).heap.size = w.heap.size + 1 := by simp [World.setCell]
  obtain ⟨w1, hw1⟩ : ∃ w1, w1 = (w.alloc rep0).setCell ⟨tb, 0, none⟩ (.int .i32 1) := ⟨_, rfl⟩
  rw [← hw1] at hL hsz1 ⊢
  have hrf := refuses_any (n := n) (fuel := fuel) hL.inst.mod HOk.out.nf hL.vals hal (fun k hk => Nat.le_trans (HPl.out k hk).1 (HPl.out k hk).2)
  rw [he] at hrf
  have hc1 := (cells_of hL.inst.blk).1
  have hsta := state_any hL.inst ((cells_of hL.sto).1 2) hL.map HS.out.few
  have HL := hide hL
  have HRf := hide hrf
  have HSta := hide hsta
  clear hL hrf hi1 hl1 hf1 HSt hw1 HA hsta
  go_wp2_with fail
  refine HRf.out.mono ?_
  rintro r w2 ⟨rfl, rfl⟩
  go_wp2_with fail
  refine HSta.out.mono ?_
  rintro r w3 ⟨⟨sb, kb, gm, gg, rfl, hsa⟩, k3⟩
  have hrc := runCallT_any hsa (HL.out.inst.mod.kp k3.any) (fun b hb => (HL.out.inst.roI b hb).1) k3.size (RowAt.kp HL.out.vals k3 (fun _ _ h => h)) HOk.out hn HPa.out (HPl.out n hn).1 (HPl.out n hn).2 ((HTab.out.kp HL.out.kp (fun e => h2t e.symm)).kp k3 (fun h => h)) (by omega) hfu H.out.gn hK HM.out
  have hc3 := (cells_of (k3.blk HL.out.inst.blk (fun h => h))).1
  have HRc := hide hrc
  have K3 := hide k3
  have HSa := hide hsa
  have hs3 := k3.size
  clear hrc k3 HRf HSta HM hc1 hsa
  go_wp2_with fail
  refine HRc.out.mono ?_
  rintro r w4 ⟨rfl, ⟨mv', gv', hbe⟩, k4⟩
  have hi4 := k4.blk (K3.out.blk HL.out.inst.blk (fun h => h)) (show ¬ w2.heap.size ≤ ib by omega)
  have ht4 := k4.blk (K3.out.blk HL.out.sto (fun h => h)) (show ¬ w2.heap.size ≤ tb by omega)
  have hr4 := k4.blk (K3.out.blk HL.out.rep (fun h => h)) (show ¬ w2.heap.size ≤ w.heap.size by omega)
  have hs4 := k4.size
  go_upto_region 10 with fail
  have HBe := hide hbe
  have HI4 := hide hi4
  have HT4 := hide ht4
  have HR4 := hide hr4
  have K4 := hide (K3.out.any.trans k4)
  have hbl := lt_of_blk hbe.blk
  clear hbe hi4 ht4 hr4 k4 HRc K3 hc3
  rcases Nat.eq_zero_or_pos t with ht0 | htp
  · subst ht0
    obtain ⟨adm, capm, hmv', -⟩ := RowAt.shape (RowAt.own HBe.out.memR)
    obtain ⟨adg, capg, hgv', -⟩ := RowAt.shape (RowAt.own HBe.out.glR)
    subst hmv' hgv'
    have hbb := heap_alloc_old (o := .cells #[.int .i64 0, .int .i64 0, .int .u64 v, .int .i64 u] 51) HBe.out.blk
    have hib := heap_alloc_old (o := .cells #[.int .i64 0, .int .i64 0, .int .u64 v, .int .i64 u] 51) HI4.out
    have htb := heap_alloc_old (o := .cells #[.int .i64 0, .int .i64 0, .int .u64 v, .int .i64 u] 51) HT4.out
    have hrp := heap_alloc_old (o := .cells #[.int .i64 0, .int .i64 0, .int .u64 v, .int .i64 u] 51) HR4.out
    have hr2 := heap_alloc_new w4 (.cells #[.int .i64 0, .int .i64 0, .int .u64 v, .int .i64 u] 51)
    have kA := (Kp.refl no w4).alloc (.cells #[.int .i64 0, .int .i64 0, .int .u64 v, .int .i64 u] 51)
    have o1 := HSa.out.o1
    have o2 := HSa.out.o2
    have o3 := HSa.out.o3
    have o4 := HSa.out.o4
    go_wp2_with fail
    generalize w4.alloc (.cells #[.int .i64 0, .int .i64 0, .int .u64 v, .int .i64 u] 51) = w5 at *
    obtain ⟨S, hSd⟩ : ∃ S : World → Prop, S = fun w' => w'.cell? ⟨ib, 0, none⟩ = some (ptrTo tb) ∧ (∀ q, w'.cell? ⟨sb, q, none⟩ = #[.slice adm s'.mem.length capm, .slice adg s'.gl.length capg, .map (some kb)][q]?) := ⟨_, rfl⟩
    have hSk : ∀ W' x y, W'.heap[ib]? = some (instObj tb mb x y) → W'.heap[sb]? = some (.cells #[.slice adm s'.mem.length capm, .slice adg s'.gl.length capg, .map (some kb)] 125) → S W' := fun W' x y h1 h2 => by rw [hSd]; exact ⟨(cells_of h1).1 0, (cells_of h2).1⟩
    have HSk := hide hSk
    have HSd := hide hSd
    have hib2 : (w5.setCell ⟨ib, 2, none⟩ (.slice adm s'.mem.length capm)).heap[ib]? = some (instObj tb mb (.slice adm s'.mem.length capm) gv) := heap_setCell hib _
    have hib3 : ((w5.setCell ⟨ib, 2, none⟩ (.slice adm s'.mem.length capm)).setCell ⟨ib, 3, none⟩ (.slice adg s'.gl.length capg)).heap[ib]? = some (instObj tb mb (.slice adm s'.mem.length capm) (.slice adg s'.gl.length capg)) := heap_setCell hib2 _
    have hb2 : ∀ x o, (w5.setCell ⟨ib, o, none⟩ x).heap[sb]? = some (.cells #[.slice adm s'.mem.length capm, .slice adg s'.gl.length capg, .map (some kb)] 125) := fun x o => heap_setCell_ne (by omega) _ hbb
    have ht2 : ∀ x o, (w5.setCell ⟨ib, o, none⟩ x).heap[tb]? = some (.cells #[.int .i32 1, .int .u32 0, .map p] 110) := fun x o => heap_setCell_ne (fun e => hne e.symm) _ htb
    have hb3 := heap_setCell_ne (o := 3) (show sb ≠ ib by omega) (.slice adg s'.gl.length capg) (hb2 (.slice adm s'.mem.length capm) 2)
    have ht3 := heap_setCell_ne (o := 3) (show tb ≠ ib by omega) (.slice adg s'.gl.length capg) (ht2 (.slice adm s'.mem.length capm) 2)
    have hib4 := heap_setCell_ne (o := 2) hne (.map (some kb)) hib3
    have hb4 := heap_setCell_ne (o := 2) (show sb ≠ tb by omega) (.map (some kb)) hb3
    have ht4 := heap_setCell (o := 2) ht3 (.map (some kb))
    have c1 : w5.cell? ⟨ib, 2, none⟩ = some mv := (cells_of hib).1 2
    have d1 : w5.frozen? ⟨ib, 2, none⟩ = false := (cells_of hib).2 2
    have c2 : w5.cell? ⟨ib, 3, none⟩ = some gv := (cells_of hib).1 3
    have d2 : w5.frozen? ⟨ib, 3, none⟩ = false := (cells_of hib).2 3
    have c3 : w5.cell? ⟨tb, 2, none⟩ = some (.map p) := (cells_of htb).1 2
    have d3 : w5.frozen? ⟨tb, 2, none⟩ = false := (cells_of htb).2 2
    have hne2 : ¬ tb = ib := fun e => hne e.symm
    have hne3 : ¬ ib = tb := hne
    refine wp_region_noPanic ?_
    refine wp_region_S 27 (S) (by kernel_rfl) (n := 27) (listed := #[false, false, false, false, false, false, false, false, false, false, false, false, false, false, false, false, false, false, false, false, false, false, false, false, false, false, false]) rfl (by kernel_rfl) ?hS (fun hS => ?_)
    case hS => exact HSk.out _ _ _ hib hbb
    have hSd := HSd.out
    subst hSd
    refine tk 0 [] rfl (by kernel_rfl) rfl (fun _ _ _ h => h) hS (fun _ h => by (try dsimp only at h); go_simp; all_goals with_reducible rfl) ?_
    simp only [pS]
    refine tk 1 [] rfl (by kernel_rfl) rfl (fun _ _ _ h => h) hS (fun _ h => by (try dsimp only at h); go_simp; all_goals with_reducible rfl) ?_
    simp only [pS]
    refine tk 2 [] rfl (by kernel_rfl) rfl (fun _ _ _ h => h) hS (fun _ h => by (try dsimp only at h); go_simp; all_goals with_reducible rfl) ?_
    simp only [pS]
    refine tk 3 [] rfl (by kernel_rfl) rfl (fun _ _ _ h => h) hS (fun _ h => by (try dsimp only at h); go_simp; all_goals with_reducible rfl) ?_
    simp only [pS]
    refine tk 4 [] rfl (by kernel_rfl) rfl (fun _ _ _ h => h) hS (fun _ h => by (try dsimp only at h); go_simp; all_goals with_reducible rfl) ?_
    simp only [pS]
    refine tk 5 [] rfl (by kernel_rfl) rfl (fun _ _ _ h => h) hS (fun _ h => by (try dsimp only at h); go_simp; all_goals with_reducible rfl) ?_
    simp only [pS]
    refine tk 6 [] rfl (by kernel_rfl) rfl (fun _ _ _ h => h) hS (fun _ h => by (try dsimp only at h); go_simp; all_goals with_reducible rfl) ?_
    simp only [pS]
    refine tk 7 [] rfl (by kernel_rfl) rfl (fun _ _ _ h => h) hS (fun _ h => by (try dsimp only at h); go_simp; all_goals with_reducible rfl) ?_
    simp only [pS]
    refine tk 8 [] rfl (by kernel_rfl) rfl (fun _ _ _ h => h) hS (fun _ h => by (try dsimp only at h); go_simp; all_goals with_reducible rfl) ?_
    simp only [pS]
    refine tk 9 [] rfl (by kernel_rfl) rfl (fun _ _ _ h => h) hS (fun _ h => by (try dsimp only at h); go_simp; all_goals with_reducible rfl) ?_
    simp only [pS]
    refine tk 10 [] rfl (by kernel_rfl) rfl (fun _ _ _ h => h) hS (fun _ h => by (try dsimp only at h); go_simp; all_goals with_reducible rfl) ?_
    simp only [pS]
    refine tk 11 [] rfl (by kernel_rfl) rfl (fun _ _ _ h => h) hS (fun _ h => by (try dsimp only at h); go_simp; all_goals with_reducible rfl) ?_
    simp only [pS]
    refine tk 12 [] rfl (by kernel_rfl) rfl (fun _ _ _ h => h) hS (fun _ h => by (try dsimp only at h); go_simp; all_goals with_reducible rfl) ?_
    simp only [pS]
    refine tk 13 [] rfl (by kernel_rfl) rfl (fun _ _ _ h => h) hS (fun _ h => by (try dsimp only at h); go_simp; all_goals with_reducible rfl) ?_
    simp only [pS]
    refine tk 14 [] rfl (by kernel_rfl) rfl (fun _ _ _ h => h) hS (fun _ h => by (try dsimp only at h); go_simp; all_goals with_reducible rfl) ?_
    simp only [pS]
    refine tk 15 [] rfl (by kernel_rfl) rfl (fun _ _ _ h => h) hS (fun _ h => by (try dsimp only at h); go_simp; all_goals with_reducible rfl) ?_
    simp only [pS]
    refine tk 16 [] rfl (by kernel_rfl) rfl (fun _ _ _ h => h) hS (fun _ h => by (try dsimp only at h); go_simp; all_goals with_reducible rfl) ?_
    simp only [pS]
    refine tk 17 [] rfl (by kernel_rfl) rfl (fun _ _ _ h => h) hS (fun _ h => by (try dsimp only at h); go_simp; all_goals with_reducible rfl) ?_
    simp only [pS]
    refine tk 18 [] rfl (by kernel_rfl) rfl (fun _ _ _ h => h) hS (fun _ h => by (try dsimp only at h); go_simp; all_goals with_reducible rfl) ?_
    simp only [pS]
    refine tk 19 [] rfl (by kernel_rfl) rfl (fun _ _ _ h => h) hS (fun _ h => by (try dsimp only at h); go_simp; all_goals with_reducible rfl) ?_
    simp only [pS]
    refine wpAnyS_one 20 (listed' := #[true, true, true, true, true, true, true, true, true, true, true, true, true, true, true, true, true, true, true, true, true, false, false, false, false, false, false]) rfl (by kernel_rfl) (by kernel_rfl) (fun K hK => ?_)
    go_simp
    refine hK _ _ (HSk.out _ _ _ hib2 (hb2 _ 2)) (fun hS => ?_)
    clear hK K
    refine tk 21 [] rfl (by kernel_rfl) rfl (fun _ _ _ h => h) hS (fun _ h => by (try dsimp only at h); go_simp; all_goals with_reducible rfl) ?_
    simp only [pS]
    refine tk 22 [] rfl (by kernel_rfl) rfl (fun _ _ _ h => h) hS (fun _ h => by (try dsimp only at h); go_simp; all_goals with_reducible rfl) ?_
    simp only [pS]
    refine wpAnyS_one 23 (listed' := #[true, true, true, true, true, true, true, true, true, true, true, true, true, true, true, true, true, true, true, true, true, true, true, true, false, false, false]) rfl (by kernel_rfl) (by kernel_rfl) (fun K hK => ?_)
    go_simp
    refine hK _ _ (HSk.out _ _ _ hib3 hb3) (fun hS => ?_)
    clear hK K
    refine tk 24 [] rfl (by kernel_rfl) rfl (fun _ _ _ h => h) hS (fun _ h => by (try dsimp only at h); go_simp; all_goals with_reducible rfl) ?_
    simp only [pS]
    refine tk 25 [] rfl (by kernel_rfl) rfl (fun _ _ _ h => h) hS (fun _ h => by (try dsimp only at h); go_simp; all_goals with_reducible rfl) ?_
    simp only [pS]
    refine wpAnyS_one 26 (listed' := #[true, true, true, true, true, true, true, true, true, true, true, true, true, true, true, true, true, true, true, true, true, true, true, true, true, true, true]) rfl (by kernel_rfl) (by kernel_rfl) (fun K hK => ?_)
    go_simp
    refine hK _ _ (HSk.out _ _ _ hib4 hb4) (fun hS => ?_)
    clear hK K
    refine wpAnyS_done (by kernel_rfl) ?_ _
    clear hS HSk HSd
    have hl4 : w4.heap.size < w5.heap.size := lt_of_blk hr2
    have hp6 := heap_setCell_ne (o := 2) (show w.heap.size ≠ tb by omega) (.map (some kb)) (heap_setCell_ne (o := 3) (show w.heap.size ≠ ib by omega) (.slice adg s'.gl.length capg) (heap_setCell_ne (o := 2) (show w.heap.size ≠ ib by omega) (.slice adm s'.mem.length capm) hrp))
    have hq6 := heap_setCell_ne (o := 2) (show w4.heap.size ≠ tb by omega) (.map (some kb)) (heap_setCell_ne (o := 3) (show w4.heap.size ≠ ib by omega) (.slice adg s'.gl.length capg) (heap_setCell_ne (o := 2) (show w4.heap.size ≠ ib by omega) (.slice adm s'.mem.length capm) hr2))
    have k6 : Kp (ibtb ib tb) w5 (((w5.setCell ⟨ib, 2, none⟩ (.slice adm s'.mem.length capm)).setCell ⟨ib, 3, none⟩ (.slice adg s'.gl.length capg)).setCell ⟨tb, 2, none⟩ (.map (some kb))).drew := ((((Kp.refl (ibtb ib tb) w5).setAt (.inl rfl) 2 _).setAt (.inl rfl) 3 _).setAt (.inr rfl) 2 _).drew
    obtain ⟨W6, hW6⟩ : ∃ W6, W6 = (((w5.setCell ⟨ib, 2, none⟩ (.slice adm s'.mem.length capm)).setCell ⟨ib, 3, none⟩ (.slice adg s'.gl.length capg)).setCell ⟨tb, 2, none⟩ (.map (some kb))).drew := ⟨_, rfl⟩
    have hi7 : W6.heap[ib]? = some (instObj tb mb (.slice adm s'.mem.length capm) (.slice adg s'.gl.length capg)) := by rw [hW6]; exact hib4
    have ht7 : W6.heap[tb]? = some (.cells #[.int .i32 1, .int .u32 0, .map (some kb)] 110) := by rw [hW6]; exact ht4
    have hp7 : W6.heap[w.heap.size]? = some rep0 := by rw [hW6]; exact hp6
    have hq7 : W6.heap[w4.heap.size]? = some (.cells #[.int .i64 0, .int .i64 0, .int .u64 v, .int .i64 u] 51) := by rw [hW6]; exact hq6
    rw [← hW6] at k6 ⊢
    obtain ⟨e1, -⟩ := cells_of hq7
    obtain ⟨e2, e3⟩ := cells_of hp7
    have hI7 := hide hi7
    have hT7 := hide ht7
    have hP7 := hide hp7
    have KA := hide kA
    have K6 := hide k6
    clear hW6 hib2 hib3 hb2 ht2 hb3 ht3 hib4 hb4 ht4 c1 d1 c2 d2 c3 d3 hp6 hq6 k6 hi7 ht7 hp7 hq7 hib htb hrp hr2 hbb kA
    unfold NoPanic
    go_wp2_with fail
    refine leaves_cons (f := 48) (args := #[.pointer (some ⟨tb, 0, none⟩)]) (by simp) (by simp [go_sem]) ?_
    obtain ⟨hfb, hfk⟩ := reply_fin hP7.out (.int .i64 0) (.int .i64 0) (.int .u64 v) (.int .i64 u)
    have hrl : w.heap.size ≠ tb := by omega
    have hri : w.heap.size ≠ ib := by omega
    have hsw := hfk.blk hT7.out (fun h => hrl h.symm)
    have hiw := hfk.blk hI7.out (fun h => hri h.symm)
    generalize ((((W6.setCell ⟨w.heap.size, 0, none⟩ (.int .i64 0)).setCell ⟨w.heap.size, 1, none⟩ (.int .i64 0)).setCell ⟨w.heap.size, 2, none⟩ (.int .u64 v)).setCell ⟨w.heap.size, 3, none⟩ (.int .i64 u)) = w7 at *
    refine (unlock_deferred muLib ⟨tb, 0, none⟩ .returning _ ((cells_of hsw).1 0) ((cells_of hsw).2 0)).mono ?_
    rintro r u' w8 ⟨rfl, rfl, rfl⟩
    have hfin := (cells_of (heap_setCell_ne (o := 0) hrl (.int .i32 0) hfb)).1
    refine ⟨replyV 0 0 v u, by simp [results, Tryz.results27, go_sem, hfin], rfl, ?_⟩
    have k48 : Kp (fun b => b = ib ∨ b = tb ∨ b = w.heap.size) w4 (w7.setCell ⟨tb, 0, none⟩ (.int .i32 0)) :=
      (((KA.out.any.trans (K6.out.mono (S' := fun b => b = ib ∨ b = tb ∨ b = w.heap.size) (fun b _ hb => hb.elim .inl (fun h => .inr (.inl h))))).trans (hfk.mono (fun b _ (hb : b = _) => .inr (.inr hb)))).setCell (p := ⟨tb, 0, none⟩) (.inl (.inr (.inl rfl))) _)
    have kF : Kp (ibtb ib tb) w (w7.setCell ⟨tb, 0, none⟩ (.int .i32 0)) :=
      (HL.out.kp.mono (S' := fun b => b = ib ∨ b = tb ∨ w.heap.size ≤ b) (fun b _ (hb : b = _) => .inr (.inl hb))).comp ((K4.out.mono (S' := fun b => b = ib ∨ b = tb ∨ w.heap.size ≤ b) (fun b _ hb => .inr (.inr (by omega)))).trans (k48.mono (fun b _ hb => by omega))) (fun b hb h => by rcases h with h | h | h; exact .inl h; exact .inr h; omega) (fun b hb h => by rcases h with h | h | h; exact .inl h; exact .inr h; omega)
    have hbm : ∀ b, (Value.slice adm s'.mem.length capm).ownBlock = some b → w2.heap.size ≤ b := fun b hb => own_new HBe.out.memR b hb
    have hbg : ∀ b, (Value.slice adg s'.gl.length capg).ownBlock = some b → w2.heap.size ≤ b := fun b hb => own_new HBe.out.glR b hb
    refine ⟨⟨.slice adm s'.mem.length capm, .slice adg s'.gl.length capg, ⟨heap_setCell_ne hne _ hiw, H.out.mod.kp (kF.mono (fun b _ hs hr => by have := H.out.roI b hr; rcases hs with h | h <;> omega)), ?_, ?_, hsm.1, hsm.2.1, fun b hb => ⟨Nat.lt_of_lt_of_le (H.out.roI b hb).1 kF.size, (H.out.roI b hb).2⟩, fun b hb => by have := hbm b hb; omega, fun b hb => by have := hbg b hb; omega⟩, ⟨some kb, heap_setCell hsw _, .inr ⟨kb, rfl, ?_⟩, hsm.2.2⟩, fun b hb => by have := hbm b hb; omega, fun b hb => by have := hbg b hb; omega⟩, kF⟩
    · exact RowAt.kp (RowAt.own HBe.out.memR) k48 (fun b hb h => by have := hbm b hb; omega)
    · exact RowAt.kp (RowAt.own HBe.out.glR) k48 (fun b hb h => by have := hbg b hb; omega)
    · exact HBe.out.keys.kp k48 (fun h => by omega)
  · obtain ⟨m, rfl⟩ : ∃ m, t = m + 1 := ⟨t - 1, by omega⟩
    have hnz : (((m + 1 : Nat) : Int) == 0) = false := by simp; omega
    have hnz2 : (((m : Nat) : Int) + 1 == 0) = false := by simp; omega
    have hr5 : ∀ obj q, (w4.alloc obj).cell? ⟨w.heap.size, q, none⟩ = #[.int .i64 0, .int .i64 0, .int .u64 0, .int .i64 0][q]? := fun obj q => (cells_of (heap_alloc_old HR4.out)).1 q
    have hf5 : ∀ obj q, (w4.alloc obj).frozen? ⟨w.heap.size, q, none⟩ = false := fun obj q => (cells_of (heap_alloc_old HR4.out)).2 q
    go_wp2_with fail
    refine leaves_cons (f := 48) (args := #[.pointer (some ⟨tb, 0, none⟩)]) (by simp) (by simp [go_sem]) ?_
    obtain ⟨hfb, hfk⟩ := reply_fin (heap_alloc_old (o := .cells #[.int .i64 0, .int .i64 ((m : Int) + 1), .int .u64 v, .int .i64 u] 51) HR4.out) (.int .i64 0) (.int .i64 ((m : Int) + 1)) (.int .u64 v) (.int .i64 u)
    have kA := (Kp.refl no w4).alloc (.cells #[.int .i64 0, .int .i64 ((m : Int) + 1), .int .u64 v, .int .i64 u] 51)
    have hrl : w.heap.size ≠ tb := by omega
    have hsw := hfk.blk (kA.blk HT4.out (fun h => h)) (fun h => hrl h.symm)
    have kB := ((K4.out.trans kA.any).mono (S' := fun b => w.heap.size ≤ b) (fun b _ hb => by omega)).trans (hfk.mono (fun b _ (hb : b = _) => by omega))
    clear hfk kA hr5 hf5
    generalize World.setCell (World.setCell (World.setCell (World.setCell (w4.alloc (.cells #[.int .i64 0, .int .i64 ((m : Int) + 1), .int .u64 v, .int .i64 u] 51)) ⟨w.heap.size, 0, none⟩ (.int .i64 0)) ⟨w.heap.size, 1, none⟩ (.int .i64 ((m : Int) + 1))) ⟨w.heap.size, 2, none⟩ (.int .u64 v)) ⟨w.heap.size, 3, none⟩ (.int .i64 u) = w5 at *
    refine (unlock_deferred muLib ⟨tb, 0, none⟩ .returning _ ((cells_of hsw).1 0) ((cells_of hsw).2 0)).mono ?_
    rintro r u' w6 ⟨rfl, rfl, rfl⟩
    have hfin := (cells_of (heap_setCell_ne (o := 0) hrl (.int .i32 0) hfb)).1
    refine ⟨replyV 0 ((m : Int) + 1) v u, by simp [results, Tryz.results27, go_sem, hfin], rfl, fun h => absurd h (by omega), ?_⟩
    obtain ⟨r1, r2, r3⟩ := HL.out.back H.out HS.out kB
    exact ⟨fun _ => ⟨r1, r2⟩, r3⟩
theorem callIT_keep {w w' : World} {ib tb : Nat} {av : Value} {f : Flat} {mem : List UInt8} {gl args : List Int} {keys : List (Int × Int)} {n fuel K : Nat} (hI : Inst w w' ib tb f mem gl keys) (hTab : TabW w') (h2 : 2 < w.heap.size)
    (hok : FlatOk f) (ha : ValsAt w' av args) (hal : args.length ≤ 1000) (hav : ∀ b, av.ownBlock = some b → b ≠ ib ∧ b ≠ tb) (he : refusesM f n args fuel = 0)
    (hK : K ≤ 900000) {t : Nat} {v : Int} {u : Nat} {s' : Mc} (hm : callT f n args fuel mem gl keys K = some (t, v, u, s')) (hsm : s'.mem.length ≤ 1000000 ∧ s'.gl.length ≤ 1000000 ∧ s'.keys.length ≤ 1000) :
    Calls Tryz.prog 27 #[ptrTo ib, .int .i64 n, av, .int .i64 fuel] w' fun r w'' => r = .returned (replyV 0 t v u) ∧
      (t = 0 → Inst w w'' ib tb f s'.mem s'.gl s'.keys) ∧ (t ≠ 0 → Inst w w'' ib tb f mem gl keys) ∧ Kp (ibtb ib tb) w' w'' := by
  obtain ⟨⟨ro, mb, mv, gv, p, h1, h2', h3, h4, h5⟩, h6, h7⟩ := hI
  refine Calls.mono (callT_runs h1 h2' hTab (by omega) (by omega) hok.ok ha hal hav hok.fn he hK hm hsm) ?_
  rintro r w'' ⟨hr, hz, hnz, hk⟩
  have hl : w.heap.size ≤ w'.heap.size := Nat.le_trans h6 (Nat.le_of_lt (lt_of_blk h1.blk))
  refine ⟨hr, fun ht => ?_, fun ht => ?_, hk⟩
  · obtain ⟨mv', gv', p', i1, i2, i3, i4⟩ := hz ht
    exact ⟨⟨ro, mb, mv', gv', p', i1, i2, h3, fun b hb => Nat.le_trans hl (i3 b hb), fun b hb => Nat.le_trans hl (i4 b hb)⟩, h6, h7⟩
  · obtain ⟨i1, i2⟩ := hnz ht
    exact ⟨⟨ro, mb, mv, gv, p, i1, i2, h3, h4, h5⟩, h6, h7⟩
set_option maxRecDepth 100000 in
set_option maxHeartbeats 2000000 in
theorem givesT_keep {w w' : World} {ib tb : Nat} {av : Value} {f : Flat} {mem : List UInt8} {gl args : List Int} {keys : List (Int × Int)} {n K : Nat} (hI : Inst w w' ib tb f mem gl keys) (hTab : TabW w') (h2 : 2 < w.heap.size)
    (hok : FlatOk f) (ha : ValsAt w' av args) (hal : args.length ≤ 1000) (hav : ∀ b, av.ownBlock = some b → b ≠ ib ∧ b ≠ tb) (he : refusesM f n args 100000 = 0)
    (hK : K ≤ 900000) {v : Int} {u : Nat} {s' : Mc} (hm : callT f n args 100000 mem gl keys K = some (0, v, u, s')) (hsm : s'.mem.length ≤ 1000000 ∧ s'.gl.length ≤ 1000000 ∧ s'.keys.length ≤ 1000) :
    Calls Tryz.prog 22 #[ptrTo ib, .int .i64 n, av, .int .u64 v, .int .i64 u] w' fun r w'' => r = .returned (.bool true) ∧ Inst w w'' ib tb f s'.mem s'.gl s'.keys ∧ Kp (ibtb ib tb) w' w'' := by
  have hc := callIT_keep (fuel := 100000) hI hTab h2 hok ha hal hav he hK hm hsm
  obtain ⟨ad, cap, hav', -⟩ := RowAt.shape ha
  subst hav'
  have HC := hide hc
  clear hc hI hok ha hal hav he hm hsm hTab h2
  go_enter Tryz.func22, Tryz.ntmps22
  go_wp2_with fail
  refine HC.out.mono ?_
  rintro r w1 ⟨rfl, h1, -, k1⟩
  have H1 := hide (h1 trivial)
  have K1 := hide k1
  clear h1 k1 HC
  go_wp2
  go_ret
  exact ⟨by simp, H1.out.quiet ((Kp.refl no w1).alloc _), K1.out.alloc _⟩
end Go.Proofs.YtdeplgkhmebalaaGreatDoor
