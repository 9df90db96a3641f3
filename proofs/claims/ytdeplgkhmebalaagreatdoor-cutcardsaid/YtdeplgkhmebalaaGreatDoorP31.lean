/- A call of an instance's function. -/
import Derived.Test.YtdeplgkhmebalaaGreatDoorP29
import Derived.Test.YtdeplgkhmebalaaGreatDoorP30
import Derived.Test.YtdeplgkhmebalaaGreatDoorP01

namespace Go.Proofs.YtdeplgkhmebalaaGreatDoor
open Go.RowKit Go.MuLone

abbrev ibtb (ib tb : Nat) : Nat → Prop := fun b => b = ib ∨ b = tb

theorem InstAt.neI {w : World} {ro : Nat → Prop} {ib tb mb : Nat} {mv gv : Value} {f : Flat} {mem : List UInt8} {gl : List Int} {p : Option Nat} {keys : List (Int × Int)} (h : InstAt w ro ib tb mb mv gv f mem gl) (hs : StoreAt w tb p keys) : ib ≠ tb := by
  intro e
  have h1 := h.blk
  rw [e, hs.blk] at h1
  simp at h1
theorem KeysAt.ne {w : World} {b k : Nat} {m : List (Int × Int)} {cs : Array Value} {t : TypeId} (h : KeysAt w b m) (hk : w.heap[k]? = some (.cells cs t)) : b ≠ k := by
  obtain ⟨D, n, ⟨es, clock, hb, -⟩, -⟩ := h
  intro e
  rw [e, hk] at hb
  cases hb
theorem MapAt.ne {w : World} {p : Option Nat} {k : Nat} {m : List (Int × Int)} {cs : Array Value} {t : TypeId} (h : MapAt w p m) (hk : w.heap[k]? = some (.cells cs t)) : ∀ b, p = some b → b ≠ k := by
  rcases h with ⟨rfl, rfl⟩ | ⟨b, rfl, h⟩
  · intro b hb; cases hb
  · intro b' hb; cases hb; exact h.ne hk
theorem InstAt.kp {w w' : World} {ro : Nat → Prop} {ib tb mb : Nat} {mv gv : Value} {f : Flat} {mem : List UInt8} {gl : List Int} {S : Nat → Prop} (h : InstAt w ro ib tb mb mv gv f mem gl) (k : Kp S w w') (h1 : ¬ S ib) (h2 : ∀ b, ro b → ¬ S b) (h3 : ∀ b, mv.ownBlock = some b → ¬ S b) (h4 : ∀ b, gv.ownBlock = some b → ¬ S b) : InstAt w' ro ib tb mb mv gv f mem gl :=
  ⟨k.blk h.blk h1, h.mod.kp (k.mono (fun b _ hs hr => h2 b hr hs)), RowAt.kp h.memR k h3, RowAt.kp h.glR k h4, h.mn, h.gn, fun b hb => ⟨Nat.lt_of_lt_of_le (h.roI b hb).1 k.size, (h.roI b hb).2⟩, h.mvI, h.gvI⟩

abbrev rep0 : Obj := .cells #[.int .i64 0, .int .i64 0, .int .u64 0, .int .i64 0] 51
/-- Behind the lock. -/
structure Locked (w w1 : World) (ro : Nat → Prop) (ib tb mb : Nat) (mv gv av : Value) (f : Flat) (mem : List UInt8) (gl args : List Int) (p : Option Nat) (keys : List (Int × Int)) : Prop where
  kp : Kp (one tb) w w1
  inst : InstAt w1 ro ib tb mb mv gv f mem gl
  sto : w1.heap[tb]? = some (.cells #[.int .i32 1, .int .u32 0, .map p] 110)
  map : MapAt w1 p keys
  rep : w1.heap[w.heap.size]? = some rep0
  vals : ValsAt w1 av args
theorem Locked.of {w : World} {ro : Nat → Prop} {ib tb mb : Nat} {mv gv av : Value} {f : Flat} {mem : List UInt8} {gl args : List Int} {p : Option Nat} {keys : List (Int × Int)} (h : InstAt w ro ib tb mb mv gv f mem gl) (hs : StoreAt w tb p keys) (ha : ValsAt w av args) (hav : ∀ b, av.ownBlock = some b → b ≠ ib ∧ b ≠ tb) :
    Locked w ((w.alloc rep0).setCell ⟨tb, 0, none⟩ (.int .i32 1)) ro ib tb mb mv gv av f mem gl args p keys := by
  have hne := h.neI hs
  have k : Kp (one tb) w ((w.alloc rep0).setCell ⟨tb, 0, none⟩ (.int .i32 1)) := ((Kp.refl _ w).alloc _).set1 0 _
  refine ⟨k, h.kp k hne (fun b hb => (h.roI b hb).2.2) (fun b hb => (h.mvI b hb).2) (fun b hb => (h.gvI b hb).2), heap_setCell (heap_alloc_old hs.blk) _, hs.map.kp k (hs.map.ne hs.blk), heap_setCell_ne (by have := lt_of_blk hs.blk; omega) _ (heap_alloc_new w _), RowAt.kp ha k (fun b hb => (hav b hb).2)⟩

/-- Unlocked again, nothing changed but new blocks. -/
theorem Locked.back {w w1 w3 : World} {ro : Nat → Prop} {ib tb mb : Nat} {mv gv av : Value} {f : Flat} {mem : List UInt8} {gl args : List Int} {p : Option Nat} {keys : List (Int × Int)} (hI : InstAt w ro ib tb mb mv gv f mem gl) (hS : StoreAt w tb p keys) (h : Locked w w1 ro ib tb mb mv gv av f mem gl args p keys) (k : Kp (fun b => w.heap.size ≤ b) w1 w3) :
    InstAt (w3.setCell ⟨tb, 0, none⟩ (.int .i32 0)) ro ib tb mb mv gv f mem gl ∧ StoreAt (w3.setCell ⟨tb, 0, none⟩ (.int .i32 0)) tb p keys ∧ Kp (ibtb ib tb) w (w3.setCell ⟨tb, 0, none⟩ (.int .i32 0)) := by
  have htl := lt_of_blk hS.blk
  have hne := hI.neI hS
  have k3 : Kp (one tb) w w3 := h.kp.comp k (fun b _ hb => hb) (fun b hb1 hb => absurd hb (by omega))
  have k4 : Kp (one tb) w (w3.setCell ⟨tb, 0, none⟩ (.int .i32 0)) := k3.set1 0 _
  have hst : w3.heap[tb]? = some (.cells #[.int .i32 1, .int .u32 0, .map p] 110) := k.blk h.sto (by omega)
  exact ⟨hI.kp k4 hne (fun b hb => (hI.roI b hb).2.2) (fun b hb => (hI.mvI b hb).2) (fun b hb => (hI.gvI b hb).2), ⟨heap_setCell hst _, hS.map.kp k4 (hS.map.ne hS.blk), hS.few⟩, k4.mono (fun b _ hb => .inr hb)⟩

set_option maxRecDepth 100000 in
set_option maxHeartbeats 2000000 in
theorem call_refused {w : World} {ro : Nat → Prop} {ib tb mb : Nat} {mv gv av : Value} {f : Flat} {mem : List UInt8} {gl args : List Int} {p : Option Nat} {keys : List (Int × Int)} {n fuel : Int} (h : InstAt w ro ib tb mb mv gv f mem gl) (hs : StoreAt w tb p keys)
    (hnf : f.funcs.length ≤ 1000) (ha : ValsAt w av args) (hal : args.length ≤ 1000) (hav : ∀ b, av.ownBlock = some b → b ≠ ib ∧ b ≠ tb) (hpl : ∀ k, k < f.funcs.length → (f.funcs.getD k fn0).typ.1.length ≤ 1000) (e : Nat) (he : refusesM f n args fuel = ((e + 1 : Nat) : Int)) :
    Calls Tryz.prog 27 #[ptrTo ib, .int .i64 n, av, .int .i64 fuel] w fun r w' => r = .returned (replyV ((e + 1 : Nat) : Int) 0 0 0) ∧ InstAt w' ro ib tb mb mv gv f mem gl ∧ StoreAt w' tb p keys ∧ Kp (ibtb ib tb) w w' := by
  have hne := h.neI hs
  obtain ⟨ada, capa, hav', hca⟩ := RowAt.shape ha
  subst hav'
  have hio := h.blk
  have hso := hs.blk
  have hi1 : ∀ obj q, (w.alloc obj).cell? ⟨ib, q, none⟩ = #[ptrTo tb, ptrTo mb, mv, gv][q]? := fun obj q => (cells_of (heap_alloc_old hio)).1 q
  have hst := fun obj => started_any (heap_alloc_old (o := obj) hio)
  have hl1 : ∀ obj, (w.alloc obj).cell? ⟨tb, 0, none⟩ = some (.int .i32 0) := fun obj => (cells_of (heap_alloc_old hso)).1 0
  have hf1 : ∀ obj, (w.alloc obj).frozen? ⟨tb, 0, none⟩ = false := fun obj => (cells_of (heap_alloc_old hso)).2 0
  have HSt := hide hst
  have H := hide h
  have HS := hide hs
  have HA := hide ha
  clear h hs ha hio hso hst
  go_enter_defers Tryz.func27, Tryz.ntmps27
  go_wp2_with fail
  refine (HSt.out _).mono ?_
  rintro r w1 ⟨rfl, rfl⟩
  go_wp2_with fail
  refine (lock_free muLib ⟨tb, 0, none⟩ _ (hl1 _) (hf1 _)).mono ?_
  rintro r w1 ⟨rfl, rfl⟩
  have hL := Locked.of H.out HS.out HA.out hav
  obtain ⟨w1, hw1⟩ : ∃ w1, w1 = (w.alloc rep0).setCell ⟨tb, 0, none⟩ (.int .i32 1) := ⟨_, rfl⟩
  rw [← hw1] at hL ⊢
  have hrf := refuses_any (n := n) (fuel := fuel) hL.inst.mod hnf hL.vals hal hpl
  rw [he] at hrf
  have hnz : (((e + 1 : Nat) : Int) == 0) = false := by simp; omega
  have hnz2 : (((e : Nat) : Int) + 1 == 0) = false := by simp; omega
  have hc1 := (cells_of hL.inst.blk).1
  obtain ⟨hr1, hz1⟩ := cells_of hL.rep
  have HL := hide hL
  have HRf := hide hrf
  clear hL hrf hi1 hl1 hf1 HSt hw1 HA hav hpl
  go_wp2_with fail
  refine HRf.out.mono ?_
  rintro r w2 ⟨rfl, rfl⟩
  go_wp2_with fail
  refine leaves_cons (f := 48) (args := #[.pointer (some ⟨tb, 0, none⟩)]) (by simp) (by simp [go_sem]) ?_
  obtain ⟨hfb, hfk⟩ := reply_fin HL.out.rep (.int .i64 ((e : Int) + 1)) (.int .i64 0) (.int .u64 0) (.int .i64 0)
  have hrl : w.heap.size ≠ tb := fun e => by have := lt_of_blk HS.out.blk; omega
  have hrl2 : tb ≠ w.heap.size := fun e => hrl e.symm
  have hsw := hfk.blk HL.out.sto (fun h => hrl h.symm)
  generalize ((((w2.setCell ⟨w.heap.size, 0, none⟩ (.int .i64 ((e : Int) + 1))).setCell ⟨w.heap.size, 1, none⟩ (.int .i64 0)).setCell ⟨w.heap.size, 2, none⟩ (.int .u64 0)).setCell ⟨w.heap.size, 3, none⟩ (.int .i64 0)) = w3 at *
  refine (unlock_deferred muLib ⟨tb, 0, none⟩ .returning _ ((cells_of hsw).1 0) ((cells_of hsw).2 0)).mono ?_
  rintro r u' w4 ⟨rfl, rfl, rfl⟩
  have hfin := (cells_of (heap_setCell_ne (o := 0) hrl (.int .i32 0) hfb)).1
  refine ⟨replyV ((e : Int) + 1) 0 0 0, by simp [results, Tryz.results27, go_sem, hfin], rfl, ?_⟩
  exact HL.out.back H.out HS.out (hfk.mono (fun b _ (hb : b = _) => by omega))
end Go.Proofs.YtdeplgkhmebalaaGreatDoor

namespace Go.Proofs.YtdeplgkhmebalaaGreatDoor
open Go.RowKit Go.MuLone

set_option maxRecDepth 100000 in
set_option maxHeartbeats 4000000 in
theorem call_runs {w : World} {ro : Nat → Prop} {ib tb mb : Nat} {mv gv av : Value} {f : Flat} {mem : List UInt8} {gl args : List Int} {p : Option Nat} {keys : List (Int × Int)} {n fuel K : Nat} (h : InstAt w ro ib tb mb mv gv f mem gl) (hs : StoreAt w tb p keys)
    (hok : f.Ok) (ha : ValsAt w av args) (hal : args.length ≤ 1000) (hav : ∀ b, av.ownBlock = some b → b ≠ ib ∧ b ≠ tb) (hpl : ∀ k, k < f.funcs.length → (f.funcs.getD k fn0).typ.1.length ≤ (f.funcs.getD k fn0).locals ∧ (f.funcs.getD k fn0).locals ≤ 1000) (he : refusesM f n args fuel = 0)
    (hK : K ≤ 900000) {t : Nat} {v : Int} {u : Nat} {s' : Mc} (hm : callR f n args fuel mem gl keys K = some (t, v, u, s')) (hsm : s'.mem.length ≤ 1000000 ∧ s'.gl.length ≤ 1000000 ∧ s'.keys.length ≤ 1000) :
    Calls Tryz.prog 27 #[ptrTo ib, .int .i64 n, av, .int .i64 fuel] w fun r w' => r = .returned (replyV 0 t v u) ∧
      (t = 0 → ∃ mv' gv' p', InstAt w' ro ib tb mb mv' gv' f s'.mem s'.gl ∧ StoreAt w' tb p' s'.keys ∧ (∀ b, mv'.ownBlock = some b → w.heap.size ≤ b) ∧ (∀ b, gv'.ownBlock = some b → w.heap.size ≤ b)) ∧ (t ≠ 0 → InstAt w' ro ib tb mb mv gv f mem gl ∧ StoreAt w' tb p keys) ∧ Kp (ibtb ib tb) w w' := by
  have hne := h.neI hs
  have hrf0 : (n : Nat) < f.funcs.length ∧ fitsM args (f.funcs.getD n fn0).typ.1 = true ∧ fuel ≤ 100000 := by
    unfold refusesM at he
    split at he
    · cases he
    · split at he
      · cases he
      · split at he
        · cases he
        · rename_i h1 h2 h3
          refine ⟨by omega, ?_, by omega⟩
          rw [show ((n : Int)).toNat = n by omega] at h2
          simpa using h2
  obtain ⟨hn, hfit, hfu⟩ := hrf0
  have hpa : (f.funcs.getD n fn0).typ.1.length = args.length := by
    unfold fitsM at hfit
    simp only [Bool.and_eq_true, decide_eq_true_eq] at hfit
    exact hfit.1.symm
  obtain ⟨ada, capa, hav', hca⟩ := RowAt.shape ha
  subst hav'
  have hio := h.blk
  have hso := hs.blk
  have hi1 : ∀ obj q, (w.alloc obj).cell? ⟨ib, q, none⟩ = #[ptrTo tb, ptrTo mb, mv, gv][q]? := fun obj q => (cells_of (heap_alloc_old hio)).1 q
  have hst := fun obj => started_any (heap_alloc_old (o := obj) hio)
  have hl1 : ∀ obj, (w.alloc obj).cell? ⟨tb, 0, none⟩ = some (.int .i32 0) := fun obj => (cells_of (heap_alloc_old hso)).1 0
  have hf1 : ∀ obj, (w.alloc obj).frozen? ⟨tb, 0, none⟩ = false := fun obj => (cells_of (heap_alloc_old hso)).2 0
  have HSt := hide hst
  have H := hide h
  have HS := hide hs
  have HA := hide ha
  have HOk := hide hok
  have HPl := hide hpl
  have HM := hide hm
  have HPa := hide hpa
  have htl := lt_of_blk hso
  have hil := lt_of_blk hio
  clear h hs ha hio hso hst hok hpl hm hfit hpa
  go_enter_defers Tryz.func27, Tryz.ntmps27
  go_wp2_with fail
  refine (HSt.out _).mono ?_
  rintro r w1 ⟨rfl, rfl⟩
  go_wp2_with fail
  refine (lock_free muLib ⟨tb, 0, none⟩ _ (hl1 _) (hf1 _)).mono ?_
  rintro r w1 ⟨rfl, rfl⟩
  have hL := Locked.of H.out HS.out HA.out hav
  have hsz1 : ((w.alloc rep0).setCell ⟨tb, 0, none⟩ (.int .i32 1)).heap.size = w.heap.size + 1 := by simp [World.setCell]
  obtain ⟨w1, hw1⟩ : ∃ w1, w1 = (w.alloc rep0).setCell ⟨tb, 0, none⟩ (.int .i32 1) := ⟨_, rfl⟩
  rw [← hw1] at hL hsz1 ⊢
  have hrf := refuses_any (n := n) (fuel := fuel) hL.inst.mod HOk.out.nf hL.vals hal (fun k hk => Nat.le_trans (HPl.out k hk).1 (HPl.out k hk).2)
  rw [he] at hrf
  have hc1 := (cells_of hL.inst.blk).1
  have hsta := state_any hL.inst ((cells_of hL.sto).1 2) hL.map HS.out.few
  have HL := hide hL
  have HRf := hide hrf
  have HSta := hide hsta
  clear hL hrf hi1 hl1 hf1 HSt hw1 HA hsta
  go_wp2_with fail
  refine HRf.out.mono ?_
  rintro r w2 ⟨rfl, rfl⟩
  go_wp2_with fail
  refine HSta.out.mono ?_
  rintro r w3 ⟨⟨sb, kb, gm, gg, rfl, hsa⟩, k3⟩
  have hrc := runCall_any hsa (HL.out.inst.mod.kp k3.any) (fun b hb => (HL.out.inst.roI b hb).1) k3.size (RowAt.kp HL.out.vals k3 (fun _ _ h => h)) HOk.out hn HPa.out (HPl.out n hn).1 (HPl.out n hn).2 hfu H.out.gn hK HM.out
  have hc3 := (cells_of (k3.blk HL.out.inst.blk (fun h => h))).1
  have HRc := hide hrc
  have K3 := hide k3
  have HSa := hide hsa
  have hs3 := k3.size
  clear hrc k3 HRf HSta HM hc1 hsa
  go_wp2_with fail
  refine HRc.out.mono ?_
  rintro r w4 ⟨rfl, ⟨mv', gv', hbe⟩, k4⟩
  have hi4 := k4.blk (K3.out.blk HL.out.inst.blk (fun h => h)) (show ¬ w2.heap.size ≤ ib by omega)
  have ht4 := k4.blk (K3.out.blk HL.out.sto (fun h => h)) (show ¬ w2.heap.size ≤ tb by omega)
  have hr4 := k4.blk (K3.out.blk HL.out.rep (fun h => h)) (show ¬ w2.heap.size ≤ w.heap.size by omega)
  have hs4 := k4.size
  go_upto_region 10 with fail
  have HBe := hide hbe
  have HI4 := hide hi4
  have HT4 := hide ht4
  have HR4 := hide hr4
  have K4 := hide (K3.out.any.trans k4)
  have hbl := lt_of_blk hbe.blk
  clear hbe hi4 ht4 hr4 k4 HRc K3 hc3
  rcases Nat.eq_zero_or_pos t with ht0 | htp
  · subst ht0
    obtain ⟨adm, capm, hmv', -⟩ := RowAt.shape (RowAt.own HBe.out.memR)
    obtain ⟨adg, capg, hgv', -⟩ := RowAt.shape (RowAt.own HBe.out.glR)
    subst hmv' hgv'
    have hbb := heap_alloc_old (o := .cells #[.int .i64 0, .int .i64 0, .int .u64 v, .int .i64 u] 51) HBe.out.blk
    have hib := heap_alloc_old (o := .cells #[.int .i64 0, .int .i64 0, .int .u64 v, .int .i64 u] 51) HI4.out
    have htb := heap_alloc_old (o := .cells #[.int .i64 0, .int .i64 0, .int .u64 v, .int .i64 u] 51) HT4.out
    have hrp := heap_alloc_old (o := .cells #[.int .i64 0, .int .i64 0, .int .u64 v, .int .i64 u] 51) HR4.out
    have hr2 := heap_alloc_new w4 (.cells #[.int .i64 0, .int .i64 0, .int .u64 v, .int .i64 u] 51)
    have kA := (Kp.refl no w4).alloc (.cells #[.int .i64 0, .int .i64 0, .int .u64 v, .int .i64 u] 51)
    have o1 := HSa.out.o1
    have o2 := HSa.out.o2
    have o3 := HSa.out.o3
    have o4 := HSa.out.o4
    go_wp2_with fail
    generalize w4.alloc (.cells #[.int .i64 0, .int .i64 0, .int .u64 v, .int .i64 u] 51) = w5 at *
    obtain ⟨S, hSd⟩ : ∃ S : World → Prop, S = fun w' => w'.cell? ⟨ib, 0, none⟩ = some (ptrTo tb) ∧ (∀ q, w'.cell? ⟨sb, q, none⟩ = #[.slice adm s'.mem.length capm, .slice adg s'.gl.length capg, .map (some kb)][q]?) := ⟨_, rfl⟩
    have hSk : ∀ W' x y, W'.heap[ib]? = some (instObj tb mb x y) → W'.heap[sb]? = some (.cells #[.slice adm s'.mem.length capm, .slice adg s'.gl.length capg, .map (some kb)] 125) → S W' := fun W' x y h1 h2 => by rw [hSd]; exact ⟨(cells_of h1).1 0, (cells_of h2).1⟩
    have HSk := hide hSk
    have HSd := hide hSd
    have hib2 : (w5.setCell ⟨ib, 2, none⟩ (.slice adm s'.mem.length capm)).heap[ib]? = some (instObj tb mb (.slice adm s'.mem.length capm) gv) := heap_setCell hib _
    have hib3 : ((w5.setCell ⟨ib, 2, none⟩ (.slice adm s'.mem.length capm)).setCell ⟨ib, 3, none⟩ (.slice adg s'.gl.length capg)).heap[ib]? = some (instObj tb mb (.slice adm s'.mem.length capm) (.slice adg s'.gl.length capg)) := heap_setCell hib2 _
    have hb2 : ∀ x o, (w5.setCell ⟨ib, o, none⟩ x).heap[sb]? = some (.cells #[.slice adm s'.mem.length capm, .slice adg s'.gl.length capg, .map (some kb)] 125) := fun x o => heap_setCell_ne (by omega) _ hbb
    have ht2 : ∀ x o, (w5.setCell ⟨ib, o, none⟩ x).heap[tb]? = some (.cells #[.int .i32 1, .int .u32 0, .map p] 110) := fun x o => heap_setCell_ne (fun e => hne e.symm) _ htb
    have hb3 := heap_setCell_ne (o := 3) (show sb ≠ ib by omega) (.slice adg s'.gl.length capg) (hb2 (.slice adm s'.mem.length capm) 2)
    have ht3 := heap_setCell_ne (o := 3) (show tb ≠ ib by omega) (.slice adg s'.gl.length capg) (ht2 (.slice adm s'.mem.length capm) 2)
    have hib4 := heap_setCell_ne (o := 2) hne (.map (some kb)) hib3
    have hb4 := heap_setCell_ne (o := 2) (show sb ≠ tb by omega) (.map (some kb)) hb3
    have ht4 := heap_setCell (o := 2) ht3 (.map (some kb))
    have c1 : w5.cell? ⟨ib, 2, none⟩ = some mv := (cells_of hib).1 2
    have d1 : w5.frozen? ⟨ib, 2, none⟩ = false := (cells_of hib).2 2
    have c2 : w5.cell? ⟨ib, 3, none⟩ = some gv := (cells_of hib).1 3
    have d2 : w5.frozen? ⟨ib, 3, none⟩ = false := (cells_of hib).2 3
    have c3 : w5.cell? ⟨tb, 2, none⟩ = some (.map p) := (cells_of htb).1 2
    have d3 : w5.frozen? ⟨tb, 2, none⟩ = false := (cells_of htb).2 2
    have hne2 : ¬ tb = ib := fun e => hne e.symm
    have hne3 : ¬ ib = tb := hne
    refine wp_region_noPanic ?_
    refine wp_region_S 27 (S) (by kernel_rfl) (n := 27) (listed := #[false, false, false, false, false, false, false, false, false, false, false, false, false, false, false, false, false, false, false, false, false, false, false, false, false, false, false]) rfl (by kernel_rfl) ?hS (fun hS => ?_)
    case hS => exact HSk.out _ _ _ hib hbb
    have hSd := HSd.out
    subst hSd
    refine wpAnyS_take 0 [] (v := ?v1) (listed' := #[true, false, false, false, false, false, false, false, false, false, false, false, false, false, false, false, false, false, false, false, false, false, false, false, false, false, false]) rfl (by kernel_rfl) (by kernel_rfl) rfl (fun _ _ _ h => h) hS (fun _ hSw => ?hy1) ?rest1
    case hy1 => (try dsimp only at hSw); go_simp; all_goals (with_reducible rfl)
    simp only [Act.put, List.setIfInBounds_toArray, List.set_cons_zero, List.set_cons_succ]
    refine wpAnyS_take 1 [] (v := ?v2) (listed' := #[true, true, false, false, false, false, false, false, false, false, false, false, false, false, false, false, false, false, false, false, false, false, false, false, false, false, false]) rfl (by kernel_rfl) (by kernel_rfl) rfl (fun _ _ _ h => h) hS (fun _ hSw => ?hy2) ?rest2
    case hy2 => (try dsimp only at hSw); go_simp; all_goals (with_reducible rfl)
    simp only [Act.put, List.setIfInBounds_toArray, List.set_cons_zero, List.set_cons_succ]
    refine wpAnyS_take 2 [] (v := ?v3) (listed' := #[true, true, true, false, false, false, false, false, false, false, false, false, false, false, false, false, false, false, false, false, false, false, false, false, false, false, false]) rfl (by kernel_rfl) (by kernel_rfl) rfl (fun _ _ _ h => h) hS (fun _ hSw => ?hy3) ?rest3
    case hy3 => (try dsimp only at hSw); go_simp; all_goals (with_reducible rfl)
    simp only [Act.put, List.setIfInBounds_toArray, List.set_cons_zero, List.set_cons_succ]
    refine wpAnyS_take 3 [] (v := ?v4) (listed' := #[true, true, true, true, false, false, false, false, false, false, false, false, false, false, false, false, false, false, false, false, false, false, false, false, false, false, false]) rfl (by kernel_rfl) (by kernel_rfl) rfl (fun _ _ _ h => h) hS (fun _ hSw => ?hy4) ?rest4
    case hy4 => (try dsimp only at hSw); go_simp; all_goals (with_reducible rfl)
    simp only [Act.put, List.setIfInBounds_toArray, List.set_cons_zero, List.set_cons_succ]
    refine wpAnyS_take 4 [] (v := ?v5) (listed' := #[true, true, true, true, true, false, false, false, false, false, false, false, false, false, false, false, false, false, false, false, false, false, false, false, false, false, false]) rfl (by kernel_rfl) (by kernel_rfl) rfl (fun _ _ _ h => h) hS (fun _ hSw => ?hy5) ?rest5
    case hy5 => (try dsimp only at hSw); go_simp; all_goals (with_reducible rfl)
    simp only [Act.put, List.setIfInBounds_toArray, List.set_cons_zero, List.set_cons_succ]
    refine wpAnyS_take 5 [] (v := ?v6) (listed' := #[true, true, true, true, true, true, false, false, false, false, false, false, false, false, false, false, false, false, false, false, false, false, false, false, false, false, false]) rfl (by kernel_rfl) (by kernel_rfl) rfl (fun _ _ _ h => h) hS (fun _ hSw => ?hy6) ?rest6
    case hy6 => (try dsimp only at hSw); go_simp; all_goals (with_reducible rfl)
    simp only [Act.put, List.setIfInBounds_toArray, List.set_cons_zero, List.set_cons_succ]
    refine wpAnyS_take 6 [] (v := ?v7) (listed' := #[true, true, true, true, true, true, true, false, false, false, false, false, false, false, false, false, false, false, false, false, false, false, false, false, false, false, false]) rfl (by kernel_rfl) (by kernel_rfl) rfl (fun _ _ _ h => h) hS (fun _ hSw => ?hy7) ?rest7
    case hy7 => (try dsimp only at hSw); go_simp; all_goals (with_reducible rfl)
    simp only [Act.put, List.setIfInBounds_toArray, List.set_cons_zero, List.set_cons_succ]
    refine wpAnyS_take 7 [] (v := ?v8) (listed' := #[true, true, true, true, true, true, true, true, false, false, false, false, false, false, false, false, false, false, false, false, false, false, false, false, false, false, false]) rfl (by kernel_rfl) (by kernel_rfl) rfl (fun _ _ _ h => h) hS (fun _ hSw => ?hy8) ?rest8
    case hy8 => (try dsimp only at hSw); go_simp; all_goals (with_reducible rfl)
    simp only [Act.put, List.setIfInBounds_toArray, List.set_cons_zero, List.set_cons_succ]
    refine wpAnyS_take 8 [] (v := ?v9) (listed' := #[true, true, true, true, true, true, true, true, true, false, false, false, false, false, false, false, false, false, false, false, false, false, false, false, false, false, false]) rfl (by kernel_rfl) (by kernel_rfl) rfl (fun _ _ _ h => h) hS (fun _ hSw => ?hy9) ?rest9
    case hy9 => (try dsimp only at hSw); go_simp; all_goals (with_reducible rfl)
    simp only [Act.put, List.setIfInBounds_toArray, List.set_cons_zero, List.set_cons_succ]
    refine wpAnyS_take 9 [] (v := ?v10) (listed' := #[true, true, true, true, true, true, true, true, true, true, false, false, false, false, false, false, false, false, false, false, false, false, false, false, false, false, false]) rfl (by kernel_rfl) (by kernel_rfl) rfl (fun _ _ _ h => h) hS (fun _ hSw => ?hy10) ?rest10
    case hy10 => (try dsimp only at hSw); go_simp; all_goals (with_reducible rfl)
    simp only [Act.put, List.setIfInBounds_toArray, List.set_cons_zero, List.set_cons_succ]
    refine wpAnyS_take 10 [] (v := ?v11) (listed' := #[true, true, true, true, true, true, true, true, true, true, true, false, false, false, false, false, false, false, false, false, false, false, false, false, false, false, false]) rfl (by kernel_rfl) (by kernel_rfl) rfl (fun _ _ _ h => h) hS (fun _ hSw => ?hy11) ?rest11
    case hy11 => (try dsimp only at hSw); go_simp; all_goals (with_reducible rfl)
    simp only [Act.put, List.setIfInBounds_toArray, List.set_cons_zero, List.set_cons_succ]
    refine wpAnyS_take 11 [] (v := ?v12) (listed' := #[true, true, true, true, true, true, true, true, true, true, true, true, false, false, false, false, false, false, false, false, false, false, false, false, false, false, false]) rfl (by kernel_rfl) (by kernel_rfl) rfl (fun _ _ _ h => h) hS (fun _ hSw => ?hy12) ?rest12
    case hy12 => (try dsimp only at hSw); go_simp; all_goals (with_reducible rfl)
    simp only [Act.put, List.setIfInBounds_toArray, List.set_cons_zero, List.set_cons_succ]
    refine wpAnyS_take 12 [] (v := ?v13) (listed' := #[true, true, true, true, true, true, true, true, true, true, true, true, true, false, false, false, false, false, false, false, false, false, false, false, false, false, false]) rfl (by kernel_rfl) (by kernel_rfl) rfl (fun _ _ _ h => h) hS (fun _ hSw => ?hy13) ?rest13
    case hy13 => (try dsimp only at hSw); go_simp; all_goals (with_reducible rfl)
    simp only [Act.put, List.setIfInBounds_toArray, List.set_cons_zero, List.set_cons_succ]
    refine wpAnyS_take 13 [] (v := ?v14) (listed' := #[true, true, true, true, true, true, true, true, true, true, true, true, true, true, false, false, false, false, false, false, false, false, false, false, false, false, false]) rfl (by kernel_rfl) (by kernel_rfl) rfl (fun _ _ _ h => h) hS (fun _ hSw => ?hy14) ?rest14
    case hy14 => (try dsimp only at hSw); go_simp; all_goals (with_reducible rfl)
    simp only [Act.put, List.setIfInBounds_toArray, List.set_cons_zero, List.set_cons_succ]
    refine wpAnyS_take 14 [] (v := ?v15) (listed' := #[true, true, true, true, true, true, true, true, true, true, true, true, true, true, true, false, false, false, false, false, false, false, false, false, false, false, false]) rfl (by kernel_rfl) (by kernel_rfl) rfl (fun _ _ _ h => h) hS (fun _ hSw => ?hy15) ?rest15
    case hy15 => (try dsimp only at hSw); go_simp; all_goals (with_reducible rfl)
    simp only [Act.put, List.setIfInBounds_toArray, List.set_cons_zero, List.set_cons_succ]
    refine wpAnyS_take 15 [] (v := ?v16) (listed' := #[true, true, true, true, true, true, true, true, true, true, true, true, true, true, true, true, false, false, false, false, false, false, false, false, false, false, false]) rfl (by kernel_rfl) (by kernel_rfl) rfl (fun _ _ _ h => h) hS (fun _ hSw => ?hy16) ?rest16
    case hy16 => (try dsimp only at hSw); go_simp; all_goals (with_reducible rfl)
    simp only [Act.put, List.setIfInBounds_toArray, List.set_cons_zero, List.set_cons_succ]
    refine wpAnyS_take 16 [] (v := ?v17) (listed' := #[true, true, true, true, true, true, true, true, true, true, true, true, true, true, true, true, true, false, false, false, false, false, false, false, false, false, false]) rfl (by kernel_rfl) (by kernel_rfl) rfl (fun _ _ _ h => h) hS (fun _ hSw => ?hy17) ?rest17
    case hy17 => (try dsimp only at hSw); go_simp; all_goals (with_reducible rfl)
    simp only [Act.put, List.setIfInBounds_toArray, List.set_cons_zero, List.set_cons_succ]
    refine wpAnyS_take 17 [] (v := ?v18) (listed' := #[true, true, true, true, true, true, true, true, true, true, true, true, true, true, true, true, true, true, false, false, false, false, false, false, false, false, false]) rfl (by kernel_rfl) (by kernel_rfl) rfl (fun _ _ _ h => h) hS (fun _ hSw => ?hy18) ?rest18
    case hy18 => (try dsimp only at hSw); go_simp; all_goals (with_reducible rfl)
    simp only [Act.put, List.setIfInBounds_toArray, List.set_cons_zero, List.set_cons_succ]
    refine wpAnyS_take 18 [] (v := ?v19) (listed' := #[true, true, true, true, true, true, true, true, true, true, true, true, true, true, true, true, true, true, true, false, false, false, false, false, false, false, false]) rfl (by kernel_rfl) (by kernel_rfl) rfl (fun _ _ _ h => h) hS (fun _ hSw => ?hy19) ?rest19
    case hy19 => (try dsimp only at hSw); go_simp; all_goals (with_reducible rfl)
    simp only [Act.put, List.setIfInBounds_toArray, List.set_cons_zero, List.set_cons_succ]
    refine wpAnyS_take 19 [] (v := ?v20) (listed' := #[true, true, true, true, true, true, true, true, true, true, true, true, true, true, true, true, true, true, true, true, false, false, false, false, false, false, false]) rfl (by kernel_rfl) (by kernel_rfl) rfl (fun _ _ _ h => h) hS (fun _ hSw => ?hy20) ?rest20
    case hy20 => (try dsimp only at hSw); go_simp; all_goals (with_reducible rfl)
    simp only [Act.put, List.setIfInBounds_toArray, List.set_cons_zero, List.set_cons_succ]
    refine wpAnyS_one 20 (listed' := #[true, true, true, true, true, true, true, true, true, true, true, true, true, true, true, true, true, true, true, true, true, false, false, false, false, false, false]) rfl (by kernel_rfl) (by kernel_rfl) (fun K hK => ?_)
    go_simp
    refine hK _ _ (HSk.out _ _ _ hib2 (hb2 _ 2)) (fun hS => ?_)
    clear hK K
    refine wpAnyS_take 21 [] (v := ?v22) (listed' := #[true, true, true, true, true, true, true, true, true, true, true, true, true, true, true, true, true, true, true, true, true, true, false, false, false, false, false]) rfl (by kernel_rfl) (by kernel_rfl) rfl (fun _ _ _ h => h) hS (fun _ hSw => ?hy22) ?rest22
    case hy22 => (try dsimp only at hSw); go_simp; all_goals (with_reducible rfl)
    simp only [Act.put, List.setIfInBounds_toArray, List.set_cons_zero, List.set_cons_succ]
    refine wpAnyS_take 22 [] (v := ?v23) (listed' := #[true, true, true, true, true, true, true, true, true, true, true, true, true, true, true, true, true, true, true, true, true, true, true, false, false, false, false]) rfl (by kernel_rfl) (by kernel_rfl) rfl (fun _ _ _ h => h) hS (fun _ hSw => ?hy23) ?rest23
    case hy23 => (try dsimp only at hSw); go_simp; all_goals (with_reducible rfl)
    simp only [Act.put, List.setIfInBounds_toArray, List.set_cons_zero, List.set_cons_succ]
    refine wpAnyS_one 23 (listed' := #[true, true, true, true, true, true, true, true, true, true, true, true, true, true, true, true, true, true, true, true, true, true, true, true, false, false, false]) rfl (by kernel_rfl) (by kernel_rfl) (fun K hK => ?_)
    go_simp
    refine hK _ _ (HSk.out _ _ _ hib3 hb3) (fun hS => ?_)
    clear hK K
    refine wpAnyS_take 24 [] (v := ?v25) (listed' := #[true, true, true, true, true, true, true, true, true, true, true, true, true, true, true, true, true, true, true, true, true, true, true, true, true, false, false]) rfl (by kernel_rfl) (by kernel_rfl) rfl (fun _ _ _ h => h) hS (fun _ hSw => ?hy25) ?rest25
    case hy25 => (try dsimp only at hSw); go_simp; all_goals (with_reducible rfl)
    simp only [Act.put, List.setIfInBounds_toArray, List.set_cons_zero, List.set_cons_succ]
    refine wpAnyS_take 25 [] (v := ?v26) (listed' := #[true, true, true, true, true, true, true, true, true, true, true, true, true, true, true, true, true, true, true, true, true, true, true, true, true, true, false]) rfl (by kernel_rfl) (by kernel_rfl) rfl (fun _ _ _ h => h) hS (fun _ hSw => ?hy26) ?rest26
    case hy26 => (try dsimp only at hSw); go_simp; all_goals (with_reducible rfl)
    simp only [Act.put, List.setIfInBounds_toArray, List.set_cons_zero, List.set_cons_succ]
    refine wpAnyS_one 26 (listed' := #[true, true, true, true, true, true, true, true, true, true, true, true, true, true, true, true, true, true, true, true, true, true, true, true, true, true, true]) rfl (by kernel_rfl) (by kernel_rfl) (fun K hK => ?_)
    go_simp
    refine hK _ _ (HSk.out _ _ _ hib4 hb4) (fun hS => ?_)
    clear hK K
    refine wpAnyS_done (by kernel_rfl) ?_ _
    clear hS HSk HSd
    have hl4 : w4.heap.size < w5.heap.size := lt_of_blk hr2
    have hp6 := heap_setCell_ne (o := 2) (show w.heap.size ≠ tb by omega) (.map (some kb)) (heap_setCell_ne (o := 3) (show w.heap.size ≠ ib by omega) (.slice adg s'.gl.length capg) (heap_setCell_ne (o := 2) (show w.heap.size ≠ ib by omega) (.slice adm s'.mem.length capm) hrp))
    have hq6 := heap_setCell_ne (o := 2) (show w4.heap.size ≠ tb by omega) (.map (some kb)) (heap_setCell_ne (o := 3) (show w4.heap.size ≠ ib by omega) (.slice adg s'.gl.length capg) (heap_setCell_ne (o := 2) (show w4.heap.size ≠ ib by omega) (.slice adm s'.mem.length capm) hr2))
    have k6 : Kp (ibtb ib tb) w5 (((w5.setCell ⟨ib, 2, none⟩ (.slice adm s'.mem.length capm)).setCell ⟨ib, 3, none⟩ (.slice adg s'.gl.length capg)).setCell ⟨tb, 2, none⟩ (.map (some kb))).drew := ((((Kp.refl (ibtb ib tb) w5).setAt (.inl rfl) 2 _).setAt (.inl rfl) 3 _).setAt (.inr rfl) 2 _).drew
    obtain ⟨W6, hW6⟩ : ∃ W6, W6 = (((w5.setCell ⟨ib, 2, none⟩ (.slice adm s'.mem.length capm)).setCell ⟨ib, 3, none⟩ (.slice adg s'.gl.length capg)).setCell ⟨tb, 2, none⟩ (.map (some kb))).drew := ⟨_, rfl⟩
    have hi7 : W6.heap[ib]? = some (instObj tb mb (.slice adm s'.mem.length capm) (.slice adg s'.gl.length capg)) := by rw [hW6]; exact hib4
    have ht7 : W6.heap[tb]? = some (.cells #[.int .i32 1, .int .u32 0, .map (some kb)] 110) := by rw [hW6]; exact ht4
    have hp7 : W6.heap[w.heap.size]? = some rep0 := by rw [hW6]; exact hp6
    have hq7 : W6.heap[w4.heap.size]? = some (.cells #[.int .i64 0, .int .i64 0, .int .u64 v, .int .i64 u] 51) := by rw [hW6]; exact hq6
    rw [← hW6] at k6 ⊢
    obtain ⟨e1, -⟩ := cells_of hq7
    obtain ⟨e2, e3⟩ := cells_of hp7
    have hI7 := hide hi7
    have hT7 := hide ht7
    have hP7 := hide hp7
    have KA := hide kA
    have K6 := hide k6
    clear hW6 hib2 hib3 hb2 ht2 hb3 ht3 hib4 hb4 ht4 c1 d1 c2 d2 c3 d3 hp6 hq6 k6 hi7 ht7 hp7 hq7 hib htb hrp hr2 hbb kA
    unfold NoPanic
    go_wp2_with fail
    refine leaves_cons (f := 48) (args := #[.pointer (some ⟨tb, 0, none⟩)]) (by simp) (by simp [go_sem]) ?_
    obtain ⟨hfb, hfk⟩ := reply_fin hP7.out (.int .i64 0) (.int .i64 0) (.int .u64 v) (.int .i64 u)
    have hrl : w.heap.size ≠ tb := by omega
    have hri : w.heap.size ≠ ib := by omega
    have hsw := hfk.blk hT7.out (fun h => hrl h.symm)
    have hiw := hfk.blk hI7.out (fun h => hri h.symm)
    generalize ((((W6.setCell ⟨w.heap.size, 0, none⟩ (.int .i64 0)).setCell ⟨w.heap.size, 1, none⟩ (.int .i64 0)).setCell ⟨w.heap.size, 2, none⟩ (.int .u64 v)).setCell ⟨w.heap.size, 3, none⟩ (.int .i64 u)) = w7 at *
    refine (unlock_deferred muLib ⟨tb, 0, none⟩ .returning _ ((cells_of hsw).1 0) ((cells_of hsw).2 0)).mono ?_
    rintro r u' w8 ⟨rfl, rfl, rfl⟩
    have hfin := (cells_of (heap_setCell_ne (o := 0) hrl (.int .i32 0) hfb)).1
    refine ⟨replyV 0 0 v u, by simp [results, Tryz.results27, go_sem, hfin], rfl, ?_⟩
    have k48 : Kp (fun b => b = ib ∨ b = tb ∨ b = w.heap.size) w4 (w7.setCell ⟨tb, 0, none⟩ (.int .i32 0)) :=
      (((KA.out.any.trans (K6.out.mono (S' := fun b => b = ib ∨ b = tb ∨ b = w.heap.size) (fun b _ hb => hb.elim .inl (fun h => .inr (.inl h))))).trans (hfk.mono (fun b _ (hb : b = _) => .inr (.inr hb)))).setCell (p := ⟨tb, 0, none⟩) (.inl (.inr (.inl rfl))) _)
    have kF : Kp (ibtb ib tb) w (w7.setCell ⟨tb, 0, none⟩ (.int .i32 0)) :=
      (HL.out.kp.mono (S' := fun b => b = ib ∨ b = tb ∨ w.heap.size ≤ b) (fun b _ (hb : b = _) => .inr (.inl hb))).comp ((K4.out.mono (S' := fun b => b = ib ∨ b = tb ∨ w.heap.size ≤ b) (fun b _ hb => .inr (.inr (by omega)))).trans (k48.mono (fun b _ hb => by omega))) (fun b hb h => by rcases h with h | h | h; exact .inl h; exact .inr h; omega) (fun b hb h => by rcases h with h | h | h; exact .inl h; exact .inr h; omega)
    have hbm : ∀ b, (Value.slice adm s'.mem.length capm).ownBlock = some b → w2.heap.size ≤ b := fun b hb => own_new HBe.out.memR b hb
    have hbg : ∀ b, (Value.slice adg s'.gl.length capg).ownBlock = some b → w2.heap.size ≤ b := fun b hb => own_new HBe.out.glR b hb
    refine ⟨⟨.slice adm s'.mem.length capm, .slice adg s'.gl.length capg, ⟨heap_setCell_ne hne _ hiw, H.out.mod.kp (kF.mono (fun b _ hs hr => by have := H.out.roI b hr; rcases hs with h | h <;> omega)), ?_, ?_, hsm.1, hsm.2.1, fun b hb => ⟨Nat.lt_of_lt_of_le (H.out.roI b hb).1 kF.size, (H.out.roI b hb).2⟩, fun b hb => by have := hbm b hb; omega, fun b hb => by have := hbg b hb; omega⟩, ⟨some kb, heap_setCell hsw _, .inr ⟨kb, rfl, ?_⟩, hsm.2.2⟩, fun b hb => by have := hbm b hb; omega, fun b hb => by have := hbg b hb; omega⟩, kF⟩
    · exact RowAt.kp (RowAt.own HBe.out.memR) k48 (fun b hb h => by have := hbm b hb; omega)
    · exact RowAt.kp (RowAt.own HBe.out.glR) k48 (fun b hb h => by have := hbg b hb; omega)
    · exact HBe.out.keys.kp k48 (fun h => by omega)
  · obtain ⟨m, rfl⟩ : ∃ m, t = m + 1 := ⟨t - 1, by omega⟩
    have hnz : (((m + 1 : Nat) : Int) == 0) = false := by simp; omega
    have hnz2 : (((m : Nat) : Int) + 1 == 0) = false := by simp; omega
    have hr5 : ∀ obj q, (w4.alloc obj).cell? ⟨w.heap.size, q, none⟩ = #[.int .i64 0, .int .i64 0, .int .u64 0, .int .i64 0][q]? := fun obj q => (cells_of (heap_alloc_old HR4.out)).1 q
    have hf5 : ∀ obj q, (w4.alloc obj).frozen? ⟨w.heap.size, q, none⟩ = false := fun obj q => (cells_of (heap_alloc_old HR4.out)).2 q
    go_wp2_with fail
    refine leaves_cons (f := 48) (args := #[.pointer (some ⟨tb, 0, none⟩)]) (by simp) (by simp [go_sem]) ?_
    obtain ⟨hfb, hfk⟩ := reply_fin (heap_alloc_old (o := .cells #[.int .i64 0, .int .i64 ((m : Int) + 1), .int .u64 v, .int .i64 u] 51) HR4.out) (.int .i64 0) (.int .i64 ((m : Int) + 1)) (.int .u64 v) (.int .i64 u)
    have kA := (Kp.refl no w4).alloc (.cells #[.int .i64 0, .int .i64 ((m : Int) + 1), .int .u64 v, .int .i64 u] 51)
    have hrl : w.heap.size ≠ tb := by omega
    have hsw := hfk.blk (kA.blk HT4.out (fun h => h)) (fun h => hrl h.symm)
    have kB := ((K4.out.trans kA.any).mono (S' := fun b => w.heap.size ≤ b) (fun b _ hb => by omega)).trans (hfk.mono (fun b _ (hb : b = _) => by omega))
    clear hfk kA hr5 hf5
    generalize World.setCell (World.setCell (World.setCell (World.setCell (w4.alloc (.cells #[.int .i64 0, .int .i64 ((m : Int) + 1), .int .u64 v, .int .i64 u] 51)) ⟨w.heap.size, 0, none⟩ (.int .i64 0)) ⟨w.heap.size, 1, none⟩ (.int .i64 ((m : Int) + 1))) ⟨w.heap.size, 2, none⟩ (.int .u64 v)) ⟨w.heap.size, 3, none⟩ (.int .i64 u) = w5 at *
    refine (unlock_deferred muLib ⟨tb, 0, none⟩ .returning _ ((cells_of hsw).1 0) ((cells_of hsw).2 0)).mono ?_
    rintro r u' w6 ⟨rfl, rfl, rfl⟩
    have hfin := (cells_of (heap_setCell_ne (o := 0) hrl (.int .i32 0) hfb)).1
    refine ⟨replyV 0 ((m : Int) + 1) v u, by simp [results, Tryz.results27, go_sem, hfin], rfl, fun h => absurd h (by omega), ?_⟩
    obtain ⟨r1, r2, r3⟩ := HL.out.back H.out HS.out kB
    exact ⟨fun _ => ⟨r1, r2⟩, r3⟩
end Go.Proofs.YtdeplgkhmebalaaGreatDoor
