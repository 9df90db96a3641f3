/- What is asked of a module ahead of a call; stores and instances made. -/
import Derived.Test.YtdeplgkhmebalaaGreatDoorP28
import Derived.Laws.OwnMore

namespace Go.Proofs.YtdeplgkhmebalaaGreatDoor
open Go.RowKit
theorem started_any {w : World} {ib tb mb : Nat} {mv gv : Value} (h : w.heap[ib]? = some (instObj tb mb mv gv)) :
    Calls Tryz.prog 46 #[ptrTo ib] w fun r w' => r = .returned (.bool true) ∧ w' = w := by
  obtain ⟨hc, -⟩ := cells_of h
  clear h
  go_enter Tryz.func46, Tryz.ntmps46
  go_wp2
  go_ret
  exact ⟨rfl, rfl⟩
theorem funcs_any {w : World} {ro : Nat → Prop} {mb : Nat} {f : Flat} (h : ModAt w ro mb 123 f) :
    Calls Tryz.prog 40 #[ptrTo mb] w fun r w' => r = .returned (.int .i64 f.funcs.length) ∧ w' = w := by
  obtain ⟨fv, gv, cv, hg⟩ := h
  obtain ⟨ad, cap, rfl, hcap, -⟩ := hg.funcs
  obtain ⟨hc, -⟩ := cells_of hg.blk
  clear hg
  go_enter Tryz.func40, Tryz.ntmps40
  go_wp2
  go_ret
  exact ⟨rfl, rfl⟩
def fitsAt (args : List Int) (ps : List UInt8) (k : Nat) : Bool := !(ps.getD k 0 == 127 && decide (4294967295 < args.getD k 0))
def fitsM (args : List Int) (ps : List UInt8) : Bool := decide (args.length = ps.length) && (List.range ps.length).all (fitsAt args ps)
theorem ValsAt.cell {w : World} {v : Value} {l : List Int} (h : ValsAt w v l) {k : Nat} (hk : k < l.length) : ∃ a o cap, v = .slice (some ⟨a, o, none⟩) l.length cap ∧ l.length ≤ cap ∧ w.cell? ⟨a, o + k, none⟩ = some (.int .u64 (l.getD k 0)) :=
  RowAt.get h (by simp [valCells, List.getD, List.getElem?_eq_getElem hk])
set_option maxRecDepth 100000 in
set_option maxHeartbeats 1000000 in
theorem fits_any {w : World} {av pv : Value} {args : List Int} {ps : List UInt8} (ha : ValsAt w av args) (hp : BytesAt w pv ps) (hpl : ps.length ≤ 1000) (_hal : args.length ≤ 1000) :
    Calls Tryz.prog 69 #[av, pv] w fun r w' => r = .returned (.bool (fitsM args ps)) ∧ w' = w := by
  obtain ⟨ada, capa, rfl, hca⟩ := RowAt.shape ha
  obtain ⟨adp, capp, rfl, hcp⟩ := RowAt.shape hp
  have HA := hide ha
  have HP := hide hp
  clear ha hp
  have hF : fitsM args ps = (decide (args.length = ps.length) && (List.range ps.length).all (fitsAt args ps)) := rfl
  generalize fitsM args ps = R at *
  have HF := hide hF
  clear hF
  by_cases hlen : args.length = ps.length
  · go_enter Tryz.func69, Tryz.ntmps69
    go_wp2
    go_loopw [14] (fun kv wr => ∃ (k : Nat), k ≤ ps.length ∧ kv = .int .i64 k ∧ wr = w ∧ ∀ j, j < k → fitsAt args ps j = true) (fun kv _ => ps.length - (intOf kv).toNat)
    case atStart => exact ⟨0, by omega, rfl, rfl, fun j hj => absurd hj (by omega)⟩
    case round =>
      obtain ⟨k, hk, rfl, rfl, hall⟩ := hrel
      have HAll := hide hall
      clear hall
      by_cases hkn : k < ps.length
      · obtain ⟨a1, o1, c1, he1, -, hc1⟩ := HA.out.cell (k := k) (by omega)
        obtain ⟨a2, o2, c2, he2, -, hc2⟩ := HP.out.get hkn
        cases he1
        cases he2
        have hfa : fitsAt args ps k = !(ps.getD k 0 == 127 && decide (4294967295 < args.getD k 0)) := rfl
        generalize ps.getD k 0 = pk at *
        generalize args.getD k 0 = ak at *
        by_cases h127 : pk = 127
        · subst h127
          by_cases hbig : 4294967295 < ak
          · have HFa := hide hfa
            clear hfa
            go_wp2
            go_ret
            rw [HF.out]
            have : (List.range ps.length).all (fitsAt args ps) = false := List.all_eq_false.2 ⟨k, by simpa using hkn, by rw [HFa.out]; simp [hbig]⟩
            simp [this]
          · have HFa := hide hfa
            clear hfa
            go_wp2
            go_roundw
            case rel => exact ⟨k + 1, by omega, by go_num, trivial, fun j hj => (Nat.lt_succ_iff_lt_or_eq.1 hj).elim (HAll.out j) (fun e => by subst e; rw [HFa.out]; simp [hbig])⟩
            case measure => simp [intOf]; omega
        · have h127' : ((pk.toNat : Int) == 127) = false := by
            simp
            intro e
            exact h127 (by apply UInt8.toNat_inj.1; simp; omega)
          have hq : (pk == 127) = false := by simp [h127]
          have HFa := hide hfa
          have HQ := hide hq
          clear hfa hq h127
          go_wp2
          go_roundw
          case rel => exact ⟨k + 1, by omega, by go_num, trivial, fun j hj => (Nat.lt_succ_iff_lt_or_eq.1 hj).elim (HAll.out j) (fun e => by subst e; rw [HFa.out, HQ.out]; rfl)⟩
          case measure => simp [intOf]; omega
      · obtain rfl : k = ps.length := by omega
        go_wp2
        go_ret
        rw [HF.out]
        have : (List.range ps.length).all (fitsAt args ps) = true := List.all_eq_true.2 (fun j hj => HAll.out j (by simpa using hj))
        simp [this, hlen]
  · go_enter Tryz.func69, Tryz.ntmps69
    go_wp2
    go_ret
    rw [HF.out]
    simp [hlen]
def refusesM (f : Flat) (n : Int) (args : List Int) (fuel : Int) : Int :=
  if n < 0 ∨ (f.funcs.length : Int) ≤ n then 4
  else if fitsM args (f.funcs.getD n.toNat fn0).typ.1 = false then 5
  else if fuel < 0 ∨ 100000 < fuel then 6 else 0
set_option maxRecDepth 100000 in
set_option maxHeartbeats 1000000 in
theorem refuses_any {w : World} {ro : Nat → Prop} {mb : Nat} {f : Flat} {av : Value} {args : List Int} {n fuel : Int} (h : ModAt w ro mb 123 f) (_hnf : f.funcs.length ≤ 1000) (ha : ValsAt w av args) (hal : args.length ≤ 1000) (hpl : ∀ k, k < f.funcs.length → (f.funcs.getD k fn0).typ.1.length ≤ 1000) :
    Calls Tryz.prog 49 #[ptrTo mb, .int .i64 n, av, .int .i64 fuel] w fun r w' => r = .returned (.int .i64 (refusesM f n args fuel)) ∧ w' = w := by
  have hfn := funcs_any h
  obtain ⟨fv, gv, cv, hg⟩ := h
  obtain ⟨ad, cap, rfl, hcap, hk⟩ := hg.funcs
  obtain ⟨hc, -⟩ := cells_of hg.blk
  obtain ⟨ada, capa, rfl, hca⟩ := RowAt.shape ha
  have hF : refusesM f n args fuel = if n < 0 ∨ (f.funcs.length : Int) ≤ n then 4
    else if fitsM args (f.funcs.getD n.toNat fn0).typ.1 = false then 5
    else if fuel < 0 ∨ 100000 < fuel then 6 else 0 := rfl
  generalize refusesM f n args fuel = R at *
  have HFn := hide hfn
  clear hg hfn
  by_cases h0 : n < 0
  · rw [if_pos (.inl h0)] at hF
    have HF := hide hF
    clear hF hk hc
    go_enter Tryz.func49, Tryz.ntmps49
    go_wp2
    go_ret
    exact ⟨by rw [HF.out]; rfl, rfl⟩
  by_cases h1 : (f.funcs.length : Int) ≤ n
  · rw [if_pos (.inr h1)] at hF
    have HF := hide hF
    clear hF hk hc
    go_enter Tryz.func49, Tryz.ntmps49
    go_wp2_with fail
    refine HFn.out.mono ?_
    rintro r w1 ⟨rfl, rfl⟩
    go_wp2
    go_ret
    exact ⟨by rw [HF.out]; rfl, rfl⟩
  rw [if_neg (by omega)] at hF
  obtain ⟨m, rfl⟩ : ∃ m : Nat, n = (m : Int) := ⟨n.toNat, by omega⟩
  rw [show ((m : Int)).toNat = m by omega] at hF
  have hm : m < f.funcs.length := by omega
  obtain ⟨a, o, pv, rv, rfl, -, c0, -, -, -, hb, -, -, -⟩ := hk m hm
  have hfit := fits_any ha hb (hpl m hm) hal
  obtain ⟨adp, capp, rfl, hcp⟩ := RowAt.shape hb
  generalize (f.funcs.getD m fn0).typ.1 = ps at *
  have HFi := hide hfit
  clear hfit hk ha hb hpl
  generalize fitsM args ps = Q at *
  cases Q with
  | false =>
    rw [if_pos rfl] at hF
    have HF := hide hF
    clear hF
    go_enter Tryz.func49, Tryz.ntmps49
    go_wp2_with fail
    refine HFn.out.mono ?_
    rintro r w1 ⟨rfl, rfl⟩
    go_wp2_with fail
    refine HFi.out.mono ?_
    rintro r w1 ⟨rfl, rfl⟩
    go_wp2
    go_ret
    exact ⟨by rw [HF.out]; rfl, rfl⟩
  | true =>
    rw [if_neg (by simp)] at hF
    by_cases h2 : fuel < 0
    · rw [if_pos (.inl h2)] at hF
      have HF := hide hF
      clear hF
      go_enter Tryz.func49, Tryz.ntmps49
      go_wp2_with fail
      refine HFn.out.mono ?_
      rintro r w1 ⟨rfl, rfl⟩
      go_wp2_with fail
      refine HFi.out.mono ?_
      rintro r w1 ⟨rfl, rfl⟩
      go_wp2
      go_ret
      exact ⟨by rw [HF.out]; rfl, rfl⟩
    by_cases h3 : 100000 < fuel
    · rw [if_pos (.inr h3)] at hF
      have HF := hide hF
      clear hF
      go_enter Tryz.func49, Tryz.ntmps49
      go_wp2_with fail
      refine HFn.out.mono ?_
      rintro r w1 ⟨rfl, rfl⟩
      go_wp2_with fail
      refine HFi.out.mono ?_
      rintro r w1 ⟨rfl, rfl⟩
      go_wp2
      go_ret
      exact ⟨by rw [HF.out]; rfl, rfl⟩
    rw [if_neg (by omega)] at hF
    have HF := hide hF
    clear hF
    go_enter Tryz.func49, Tryz.ntmps49
    go_wp2_with fail
    refine HFn.out.mono ?_
    rintro r w1 ⟨rfl, rfl⟩
    go_wp2_with fail
    refine HFi.out.mono ?_
    rintro r w1 ⟨rfl, rfl⟩
    go_wp2
    go_ret
    exact ⟨by rw [HF.out]; rfl, rfl⟩
theorem newStore_any (w : World) : Calls Tryz.prog 39 #[] w fun r w' => r = .returned (ptrTo w.heap.size) ∧ StoreAt w' w.heap.size none [] ∧ Kp no w w' := by
  go_enter Tryz.func39, Tryz.ntmps39
  go_wp2
  go_ret
  exact ⟨rfl, ⟨heap_alloc_new _ _, .inl ⟨rfl, rfl⟩, by simp⟩, (Kp.refl _ _).alloc _⟩
theorem zero_bytes (n : Nat) : byteCells' (List.replicate n (0 : UInt8)) = List.replicate n (.int .u8 0) := by simp [byteCells']
set_option maxRecDepth 100000 in
set_option maxHeartbeats 1000000 in
theorem start_any {w : World} {ro : Nat → Prop} {tb mb : Nat} {f : Flat} (h : ModAt w ro mb 123 f) (htb : tb < w.heap.size) (hro : ∀ b, ro b → b < w.heap.size ∧ b ≠ tb) (hpg : f.pages ≤ 1000) (hgl : f.globals.length ≤ 1000) :
    Calls Tryz.prog 36 #[ptrTo tb, ptrTo mb] w fun r w' => (∃ ib mv gv, r = .returned (ptrTo ib) ∧ w.heap.size ≤ ib ∧ InstAt w' ro ib tb mb mv gv f (List.replicate (f.pages * 64) 0) (f.globals.map fun (n : Nat) => ((n : Nat) : Int)) ∧ (∀ b, mv.ownBlock = some b → w.heap.size ≤ b) ∧ (∀ b, gv.ownBlock = some b → w.heap.size ≤ b)) ∧ Kp no w w' := by
  obtain ⟨i0, hi0, hz0, hz1, hz2⟩ := info_parts info_su8
  have hmd := h
  obtain ⟨fv, gv, cv, hg⟩ := h
  obtain ⟨adg, capg, hgv, hcg⟩ := RowAt.shape hg.vals
  subst hgv
  have hgo := hg.blk
  obtain ⟨hc, -⟩ := cells_of hgo
  have hgs : (f.globals.map fun (n : Nat) => ((n : Nat) : Int)).length ≤ 1000000 := by simp; omega
  have HG := hide hg.vals
  have HMd := hide hmd
  have HGo := hide hgo
  have HRo := hide hro
  clear hg hmd hgo hcg hro
  generalize (f.globals.map fun (n : Nat) => ((n : Nat) : Int)) = gs at *
  have hwp : IntKind.i64.wrap ((f.pages : Int) * 64) = ((f.pages * 64 : Nat) : Int) := by rw [IntKind.wrap_i64]; omega
  go_enter Tryz.func36, Tryz.ntmps36
  go_wp2_with (at_make; refine wpList_make_full _ rfl _ _ 25 rfl w.heap.size 5 i0 (.int .u8 0) 1 Tryz.underlying25 hi0 hz0 hz1 _ _ _ _ (f.pages * 64) rfl rfl (by first | rfl | (push_cast; rfl)) (by first | rfl | (push_cast; rfl)) ?c1 ?c2 (Nat.le_refl _) ?_)
  case c1 => rw [hz2]; omega
  case c2 => unfold maxLen; omega
  intro w1 hown hgrow
  have k1 := Kp.ofGrown hgrow
  have hc1 := (cells_of (k1.blk HGo.out (fun h => h))).1
  have K1 := hide k1
  have HO := hide hown
  have hl1 := own_lt hown rfl
  have hV := hide (freshV_any (RowAt.kp HG.out k1 (fun _ _ h => h)) (vals_oneCell gs) hgs)
  clear hgrow hown hc k1
  go_wp2_with fail
  refine hV.out.mono ?_
  rintro r w2 ⟨⟨rfl, ho2⟩, k2⟩
  have K2 := hide k2
  have HO2 := hide ho2
  have hl2 := own_lt ho2 rfl
  have hs1 := K1.out.size
  have hs2 := k2.size
  clear hc1 hV ho2 k2
  go_wp2
  go_ret
  have kF : Kp no w2 (w2.alloc (.cells #[ptrTo tb, ptrTo mb, .slice (some ⟨w.heap.size, 0, none⟩) (f.pages * 64) (f.pages * 64), .slice (some ⟨w1.heap.size, 0, none⟩) gs.length gs.length] 112)) := (Kp.refl no w2).alloc _
  refine ⟨⟨w2.heap.size, .slice (some ⟨w.heap.size, 0, none⟩) (f.pages * 64) (f.pages * 64), .slice (some ⟨w1.heap.size, 0, none⟩) gs.length gs.length, rfl, by omega, ⟨heap_alloc_new _ _, ?_, ?_, ?_, ?_, hgs, ?_, ?_, ?_⟩, ?_, ?_⟩, (K1.out.trans K2.out).trans kF⟩
  · exact HMd.out.kp ((K1.out.trans K2.out).trans kF).any
  · have := RowAt.own (kF.own (K2.out.own HO.out (fun _ _ h => h)) (fun _ _ h => h))
    rw [List.length_replicate, zero_bytes]
    rw [toList_madeCells_one] at this
    exact this
  · exact RowAt.own (kF.own HO2.out (fun _ _ h => h))
  · simp; omega
  · intro b hb
    have := HRo.out b hb
    exact ⟨by simp; omega, by omega, this.2⟩
  · intro b hb
    have hb : some _ = some b := hb
    simp only [Option.some.injEq] at hb
    omega
  · intro b hb
    have hb : some _ = some b := hb
    simp only [Option.some.injEq] at hb
    omega
  · intro b hb
    have hb : some _ = some b := hb
    simp only [Option.some.injEq] at hb
    omega
  · intro b hb
    have hb : some _ = some b := hb
    simp only [Option.some.injEq] at hb
    omega
end Go.Proofs.YtdeplgkhmebalaaGreatDoor
