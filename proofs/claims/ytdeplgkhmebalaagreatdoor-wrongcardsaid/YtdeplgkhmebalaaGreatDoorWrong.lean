/-
  For every input the function Wrong of the package stokerkeep returns true and its arguments read as before: the program, at this commit, refuses thirty-one bodies that would find a wrong stack, or are none, within any number of blocks up to eight, each with its error at its place; the table look.rows is as the program's text lays it (the tied card).
-/
import Derived.Test.YtdeplgkhmebalaaGreatDoorWrongA
import Derived.Test.YtdeplgkhmebalaaGreatDoorCards
import Derived.Test.YtdeplgkhmebalaaGreatDoorTie
import Derived.Test.YtdeplgkhmebalaaGreatDoorP33
import Derived.Test.YtdeplgkhmebalaaGreatDoorFcWrong

namespace Go.Proofs.YtdeplgkhmebalaaGreatDoor
open Go.RowKit
theorem enters_refused : ∀ args w, (callFunc 24 args).run Tryz.prog w = .ok (.enter 24 args) w := enters_of Tryz.func24 (by kernel_rfl) rfl
theorem wr_places_le (k : Nat) : wrPlaces.getD k 0 ≤ 100 := by
  rcases Nat.lt_or_ge k 31 with h | h
  · have : (List.range 31).all (fun k => decide (wrPlaces.getD k 0 ≤ 100)) = true := by decide
    simpa using List.all_eq_true.1 this k (by simpa using h)
  · rw [List.getD_eq_getElem?_getD, List.getElem?_eq_none (by simpa [wrPlaces] using h)]; simp
/-- Lists laid one behind the other, each in a block of its own. -/
def allocB : World → List (List UInt8) → World
  | w, [] => w
  | w, l :: r => allocB (w.alloc (.cells (bcs l).toArray 5)) r
def pairsB : Nat → List (List UInt8) → List (Value × List UInt8)
  | _, [] => []
  | H, l :: r => (.slice (some ⟨H, 0, none⟩) l.length l.length, l) :: pairsB (H + 1) r
theorem allocB_kp : ∀ (ls : List (List UInt8)) (w : World), Kp no w (allocB w ls)
  | [], _w => Kp.refl _ _
  | _l :: r, w => ((Kp.refl no w).alloc _).trans (allocB_kp r _)
theorem allocB_size : ∀ (ls : List (List UInt8)) (w : World), (allocB w ls).heap.size = w.heap.size + ls.length
  | [], w => rfl
  | l :: r, w => by rw [allocB, allocB_size r]; simp; omega
theorem pairsB_len : ∀ (ls : List (List UInt8)) (H : Nat), (pairsB H ls).length = ls.length
  | [], _ => rfl
  | l :: r, H => by rw [pairsB, List.length_cons, pairsB_len r]; rfl
theorem pairsB_snd : ∀ (ls : List (List UInt8)) (H : Nat), (pairsB H ls).map (·.2) = ls
  | [], _ => rfl
  | l :: r, H => by rw [pairsB, List.map_cons, pairsB_snd r]
theorem allocB_at : ∀ (ls : List (List UInt8)) (w : World), (∀ l ∈ ls, l.length ≤ 1000) → ∀ p ∈ pairsB w.heap.size ls, BytesAt (allocB w ls) p.1 p.2
  | [], _, _, p, hp => by cases hp
  | l :: r, w, hl, p, hp => by
    rcases List.mem_cons.1 hp with rfl | hp
    · exact (NB.made w l (by have := hl l (by simp); unfold maxLen; omega)).at.kq (allocB_kp r _)
    · have := allocB_at r (w.alloc (.cells (bcs l).toArray 5)) (fun x hx => hl x (List.mem_cons_of_mem _ hx)) p (by
        rw [show (w.alloc (.cells (bcs l).toArray 5)).heap.size = w.heap.size + 1 by simp]; exact hp)
      exact this
theorem ListsAt.laid (w : World) (ls : List (List UInt8)) (hl : ∀ l ∈ ls, l.length ≤ 1000) (t : TypeId) : ListsAt ((allocB w ls).alloc (.cells ((pairsB w.heap.size ls).map (·.1)).toArray t)) (.slice (some ⟨w.heap.size + ls.length, 0, none⟩) ls.length ls.length) ls := by
  have := ListsAt.made (t := t) (pairsB w.heap.size ls) (allocB_at ls w hl)
  rw [allocB_size, pairsB_len, pairsB_snd] at this
  exact this
theorem wp_swap {P : Program} {c : Code} {Q : Exit → Act → World → Prop} {a : Act} {w w' : World} (h : w = w') (g : Code.wp P c Q a w') : Code.wp P c Q a w := h ▸ g
theorem wr_len : ∀ l ∈ wrCodes, l.length ≤ 1000 := by decide
theorem flat_len2 (x : List UInt8) (d : Nat) : ((List.range d).flatMap fun _ => x).length = d * x.length := by
  induction d with
  | zero => simp
  | succ d ih => rw [List.range_succ, List.flatMap_append, List.length_append, ih]; simp [Nat.succ_mul]
theorem wrBegins_len (d : Nat) : (wrBegins d).length = d * 2 := flat_len2 [2, 127] d
theorem wrEnds_len (d : Nat) : (wrEnds d).length = d * 1 := flat_len2 [11] d
def intCells (l : List Nat) : List Value := l.map fun n => .int .i64 ((n : Nat) : Int)
theorem int_cell {W : World} {b : Nat} {l : List Nat} {t : TypeId} (h : W.heap[b]? = some (.cells (intCells l).toArray t)) {k : Nat} (hk : k < l.length) : W.cell? ⟨b, k, none⟩ = some (.int .i64 ((l.getD k 0 : Nat) : Int)) := by
  rw [(cells_of h).1]
  simp [intCells, List.getD, hk]

set_option maxRecDepth 100000 in
set_option maxHeartbeats 4000000 in
theorem wrongK_any {w : World} (hR : RowsOk w) (k0 n0 : Int) (hk1 : -9223372036854775808 ≤ k0) (hk2 : k0 < 9223372036854775808) (hn1 : -9223372036854775808 ≤ n0) (hn2 : n0 < 9223372036854775808) :
    Calls Tryz.prog 6 #[.int .i64 k0, .int .i64 n0] w fun r w' => r = .returned (.bool true) ∧ Kp no w w' := by
  obtain ⟨i0, hi0, hz0, hz1, hz2⟩ := info_parts info_su8
  have hk : pickM k0 31 < 31 := Nat.mod_lt _ (by decide)
  have hn : pickM n0 9 < 9 := Nat.mod_lt _ (by decide)
  have HR := hide hR
  clear hR
  go_enter Tryz.func6, Tryz.ntmps6
  go_upto_region 2 with fail
  refine wp_swap (w' := (allocB w wrCodes).alloc (.cells ((pairsB w.heap.size wrCodes).map (·.1)).toArray 25)) (by kernel_rfl) ?_
  have hL0 := ListsAt.laid w wrCodes wr_len 25
  have k1 : Kp no w ((allocB w wrCodes).alloc (.cells ((pairsB w.heap.size wrCodes).map (·.1)).toArray 25)) := (allocB_kp wrCodes w).alloc _
  have e31 : wrCodes.length = 31 := by decide
  have eb : w.heap.size + 31 = w.heap.size + 1 + 1 + 1 + 1 + 1 + 1 + 1 + 1 + 1 + 1 + 1 + 1 + 1 + 1 + 1 + 1 + 1 + 1 + 1 + 1 + 1 + 1 + 1 + 1 + 1 + 1 + 1 + 1 + 1 + 1 + 1 := by omega
  rw [e31, eb] at hL0
  have hL1 := hL0
  clear hL0
  generalize (allocB w wrCodes).alloc (.cells ((pairsB w.heap.size wrCodes).map (·.1)).toArray 25) = W1 at *
  obtain ⟨v5, hv5⟩ : ∃ v5, v5 = Value.slice (some ⟨w.heap.size + 1 + 1 + 1 + 1 + 1 + 1 + 1 + 1 + 1 + 1 + 1 + 1 + 1 + 1 + 1 + 1 + 1 + 1 + 1 + 1 + 1 + 1 + 1 + 1 + 1 + 1 + 1 + 1 + 1 + 1 + 1, 0, none⟩) 31 31 := ⟨_, rfl⟩
  rw [← hv5] at hL1 ⊢
  obtain ⟨ad5, cap5, hv5'⟩ : ∃ ad cap, v5 = .slice ad 31 cap := ⟨_, _, hv5⟩
  clear hv5
  subst hv5'
  have HL1 := hide hL1
  have K1 := hide k1
  clear hL1 k1
  go_upto_region 4 with fail
  refine wp_swap (w' := (W1.alloc (.cells (intCells wrPlaces).toArray 3)).alloc (.cells (intCells wrErrors).toArray 41)) (by kernel_rfl) ?_
  have hpl : ((W1.alloc (.cells (intCells wrPlaces).toArray 3)).alloc (.cells (intCells wrErrors).toArray 41)).heap[W1.heap.size]? = some (.cells (intCells wrPlaces).toArray 3) := heap_alloc_old (heap_alloc_new _ _)
  have her : ((W1.alloc (.cells (intCells wrPlaces).toArray 3)).alloc (.cells (intCells wrErrors).toArray 41)).heap[W1.heap.size + 1]? = some (.cells (intCells wrErrors).toArray 41) := by
    have := heap_alloc_new (W1.alloc (.cells (intCells wrPlaces).toArray 3)) (.cells (intCells wrErrors).toArray 41)
    rw [show (W1.alloc (.cells (intCells wrPlaces).toArray 3)).heap.size = W1.heap.size + 1 by simp] at this
    exact this
  have k3 : Kp no w ((W1.alloc (.cells (intCells wrPlaces).toArray 3)).alloc (.cells (intCells wrErrors).toArray 41)) := (K1.out.alloc _).alloc _
  have hL3 := HL1.out.kp (((Kp.refl no W1).alloc (.cells (intCells wrPlaces).toArray 3)).alloc (.cells (intCells wrErrors).toArray 41))
  generalize (W1.alloc (.cells (intCells wrPlaces).toArray 3)).alloc (.cells (intCells wrErrors).toArray 41) = W3 at *
  have hpk1 := pickK_any W3 k0 31 hk1 hk2 (by decide) (by decide)
  have hpk2 := pickK_any W3 n0 9 hn1 hn2 (by decide) (by decide)
  generalize pickM k0 31 = k at *
  generalize pickM n0 9 = n at *
  have HP1 := hide hpk1
  have HP2 := hide hpk2
  have HPl := hide hpl
  have HEr := hide her
  have K3 := hide k3
  have HL3 := hide hL3
  clear hpk1 hpk2 hpl her k3 hL3 HL1 K1 hk1 hk2 hn1 hn2
  go_wp2_with fail
  refine HP1.out.mono ?_
  rintro r w1 ⟨rfl, hw⟩
  rw [hw]
  clear hw w1
  go_wp2_with fail
  refine HP2.out.mono ?_
  rintro r w1 ⟨rfl, hw⟩
  rw [hw]
  clear hw w1
  go_wp2
  go_loopw [10, 11] (fun lv kv wr => ∃ (d : Nat), d ≤ n ∧ kv = .int .i64 d ∧ NB W3 wr lv (wrBegins d) ∧ Kp no W3 wr) (fun _ kv _ => n - (intOf kv).toNat)
  case atStart => exact ⟨0, by omega, rfl, ⟨rfl, .inl ⟨rfl, rfl⟩⟩, Kp.refl _ _⟩
  case round =>
    obtain ⟨d, hd, rfl, hown, hkp⟩ := hrel
    obtain ⟨adl, capl, hvl⟩ := own_shape hown
    subst hvl
    have HO := hide hown
    have HK := hide hkp
    have hszr := hkp.size
    clear hown hkp
    by_cases hdn : d < n
    · have hsu : wrBegins (d + 1) = wrBegins d ++ [2, 127] := by simp [wrBegins, List.range_succ]
      have hle : (wrBegins d).length ≤ 1000 := by rw [wrBegins_len]; omega
      have HSu := hide hsu
      clear hsu
      obtain ⟨P, hP⟩ : ∃ P, wrBegins d = P := ⟨_, rfl⟩
      rw [hP] at HSu hle HO ⊢
      clear hP
      go_wp2_with (at_builtin; refine wpList_append_row _ rfl _ _ 25 rfl W3.heap.size 5 i0 (.int .u8 0) 1 1 Tryz.underlying25 hi0 hz0 hz1 hz2 rfl (by decide) _ _ _ rfl (HO.out.alloc _) _ 2 _ rfl (RowAt.ofBlock (heap_alloc_new _ _) 2 1 rfl) ?c1h ?c1a ?c1b ?c1c ?_)
      case c1h => repeat' (first | rfl | apply And.intro)
      case c1a => unfold maxLen; omega
      case c1b => omega
      case c1c => simp; omega
      intro v3 w3 hown3 hgrow3
      obtain ⟨ad3, cap3, rfl⟩ := own_shape hown3
      have HK3 := hide ((HK.out.alloc _).grown hgrow3 (fun b hb => .inr (own_new HO.out b hb)))
      have HO3 : Hid (NB W3 w3 (.slice ad3 (P.length + 2) cap3) (wrBegins (d + 1))) := by
        refine hide ?_
        rw [HSu.out]
        unfold NB
        rw [bcsApp, List.length_append]
        refine Eq.mp ?_ hown3
        congr 3
      clear hown3 hgrow3
      go_wp2
      go_roundw
      case rel => exact ⟨d + 1, by omega, by go_num, HO3.out, HK3.out⟩
      case measure => simp [intOf]; omega
    · obtain rfl : d = n := by omega
      clear hdn
      have e31 : wrCodes.length = 31 := by decide
      obtain ⟨a, o, cp, ax, c, he, -, hcell, hb⟩ := (HL3.out.kp HK.out).get (k := k) (by omega)
      rw [e31] at he
      cases he
      have hsu : wrBegins d ++ wrCodes.getD k [] ++ wrEnds 0 = wrBegins d ++ wrCodes.getD k [] := by simp [wrEnds]
      have hl1 : (wrBegins d).length ≤ 1000 := by rw [wrBegins_len]; omega
      have hl2 : (wrCodes.getD k []).length ≤ 1000 := by
        by_cases hk' : k < wrCodes.length
        · exact wr_len _ (by rw [List.getD_eq_getElem?_getD, List.getElem?_eq_getElem hk']; exact List.getElem_mem hk')
        · omega
      have HSu := hide hsu
      have HB := hide hb
      clear hsu hb
      obtain ⟨lk, hlk⟩ : ∃ lk, wrCodes.getD k [] = lk := ⟨_, rfl⟩
      rw [hlk] at HSu HB hcell hl2
      obtain ⟨P, hP⟩ : ∃ P, wrBegins d = P := ⟨_, rfl⟩
      rw [hP] at HSu HO hl1 ⊢
      have HP := hide hP
      have HLk := hide hlk
      clear hP hlk
      go_wp2_with (at_builtin; refine wpList_append_row _ rfl _ _ 25 rfl W3.heap.size 5 i0 (.int .u8 0) 1 1 Tryz.underlying25 hi0 hz0 hz1 hz2 rfl (by decide) _ _ _ rfl HO.out _ _ _ rfl HB.out (bytes_oneCell lk) ?c6 ?c7 ?c8 ?_)
      case c6 => unfold maxLen; omega
      case c7 => omega
      case c8 => omega
      intro v3 w3 hown3 hgrow3
      obtain ⟨ad3, cap3, rfl⟩ := own_shape hown3
      have HK3 := hide (HK.out.grown hgrow3 (fun b hb => .inr (own_new HO.out b hb)))
      have HO3 : Hid (NB W3 w3 (.slice ad3 (P.length + lk.length) cap3) (P ++ lk ++ wrEnds 0)) := by
        refine hide ?_
        rw [HSu.out]
        unfold NB
        rw [bcsApp, List.length_append]
        exact hown3
      clear hown3 hgrow3 hcell
      go_wp2
      go_loopw [10, 12] (fun lv kv wr => ∃ (e : Nat), e ≤ d ∧ kv = .int .i64 e ∧ NB W3 wr lv (P ++ lk ++ wrEnds e) ∧ Kp no W3 wr) (fun _ kv _ => d - (intOf kv).toNat)
      case atStart => exact ⟨0, by omega, rfl, HO3.out, HK3.out⟩
      case round =>
        clear HO3 HK3 HO HK HSu HB
        obtain ⟨e, hen, rfl, hown, hkp⟩ := hrel
        obtain ⟨adl, capl, hvl⟩ := own_shape hown
        subst hvl
        have HO := hide hown
        have HK := hide hkp
        have hszr := hkp.size
        clear hown hkp
        by_cases hdn : e < d
        · have hsu : P ++ lk ++ wrEnds (e + 1) = P ++ lk ++ wrEnds e ++ [11] := by simp [wrEnds, List.range_succ]
          have hle : (P ++ lk ++ wrEnds e).length ≤ 3000 := by rw [List.length_append, List.length_append, wrEnds_len]; omega
          have HSu := hide hsu
          clear hsu
          obtain ⟨Z, hP⟩ : ∃ Z, P ++ lk ++ wrEnds e = Z := ⟨_, rfl⟩
          rw [hP] at HSu hle HO ⊢
          clear hP
          go_wp2_with (at_builtin; refine wpList_append_row _ rfl _ _ 25 rfl W3.heap.size 5 i0 (.int .u8 0) 1 1 Tryz.underlying25 hi0 hz0 hz1 hz2 rfl (by decide) _ _ _ rfl (HO.out.alloc _) _ 1 _ rfl (RowAt.ofBlock (heap_alloc_new _ _) 1 1 rfl) ?c2h ?c2a ?c2b ?c2c ?_)
          case c2h => repeat' (first | rfl | apply And.intro)
          case c2a => unfold maxLen; omega
          case c2b => omega
          case c2c => simp; omega
          intro v3 w3 hown3 hgrow3
          obtain ⟨ad3, cap3, rfl⟩ := own_shape hown3
          have HK3 := hide ((HK.out.alloc _).grown hgrow3 (fun b hb => .inr (own_new HO.out b hb)))
          have HO3 : Hid (NB W3 w3 (.slice ad3 (Z.length + 1) cap3) (P ++ lk ++ wrEnds (e + 1))) := by
            refine hide ?_
            rw [HSu.out]
            unfold NB
            rw [bcsApp, List.length_append]
            refine Eq.mp ?_ hown3
            congr 3
          clear hown3 hgrow3
          go_wp2
          go_roundw
          case rel => exact ⟨e + 1, by omega, by go_num, HO3.out, HK3.out⟩
          case measure => simp [intOf]; omega
        · obtain rfl : e = d := by omega
          clear hdn
          have hcd : P ++ lk ++ wrEnds e = (wrFn k e).code := by rw [← HP.out, ← HLk.out]; rfl
          have hw := wr_ok hk hn
          have hg := wr_goodOk
          have hfr : wrFrom k e = (wrBytes k e).length - 1 - (P ++ lk ++ wrEnds e).length + 2 * e := by rw [hcd]; rfl
          have hdf := hw.dif
          have hln := hw.len
          rw [show (wrCode k e).length = (P ++ lk ++ wrEnds e).length by rw [hcd]; rfl] at hdf
          obtain ⟨cd, hcd2⟩ : ∃ cd, P ++ lk ++ wrEnds e = cd := ⟨_, rfl⟩
          rw [hcd2] at hcd hfr hdf HO ⊢
          clear hcd2
          obtain ⟨u, hu⟩ : ∃ u, wrFrom k e + wrPlaces.getD k 0 = u := ⟨_, rfl⟩
          have hld := hw.load
          rw [hu] at hld
          obtain ⟨fr, hfr2⟩ : ∃ fr, wrFrom k e = fr := ⟨_, rfl⟩
          rw [hfr2] at hu hfr
          have HW := hide hld
          have HG := hide hg
          have HCd := hide hcd
          have HFr2 := hide hfr2
          clear hw hg hcd hld hfr2
          go_wp2_with fail
          refine (oneK_any _ 127).mono ?_
          rintro r w2 ⟨⟨v2, rfl, h2⟩, k2⟩
          obtain ⟨a2, c2, hv2, -⟩ := h2.at.shape
          subst hv2
          have H2 := hide h2
          have K2 := hide k2
          clear h2 k2
          go_wp2_with fail
          have hF := FnsAt.made1 (fn := wrFn k e) (x0 := .slice none 0 0) (x2 := .slice none 0 0) (RowAt.nil _ 1) H2.out.at (RowAt.nil _ 1) (by rw [← HCd.out]; exact (HO.out.kp K2.out).at) 27
          have hM := module_keep (pages := 1) hF (by simp) (by simp) (Nat.le_trans hln (by decide))
          refine hM.mono ?_
          rintro r w4 ⟨⟨v4, rfl, h4⟩, k4⟩
          change NB _ _ _ (wrBytes k e) at h4
          obtain ⟨Bs, hBs⟩ : ∃ Bs, wrBytes k e = Bs := ⟨_, rfl⟩
          rw [hBs] at h4 HW hfr hdf hln
          obtain ⟨a4, c4, hv4, -⟩ := h4.at.shape
          subst hv4
          have k34 : Kp no W3 w4 := (HK.out.trans K2.out).trans (((Kp.refl no w2).alloc _).trans k4)
          have H4 := hide h4
          have K34 := hide k34
          have hl4 := h4.lt
          clear hF hM h4 k4 k34 H2 K2 HO HK hBs
          have hw1 : IntKind.i64.wrap ((Bs.length : Int) - 1) = (Bs.length : Int) - 1 := by rw [IntKind.wrap_i64]; omega
          have hw2 : IntKind.i64.wrap ((Bs.length : Int) - 1 - (cd.length : Int)) = (Bs.length : Int) - 1 - (cd.length : Int) := by rw [IntKind.wrap_i64]; omega
          have hw3 : IntKind.i64.wrap (2 * (e : Int)) = 2 * (e : Int) := by rw [IntKind.wrap_i64]; omega
          have hw4 : IntKind.i64.wrap ((Bs.length : Int) - 1 - (cd.length : Int) + 2 * (e : Int)) = (fr : Int) := by rw [IntKind.wrap_i64]; omega
          have HFr := hide hfr
          have HU := hide hu
          clear hfr hu
          go_wp2_with fail
          refine (oneK_any _ 127).mono ?_
          rintro r w5 ⟨⟨v5, rfl, h5⟩, k5⟩
          obtain ⟨a5, c5, hv5, -⟩ := h5.at.shape
          subst hv5
          have H5 := hide h5
          have K5 := hide k5
          clear h5 k5 hw1 hw2 hw3 hw4
          go_wp2_with fail
          have hF := FnsAt.made1 (fn := wrGood) (x0 := .slice none 0 0) (x2 := .slice none 0 0) (RowAt.nil _ 1) (H5.out.at.kq ((Kp.refl no w5).alloc _)) (RowAt.nil _ 1) (NB.made w5 wrGood.code (by simp [wrGood, maxLen])).at 27
          rw [show (w5.alloc (.cells (bcs wrGood.code).toArray 5)).heap.size = w5.heap.size + 1 by simp] at hF
          have hM := module_keep (pages := 1) hF (by simp) (by simp) HG.out.len
          refine hM.mono ?_
          rintro r w6 ⟨⟨v6, rfl, h6⟩, k6⟩
          obtain ⟨a6, c6, hv6, -⟩ := h6.at.shape
          subst hv6
          have k36 : Kp no W3 w6 := (K34.out.trans K5.out).trans ((((Kp.refl no w5).alloc _).alloc _).trans k6)
          have k46 : Kp no w4 w6 := K5.out.trans ((((Kp.refl no w5).alloc _).alloc _).trans k6)
          have hS := started_keep h6.at h6.lt (HR.out.kp (K3.out.trans k36)) HG.out.len HG.out.load HG.out.ok.pg HG.out.ok.gl
          have HS := hide hS
          have K36 := hide k36
          have K46 := hide k46
          clear hF hM h6 k6 k36 k46 hS H5 K5 K34
          go_wp2_with fail
          refine HS.out.mono ?_
          rintro r w7 ⟨⟨ib, tb, rfl, hin⟩, k7⟩
          obtain ⟨s1, hgot, hsm⟩ := HG.out.got
          have hgi := gives_keep (n := 0) (args := []) (av := .slice none 0 0) (K := 20) hin HG.out.ok (RowAt.nil _ 1) (by simp) (fun b hb => by cases hb) HG.out.ref (by omega) (by
            have := hgot
            unfold wrGot at this
            rw [← HG.out.gl] at this
            exact this) hsm
          have HGi := hide hgi
          have hibl := hin.ib
          have htbl := hin.tb
          have K7 := hide (K36.out.trans k7)
          have K47 := hide (K46.out.trans k7)
          have h36 := K36.out.size
          have h46 := K46.out.size
          clear hin k7 hgi hgot hsm HS K36 K46 HG
          go_wp2_with fail
          refine HGi.out.mono ?_
          rintro r w8 ⟨rfl, -, k8⟩
          have k38 : Kp no W3 w8 := K7.out.comp k8 (fun _ _ h => h) (fun b hb h => by rcases h with h | h <;> omega)
          have k48 : Kp no w4 w8 := K47.out.comp k8 (fun _ _ h => h) (fun b hb h => by rcases h with h | h <;> omega)
          have K38 := hide k38
          have K48 := hide k48
          clear k8 k38 k48 K7 K47 HGi
          have hpl := int_cell (HPl.out) (k := k) (by have : wrPlaces.length = 31 := by decide
                                                      omega)
          have her := int_cell (HEr.out) (k := k) (by have : wrErrors.length = 31 := by decide
                                                      omega)
          have hple := wr_places_le k
          obtain ⟨pk, hpk⟩ : ∃ pk, wrPlaces.getD k 0 = pk := ⟨_, rfl⟩
          obtain ⟨ek, hek⟩ : ∃ ek, wrErrors.getD k 0 = ek := ⟨_, rfl⟩
          have hu := HU.out
          rw [hpk] at hpl hu hple
          rw [hek] at her HW
          clear hpk hek
          have hpk31 : (k : Int) < 31 := by omega
          have hw5 : IntKind.i64.wrap ((fr : Int) + (pk : Int)) = (u : Int) := by rw [IntKind.wrap_i64]; have := HFr.out; omega
          clear hu HU
          have hrf := refused_keep (H4.out.at.kq (K48.out.drew)) (fun b hb => Nat.lt_of_lt_of_le (hl4 b hb) (show w4.heap.size ≤ w8.drew.heap.size from K48.out.size)) (HR.out.kp ((K3.out.trans K38.out).drew)) (Nat.le_trans hln (by decide)) HW.out
          have HRf := hide hrf
          obtain ⟨S, hSd⟩ : ∃ S : World → Prop, S = fun w' => w'.cell? ⟨W1.heap.size + 1, k, none⟩ = some (.int .i64 (ek : Int)) ∧ w'.cell? ⟨W1.heap.size, k, none⟩ = some (.int .i64 (pk : Int)) := ⟨_, rfl⟩
          have hSk : ∀ W', Kp no W3 W' → S W' := fun W' kk => by rw [hSd]; exact ⟨kk.allCells her, kk.allCells hpl⟩
          have HSk := hide hSk
          have HSd := hide hSd
          clear hrf hSk hSd her hpl H4 hl4 HW
          go_wp2_with fail
          refine wp_region_S 16 (S) (by kernel_rfl) (n := 16) (listed := #[false, false, false, false, false, false, false, false, false, false, false, false, false, false, false, false]) rfl (by kernel_rfl) ?hS (fun hS => ?_)
          case hS => exact HSk.out _ (K38.out.drew)
          have hSd := HSd.out
          subst hSd
          refine wpAnyS_take 0 [] (v := ?v1) (listed' := #[true, false, false, false, false, false, false, false, false, false, false, false, false, false, false, false]) rfl (by kernel_rfl) (by kernel_rfl) rfl (fun _ _ _ h => h) hS (fun _ hSw => ?hy1) ?rest1
          case hy1 => (try dsimp only at hSw); go_simp; all_goals (with_reducible rfl)
          simp only [Act.put, List.setIfInBounds_toArray, List.set_cons_zero, List.set_cons_succ]
          refine wpAnyS_take 1 [] (v := ?v2) (listed' := #[true, true, false, false, false, false, false, false, false, false, false, false, false, false, false, false]) rfl (by kernel_rfl) (by kernel_rfl) rfl (fun _ _ _ h => h) hS (fun _ hSw => ?hy2) ?rest2
          case hy2 => (try dsimp only at hSw); go_simp; all_goals (with_reducible rfl)
          simp only [Act.put, List.setIfInBounds_toArray, List.set_cons_zero, List.set_cons_succ]
          refine wpAnyS_takeG 2 [] (v := ?v3) (listed' := #[true, true, true, false, false, false, false, false, false, false, false, false, false, false, false, false]) rfl (by kernel_rfl) (by kernel_rfl) rfl (fun _ _ _ h => h) hS (fun _ hSw => ?hy3) ?rest3
          case hy3 => (try dsimp only at hSw); go_simp; all_goals (with_reducible rfl)
          simp only [Act.put, List.setIfInBounds_toArray, List.set_cons_zero, List.set_cons_succ]
          refine wpAnyS_takeG 3 [] (v := ?v4) (listed' := #[true, true, true, true, false, false, false, false, false, false, false, false, false, false, false, false]) rfl (by kernel_rfl) (by kernel_rfl) rfl (fun _ _ _ h => h) hS (fun _ hSw => ?hy4) ?rest4
          case hy4 => (try dsimp only at hSw); go_simp; all_goals (with_reducible rfl)
          simp only [Act.put, List.setIfInBounds_toArray, List.set_cons_zero, List.set_cons_succ]
          refine wpAnyS_takeG 4 [] (v := ?v5) (listed' := #[true, true, true, true, true, false, false, false, false, false, false, false, false, false, false, false]) rfl (by kernel_rfl) (by kernel_rfl) rfl (fun _ _ _ h => h) hS (fun _ hSw => ?hy5) ?rest5
          case hy5 => (try dsimp only at hSw); go_simp; all_goals (with_reducible rfl)
          simp only [Act.put, List.setIfInBounds_toArray, List.set_cons_zero, List.set_cons_succ]
          refine wpAnyS_takeG 5 [] (v := ?v6) (listed' := #[true, true, true, true, true, true, false, false, false, false, false, false, false, false, false, false]) rfl (by kernel_rfl) (by kernel_rfl) rfl (fun _ _ _ h => h) hS (fun _ hSw => ?hy6) ?rest6
          case hy6 => (try dsimp only at hSw); go_simp; all_goals (with_reducible rfl)
          simp only [Act.put, List.setIfInBounds_toArray, List.set_cons_zero, List.set_cons_succ]
          refine wpAnyS_takeG 6 [] (v := ?v7) (listed' := #[true, true, true, true, true, true, true, false, false, false, false, false, false, false, false, false]) rfl (by kernel_rfl) (by kernel_rfl) rfl (fun _ _ _ h => h) hS (fun _ hSw => ?hy7) ?rest7
          case hy7 => (try dsimp only at hSw); go_simp; all_goals (with_reducible rfl)
          simp only [Act.put, List.setIfInBounds_toArray, List.set_cons_zero, List.set_cons_succ]
          refine wpAnyS_takeG 7 [] (v := ?v8) (listed' := #[true, true, true, true, true, true, true, true, false, false, false, false, false, false, false, false]) rfl (by kernel_rfl) (by kernel_rfl) rfl (fun _ _ _ h => h) hS (fun _ hSw => ?hy8) ?rest8
          case hy8 => (try dsimp only at hSw); go_simp; all_goals (with_reducible rfl)
          simp only [Act.put, List.setIfInBounds_toArray, List.set_cons_zero, List.set_cons_succ]
          refine wpAnyS_takeG 8 [] (v := ?v9) (listed' := #[true, true, true, true, true, true, true, true, true, false, false, false, false, false, false, false]) rfl (by kernel_rfl) (by kernel_rfl) rfl (fun _ _ _ h => h) hS (fun _ hSw => ?hy9) ?rest9
          case hy9 => (try dsimp only at hSw); go_simp; all_goals (with_reducible rfl)
          simp only [Act.put, List.setIfInBounds_toArray, List.set_cons_zero, List.set_cons_succ]
          refine wpAnyS_takeG 9 [] (v := ?v10) (listed' := #[true, true, true, true, true, true, true, true, true, true, false, false, false, false, false, false]) rfl (by kernel_rfl) (by kernel_rfl) rfl (fun _ _ _ h => h) hS (fun _ hSw => ?hy10) ?rest10
          case hy10 => (try dsimp only at hSw); go_simp; all_goals (with_reducible rfl)
          simp only [Act.put, List.setIfInBounds_toArray, List.set_cons_zero, List.set_cons_succ]
          refine wpAnyS_takeG 10 [] (v := ?v11) (listed' := #[true, true, true, true, true, true, true, true, true, true, true, false, false, false, false, false]) rfl (by kernel_rfl) (by kernel_rfl) rfl (fun _ _ _ h => h) hS (fun _ hSw => ?hy11) ?rest11
          case hy11 => (try dsimp only at hSw); go_simp; all_goals (with_reducible rfl)
          simp only [Act.put, List.setIfInBounds_toArray, List.set_cons_zero, List.set_cons_succ]
          refine wpAnyS_takeG 11 [] (v := ?v12) (listed' := #[true, true, true, true, true, true, true, true, true, true, true, true, false, false, false, false]) rfl (by kernel_rfl) (by kernel_rfl) rfl (fun _ _ _ h => h) hS (fun _ hSw => ?hy12) ?rest12
          case hy12 => (try dsimp only at hSw); go_simp; all_goals (with_reducible rfl)
          simp only [Act.put, List.setIfInBounds_toArray, List.set_cons_zero, List.set_cons_succ]
          refine wpAnyS_takeG 12 [] (v := ?v13) (listed' := #[true, true, true, true, true, true, true, true, true, true, true, true, true, false, false, false]) rfl (by kernel_rfl) (by kernel_rfl) rfl (fun _ _ _ h => h) hS (fun _ hSw => ?hy13) ?rest13
          case hy13 => (try dsimp only at hSw); go_simp; all_goals (with_reducible rfl)
          simp only [Act.put, List.setIfInBounds_toArray, List.set_cons_zero, List.set_cons_succ]
          refine wpAnyS_one 13 (listed' := #[true, true, true, true, true, true, true, true, true, true, true, true, true, true, false, false]) rfl (by kernel_rfl) (by kernel_rfl) (fun K hK => ?_)
          refine step_callG (by kernel_rfl) 24 _ _ (by rfl) enters_refused #[.slice a4 Bs.length c4, .int .i64 (ek : Int), .int .i64 (u : Int)] (by rfl) HRf.out ?_
          rintro r w9 ⟨rfl, k9⟩
          refine ⟨_, rfl, hK _ _ (HSk.out _ ((K38.out.drew).trans k9)) (fun hS => ?_)⟩
          clear hK K
          simp only [Act.put, List.setIfInBounds_toArray, List.set_cons_zero, List.set_cons_succ]
          refine wpAnyS_take 14 [] (v := ?v15) (listed' := #[true, true, true, true, true, true, true, true, true, true, true, true, true, true, true, false]) rfl (by kernel_rfl) (by kernel_rfl) rfl (fun _ _ _ h => h) hS (fun _ hSw => ?hy15) ?rest15
          case hy15 => (try dsimp only at hSw); go_simp; all_goals (with_reducible rfl)
          simp only [Act.put, List.setIfInBounds_toArray, List.set_cons_zero, List.set_cons_succ]
          refine wpAnyS_take 15 [] (v := ?v16) (listed' := #[true, true, true, true, true, true, true, true, true, true, true, true, true, true, true, true]) rfl (by kernel_rfl) (by kernel_rfl) rfl (fun _ _ _ h => h) hS (fun _ hSw => ?hy16) ?rest16
          case hy16 => (try dsimp only at hSw); go_simp; all_goals (with_reducible rfl)
          simp only [Act.put, List.setIfInBounds_toArray, List.set_cons_zero, List.set_cons_succ]
          refine wpAnyS_done (by kernel_rfl) ?_ _
          clear hS
          have K9 := hide ((K3.out.trans K38.out).drew.trans k9)
          clear k9
          go_wp2
          go_ret
          exact ⟨rfl, K9.out⟩
end Go.Proofs.YtdeplgkhmebalaaGreatDoor

namespace Go.Proofs.YtdeplgkhmebalaaGreatDoor.cWrong
open Go.ChangeShapes Go.WideShapes Go.ChangeAt Go.RowKit

theorem own : ownKnob Tryz.prog.godebug = none := by kernel_rfl

set_option maxRecDepth 100000 in
theorem contract (H : Type) (enc : TypeId × Value → H) (W : World) (base : Nat) (args : Array Value) (ds gs : List (DataW H)) (before : List MemPlace)
    (hval : ∀ (j : Nat) t v, Tryz.f6.params[j]? = some t → args[j]? = some v → Value.okWide Tryz.prog W .any base t v)
    (hW : DataW.Whole enc Tryz.prog Tryz.f6.params.toList Rows.wrongSpec.vars false W args.toList ds gs before) (hL : laidMetH Tryz.prog Rows.wrongRow.laid W) :
    Calls Tryz.prog 6 args W fun e W' => ∃ v, e = .returned v ∧ Rows.wrongSpec.post enc Tryz.prog Tryz.f6 false true false false W args v W' := by
  have hW' := hW
  obtain ⟨p, q, hA0, hV, rfl, hfz, hnd⟩ := hW
  have hA : DataW.TrodAll enc Tryz.prog W 0 (fun _ => true) true Tryz.f6.params.toList args.toList ds p := hA0
  rw [Tryz.params6] at hA hval
  obtain ⟨v0, vs0, d0, ds0, p0, q0, hargs0, rfl, rfl, h0, r0⟩ := trodAll_cons hA
  obtain ⟨v1, vs1, d1, ds1, p1, q1, hargs1, rfl, rfl, h1, r1⟩ := trodAll_cons r0
  obtain ⟨rfl, rfl, rfl⟩ := trodAll_nil r1
  obtain rfl : args = #[v0, v1] := by clear hL hval hW' hA0; cases args; simp_all
  obtain ⟨rfl, rfl⟩ := trodVars_none hV
  obtain ⟨a0, rfl, rfl, rfl, w0⟩ := open_int Tryz.underlying3 (hval 0 3 v0 rfl rfl) h0
  obtain ⟨a1, rfl, rfl, rfl, w1⟩ := open_int Tryz.underlying3 (hval 1 3 v1 rfl rfl) h1
  clear hA0
  simp only [List.append_nil] at hW'
  have walk := wrongK_any (rows_of_laid (by kernel_rfl) (.tail _ (.head _)) hL) a0 a1 (wf_i64 w0).1 (wf_i64 w0).2 (wf_i64 w1).1 (wf_i64 w1).2
  refine walk.mono fun e W' ⟨he, hk⟩ => ?_
  subst he
  exact ⟨_, rfl, _, _, _, [], [], [], hW', trodAll_cons_mk (shut_bool Tryz.underlying4 _) trodAll_mk0, (trodAll_cons_mk (shut_int Tryz.underlying3 w0) (trodAll_cons_mk (shut_int Tryz.underlying3 w1) trodAll_mk0)), rfl, kept_of hk _, fun h => by cases h⟩

theorem laid_met (os : Os) : laidMetH Tryz.prog Rows.wrongRow.laid ((World.laidAll Tryz.prog os Rows.wrongRow.laid).forCall (fun _ _ => 0) ⟨#[], #[.int .i64 0, .int .i64 0], []⟩).memory := by
  rw [MakeChecks.laidMetH_plain _ _ _ (by kernel_rfl)]
  exact laidMet_laidAll _ (by kernel_rfl) (by kernel_rfl)
theorem shaped (os : Os) : ((World.laidAll Tryz.prog os Rows.wrongRow.laid).forCall (fun _ _ => 0) ⟨#[], #[.int .i64 0, .int .i64 0], []⟩).Shaped Tryz.checked.prog := World.shaped_of_ZipB (by kernel_rfl) (by kernel_rfl)

set_option maxRecDepth 100000 in
theorem lifted (os : Os) (started : os.Started) (H : Type) (enc : TypeId × Value → H) :
    ReturnsInHanded {} Tryz.checked os 6 .any (fun w args => (Rows.wrongSpec.pre enc Tryz.prog Tryz.f6 Rows.wrongRow.domain false w args ∧ laidMetH Tryz.prog Rows.wrongRow.laid w) ∧ sizedMet enc Tryz.prog Tryz.f6 (OpenSpec.ofChange Rows.wrongSpec) false w args)
      (Rows.wrongSpec.post enc Tryz.prog Tryz.f6 false true false false) := by
  refine returnsInHanded_of_change_and (C := Tryz.checked) (X := fun w _ => laidMetH Tryz.prog Rows.wrongRow.laid w) (fun _ _ _ hh h => h.of_heap hh) own started (by kernel_rfl) Tryz.func6
    (ChangeSpec.witness_shaped (enc := enc) (C := Tryz.checked) (os := os) (X := fun w _ => laidMetH Tryz.prog Rows.wrongRow.laid w) false (World.laidAll Tryz.prog os Rows.wrongRow.laid) #[.int .i64 0, .int .i64 0] 8 (World.laidAll_os _ _ _)
      (shaped os) (by kernel_rfl) (by kernel_rfl) (by kernel_rfl) (laid_met os)) ?_
  intro W base args ds gs before hval hW _ _ hL _
  exact contract H enc W base args ds gs before hval hW hL

theorem said : Rows.WrongSaid :=
  OpenClaim.holds_of_wide 6 Tryz.f6 rfl rfl rfl rfl rfl rfl rfl ⟨rfl, rfl, rfl, rfl, rfl⟩ rfl rfl rfl rfl rfl (by kernel_rfl) Tryz.func6 closed
    (of_decide_eq_true (by kernel_rfl)) (by unfold Func.isWrapper; first | (rw [if_pos (by decide +kernel)]; kernel_rfl) | (rw [if_neg (by decide +kernel)]; exact ⟨rfl, rfl⟩))
    (fun os started H enc _ => lifted os started H enc)

theorem plain (f : FuncId) (fn : Func) (hf : Tryz.pinned.checked.prog.funcNamed "stoker/stokerkeep.Wrong" = some f) (hfn : Tryz.pinned.checked.prog.funcs[f]? = some fn) :
    false = Tryz.pinned.checked.prog.looks [] ∧ ∀ (j : Nat) t, fn.params[j]? = some t → Tryz.pinned.checked.prog.wantsStandIn t = false := by
  obtain rfl : f = 6 := Option.some.inj ((show Tryz.prog.funcNamed "stoker/stokerkeep.Wrong" = some 6 by kernel_rfl).symm.trans hf) |>.symm
  obtain rfl : fn = Tryz.f6 := (Option.some.inj (Tryz.func6.symm.trans hfn)).symm
  refine ⟨by kernel_rfl, fun j t ht => ?_⟩
  rw [Tryz.params6] at ht
  have hm := Array.mem_of_getElem? ht
  simp only [List.mem_toArray, List.mem_cons, List.mem_nil_iff, or_false] at hm
  rcases hm with rfl | rfl
  · exact (show Tryz.prog.wantsStandIn 3 = false by kernel_rfl)
  · exact (show Tryz.prog.wantsStandIn 3 = false by kernel_rfl)

/-- The statement. -/
theorem card : Rows.WrongCardSaid :=
  Claim7.holds_tied_plain_at .later [] _ _ _ _ said (fun _ h => by cases h) (by kernel_rfl) (fun _ h => by cases h) wrong_row_tie rfl ⟨rfl, rfl⟩ (by kernel_rfl) rfl plain (by kernel_rfl)
end Go.Proofs.YtdeplgkhmebalaaGreatDoor.cWrong
namespace Go.Proofs.YtdeplgkhmebalaaGreatDoor
theorem wrong_card : Rows.WrongCardSaid := cWrong.card
end Go.Proofs.YtdeplgkhmebalaaGreatDoor
