/- The program's look at a module: one body. -/
import Derived.Test.YtdeplgkhmebalaaGreatDoorP13
import Derived.Test.YtdeplgkhmebalaaGreatDoorP01
import Derived.Maps.OwnSet

namespace Go.Proofs.YtdeplgkhmebalaaGreatDoor
open Go.RowKit

def partM (P : List UInt8) (ts : List Ty) (gl : List (UInt8 × Bool)) (typ : Ty) (code : List Ins) (i : Nat) : Except (Int × Int) (FnM × List Ins) :=
  match listM P (32 - typ.1.length) i with
  | .error e => .error e
  | .ok (more, k) => match lookM ⟨P, ts, gl, typ.1 ++ more⟩ 2001 ⟨k, code, [], [⟨0, typ.2, 0, 0, []⟩], 0, false⟩ with
    | .error e => .error e
    | .ok s => .ok (⟨typ, typ.1.length + more.length, code.length⟩, s.code)
theorem sz0 (i : Nat) (code : List Ins) (res : List UInt8) (N : Nat) (hc : code.length ≤ N) (hr : res.length ≤ 1) : Sz N ⟨i, code, [], [⟨0, res, 0, 0, []⟩], 0, false⟩ := by
  refine ⟨by simp, by simp, hc, by simp [Bd.top, Bd.bk], fun j k hj hk => ?_, fun k hk => ?_⟩
  · simp at hk; obtain rfl : k = 0 := by omega
    obtain rfl : j = 0 := by omega
    exact Nat.le_refl _
  · simp at hk; obtain rfl : k = 0 := by omega
    simp [Bd.bk, hr]

theorem byte_fwd {D : List UInt8} {i j : Nat} {c : UInt8} (h : byteM D i = .ok (c, j)) : i ≤ j := by
  unfold byteM at h
  split at h
  · cases h; exact Nat.le_succ _
  · cases h
theorem oneOf_fwd {D al : List UInt8} {i j : Nat} {c : UInt8} (h : oneOfM D al i = .ok (c, j)) : i ≤ j := by
  unfold oneOfM at h
  split at h
  · cases h
  · rename_i hb
    split at h
    · cases h; exact byte_fwd hb
    · cases h
theorem many_fwd {D al : List UInt8} (n : Nat) : ∀ {i : Nat} {l : List UInt8} {j : Nat}, manyM (oneOfM D al) n i = .ok (l, j) → i ≤ j := by
  induction n with
  | zero => intro i l j h; cases h; exact Nat.le_refl _
  | succ n ih =>
    intro i l j h
    rw [manyM] at h
    split at h
    · cases h
    · rename_i h1
      split at h
      · cases h
      · rename_i h2; cases h; exact Nat.le_trans (oneOf_fwd h1) (ih h2)
theorem list_fwd {D : List UInt8} {most i : Nat} {l : List UInt8} {j : Nat} (h : listM D most i = .ok (l, j)) : i ≤ j := by
  unfold listM at h
  split at h
  · cases h
  · rename_i n k hb
    have := (below_lt hb).2.1
    exact Nat.le_trans (by omega) (many_fwd n h)
theorem RowsAt.le {w : World} {ro ro' : Nat → Prop} (h : RowsAt w ro) (hr : ∀ b, ro b → ro' b) : RowsAt w ro' := by
  obtain ⟨a, o, cap, h1, h2, h3, h4, h5⟩ := h
  exact ⟨a, o, cap, h1, h2, hr _ h3, hr _ h4, h5⟩

section
variable {I : LIds} {w0 w : World} {s : Lkr} {role : Nat → Nat} {tv gv glv cv : Value} {tys : List TyV} {fs : List FnV}

def PDone (I : LIds) (w w' : World) (s : Lkr) (j n q : Nat) (m : Except (Int × Int) (FnM × List Ins)) (r : Ending) : Prop :=
  match m with
  | .ok (f, code) => r = .returned (.pointer none) ∧ LSt I w' { s with i := j, fns := s.fns.set n f, code := code } ∧ code.length ≤ q
  | .error e => ∃ fv, r = .returned fv ∧ FaultAt w w' fv e

set_option maxRecDepth 100000 in
set_option maxHeartbeats 6000000 in
theorem readBody_any {a cap : Nat} (h0 : LStG I w0 s role tv gv (.slice (some ⟨a, 0, none⟩) s.fns.length cap) glv cv tys fs) (k0 : Kp (one I.rb) w0 w) {j : Nat} (hr0 : RSt w I.rb I.dv I.D j) {pb : Nat} {dv : Value} {P : List UInt8} {i : Nat} (hp : w0.heap.size ≤ pb) (hrp : RSt w pb dv P i)
    (hd : ∀ b, dv.ownBlock = some b → I.dv.ownBlock = some b) {n : Nat} (hn : n < s.fns.length) (hR : RowsAt w I.lo) (nf : s.fns.length ≤ 16) (ng : s.gl.length ≤ 8) (ht : ∀ x ∈ s.fns, x.typ.1.length ≤ 8 ∧ x.typ.2.length ≤ 1) (hcl : s.code.length ≤ 18 * i) :
    Calls Tryz.prog 112 #[ptrTo I.kb, ptrTo pb, .pointer (some ⟨a, n * 4, none⟩)] w fun r w' => PDone I w w' s j n (18 * P.length) (partM P (s.fns.map (·.typ)) s.gl (s.fns.getD n ⟨([], []), 0, 0⟩).typ s.code i) r ∧ Kp (upl I) w w' := by
  -- the looker's lists lie apart from all that is new
  have h1 : LStG I w0 s (newRole role w0.heap.size 9) tv gv (.slice (some ⟨a, 0, none⟩) s.fns.length cap) glv cv tys fs := h0.rerole (fun k hk => newRole_old hk)
  have h2 := h1.setRd k0 hr0
  have hn9 : ∀ b, w0.heap.size ≤ b → newRole role w0.heap.size 9 b = 9 := fun b hb => newRole_new hb
  generalize newRole role w0.heap.size 9 = ρ at *
  have hsz0 := k0.size
  obtain ⟨a', cap', x, hfv, hcap, hx, hxe, hxm, c0, c1, c2, c3, cf⟩ := h2.fn (n := n) hn
  cases hfv
  obtain ⟨⟨typ, lo0, en0⟩, pv, rv⟩ := x
  simp only at hxe c0 c1 c2 c3
  have hty : (s.fns.getD n ⟨([], []), 0, 0⟩).typ = typ := by rw [← hxe]
  have htl : typ.1.length ≤ 8 ∧ typ.2.length ≤ 1 := by
    rw [← hty]
    have : s.fns.getD n ⟨([], []), 0, 0⟩ ∈ s.fns := by rw [List.getD_eq_getElem?_getD, List.getElem?_eq_getElem hn]; exact List.getElem_mem _
    exact ht _ this
  rw [hty]
  obtain ⟨hpB, hrB⟩ := h2.fnB _ hxm
  obtain ⟨hpR, hrR⟩ := h2.fnR _ hxm
  simp only at hpB hrB hpR hrR
  obtain ⟨ap, cp, hpv, hpc⟩ := hpB.shape
  obtain ⟨ar, cr, hrv, hrc⟩ := hrB.shape
  have hdlt : ∀ b, dv.ownBlock = some b → b < w.heap.size := fun b hb => Nat.lt_of_lt_of_le (I.hlo b (h2.dvB b (hd b hb))) h2.base
  have hli := readList_any hrp hdlt (32 - typ.1.length) (by omega)
  rw [show ((32 - typ.1.length : Nat) : Int) = 32 - (typ.1.length : Int) by omega] at hli
  have hM : partM P (s.fns.map (·.typ)) s.gl typ s.code i = (match listM P (32 - typ.1.length) i with
    | .error e => .error e
    | .ok (more, k) => match lookM ⟨P, s.fns.map (·.typ), s.gl, typ.1 ++ more⟩ 2001 ⟨k, s.code, [], [⟨0, typ.2, 0, 0, []⟩], 0, false⟩ with
      | .error e => .error e
      | .ok s' => .ok (⟨typ, typ.1.length + more.length, s.code.length⟩, s'.code)) := rfl
  have hll := fun l k => list_len (D := P) (most := 32 - typ.1.length) (i := i) (l := l) (j := k)
  have hlf := fun l k => list_fwd (D := P) (most := 32 - typ.1.length) (i := i) (l := l) (j := k)
  have htm : ∀ (L En : Nat), (s.fns.set n ⟨typ, L, En⟩).map (·.typ) = s.fns.map (·.typ) := by
    intro L En
    rw [List.map_set]
    have : (s.fns.map (·.typ))[n]'(by simpa using hn) = typ := by
      rw [← hty, List.getD_eq_getElem?_getD, List.getElem?_eq_getElem hn]; simp
    conv => lhs; rw [show (⟨typ, L, En⟩ : FnM).typ = (s.fns.map (·.typ))[n]'(by simpa using hn) from this.symm]
    exact List.set_getElem_self _
  generalize partM P (s.fns.map (·.typ)) s.gl typ s.code i = R at *
  generalize listM P (32 - typ.1.length) i = Q at *
  subst hpv hrv
  have H2 := hide h2
  have HL := hide hli
  have HM := hide hM
  have HpB := hide hpB
  have HrB := hide hrB
  have HpR := hide hpR
  have HrR := hide hrR
  have HP := hide hrp
  have HX := hide hx
  have HR := hide hR
  have H9 := hide hn9
  have HT := hide ht
  have HTm := hide htm
  have HD := hide hd
  have hbase := h2.base
  have hBC := I.hBC
  have haB := own_new h2.funcs a rfl
  have halt := own_lt h2.funcs (b := a) rfl
  have hapb : a < w0.heap.size := own_lt h0.funcs (b := a) rfl
  clear htm h0 h1 h2 hli hM hpB hrB hpR hrR hrp hx hR hn9 ht hd hxm hxe hty hdlt hr0 k0
  match Q, HM, HL, hll, hlf with
  | .error e, HM, HL, _, _ =>
    go_enter Tryz.func112, Tryz.ntmps112
    go_wp2_with fail
    refine HL.out.mono ?_
    rintro r w1 ⟨⟨fv, rfl, fb, rfl, hfb, hfo⟩, k1⟩
    have HF := hide hfo
    clear hfo
    go_wp2
    go_ret
    rw [HM.out]
    refine ⟨⟨ptrTo fb, rfl, fb, rfl, hfb, HF.out⟩, k1.mono (fun b _ (e : b = pb) => ?_)⟩
    intro hlt
    have := H2.out.low b hlt
    rw [e, H9.out pb hp] at this
    cases this
  | .ok (more, k), HM, HL, hll, hlf =>
    have hml := hll more k rfl
    have hik := hlf more k rfl
    clear hll hlf
    go_enter Tryz.func112, Tryz.ntmps112
    go_wp2_with fail
    refine HL.out.mono ?_
    rintro r w1 ⟨⟨mv, rfl, hmB, hmN, hr1⟩, k1⟩
    obtain ⟨am, cm, hmv, hmc⟩ := hmB.shape
    subst hmv
    have hap : a ≠ pb := by omega
    have g0 := k1.cell c0 hap
    have g1 := k1.cell c1 hap
    have g2 := k1.cell c2 hap
    have g3 := k1.cell c3 hap
    have h3 : LStG I w1 { s with i := j } ρ tv gv (.slice (some ⟨a, 0, none⟩) s.fns.length cap) glv cv tys fs := H2.out.far (k1.mono (fun b _ (e : b = pb) => by rw [e]; exact H9.out pb hp))
    obtain ⟨hkc, -⟩ := cells_of h3.look
    obtain ⟨hmdc, -⟩ := cells_of h3.mod
    have hff : ∀ q, w1.frozen? ⟨a, q, none⟩ = false := fun q => h3.funcs.frozenAt q
    obtain ⟨ac, cc, hcv⟩ := own_shape h3.code
    simp only at hcv
    have HCv := hide hcv
    have hkb1 := lt_of_blk h3.look
    have hak : I.kb ≠ a := fun e => by have := h3.r6 a rfl; rw [← e, h3.r3] at this; cases this
    have ham : I.mb ≠ a := fun e => by have := h3.r6 a rfl; rw [← e, h3.r2] at this; cases this
    have H3 := hide h3
    have HK1 := hide k1
    have HmB := hide hmB
    have HmN := hide hmN
    have Hr1 := hide hr1
    clear h3 k1 hmB hmN hr1 c0 c1 c2 c3 cf hcv
    have hmdc3 := hmdc 3
    rw [HCv.out] at hmdc3
    simp only [List.getElem?_toArray] at hmdc3
    clear hmdc
    go_wp2_with fail
    have hxs : (fs.set n ((⟨typ, typ.1.length + more.length, s.code.length⟩ : FnM), Value.slice ap typ.1.length cp, Value.slice ar typ.2.length cr))[n]? = some (⟨typ, typ.1.length + more.length, s.code.length⟩, Value.slice ap typ.1.length cp, Value.slice ar typ.2.length cr) := by
      rw [List.getElem?_set_self (List.getElem?_eq_some_iff.1 HX.out).1]
    have h4 := H3.out.setFn rfl HX.out (typ.1.length + more.length) s.code.length
    have k2 : Kp (one a) w1 ((w1.setCell ⟨a, n * 4 + 2, none⟩ (.int .i64 (typ.1.length + more.length : Nat))).setCell ⟨a, n * 4 + 3, none⟩ (.int .i64 (s.code.length : Nat))) := ((Kp.refl _ w1).set1 _ _).set1 _ _
    rw [show ((typ.1.length + more.length : Nat) : Int) = (typ.1.length : Int) + (more.length : Int) by omega] at h4 k2
    generalize (w1.setCell ⟨a, n * 4 + 2, none⟩ (.int .i64 ((typ.1.length : Int) + (more.length : Int)))).setCell ⟨a, n * 4 + 3, none⟩ (.int .i64 (s.code.length : Nat)) = w2 at *
    obtain ⟨hpB2, hrB2⟩ := h4.fnB _ (List.mem_of_getElem? hxs)
    obtain ⟨hpR2, hrR2⟩ := h4.fnR _ (List.mem_of_getElem? hxs)
    simp only at hpB2 hrB2 hpR2 hrR2
    have hmB2 : BytesAt w2 (.slice am more.length cm) more := HmB.out.kp k2 (fun b hb (e : b = a) => by have := (HmN.out b hb).1; omega)
    have hr2 : RSt w2 pb dv P k := Hr1.out.kp k2 (fun (e : pb = a) => by omega) (fun b hb _ (e : b = a) => by have := H2.out.low b (H2.out.dvB b (HD.out b hb)); rw [e, H2.out.r6 a rfl] at this; cases this)
    have hnb := newBody_any (pb := pb) (ad1 := ap) (l1 := typ.1.length) (c1 := cp) (ad2 := ar) (l2 := typ.2.length) (c2 := cr) h4.look (by obtain ⟨x1, x2, x3⟩ := own_shape h4.globs; exact ⟨x1, _, x2, x3⟩)
    have hs2 := k2.size
    have hs1 := HK1.out.size
    have HNB := hide hnb
    have H4 := hide h4
    have HK2 := hide k2
    have HpB2 := hide hpB2
    have HrB2 := hide hrB2
    have HpR2 := hide hpR2
    have HrR2 := hide hrR2
    have HmB2 := hide hmB2
    have Hr2 := hide hr2
    have HXs := hide hxs
    clear hnb h4 k2 hpB2 hrB2 hpR2 hrR2 hmB2 hr2 hxs g0 g1 g2 g3 hkc hff hmdc3
    refine HNB.out.mono ?_
    rintro r w3 ⟨bb, g, rfl, hbb, hgg, hbg, hgl, hbo, hgo, k3⟩
    obtain ⟨i0, hi0, hz0, hz1, hz2⟩ := info_parts info_u8
    obtain ⟨hbc, hbf⟩ := cells_of hbo
    have hs3 := k3.size
    have hbl := lt_of_blk hbo
    have HBo := hide hbo
    have HGo := hide hgo
    have HK3 := hide k3
    clear hbo hgo k3
    go_wp2_with (at_builtin; refine wpList_append_at _ rfl _ _ 25 rfl w3.heap.size 5 i0 (.int .u8 0) 1 1 Tryz.underlying25 hi0 hz0 hz1 hz2 rfl (by decide) _ 0 [] rfl (World.ownsRow_nil _ _ _ _) _ typ.1.length _ rfl (HpB2.out.kp HK3.out (fun _ _ h => h)) (bytes_oneCell _) ?c3 ?c4 (Nat.le_refl _) ?_)
    case c3 => unfold maxLen; omega
    case c4 => omega
    intro v1 w4 hown1 hgrow1 hat1
    have hs4 := hgrow1.size
    have kk4 : Kp no w3 w4 := (Kp.refl _ w3).grown hgrow1 (fun k e => by cases e)
    have hmB4 := (HmB2.out.kp HK3.out (fun _ _ h => h)).kp kk4 (fun _ _ h => h)
    obtain ⟨ad1, cap1, rfl⟩ := own_shape hown1
    have HO1 := hide hown1
    have HG1 := hide hgrow1
    have HA1 := hide hat1
    have HK4 := hide kk4
    have HmB4 := hide hmB4
    clear hown1 hgrow1 hat1 kk4 hmB4
    go_wp2_with (at_builtin; go_loud (refine wpList_append_at _ rfl _ _ 25 rfl w3.heap.size 5 i0 (.int .u8 0) 1 1 Tryz.underlying25 hi0 hz0 hz1 hz2 rfl (by decide) _ typ.1.length _ rfl HO1.out _ more.length _ rfl HmB4.out (bytes_oneCell _) ?c5 ?c6 hs4 ?_))
    case c5 => unfold maxLen; omega
    case c6 => omega
    intro v2 w5 hown2 hgrow2 hat2
    have hv1 : ∀ b, (Value.slice ad1 typ.1.length cap1).ownBlock = some b → w3.heap.size ≤ b := own_new HO1.out
    have kk5 : Kp no w3 w5 := (HK4.out).grown hgrow2 (fun b e => .inr (hv1 b e))
    have hv2 := own_new hown2
    have hl2 := fun b => own_lt hown2 (b := b)
    obtain ⟨ad2, cap2, rfl⟩ := own_shape hown2
    obtain ⟨hbc5, hbf5⟩ := cells_of (kk5.blk HBo.out (fun h => h))
    have HO2 := hide hown2
    have HK5 := hide kk5
    have HV2 := hide hv2
    have HL2 := hide hl2
    clear hown2 hgrow2 hat2 kk5 hv1 hbc hbf hv2 hl2
    go_wp2_with fail
    have hpb1 := lt_of_blk HP.out.blk
    have k6 : Kp (fun b => (fun r => r = 9) (ρ b)) w2 (w5.setCell ⟨bb, 3, none⟩ (.slice ad2 (typ.1.length + more.length) cap2)) :=
      Kp.setAt (S := fun b => (fun r => r = 9) (ρ b)) (HK3.out.any.trans HK5.out.any) (b := bb) (H9.out bb (by omega)) _ _
    have k63 : Kp (one bb) w3 (w5.setCell ⟨bb, 3, none⟩ (.slice ad2 (typ.1.length + more.length) cap2)) := Kp.set1 HK5.out.any _ _
    have k65 : Kp (one bb) w5 (w5.setCell ⟨bb, 3, none⟩ (.slice ad2 (typ.1.length + more.length) cap2)) := Kp.set1 (Kp.refl _ _) _ _
    have k62 : Kp (one bb) w2 (w5.setCell ⟨bb, 3, none⟩ (.slice ad2 (typ.1.length + more.length) cap2)) := Kp.set1 (HK3.out.any.trans HK5.out.any) _ _
    have hbo6 := heap_setCell (o := 3) (HK5.out.blk HBo.out (fun h => h)) (.slice ad2 (typ.1.length + more.length) cap2)
    have hgo6 := k63.blk HGo.out (fun (e : g = bb) => hbg e.symm)
    have hlvB : BytesAt w5 (.slice ad2 (typ.1.length + more.length) cap2) (typ.1 ++ more) := by
      have := RowAt.own HO2.out
      unfold BytesAt
      rw [List.length_append, List.map_append]
      exact this
    have hlv3 := HV2.out
    have hlv5 := HL2.out
    have hs5 := HK5.out.size
    have hs6 := k65.size
    have hcvB := HCv.out
    generalize w5.setCell ⟨bb, 3, none⟩ (.slice ad2 (typ.1.length + more.length) cap2) = w6 at *
    have h6 := H4.out.far k6
    have hr6 : RSt w6 pb dv P k := Hr2.out.kp k62 (fun (e : pb = bb) => by omega) (fun b hb _ (e : b = bb) => by have := I.hlo b (H2.out.dvB b (HD.out b hb)); have := H2.out.base; omega)
    have hlB6 := hlvB.kp k65 (fun b hb (e : b = bb) => by have := hlv3 b hb; omega)
    have hrB6 := HrB2.out.kp k62 (fun b hb (e : b = bb) => by have := (HrR2.out b hb).2; omega)
    have kB6 : Kp (upl I) w w6 := by
      refine (HK1.out.mono (fun b _ (e : b = pb) => ?_)).trans ((HK2.out.mono (fun b _ (e : b = a) => ?_)).trans (k62.mono (fun b _ (e : b = bb) => ?_)))
      · intro hlt
        have := H2.out.low b hlt
        rw [e, H9.out pb hp] at this
        cases this
      · intro hlt
        have := H2.out.low b hlt
        rw [e, H2.out.r6 a rfl] at this
        cases this
      · intro hlt
        have := H2.out.low b hlt
        rw [e, H9.out bb (by omega)] at this
        cases this
    have hA : BodyAt ρ pb bb g := ⟨H9.out pb hp, H9.out bb (by omega), H9.out g (by omega), by omega, by omega, hbg⟩
    have hB := toBody (lv := .slice ad2 (typ.1.length + more.length) cap2) (lo := typ.1 ++ more) (res := typ.2) hA h6 hr6 HD.out hbo6 hgo6 (by omega) hlB6 (fun b hb => by
        have q1 := hlv3 b hb
        have q2 := hlv5 b hb
        have q3 := lt_of_blk H4.out.mod
        refine ⟨by omega, by omega, by omega, by omega, by omega, fun e => ?_⟩
        have := own_lt H4.out.code e
        omega) hrB6 (fun b hb => ⟨(HrR2.out b hb).1, by have := (HrR2.out b hb).2; omega⟩) (by simpa using nf) ng (by simp; omega) (fun x hx => by
        rcases List.mem_or_eq_of_mem_set hx with hx | rfl
        · exact HT.out x hx
        · exact htl)
    have hRw : RowsAt w6 (bEnv I w6 { s with i := j, fns := s.fns.set n ⟨typ, typ.1.length + more.length, s.code.length⟩ } cv (.slice (some ⟨a, 0, none⟩) s.fns.length cap) glv gv dv (.slice ad2 (typ.1.length + more.length) cap2) pb bb g P (typ.1 ++ more)).ro :=
      RowsAt.le (HR.out.kp (ro := I.lo) kB6) (fun b hb => by
        have hz := h6.low b hb
        exact ⟨Nat.lt_of_lt_of_le (I.hlo b hb) h6.base, bRole_far hA h6 (by rw [hz]; decide) (by rw [hz]; decide) (by rw [hz]; decide)⟩)
    have hPl := hr6.len
    have hPk := hr6.le
    have hz0 := sz0 k s.code typ.2 (18 * k) (by omega) htl.2
    have hlook := look_any hB hRw hz0 (by show 18 * k + 18 * (P.length - k) ≤ 400000; omega) 2001 (by show P.length - k < 2001; omega)
    have hM := HM.out
    have hctx : (bEnv I w6 { s with i := j, fns := s.fns.set n ⟨typ, typ.1.length + more.length, s.code.length⟩ } cv (.slice (some ⟨a, 0, none⟩) s.fns.length cap) glv gv dv (.slice ad2 (typ.1.length + more.length) cap2) pb bb g P (typ.1 ++ more)).c = ⟨P, s.fns.map (·.typ), s.gl, typ.1 ++ more⟩ := by
      show Ctx.mk _ _ _ _ = _
      rw [HTm.out]
    have hlen := fun s' => look_len (c := ⟨P, s.fns.map (·.typ), s.gl, typ.1 ++ more⟩) (fun q hq => by
        have := hB
        obtain ⟨_, _, _, _, _, hbg⟩ := this
        have := hbg.env.res q
        rw [hctx] at this
        exact this hq) 2001 (18 * k) _ s' hz0
    rw [hctx] at hlook
    generalize lookM ⟨P, s.fns.map (·.typ), s.gl, typ.1 ++ more⟩ 2001 ⟨k, s.code, [], [⟨0, typ.2, 0, 0, []⟩], 0, false⟩ = Q2 at *
    have H6 := hide h6
    have HA := hide hA
    have HLk := hide hlook
    have HM := hide hM
    have HLen := hide hlen
    have KB6 := hide kB6
    have HCtx := hide hctx
    have KW6 : w.heap.size ≤ w6.heap.size := kB6.size
    clear hB hRw hM hlook hlen h6 hr6 hlB6 hrB6 hA hbo6 hgo6 hlvB hlv3 hlv5 k6 k63 k65 k62 kB6 hz0 hbc5 hbf5 hcvB hctx
    match Q2, HM, HLk, HLen with
    | .error e, HM, HLk, _ =>
      refine HLk.out.mono ?_
      rintro r w7 ⟨⟨fv, rfl, fb, rfl, hfb, hfo⟩, k7⟩
      have HF := hide hfo
      have hfb' : w.heap.size ≤ fb := Nat.le_trans KW6 hfb
      have K7 := hide k7
      clear hfo k7 hfb
      go_wp2
      go_ret
      rw [HM.out]
      refine ⟨⟨ptrTo fb, rfl, fb, rfl, hfb', HF.out⟩, KB6.out.trans (K7.out.mono (fun b hb hnr => ?_))⟩
      refine fun hlt => hnr ⟨hb, ?_⟩
      have hz := H6.out.low b hlt
      exact bRole_far HA.out H6.out (by rw [hz]; decide) (by rw [hz]; decide) (by rw [hz]; decide)
    | .ok s', HM, HLk, HLen =>
      refine HLk.out.mono ?_
      rintro r w7 ⟨⟨rfl, g', hs'⟩, k7⟩
      have hfin := fromBody HA.out H6.out k7 hs'
      have hi' := hs'
      obtain ⟨_, _, _, _, _, hi'⟩ := hi'
      have hle := hi'.rd.le
      have hlen := HLen.out s' rfl
      simp only at hlen
      have hle' : s'.i ≤ P.length := hle
      have HFin := hide hfin
      have K7 := hide k7
      clear hfin hs' hi' k7 hle
      go_wp2
      go_ret
      rw [HM.out]
      refine ⟨⟨rfl, HFin.out, by omega⟩, KB6.out.trans (K7.out.mono (fun b hb hnr => ?_))⟩
      refine fun hlt => hnr ⟨hb, ?_⟩
      have hz := H6.out.low b hlt
      exact bRole_far HA.out H6.out (by rw [hz]; decide) (by rw [hz]; decide) (by rw [hz]; decide)
end

end Go.Proofs.YtdeplgkhmebalaaGreatDoor

namespace Go.Proofs.YtdeplgkhmebalaaGreatDoor
open Go.RowKit

def preB (l : List FnM) (m : Rd (List FnM × List Ins)) : Rd (List FnM × List Ins) :=
  match m with
  | .error e => .error e
  | .ok ((fs, c), i) => .ok ((l ++ fs, c), i)
theorem preB_nil (m : Rd (List FnM × List Ins)) : preB [] m = m := by
  cases m with
  | error e => rfl
  | ok x => rfl
theorem preB_step (D : List UInt8) (ts : List Ty) (gl : List (UInt8 × Bool)) (l : List FnM) (t : Ty) (rest : List Ty) (code : List Ins) (i : Nat) :
    preB l (bodiesM D ts gl (t :: rest) code i) = (match bodyM D ts gl t code i with
      | .error e => .error e
      | .ok ((f, c1), j) => preB (l ++ [f]) (bodiesM D ts gl rest c1 j)) := by
  rw [bodiesM]
  cases bodyM D ts gl t code i with
  | error e => rfl
  | ok x =>
    obtain ⟨⟨f, c1⟩, j⟩ := x
    simp only
    cases bodiesM D ts gl rest c1 j with
    | error e => rfl
    | ok y => obtain ⟨⟨fs, c⟩, k⟩ := y; simp [preB]
theorem bodyM_eq (D : List UInt8) (ts : List Ty) (gl : List (UInt8 × Bool)) (typ : Ty) (code : List Ins) (i : Nat) : bodyM D ts gl typ code i = (match UM D i with
  | .error e => .error e
  | .ok (size, j) =>
    if D.length - j < size then .error (2, i)
    else match partM (D.take (j + size)) ts gl typ code j with
      | .error e => .error e
      | .ok (f, c) => .ok ((f, c), j + size)) := by
  unfold bodyM partM
  cases UM D i with
  | error e => rfl
  | ok x =>
    obtain ⟨size, j⟩ := x
    simp only
    by_cases hh : D.length - j < size
    · simp only [if_pos hh]
    · simp only [if_neg hh]
      cases listM (D.take (j + size)) (32 - typ.1.length) j with
      | error e => rfl
      | ok y =>
        obtain ⟨more, k⟩ := y
        simp only
        cases lookM ⟨D.take (j + size), ts, gl, typ.1 ++ more⟩ 2001 ⟨k, code, [], [⟨0, typ.2, 0, 0, []⟩], 0, false⟩ with
        | error e => rfl
        | ok z => rfl
theorem U_lt {D : List UInt8} {i n j : Nat} (h : UM D i = .ok (n, j)) : n ≤ 4294967295 ∧ i < j ∧ j ≤ D.length := by
  have h1 : belowM D ((n : Int) + 1) i = .ok (n, j) := by
    unfold belowM
    rw [h]
    simp only
    rw [if_neg (by omega)]
  have h2 := below_lt h1
  refine ⟨?_, h2.2⟩
  unfold UM at h
  split at h
  · cases h
  · split at h
    · cases h
    · rename_i hn
      cases h
      omega

theorem part_typ {P : List UInt8} {ts : List Ty} {gl : List (UInt8 × Bool)} {typ : Ty} {code : List Ins} {i : Nat} {f : FnM} {c : List Ins} (h : partM P ts gl typ code i = .ok (f, c)) : f.typ = typ := by
  unfold partM at h
  split at h
  · cases h
  · split at h
    · cases h
    · cases h; rfl

section
variable {I : LIds} {w : World} {s : Lkr}
def bodiesL (I : LIds) (s : Lkr) : Except (Int × Int) Lkr :=
  match bodiesM I.D (s.fns.map (·.typ)) s.gl (s.fns.map (·.typ)) s.code s.i with
  | .error e => .error e
  | .ok ((fs, c), k) => .ok { s with fns := fs, code := c, i := k }

theorem enters_part : ∀ args w, (callFunc 113 args).run Tryz.prog w = .ok (.enter 113 args) w := enters_of Tryz.func113 (by kernel_rfl) rfl
theorem enters_readBody : ∀ args w, (callFunc 112 args).run Tryz.prog w = .ok (.enter 112 args) w := enters_of Tryz.func112 (by kernel_rfl) rfl

set_option maxRecDepth 100000 in
set_option maxHeartbeats 8000000 in
theorem readBodies_any (h : LSt I w s) (hR : RowsAt w I.lo) (nf : s.fns.length ≤ 16) (ng : s.gl.length ≤ 8) (ht : ∀ x ∈ s.fns, x.typ.1.length ≤ 8 ∧ x.typ.2.length ≤ 1) (hcl : s.code.length ≤ 18 * s.i) :
    Calls Tryz.prog 80 #[ptrTo I.kb] w fun r w' => LDone I w w' (bodiesL I s) r ∧ Kp (upl I) w w' := by
  have hM : bodiesL I s = (match bodiesM I.D (s.fns.map (·.typ)) s.gl (s.fns.map (·.typ)) s.code s.i with
    | .error e => .error e
    | .ok ((fs, c), k) => .ok { s with fns := fs, code := c, i := k }) := rfl
  generalize bodiesL I s = R at *
  have h' := h
  obtain ⟨role, tv, gv, fv, glv, cv, tys, fs, h'⟩ := h'
  obtain ⟨hc, -⟩ := cells_of h'.look
  obtain ⟨hm, -⟩ := cells_of h'.mod
  obtain ⟨adf, capf, rfl⟩ := own_shape h'.funcs
  have H := hide h
  have HM := hide hM
  have HR := hide hR
  have HT := hide ht
  clear h h' hM hR ht
  go_enter Tryz.func80, Tryz.ntmps80
  go_wp2
  go_loopw [16] (fun kv wr => ∃ (k jj : Nat) (l : List FnM) (c : List Ins), k ≤ s.fns.length ∧ kv = .int .i64 k ∧ l.length = k ∧ LSt I wr { s with i := jj, fns := l ++ s.fns.drop k, code := c } ∧ (l ++ s.fns.drop k).map (·.typ) = s.fns.map (·.typ) ∧ c.length ≤ 18 * jj ∧ Kp (upl I) w wr ∧
      bodiesM I.D (s.fns.map (·.typ)) s.gl (s.fns.map (·.typ)) s.code s.i = preB l (bodiesM I.D (s.fns.map (·.typ)) s.gl ((s.fns.map (·.typ)).drop k) c jj)) (fun kv _ => s.fns.length - (intOf kv).toNat)
  case atStart => exact ⟨0, s.i, [], s.code, by omega, rfl, rfl, by simpa using H.out, by simp, hcl, (Kp.refl no w).any, by rw [preB_nil]; rfl⟩
  case round =>
    clear hc hm
    obtain ⟨k, jj, l, c, hk, rfl, hlk, hst, hty, hcj, hkp, hlab⟩ := hrel
    have HS := hide hst
    have HK := hide hkp
    have HTy := hide hty
    have hszr := hkp.size
    by_cases hkn : k < s.fns.length
    · have hdrop : (s.fns.map (·.typ)).drop k = (s.fns.getD k ⟨([], []), 0, 0⟩).typ :: (s.fns.map (·.typ)).drop (k + 1) := by
        rw [List.drop_eq_getElem_cons (by simpa using hkn)]
        simp [List.getD_eq_getElem?_getD, List.getElem?_eq_getElem hkn]
      rw [hdrop, preB_step, bodyM_eq] at hlab
      have h' := hst
      obtain ⟨role, tv, gv, fv, glv, cv, tys, fs, h'⟩ := h'
      obtain ⟨hc, -⟩ := cells_of h'.look
      have hat := at_any h'.rd
      have hU := U_any h'.rd
      have hUl := fun n j => U_lt (D := I.D) (i := jj) (n := n) (j := j)
      simp only at hat hU
      generalize UM I.D jj = Q at *
      have HA := hide hat
      have HU := hide hU
      have HL := hide hlab
      clear hat hU hlab hst hkp hty h' hdrop
      match Q, HL, HU, hUl with
      | .error e, HL, HU, _ =>
        go_wp2_with fail
        refine HA.out.mono ?_
        rintro r w1 ⟨rfl, rfl⟩
        go_wp2_with fail
        refine HU.out.mono ?_
        rintro r w1 ⟨⟨fv, j, rfl, ⟨fb, rfl, hfb, hfo⟩, h1⟩, k1⟩
        have HF := hide hfo
        have hfb' : w.heap.size ≤ fb := Nat.le_trans hszr hfb
        have HK1 := hide (HK.out.trans (HS.out.lowRd k1))
        clear hfo h1 k1
        go_wp2
        go_ret
        rw [HM.out]
        show LDone _ _ _ (match bodiesM I.D (s.fns.map (·.typ)) s.gl (s.fns.map (·.typ)) s.code s.i with | .error e => .error e | .ok ((fs, c), k) => .ok { s with fns := fs, code := c, i := k }) _ ∧ _
        rw [HL.out]
        exact ⟨⟨ptrTo fb, rfl, fb, rfl, hfb', HF.out⟩, HK1.out⟩
      | .ok (size, j1), HL, HU, hUl =>
        obtain ⟨hsz1, hj1, hj2⟩ := hUl size j1 rfl
        clear hUl
        go_wp2_with fail
        refine HA.out.mono ?_
        rintro r w1 ⟨rfl, rfl⟩
        go_wp2_with fail
        refine HU.out.mono ?_
        rintro r w1 ⟨⟨v, rfl, rfl, h1⟩, k1⟩
        have hs1 := HS.out.read k1 h1
        have HK1 := hide (HK.out.trans (HS.out.lowRd k1))
        have hszr1 := Nat.le_trans hszr k1.size
        have hRw1 : RowsAt w1 I.lo := HR.out.kp HK1.out
        have hle := left_any h1
        have h' := hs1
        obtain ⟨role, tv, gv, fv, glv, cv, tys, fs, h'⟩ := h'
        obtain ⟨hc1, -⟩ := cells_of h'.look
        have HS1 := hide hs1
        have HLe := hide hle
        have HR1 := hide hRw1
        clear h1 k1 hs1 hle h' hc hRw1
        by_cases hlong : I.D.length - j1 < size
        · have hlong' : ((I.D.length : Int) - j1) < size := by omega
          have hL := HL.out
          simp only [if_pos hlong] at hL
          have HL1 := hide hL
          clear hL HL
          go_wp2_with fail
          refine HLe.out.mono ?_
          rintro r w2 ⟨rfl, k2⟩
          go_wp2_with fail
          refine (form_any _ _).mono ?_
          rintro r w3 ⟨rfl, rfl⟩
          go_wp2
          go_ret
          rw [HM.out]
          show LDone _ _ _ (match bodiesM I.D (s.fns.map (·.typ)) s.gl (s.fns.map (·.typ)) s.code s.i with | .error e => .error e | .ok ((fs, c), k) => .ok { s with fns := fs, code := c, i := k }) _ ∧ _
          rw [HL1.out]
          have := k2.size
          exact ⟨⟨ptrTo w2.heap.size, rfl, w2.heap.size, rfl, by omega, heap_alloc_new _ _⟩, (HK1.out.trans k2.any).alloc _⟩
        · have hlong' : ¬ ((I.D.length : Int) - j1) < size := by omega
          have hL := HL.out
          simp only [if_neg hlong] at hL
          have HL1 := hide hL
          clear hL HL
          go_wp2_with fail
          refine HLe.out.mono ?_
          rintro r w2 ⟨rfl, k2⟩
          have hs2 := HS1.out.quiet k2
          have hR2 := HR1.out.kp (ro := I.lo) (k2.any)
          have HK2 := hide (HK1.out.trans k2.any)
          have hszr2 := Nat.le_trans hszr1 k2.size
          clear k2 hc1
          obtain ⟨role, tv, gv, fv, glv, cv, tys, fs, h'⟩ := hs2
          have hlen : (l ++ s.fns.drop k).length = s.fns.length := by simp [hlk]; omega
          obtain ⟨a, cap, hfv, -, -⟩ := h'.funcs.form (show 0 < (l ++ s.fns.drop k).length by omega)
          obtain ⟨ad', cap', hfv', hcap⟩ := (RowAt.own h'.funcs).shape
          simp only at hfv hfv' hcap
          subst hfv
          cases hfv'
          rw [hlen] at hcap
          have hpa := fun W (kW : Kp no w2 W) => part_any (h'.quiet kW).rd size (by show j1 + size ≤ I.D.length; omega) (by omega)
          have hlo := h'.look
          have hmo := h'.mod
          have n1 : I.kb ≠ I.rb := fun e => by have := h'.r3; rw [e, h'.r1] at this; cases this
          have n2 : I.mb ≠ I.rb := fun e => by have := h'.r2; rw [e, h'.r1] at this; cases this
          rw [hlen] at hmo
          obtain ⟨S, hSd⟩ : ∃ S : World → Prop, S = fun w' => (∀ q, w'.cell? ⟨I.kb, q, none⟩ = #[ptrTo I.rb, tv, gv, ptrTo I.mb][q]?) ∧ w'.cell? ⟨I.mb, 0, none⟩ = some (.slice (some ⟨a, 0, none⟩) s.fns.length cap) := ⟨_, rfl⟩
          have hSk : ∀ W, Kp (one I.rb) w2 W → S W := fun W kW => by
            rw [hSd]; exact ⟨(cells_of (kW.blk hlo n1)).1, (cells_of (kW.blk hmo n2)).1 0⟩
          have HSk := hide hSk
          have HSd := hide hSd
          have H' := hide h'
          have HPa := hide hpa
          have HR2 := hide hR2
          have HLen := hide hlen
          have hwz : IntKind.i64.wrap (size : Int) = (size : Int) := by rw [IntKind.wrap_i64]; omega
          clear h' hpa hR2 hlo hmo hSk hSd hlen
          go_wp2_with fail
          refine wp_region_S 17 (S) (by kernel_rfl) (n := 19) (listed := #[false, false, false, false, false, false, false, false, false, false, false, false, false, false, false, false, false, false, false]) rfl (by kernel_rfl) ?hS (fun hS => ?_)
          case hS => exact HSk.out _ ((Kp.refl _ _).drew)
          have hSd := HSd.out
          subst hSd
          refine wpAnyS_take 0 [] (v := ?v1) (listed' := #[true, false, false, false, false, false, false, false, false, false, false, false, false, false, false, false, false, false, false]) rfl (by kernel_rfl) (by kernel_rfl) rfl (fun _ _ _ h => h) hS (fun _ hSw => ?hy1) ?rest1
          case hy1 => (try dsimp only at hSw); go_simp; all_goals (with_reducible rfl)
          simp only [Act.put, List.setIfInBounds_toArray, List.set_cons_zero, List.set_cons_succ]
          refine wpAnyS_take 1 [2, 3, 4, 7] (v := ?v2) (listed' := #[true, true, false, false, false, false, false, false, false, false, false, false, false, false, false, false, false, false, false]) rfl (by kernel_rfl) (by kernel_rfl) rfl (fun _ _ _ h => h) hS (fun _ hSw => ?hy2) ?rest2
          case hy2 => (try dsimp only at hSw); go_simp; all_goals (with_reducible rfl)
          simp only [Act.put, List.setIfInBounds_toArray, List.set_cons_zero, List.set_cons_succ]
          refine wpAnyS_take 2 [3, 4, 7] (v := ?v3) (listed' := #[true, true, true, false, false, false, false, false, false, false, false, false, false, false, false, false, false, false, false]) rfl (by kernel_rfl) (by kernel_rfl) rfl (fun _ _ _ h => h) hS (fun _ hSw => ?hy3) ?rest3
          case hy3 => (try dsimp only at hSw); go_simp; all_goals (with_reducible rfl)
          simp only [Act.put, List.setIfInBounds_toArray, List.set_cons_zero, List.set_cons_succ]
          refine wpAnyS_take 3 [4, 7] (v := ?v4) (listed' := #[true, true, true, true, false, false, false, false, false, false, false, false, false, false, false, false, false, false, false]) rfl (by kernel_rfl) (by kernel_rfl) rfl (fun _ _ _ h => h) hS (fun _ hSw => ?hy4) ?rest4
          case hy4 => (try dsimp only at hSw); go_simp; all_goals (with_reducible rfl)
          simp only [Act.put, List.setIfInBounds_toArray, List.set_cons_zero, List.set_cons_succ]
          refine wpAnyS_take 4 [7] (v := ?v5) (listed' := #[true, true, true, true, true, false, false, false, false, false, false, false, false, false, false, false, false, false, false]) rfl (by kernel_rfl) (by kernel_rfl) rfl (fun _ _ _ h => h) hS (fun _ hSw => ?hy5) ?rest5
          case hy5 => (try dsimp only at hSw); go_simp; all_goals (with_reducible rfl)
          simp only [Act.put, List.setIfInBounds_toArray, List.set_cons_zero, List.set_cons_succ]
          refine wpAnyS_take 5 [6, 7] (v := ?v6) (listed' := #[true, true, true, true, true, true, false, false, false, false, false, false, false, false, false, false, false, false, false]) rfl (by kernel_rfl) (by kernel_rfl) rfl (fun _ _ _ h => h) hS (fun _ hSw => ?hy6) ?rest6
          case hy6 => (try dsimp only at hSw); go_simp; all_goals (with_reducible rfl)
          simp only [Act.put, List.setIfInBounds_toArray, List.set_cons_zero, List.set_cons_succ]
          refine wpAnyS_take 6 [7] (v := ?v7) (listed' := #[true, true, true, true, true, true, true, false, false, false, false, false, false, false, false, false, false, false, false]) rfl (by kernel_rfl) (by kernel_rfl) rfl (fun _ _ _ h => h) hS (fun _ hSw => ?hy7) ?rest7
          case hy7 => (try dsimp only at hSw); go_simp; all_goals (with_reducible rfl)
          simp only [Act.put, List.setIfInBounds_toArray, List.set_cons_zero, List.set_cons_succ]
          refine wpAnyS_take 8 [9, 10, 11, 12, 13, 14, 16] (v := ?v8) (listed' := #[true, true, true, true, true, true, true, false, true, false, false, false, false, false, false, false, false, false, false]) rfl (by kernel_rfl) (by kernel_rfl) rfl (fun _ _ _ h => h) hS (fun _ hSw => ?hy8) ?rest8
          case hy8 => (try dsimp only at hSw); go_simp; all_goals (with_reducible rfl)
          simp only [Act.put, List.setIfInBounds_toArray, List.set_cons_zero, List.set_cons_succ]
          refine wpAnyS_take 9 [10, 11, 12, 13, 14, 16] (v := ?v9) (listed' := #[true, true, true, true, true, true, true, false, true, true, false, false, false, false, false, false, false, false, false]) rfl (by kernel_rfl) (by kernel_rfl) rfl (fun _ _ _ h => h) hS (fun _ hSw => ?hy9) ?rest9
          case hy9 => (try dsimp only at hSw); go_simp; all_goals (with_reducible rfl)
          simp only [Act.put, List.setIfInBounds_toArray, List.set_cons_zero, List.set_cons_succ]
          refine wpAnyS_take 10 [11, 12, 13, 14, 16] (v := ?v10) (listed' := #[true, true, true, true, true, true, true, false, true, true, true, false, false, false, false, false, false, false, false]) rfl (by kernel_rfl) (by kernel_rfl) rfl (fun _ _ _ h => h) hS (fun _ hSw => ?hy10) ?rest10
          case hy10 => (try dsimp only at hSw); go_simp; all_goals (with_reducible rfl)
          simp only [Act.put, List.setIfInBounds_toArray, List.set_cons_zero, List.set_cons_succ]
          refine wpAnyS_take 11 [12, 13, 14, 16] (v := ?v11) (listed' := #[true, true, true, true, true, true, true, false, true, true, true, true, false, false, false, false, false, false, false]) rfl (by kernel_rfl) (by kernel_rfl) rfl (fun _ _ _ h => h) hS (fun _ hSw => ?hy11) ?rest11
          case hy11 => (try dsimp only at hSw); go_simp; all_goals (with_reducible rfl)
          simp only [Act.put, List.setIfInBounds_toArray, List.set_cons_zero, List.set_cons_succ]
          refine wpAnyS_take 12 [13, 14, 16] (v := ?v12) (listed' := #[true, true, true, true, true, true, true, false, true, true, true, true, true, false, false, false, false, false, false]) rfl (by kernel_rfl) (by kernel_rfl) rfl (fun _ _ _ h => h) hS (fun _ hSw => ?hy12) ?rest12
          case hy12 => (try dsimp only at hSw); go_simp; all_goals (with_reducible rfl)
          simp only [Act.put, List.setIfInBounds_toArray, List.set_cons_zero, List.set_cons_succ]
          refine wpAnyS_take 13 [14, 16] (v := ?v13) (listed' := #[true, true, true, true, true, true, true, false, true, true, true, true, true, true, false, false, false, false, false]) rfl (by kernel_rfl) (by kernel_rfl) rfl (fun _ _ _ h => h) hS (fun _ hSw => ?hy13) ?rest13
          case hy13 => (try dsimp only at hSw); go_simp; all_goals (with_reducible rfl)
          simp only [Act.put, List.setIfInBounds_toArray, List.set_cons_zero, List.set_cons_succ]
          refine wpAnyS_take 14 [16] (v := ?v14) (listed' := #[true, true, true, true, true, true, true, false, true, true, true, true, true, true, true, false, false, false, false]) rfl (by kernel_rfl) (by kernel_rfl) rfl (fun _ _ _ h => h) hS (fun _ hSw => ?hy14) ?rest14
          case hy14 => (try dsimp only at hSw); go_simp; all_goals (with_reducible rfl)
          simp only [Act.put, List.setIfInBounds_toArray, List.set_cons_zero, List.set_cons_succ]
          refine wpAnyS_take 15 [16] (v := ?v15) (listed' := #[true, true, true, true, true, true, true, false, true, true, true, true, true, true, true, true, false, false, false]) rfl (by kernel_rfl) (by kernel_rfl) rfl (fun _ _ _ h => h) hS (fun _ hSw => ?hy15) ?rest15
          case hy15 => (try dsimp only at hSw); go_simp; all_goals (with_reducible rfl)
          simp only [Act.put, List.setIfInBounds_toArray, List.set_cons_zero, List.set_cons_succ]
          refine wpAnyS_take 16 [] (v := ?v16) (listed' := #[true, true, true, true, true, true, true, false, true, true, true, true, true, true, true, true, true, false, false]) rfl (by kernel_rfl) (by kernel_rfl) rfl (fun _ _ _ h => h) hS (fun _ hSw => ?hy16) ?rest16
          case hy16 => (try dsimp only at hSw); go_simp; all_goals (with_reducible rfl)
          simp only [Act.put, List.setIfInBounds_toArray, List.set_cons_zero, List.set_cons_succ]
          refine wpAnyS_one 7 (listed' := #[true, true, true, true, true, true, true, true, true, true, true, true, true, true, true, true, true, false, false]) rfl (by kernel_rfl) (by kernel_rfl) (fun K hK => ?_)
          refine step_call (by rfl) 113 _ _ (by rfl) enters_part _ (by rfl) (HPa.out _ ((Kp.refl _ _).drew)) ?_
          rintro e w3 ⟨⟨pb, dv', rfl, hpb, hrp, hdv', hrd3⟩, k3⟩
          have k23 : Kp (one I.rb) w2 w3 := Kp.trans ((Kp.refl (one I.rb) w2).drew) k3
          refine ⟨_, rfl, hK _ _ (HSk.out _ k23) (fun hS => ?_)⟩
          clear hK K
          simp only [Act.put, List.setIfInBounds_toArray, List.set_cons_zero, List.set_cons_succ]
          have hRB3 := HR2.out.kp (ro := I.lo) (w' := w3) (k23.mono (fun b _ (e : b = I.rb) (h : I.lo b) => by have := H'.out.low b h; rw [e, H'.out.r1] at this; cases this))
          have hty1 : ∀ x ∈ l ++ s.fns.drop k, x.typ.1.length ≤ 8 ∧ x.typ.2.length ≤ 1 := fun x hx => by
            have : x.typ ∈ (l ++ s.fns.drop k).map (·.typ) := List.mem_map_of_mem hx
            rw [HTy.out] at this
            obtain ⟨y, hy, e⟩ := List.mem_map.1 this
            rw [← e]
            exact HT.out y hy
          have hgd : ((l ++ s.fns.drop k).getD k ⟨([], []), 0, 0⟩).typ = (s.fns.getD k ⟨([], []), 0, 0⟩).typ := by
            rw [List.getD_eq_getElem?_getD, List.getElem?_append_right (by omega), List.getElem?_drop, hlk, Nat.sub_self, Nat.add_zero, List.getD_eq_getElem?_getD]
          have hrb := readBody_any (n := k) H'.out k23 hrd3 hpb hrp hdv' (by show k < (l ++ s.fns.drop k).length; rw [HLen.out]; exact hkn) hRB3 (by show (l ++ s.fns.drop k).length ≤ 16; rw [HLen.out]; exact nf) ng hty1 (by show c.length ≤ 18 * j1; omega)
          simp only at hrb
          rw [HTy.out, hgd] at hrb
          have hPl : (I.D.take (j1 + size)).length = j1 + size := by rw [List.length_take]; omega
          rw [hPl] at hrb
          have hL := HL1.out
          have HK3 := hide (HK2.out.trans (k23.mono (fun b _ (e : b = I.rb) h => by have := H'.out.low b h; rw [e, H'.out.r1] at this; cases this)))
          have hszr3 := Nat.le_trans hszr2 k23.size
          have hpt := fun f c' => part_typ (P := I.D.take (j1 + size)) (ts := s.fns.map (·.typ)) (gl := s.gl) (typ := (s.fns.getD k ⟨([], []), 0, 0⟩).typ) (code := c) (i := j1) (f := f) (c := c')
          generalize partM (I.D.take (j1 + size)) (s.fns.map (·.typ)) s.gl (s.fns.getD k ⟨([], []), 0, 0⟩).typ c j1 = Q2 at *
          have HRb := hide hrb
          have HL2 := hide hL
          clear hrb hL hRB3 hty1 hgd hrp hdv' hrd3 k3 k23 hPl

          match Q2, HL2, HRb, hpt with
          | .error e, HL2, HRb, _ =>
            refine wpAnyS_end 17 (listed' := #[true, true, true, true, true, true, true, true, true, true, true, true, true, true, true, true, true, true, false]) rfl (by kernel_rfl) (by kernel_rfl) (by kernel_rfl) (fun K hK => ?_)
            refine step_call (by rfl) 112 _ _ (by rfl) enters_readBody _ (by rfl) HRb.out ?_
            rintro e w4 ⟨⟨fv, rfl, fb, rfl, hfb, hfo⟩, k4⟩
            refine ⟨_, rfl, hK _ _ ?_⟩
            clear hK K
            simp only [Act.put, List.setIfInBounds_toArray, List.set_cons_zero, List.set_cons_succ]
            refine wpAnyS_end 18 (listed' := #[true, true, true, true, true, true, true, true, true, true, true, true, true, true, true, true, true, true, true]) rfl (by kernel_rfl) (by kernel_rfl) (by kernel_rfl) (fun K hK => ?_)
            go_simp
            refine hK _ _ ?_
            clear hK K
            refine wpAnyS_done (by kernel_rfl) ?_ _
            have HF := hide hfo
            have hfb' : w.heap.size ≤ fb := Nat.le_trans hszr3 hfb
            have HK4 := hide (HK3.out.trans k4)
            clear hfo k4 hS hfb
            go_wp2
            go_ret
            rw [HM.out]
            show LDone _ _ _ (match bodiesM I.D (s.fns.map (·.typ)) s.gl (s.fns.map (·.typ)) s.code s.i with | .error e => .error e | .ok ((fs, c), k) => .ok { s with fns := fs, code := c, i := k }) _ ∧ _
            rw [HL2.out]
            exact ⟨⟨ptrTo fb, rfl, fb, rfl, hfb', HF.out⟩, HK4.out⟩
          | .ok (f, c'), HL2, HRb, hpt =>
            have HPt := hide (hpt f c' rfl)
            clear hpt

            refine wpAnyS_end 17 (listed' := #[true, true, true, true, true, true, true, true, true, true, true, true, true, true, true, true, true, true, false]) rfl (by kernel_rfl) (by kernel_rfl) (by kernel_rfl) (fun K hK => ?_)
            refine step_call (by rfl) 112 _ _ (by rfl) enters_readBody _ (by rfl) HRb.out ?_
            rintro e w4 ⟨⟨rfl, h4, hc4⟩, k4⟩
            refine ⟨_, rfl, hK _ _ ?_⟩
            clear hK K
            simp only [Act.put, List.setIfInBounds_toArray, List.set_cons_zero, List.set_cons_succ]
            refine wpAnyS_end 18 (listed' := #[true, true, true, true, true, true, true, true, true, true, true, true, true, true, true, true, true, true, true]) rfl (by kernel_rfl) (by kernel_rfl) (by kernel_rfl) (fun K hK => ?_)
            go_simp
            refine hK _ _ ?_
            clear hK K
            refine wpAnyS_done (by kernel_rfl) ?_ _
            have HK4 := hide (HK3.out.trans k4)
            have H4 := hide h4
            clear h4 k4 hS
            go_wp2
            go_roundw
            case rel =>
              have e1 : (l ++ s.fns.drop k).set k f = (l ++ [f]) ++ s.fns.drop (k + 1) := by
                rw [List.set_append_right _ _ (by omega), hlk, Nat.sub_self, List.drop_eq_getElem_cons hkn, List.set_cons_zero, List.append_assoc]; rfl
              have h8 := H4.out
              rw [e1] at h8
              refine ⟨k + 1, j1 + size, l ++ [f], c', by omega, by go_num, by simp [hlk], h8, ?_, by omega, HK4.out, ?_⟩
              · rw [← e1, List.map_set, HTy.out, HPt.out]
                have : (s.fns.getD k ⟨([], []), 0, 0⟩).typ = (s.fns.map (·.typ))[k]'(by simpa using hkn) := by
                  rw [List.getD_eq_getElem?_getD, List.getElem?_eq_getElem hkn]; simp
                rw [this]
                exact List.set_getElem_self _
              · rw [HL2.out]
            case measure => simp [intOf]; omega
    · obtain rfl : k = s.fns.length := by omega
      rw [List.drop_eq_nil_of_le (by simp), bodiesM, preB, List.append_nil] at hlab
      have HL := hide hlab
      clear hlab hst hkp hty
      go_wp2
      go_ret
      rw [HM.out]
      show LDone _ _ _ (match bodiesM I.D (s.fns.map (·.typ)) s.gl (s.fns.map (·.typ)) s.code s.i with | .error e => .error e | .ok ((fs, c), k) => .ok { s with fns := fs, code := c, i := k }) _ ∧ _
      rw [HL.out]
      have hs := HS.out
      rw [List.drop_length, List.append_nil] at hs
      exact ⟨⟨rfl, hs⟩, HK.out⟩
end

end Go.Proofs.YtdeplgkhmebalaaGreatDoor

namespace Go.Proofs.YtdeplgkhmebalaaGreatDoor
open Go.RowKit

def stage (I : LIds) (k : Nat) (s : Lkr) : Except (Int × Int) Lkr :=
  match k with
  | 0 => magicL I s
  | 1 => typesL I s
  | 2 => funcsL I s
  | 3 => globsL I s
  | 4 => pagesM I s
  | 5 => bodiesL I s
  | _ => if s.i < I.D.length then .error (2, s.i) else .ok s
def stg (I : LIds) : Nat → Lkr → Except (Int × Int) Lkr
  | 0, s => .ok s
  | n + 1, s => match stage I (6 - n) s with
    | .error e => .error e
    | .ok s' => stg I n s'

structure Inv (k : Nat) (s : Lkr) : Prop where
  t0 : k ≤ 1 → s.types = []
  f0 : k ≤ 2 → s.fns = []
  g0 : k ≤ 3 → s.gl = [] ∧ s.vals = []
  c0 : k ≤ 5 → s.code = []
  tn : s.types.length ≤ 16
  tl : ∀ x ∈ s.types, x.1.length ≤ 8 ∧ x.2.length ≤ 1
  fl : ∀ x ∈ s.fns, x.typ.1.length ≤ 8 ∧ x.typ.2.length ≤ 1
  fn : k ≤ 5 → s.fns.length ≤ 16
  gn : s.gl.length ≤ 8

theorem manyM_all {α : Type} {one : Nat → Rd α} {p : α → Prop} (h1 : ∀ i x j, one i = .ok (x, j) → p x) : ∀ (n i : Nat) (l : List α) (j : Nat), manyM one n i = .ok (l, j) → l.length = n ∧ ∀ x ∈ l, p x
  | 0, i, l, j, h => by cases h; exact ⟨rfl, fun x hx => by cases hx⟩
  | n + 1, i, l, j, h => by
    rw [manyM] at h
    split at h
    · cases h
    · rename_i hx
      split at h
      · cases h
      · rename_i hl
        cases h
        obtain ⟨a, b⟩ := manyM_all h1 n _ _ _ hl
        refine ⟨by simp [a], fun y hy => ?_⟩
        rcases List.mem_cons.1 hy with rfl | hy
        · exact h1 _ _ _ hx
        · exact b y hy
theorem typeM_ok {D : List UInt8} (i : Nat) (x : Ty) (j : Nat) (h : typeM D i = .ok (x, j)) : x.1.length ≤ 8 ∧ x.2.length ≤ 1 := by
  unfold typeM at h
  split at h
  · cases h
  · rename_i hp
    split at h
    · cases h
    · rename_i hr
      cases h
      exact ⟨list_len hp, list_len hr⟩

theorem Inv.step {I : LIds} {k : Nat} {s s' : Lkr} (h : Inv k s) (hk : k ≤ 4) (hs : stage I k s = .ok s') : Inv (k + 1) s' := by
  match k, h, hk, hs with
  | 0, h, _, hs =>
    simp only [stage, magicL] at hs
    split at hs
    · cases hs
    · cases hs
      exact ⟨fun _ => h.t0 (by decide), fun _ => h.f0 (by decide), fun _ => h.g0 (by decide), fun _ => h.c0 (by decide), h.tn, h.tl, h.fl, fun _ => h.fn (by decide), h.gn⟩
  | 1, h, _, hs =>
    simp only [stage, typesL] at hs
    split at hs
    · cases hs
    · rename_i n j hb
      split at hs
      · cases hs
      · rename_i l k hl
        cases hs
        have hn := (below_lt hb).1
        obtain ⟨a, b⟩ := manyM_all typeM_ok n _ _ _ hl
        have e := h.t0 (by decide)
        refine ⟨fun h => by omega, fun _ => h.f0 (by decide), fun _ => h.g0 (by decide), fun _ => h.c0 (by decide), ?_, ?_, h.fl, fun _ => h.fn (by decide), h.gn⟩
        · simp [e, a]; omega
        · intro x hx; simp [e] at hx; exact b x hx
  | 2, h, _, hs =>
    simp only [stage, funcsL] at hs
    split at hs
    · cases hs
    · rename_i n j hb
      split at hs
      · cases hs
      · rename_i l k hl
        cases hs
        have hn := (below_lt hb).1
        obtain ⟨a, b⟩ := manyM_all (p := fun x : Ty => x.1.length ≤ 8 ∧ x.2.length ≤ 1) (fun i x j hx => by
          unfold fnOne at hx
          split at hx
          · cases hx
          · rename_i q j' hq
            cases hx
            have hlt := (below_lt hq).1
            have hm : s.types.getD q ([], []) ∈ s.types := by
              rw [List.getD_eq_getElem?_getD, List.getElem?_eq_getElem (by omega)]; exact List.getElem_mem _
            exact h.tl _ hm) n _ _ _ hl
        have e := h.f0 (by decide)
        refine ⟨fun h => by omega, fun h => by omega, fun _ => h.g0 (by decide), fun _ => h.c0 (by decide), h.tn, h.tl, ?_, fun _ => ?_, h.gn⟩
        · intro x hx
          simp [e] at hx
          obtain ⟨y1, y2, hy, rfl⟩ := hx
          exact b _ hy
        · simp [e, a]; omega
  | 3, h, _, hs =>
    simp only [stage, globsL] at hs
    split at hs
    · cases hs
    · rename_i n j hb
      split at hs
      · cases hs
      · rename_i l k hl
        cases hs
        have hn := (below_lt hb).1
        obtain ⟨a, b⟩ := manyM_all (p := fun _ => True) (fun _ _ _ _ => trivial) n _ _ _ hl
        have e := h.g0 (by decide)
        refine ⟨fun h => by omega, fun h => by omega, fun h => by omega, fun _ => h.c0 (by decide), h.tn, h.tl, h.fl, fun _ => h.fn (by decide), ?_⟩
        simp [e.1, a]; omega
  | 4, h, _, hs =>
    simp only [stage, pagesM] at hs
    split at hs
    · cases hs
    · cases hs
      exact ⟨fun h => by omega, fun h => by omega, fun h => by omega, fun _ => h.c0 (by decide), h.tn, h.tl, h.fl, fun _ => h.fn (by decide), h.gn⟩

def lk0 : Lkr := ⟨0, [], [], [], [], 0, []⟩
theorem Inv.zero : Inv 0 lk0 := ⟨fun _ => rfl, fun _ => rfl, fun _ => ⟨rfl, rfl⟩, fun _ => rfl, by simp [lk0], fun x hx => by simp [lk0] at hx, fun x hx => by simp [lk0] at hx, fun _ => by simp [lk0], by simp [lk0]⟩

theorem funcsM_eq (D : List UInt8) (ts : List Ty) (i : Nat) : funcsM D ts i = (match belowM D 17 i with | .error e => .error e | .ok (n, j) => manyM (fnOne D ts) n j) := rfl
theorem load_eq (I : LIds) (hD : I.D.length ≤ 2000) : loadM I.D = (match stg I 7 lk0 with | .error e => .error e | .ok s => .ok ⟨s.fns, s.vals, s.pages, s.code⟩) := by
  unfold loadM
  rw [if_neg (by omega)]
  simp only [stg, stage, magicL, lk0]
  cases magicM I.D 0 with
  | error e => rfl
  | ok x1 =>
    obtain ⟨u, i1⟩ := x1
    simp only [typesL, typesM]
    cases belowM I.D 17 i1 with
    | error e => rfl
    | ok x2 =>
      obtain ⟨n2, j2⟩ := x2
      simp only
      cases manyM (typeM I.D) n2 j2 with
      | error e => rfl
      | ok x3 =>
        obtain ⟨ts, i3⟩ := x3
        simp only [funcsL, funcsM_eq, List.nil_append]
        cases belowM I.D 17 i3 with
        | error e => rfl
        | ok x4 =>
          obtain ⟨n4, j4⟩ := x4
          simp only
          cases manyM (fnOne I.D ts) n4 j4 with
          | error e => rfl
          | ok x5 =>
            obtain ⟨fs, i5⟩ := x5
            simp only [globsL, globsM, List.nil_append]
            cases belowM I.D 9 i5 with
            | error e => rfl
            | ok x6 =>
              obtain ⟨n6, j6⟩ := x6
              simp only
              cases manyM (globM I.D) n6 j6 with
              | error e => rfl
              | ok x7 =>
                obtain ⟨gs, i7⟩ := x7
                simp only [pagesM]
                cases belowM I.D 5 i7 with
                | error e => rfl
                | ok x8 =>
                  obtain ⟨pages, i8⟩ := x8
                  simp only [bodiesL, List.map_map]
                  have e : (fs.map ((fun x : FnM => x.typ) ∘ fun t => ⟨t, 0, 0⟩)) = fs := by
                    rw [show ((fun x : FnM => x.typ) ∘ fun t => ⟨t, 0, 0⟩) = id from rfl, List.map_id]
                  rw [e]
                  cases bodiesM I.D fs (gs.map (·.1)) fs [] i8 with
                  | error e => rfl
                  | ok x9 =>
                    obtain ⟨⟨fns, code⟩, i9⟩ := x9
                    simp only
                    by_cases hlt : i9 < I.D.length
                    · simp [hlt]
                    · simp [hlt]

end Go.Proofs.YtdeplgkhmebalaaGreatDoor

namespace Go.Proofs.YtdeplgkhmebalaaGreatDoor
open Go.RowKit
open Go.Maps (Keyed)

/-- A run's state. -/
structure Mc where
  stack : List Int
  calls : List (Nat × Nat × Nat)
  pos : Nat
  fuel : Nat
  mem : List UInt8
  gl : List Int
  keys : List (Int × Int)

def callCells (c : Nat × Nat × Nat) : List Value := [.int .i64 c.1, .int .i64 c.2.1, .int .i64 c.2.2]
theorem callLen (c : Nat × Nat × Nat) : (callCells c).length = 3 := rfl

def ins0 : Ins := ⟨0, 0, 0, 0, 0⟩
def fn0 : FnM := ⟨([], []), 0, 0⟩

def FuncsAt (w : World) (ro : Nat → Prop) (v : Value) (fs : List FnM) : Prop :=
  ∃ ad cap, v = .slice ad fs.length cap ∧ fs.length ≤ cap ∧ ∀ k, k < fs.length → ∃ a o pv rv, ad = some ⟨a, o, none⟩ ∧ ro a ∧ w.cell? ⟨a, o + k * 4, none⟩ = some pv ∧ w.cell? ⟨a, o + k * 4 + 1, none⟩ = some rv ∧
    w.cell? ⟨a, o + k * 4 + 2, none⟩ = some (.int .i64 (fs.getD k fn0).locals) ∧ w.cell? ⟨a, o + k * 4 + 3, none⟩ = some (.int .i64 (fs.getD k fn0).entry) ∧
    BytesAt w pv (fs.getD k fn0).typ.1 ∧ RoV ro pv ∧ BytesAt w rv (fs.getD k fn0).typ.2 ∧ RoV ro rv
def CodeAt (w : World) (ro : Nat → Prop) (v : Value) (cs : List Ins) : Prop :=
  ∃ ad cap, v = .slice ad cs.length cap ∧ cs.length ≤ cap ∧ ∀ k, k < cs.length → ∃ a o, ad = some ⟨a, o, none⟩ ∧ ro a ∧ w.cell? ⟨a, o + k * 5, none⟩ = some (.int .u8 (cs.getD k ins0).op.toNat) ∧ w.cell? ⟨a, o + k * 5 + 1, none⟩ = some (.int .u64 (cs.getD k ins0).num) ∧
    w.cell? ⟨a, o + k * 5 + 2, none⟩ = some (.int .i64 (cs.getD k ins0).goal) ∧ w.cell? ⟨a, o + k * 5 + 3, none⟩ = some (.int .i64 (cs.getD k ins0).height) ∧ w.cell? ⟨a, o + k * 5 + 4, none⟩ = some (.int .i64 (cs.getD k ins0).keep)
def valCells (l : List Int) : List Value := l.map fun n => .int .u64 n
def ValsAt (w : World) (v : Value) (l : List Int) : Prop := RowAt w v 1 l.length (valCells l)

structure ModG (w : World) (ro : Nat → Prop) (fb : Nat) (t : TypeId) (f : Flat) (fv gv cv : Value) : Prop where
  blk : w.heap[fb]? = some (.cells #[fv, gv, .int .i64 f.pages, cv] t)
  own : ro fb
  funcs : FuncsAt w ro fv f.funcs
  vals : ValsAt w gv (f.globals.map fun (n : Nat) => ((n : Nat) : Int))
  valsR : RoV ro gv
  code : CodeAt w ro cv f.code
/-- A module, looked at, in memory that is only read. -/
def ModAt (w : World) (ro : Nat → Prop) (fb : Nat) (t : TypeId) (f : Flat) : Prop := ∃ fv gv cv, ModG w ro fb t f fv gv cv

theorem RowAt.ro {ro : Nat → Prop} {w w' : World} {v : Value} {sz n : Nat} {xs : List Value} (h : RowAt w v sz n xs) (hr : RoV ro v) (k : Kp (nro ro) w w') : RowAt w' v sz n xs := h.kp k (fun b hb hn => hn (hr b hb))
theorem FuncsAt.kp {ro : Nat → Prop} {w w' : World} {v : Value} {fs : List FnM} (h : FuncsAt w ro v fs) (k : Kp (nro ro) w w') : FuncsAt w' ro v fs := by
  obtain ⟨ad, cap, hv, hc, hk⟩ := h
  refine ⟨ad, cap, hv, hc, fun j hj => ?_⟩
  obtain ⟨a, o, pv, rv, had, hro, h1, h2, h3, h4, h5, h6, h7, h8⟩ := hk j hj
  exact ⟨a, o, pv, rv, had, hro, k.cell h1 (fun hn => hn hro), k.cell h2 (fun hn => hn hro), k.cell h3 (fun hn => hn hro), k.cell h4 (fun hn => hn hro), h5.ro h6 k, h6, h7.ro h8 k, h8⟩
theorem CodeAt.kp {ro : Nat → Prop} {w w' : World} {v : Value} {cs : List Ins} (h : CodeAt w ro v cs) (k : Kp (nro ro) w w') : CodeAt w' ro v cs := by
  obtain ⟨ad, cap, hv, hc, hk⟩ := h
  refine ⟨ad, cap, hv, hc, fun j hj => ?_⟩
  obtain ⟨a, o, had, hro, h1, h2, h3, h4, h5⟩ := hk j hj
  exact ⟨a, o, had, hro, k.cell h1 (fun hn => hn hro), k.cell h2 (fun hn => hn hro), k.cell h3 (fun hn => hn hro), k.cell h4 (fun hn => hn hro), k.cell h5 (fun hn => hn hro)⟩
theorem ModG.kp {ro : Nat → Prop} {w w' : World} {fb : Nat} {t : TypeId} {f : Flat} {fv gv cv : Value} (h : ModG w ro fb t f fv gv cv) (k : Kp (nro ro) w w') : ModG w' ro fb t f fv gv cv :=
  ⟨k.blk h.blk (fun hn => hn h.own), h.own, h.funcs.kp k, RowAt.ro h.vals h.valsR k, h.valsR, h.code.kp k⟩
theorem ModAt.kp {ro : Nat → Prop} {w w' : World} {fb : Nat} {t : TypeId} {f : Flat} (h : ModAt w ro fb t f) (k : Kp (nro ro) w w') : ModAt w' ro fb t f := by
  obtain ⟨fv, gv, cv, h⟩ := h
  exact ⟨fv, gv, cv, h.kp k⟩

/-! ### keys -/
theorem keyed64 : Keyed Tryz.prog 2 := Maps.int_keyed Tryz.underlying2
def look (m : List (Int × Int)) (k : Int) : Option Int := (m.find? fun p => p.1 == k).map (·.2)
def KRep (D : DataW Unit) (m : List (Int × Int)) : Prop :=
  Maps.size D = m.length ∧ ∀ k, Maps.has D (.int .i64 k) = (look m k).isSome ∧ D.atKey (.int .i64 k) (.lit (.int .i64 0)) = .lit (.int .i64 ((look m k).getD 0))
def KeysAt (w : World) (b : Nat) (m : List (Int × Int)) : Prop := ∃ D n, w.ownsMap Tryz.prog 2 (plainElem Tryz.prog 2) b n D ∧ n ≤ 1000 ∧ KRep D m
theorem KeysAt.kp {S : Nat → Prop} {w w' : World} {b : Nat} {m : List (Int × Int)} (h : KeysAt w b m) (k : Kp S w w') (hs : ¬ S b) : KeysAt w' b m := by
  obtain ⟨D, n, ⟨es, clock, hb, F, hn, hD⟩, h2⟩ := h
  exact ⟨D, n, ⟨es, clock, k.blk hb hs, F, hn, hD⟩, h2⟩
theorem KeysAt.lt {w : World} {b : Nat} {m : List (Int × Int)} (h : KeysAt w b m) : b < w.heap.size := by
  obtain ⟨D, n, h1, h2⟩ := h
  exact h1.lt

/-! ### the state -/
structure MEnv where
  B : Nat
  lo : Nat → Prop
  mb : Nat
  sb : Nat
  kb : Nat
  fb : Nat
  ft : TypeId
  f : Flat
  ro : Nat → Prop

abbrev machObj (E : MEnv) (s : Mc) (sv cv : Value) : Obj := .cells #[ptrTo E.fb, ptrTo E.sb, sv, cv, .int .i64 s.pos, .int .i64 s.fuel] 172
abbrev stObj (E : MEnv) (mv gv : Value) : Obj := .cells #[mv, gv, .map (some E.kb)] 125
def byteCells' (l : List UInt8) : List Value := l.map fun c => .int .u8 c.toNat

structure MStG (E : MEnv) (w : World) (s : Mc) (role : Nat → Nat) (sv cv mv gv : Value) : Prop where
  base : E.B ≤ w.heap.size
  mod : ModAt w E.ro E.fb E.ft E.f
  mach : w.heap[E.mb]? = some (machObj E s sv cv)
  st : w.heap[E.sb]? = some (stObj E mv gv)
  stack : w.ownsRow E.B 38 1 sv s.stack.length (valCells s.stack)
  calls : w.ownsRow E.B 210 3 cv s.calls.length (s.calls.flatMap callCells)
  mem : w.ownsRow E.B 5 1 mv s.mem.length (byteCells' s.mem)
  gl : w.ownsRow E.B 38 1 gv s.gl.length (valCells s.gl)
  keys : KeysAt w E.kb s.keys
  r1 : role E.mb = 1
  r2 : role E.sb = 2
  r3 : ∀ b, sv.ownBlock = some b → role b = 3
  r4 : ∀ b, cv.ownBlock = some b → role b = 4
  r5 : ∀ b, mv.ownBlock = some b → role b = 5
  r6 : ∀ b, gv.ownBlock = some b → role b = 6
  r7 : role E.kb = 7
  low : ∀ b, E.lo b → role b = 0
  loS : ∀ b, E.lo b → b < w.heap.size
  roB : ∀ b, E.ro b → E.lo b

abbrev upm (E : MEnv) : Nat → Prop := fun b => ¬ E.lo b
def MSt (E : MEnv) (w : World) (s : Mc) : Prop := ∃ role sv cv mv gv, MStG E w s role sv cv mv gv

section
variable {E : MEnv} {w w' : World} {s : Mc} {role : Nat → Nat} {sv cv mv gv : Value} {X : Nat → Prop}
theorem MStG.up (h : MStG E w s role sv cv mv gv) (k : Kp (fun b => X (role b)) w w') (h0 : ¬ X 0) : Kp (upm E) w w' := k.mono (fun b _ hx hlt => h0 (by rw [← h.low b hlt]; exact hx))
theorem MStG.kMod (h : MStG E w s role sv cv mv gv) (k : Kp (fun b => X (role b)) w w') (h0 : ¬ X 0) : ModAt w' E.ro E.fb E.ft E.f := h.mod.kp (k.mono (fun b _ hx hr => h0 (by rw [← h.low b (h.roB b hr)]; exact hx)))
theorem MStG.kMach (h : MStG E w s role sv cv mv gv) (k : Kp (fun b => X (role b)) w w') (h1 : ¬ X 1) : w'.heap[E.mb]? = some (machObj E s sv cv) := k.blk h.mach (fun hx => h1 (by rw [← h.r1]; exact hx))
theorem MStG.kSt (h : MStG E w s role sv cv mv gv) (k : Kp (fun b => X (role b)) w w') (h1 : ¬ X 2) : w'.heap[E.sb]? = some (stObj E mv gv) := k.blk h.st (fun hx => h1 (by rw [← h.r2]; exact hx))
theorem MStG.kStack (h : MStG E w s role sv cv mv gv) (k : Kp (fun b => X (role b)) w w') (h1 : ¬ X 3) : w'.ownsRow E.B 38 1 sv s.stack.length (valCells s.stack) := k.own h.stack (fun b hb hx => h1 (by rw [← h.r3 b hb]; exact hx))
theorem MStG.kCalls (h : MStG E w s role sv cv mv gv) (k : Kp (fun b => X (role b)) w w') (h1 : ¬ X 4) : w'.ownsRow E.B 210 3 cv s.calls.length (s.calls.flatMap callCells) := k.own h.calls (fun b hb hx => h1 (by rw [← h.r4 b hb]; exact hx))
theorem MStG.kMem (h : MStG E w s role sv cv mv gv) (k : Kp (fun b => X (role b)) w w') (h1 : ¬ X 5) : w'.ownsRow E.B 5 1 mv s.mem.length (byteCells' s.mem) := k.own h.mem (fun b hb hx => h1 (by rw [← h.r5 b hb]; exact hx))
theorem MStG.kGl (h : MStG E w s role sv cv mv gv) (k : Kp (fun b => X (role b)) w w') (h1 : ¬ X 6) : w'.ownsRow E.B 38 1 gv s.gl.length (valCells s.gl) := k.own h.gl (fun b hb hx => h1 (by rw [← h.r6 b hb]; exact hx))
theorem MStG.kKeys (h : MStG E w s role sv cv mv gv) (k : Kp (fun b => X (role b)) w w') (h1 : ¬ X 7) : KeysAt w' E.kb s.keys := h.keys.kp k (fun hx => h1 (by rw [← h.r7]; exact hx))
theorem MStG.rerole (h : MStG E w s role sv cv mv gv) {role' : Nat → Nat} (hr : ∀ k, k < w.heap.size → role' k = role k) : MStG E w s role' sv cv mv gv :=
  ⟨h.base, h.mod, h.mach, h.st, h.stack, h.calls, h.mem, h.gl, h.keys, (hr _ (lt_of_blk h.mach)).trans h.r1, (hr _ (lt_of_blk h.st)).trans h.r2,
    fun b hb => (hr b (own_lt h.stack hb)).trans (h.r3 b hb), fun b hb => (hr b (own_lt h.calls hb)).trans (h.r4 b hb), fun b hb => (hr b (own_lt h.mem hb)).trans (h.r5 b hb), fun b hb => (hr b (own_lt h.gl hb)).trans (h.r6 b hb),
    (hr _ h.keys.lt).trans h.r7, fun b hb => (hr b (h.loS b hb)).trans (h.low b hb), h.loS, h.roB⟩
theorem MStG.renew (h : MStG E w s role sv cv mv gv) (z : Nat) : MStG E w s (newRole role w.heap.size z) sv cv mv gv := h.rerole (fun _ hk => newRole_old hk)

theorem MStG.quiet (h : MStG E w s role sv cv mv gv) (k : Kp no w w') : MStG E w' s role sv cv mv gv := by
  have k' : Kp (fun b => (fun _ => False) (role b)) w w' := k
  exact ⟨Nat.le_trans h.base k.size, h.kMod (X := fun _ => False) k' (fun h => h), (h.kMach (X := fun _ => False) k' (fun h => h) :), (h.kSt (X := fun _ => False) k' (fun h => h) :), (h.kStack (X := fun _ => False) k' (fun h => h) :), (h.kCalls (X := fun _ => False) k' (fun h => h) :), (h.kMem (X := fun _ => False) k' (fun h => h) :), (h.kGl (X := fun _ => False) k' (fun h => h) :), (h.kKeys (X := fun _ => False) k' (fun h => h) :),
    h.r1, h.r2, h.r3, h.r4, h.r5, h.r6, h.r7, h.low, fun b hb => Nat.lt_of_lt_of_le (h.loS b hb) k.size, h.roB⟩
/-- The machine's own block, its stack, its calls. -/
theorem MStG.setMach (h : MStG E w s role sv cv mv gv) {s' : Mc} {sv' cv' : Value} (k : Kp (fun b => (fun r => r = 1 ∨ r = 3 ∨ r = 4) (role b)) w w') (e1 : s'.mem = s.mem) (e2 : s'.gl = s.gl) (e3 : s'.keys = s.keys)
    (hm : w'.heap[E.mb]? = some (machObj E s' sv' cv')) (hs : w'.ownsRow E.B 38 1 sv' s'.stack.length (valCells s'.stack)) (hc : w'.ownsRow E.B 210 3 cv' s'.calls.length (s'.calls.flatMap callCells))
    (h3 : ∀ b, sv'.ownBlock = some b → role b = 3) (h4 : ∀ b, cv'.ownBlock = some b → role b = 4) : MStG E w' s' role sv' cv' mv gv :=
  ⟨Nat.le_trans h.base k.size, h.kMod (X := fun r => r = 1 ∨ r = 3 ∨ r = 4) k (by decide), hm, (h.kSt (X := fun r => r = 1 ∨ r = 3 ∨ r = 4) k (by decide) :), hs, hc, by rw [e1]; exact h.kMem (X := fun r => r = 1 ∨ r = 3 ∨ r = 4) k (by decide), by rw [e2]; exact h.kGl (X := fun r => r = 1 ∨ r = 3 ∨ r = 4) k (by decide), by rw [e3]; exact h.kKeys (X := fun r => r = 1 ∨ r = 3 ∨ r = 4) k (by decide),
    h.r1, h.r2, h3, h4, h.r5, h.r6, h.r7, h.low, fun b hb => Nat.lt_of_lt_of_le (h.loS b hb) k.size, h.roB⟩
/-- What the code may change. -/
theorem MStG.setSt (h : MStG E w s role sv cv mv gv) {s' : Mc} {mv' gv' : Value} (k : Kp (fun b => (fun r => r = 2 ∨ r = 5 ∨ r = 6 ∨ r = 7) (role b)) w w') (e1 : s'.stack = s.stack) (e2 : s'.calls = s.calls) (e3 : s'.pos = s.pos) (e4 : s'.fuel = s.fuel)
    (hm : w'.heap[E.sb]? = some (stObj E mv' gv')) (hs : w'.ownsRow E.B 5 1 mv' s'.mem.length (byteCells' s'.mem)) (hc : w'.ownsRow E.B 38 1 gv' s'.gl.length (valCells s'.gl)) (hk : KeysAt w' E.kb s'.keys)
    (h5 : ∀ b, mv'.ownBlock = some b → role b = 5) (h6 : ∀ b, gv'.ownBlock = some b → role b = 6) : MStG E w' s' role sv cv mv' gv' := by
  obtain ⟨st, ca, p, fu, me, gl, ke⟩ := s'
  obtain ⟨st', ca', p', fu', me', gl', ke'⟩ := s
  simp only at e1 e2 e3 e4
  subst e1 e2 e3 e4
  exact ⟨Nat.le_trans h.base k.size, h.kMod (X := fun r => r = 2 ∨ r = 5 ∨ r = 6 ∨ r = 7) k (by decide), (h.kMach (X := fun r => r = 2 ∨ r = 5 ∨ r = 6 ∨ r = 7) k (by decide) :), hm, (h.kStack (X := fun r => r = 2 ∨ r = 5 ∨ r = 6 ∨ r = 7) k (by decide) :), (h.kCalls (X := fun r => r = 2 ∨ r = 5 ∨ r = 6 ∨ r = 7) k (by decide) :), hs, hc, hk,
    h.r1, h.r2, h.r3, h.r4, h5, h6, h.r7, h.low, fun b hb => Nat.lt_of_lt_of_le (h.loS b hb) k.size, h.roB⟩
end

section
variable {E : MEnv} {w w' : World} {s : Mc}
theorem MSt.quiet (h : MSt E w s) (k : Kp no w w') : MSt E w' s := by
  obtain ⟨role, sv, cv, mv, gv, h⟩ := h
  exact ⟨role, sv, cv, mv, gv, h.quiet k⟩
def MEnv.plus (E : MEnv) (P : Nat → Prop) : MEnv := { E with lo := fun b => E.lo b ∨ P b }
/-- New blocks that are to be left alone. -/
theorem MSt.guard (h : MSt E w s) (k : Kp no w w') (P : Nat → Prop) (hP : ∀ b, P b → w.heap.size ≤ b ∧ b < w'.heap.size) : MSt (E.plus P) w' s := by
  obtain ⟨role, sv, cv, mv, gv, h⟩ := h
  have h2 := (h.renew 0).quiet k
  exact ⟨_, sv, cv, mv, gv, h2.base, h2.mod, h2.mach, h2.st, h2.stack, h2.calls, h2.mem, h2.gl, h2.keys, h2.r1, h2.r2, h2.r3, h2.r4, h2.r5, h2.r6, h2.r7,
    fun b hb => hb.elim (h2.low b) (fun hb => newRole_new (hP b hb).1), fun b hb => hb.elim (h2.loS b) (fun hb => (hP b hb).2), fun b hb => .inl (h2.roB b hb)⟩
theorem MSt.free {P : Nat → Prop} (h : MSt (E.plus P) w s) (hro : ∀ b, E.ro b → E.lo b) : MSt E w s := by
  obtain ⟨role, sv, cv, mv, gv, h⟩ := h
  exact ⟨role, sv, cv, mv, gv, h.base, h.mod, h.mach, h.st, h.stack, h.calls, h.mem, h.gl, h.keys, h.r1, h.r2, h.r3, h.r4, h.r5, h.r6, h.r7, fun b hb => h.low b (.inl hb), fun b hb => h.loS b (.inl hb), hro⟩
theorem MSt.roLo (h : MSt E w s) : ∀ b, E.ro b → E.lo b := by
  obtain ⟨role, sv, cv, mv, gv, h⟩ := h
  exact h.roB
theorem upm_plus {P : Nat → Prop} (k : Kp (upm (E.plus P)) w w') : Kp (upm E) w w' := k.mono (fun _b _ h hb => h (.inl hb))
theorem MSt.base (h : MSt E w s) : E.B ≤ w.heap.size := by
  obtain ⟨role, sv, cv, mv, gv, h⟩ := h
  exact h.base
theorem MSt.mod (h : MSt E w s) : ModAt w E.ro E.fb E.ft E.f := by
  obtain ⟨role, sv, cv, mv, gv, h⟩ := h
  exact h.mod
end

end Go.Proofs.YtdeplgkhmebalaaGreatDoor

namespace Go.Proofs.YtdeplgkhmebalaaGreatDoor
open Go.RowKit

def stageF (k : Nat) : Nat := match k with
  | 0 => 75
  | 1 => 76
  | 2 => 77
  | 3 => 78
  | 4 => 79
  | 5 => 80
  | _ => 81

section
variable {I : LIds} {w : World} {s : Lkr}
theorem stage_any {k : Nat} (h : LSt I w s) (hi : Inv k s) (hR : RowsAt w I.lo) (hk : k < 7) : Calls Tryz.prog (stageF k) #[ptrTo I.kb] w fun r w' => LDone I w w' (stage I k s) r ∧ Kp (upl I) w w' := by
  match k, hi, hk with
  | 0, hi, _ => exact readMagic_any h
  | 1, hi, _ => exact readTypes_any h (by rw [hi.t0 (by decide)]; simp)
  | 2, hi, _ => exact readFuncs_any h (Nat.le_trans hi.tn (by decide)) (by rw [hi.f0 (by decide)]; simp)
  | 3, hi, _ => exact readGlobals_any h (by rw [(hi.g0 (by decide)).1]; simp) (by rw [(hi.g0 (by decide)).2]; simp)
  | 4, hi, _ => exact readPages_any h
  | 5, hi, _ => exact readBodies_any h hR (hi.fn (by decide)) hi.gn hi.fl (by rw [hi.c0 (by decide)]; simp)
  | 6, hi, _ => exact readEnd_any h

theorem LSt.toMod (h : LSt I w s) (hmb : I.B ≤ I.mb) : ∃ fv gv cv, w.heap[I.mb]? = some (.cells #[fv, gv, .int .i64 s.pages, cv] 121) ∧ ModG w (fun b => I.B ≤ b ∧ b < w.heap.size) I.mb 121 ⟨s.fns, s.vals, s.pages, s.code⟩ fv gv cv ∧ (∃ ad n cap, fv = .slice ad n cap) ∧ (∃ ad n cap, gv = .slice ad n cap) ∧ (∃ ad n cap, cv = .slice ad n cap) := by
  obtain ⟨role, tv, gv, fv, glv, cv, tys, fs, h⟩ := h
  have nr : ∀ {v : Value} {n : Nat} {xs : List Value} {e : TypeId} {sz : Nat}, w.ownsRow I.B e sz v n xs → RoV (fun b => I.B ≤ b ∧ b < w.heap.size) v := fun ho b hb => ⟨own_new ho b hb, own_lt ho hb⟩
  refine ⟨fv, glv, cv, h.mod, ⟨h.mod, ⟨hmb, lt_of_blk h.mod⟩, ?_, ?_, nr h.vals, ?_⟩, ?_, ?_, ?_⟩
  · obtain ⟨ad, cap, hfv, hcap⟩ := (RowAt.own h.funcs).shape
    refine ⟨ad, cap, hfv, hcap, fun k hk => ?_⟩
    have hk' : k < s.fns.length := hk
    obtain ⟨a, cap', x, hfv', -, hx, hxe, hxm, c0, c1, c2, c3, -⟩ := h.fn hk'
    rw [hfv] at hfv'
    cases hfv'
    have hin := nr h.funcs a (by rw [hfv]; rfl)
    have hxe' : x.1 = s.fns.getD k fn0 := hxe
    refine ⟨a, 0, x.2.1, x.2.2, rfl, hin, by rw [Nat.zero_add]; exact c0, by rw [Nat.zero_add]; exact c1, by rw [Nat.zero_add, ← hxe']; exact c2, by rw [Nat.zero_add, ← hxe']; exact c3, ?_, ?_, ?_, ?_⟩
    · rw [← hxe']; exact (h.fnB x hxm).1
    · exact fun b hb => ⟨(h.fnN x hxm).1 b hb, ((h.fnR x hxm).1 b hb).2⟩
    · rw [← hxe']; exact (h.fnB x hxm).2
    · exact fun b hb => ⟨(h.fnN x hxm).2 b hb, ((h.fnR x hxm).2 b hb).2⟩
  · have := RowAt.own h.vals
    unfold ValsAt
    simpa [valCells, List.map_map, Function.comp_def] using this
  · obtain ⟨ad, cap, hcv, hcap⟩ := (RowAt.own h.code).shape
    refine ⟨ad, cap, hcv, hcap, fun k hk => ?_⟩
    have hk' : k < s.code.length := hk
    obtain ⟨a, cap', hcv', -, -⟩ := h.code.form (by omega)
    have hin := nr h.code a (by rw [hcv']; rfl)
    have hc : ∀ j, j < 5 → w.cell? ⟨a, k * 5 + j, none⟩ = (Ins.cells (s.code.getD k ins0))[j]? := by
      intro j hj
      have := h.code
      rw [hcv'] at this
      rw [this.cellAt (k * 5 + j) (by omega), flat_get Ins.len s.code k j hj, List.getD_eq_getElem?_getD, List.getElem?_eq_getElem hk']; rfl
    rw [hcv] at hcv'
    cases hcv'
    exact ⟨a, 0, rfl, hin, by rw [Nat.zero_add]; exact hc 0 (by decide), by rw [Nat.zero_add]; exact hc 1 (by decide), by rw [Nat.zero_add]; exact hc 2 (by decide), by rw [Nat.zero_add]; exact hc 3 (by decide), by rw [Nat.zero_add]; exact hc 4 (by decide)⟩
  · obtain ⟨x1, x2, x3⟩ := own_shape h.funcs; exact ⟨x1, _, x2, x3⟩
  · obtain ⟨x1, x2, x3⟩ := own_shape h.vals; exact ⟨x1, _, x2, x3⟩
  · obtain ⟨x1, x2, x3⟩ := own_shape h.code; exact ⟨x1, _, x2, x3⟩
end

def MDone (w w' : World) (m : Except (Int × Int) Flat) (r : Ending) : Prop :=
  match m with
  | .ok f => ∃ mb fv gv cv, r = .returned (.tuple #[ptrTo mb, .pointer none]) ∧ ModG w' (fun b => w.heap.size ≤ b ∧ b < w'.heap.size) mb 121 f fv gv cv ∧ (∃ ad n cap, fv = .slice ad n cap) ∧ (∃ ad n cap, gv = .slice ad n cap) ∧ (∃ ad n cap, cv = .slice ad n cap)
  | .error e => ∃ fv, r = .returned (.tuple #[.pointer none, fv]) ∧ FaultAt w w' fv e

set_option maxRecDepth 100000 in
set_option maxHeartbeats 6000000 in
theorem module_any {w : World} {dv : Value} {D : List UInt8} (hb : BytesAt w dv D) (hd : ∀ b, dv.ownBlock = some b → b < w.heap.size) (hR : RowsAt w (fun b => b < w.heap.size)) (hl : D.length ≤ 1000000) :
    Calls Tryz.prog 54 #[dv] w fun r w' => MDone w w' (loadM D) r ∧ Kp no w w' := by
  obtain ⟨ad, cap, hv, hcap⟩ := hb.shape
  by_cases hlong : 2000 < D.length
  · have hM : loadM D = .error (1, 0) := by unfold loadM; rw [if_pos hlong]
    subst hv
    rw [hM]
    clear hM hb hR hd
    go_enter Tryz.func54, Tryz.ntmps54
    go_wp2
    go_ret2
    exact ⟨⟨ptrTo w.heap.size, rfl, w.heap.size, rfl, Nat.le_refl _, heap_alloc_new _ _⟩, (Kp.refl _ _).alloc _⟩
  · have hnew := new_any hb (by omega) hd
    have HB := hide hb
    have HN := hide hnew
    have HR := hide hR
    have HD := hide hd
    subst hv
    clear hb hnew hR hd
    go_enter Tryz.func54, Tryz.ntmps54
    go_wp2_with fail
    refine HN.out.mono ?_
    rintro r w1 ⟨rfl, hrs, k1⟩
    have HRs := hide hrs
    have hs1 := lt_of_blk hrs.blk
    have K1 := hide k1
    clear hrs k1
    go_wp2
    obtain ⟨mb, hmb⟩ : ∃ mb, mb = w1.heap.size := ⟨_, rfl⟩
    obtain ⟨F, hF⟩ : ∃ F : Array Value, F = #[.func (.func 75) #[ptrTo (w1.heap.size + 1)] #[], .func (.func 76) #[ptrTo (w1.heap.size + 1)] #[], .func (.func 77) #[ptrTo (w1.heap.size + 1)] #[], .func (.func 78) #[ptrTo (w1.heap.size + 1)] #[], .func (.func 79) #[ptrTo (w1.heap.size + 1)] #[], .func (.func 80) #[ptrTo (w1.heap.size + 1)] #[], .func (.func 81) #[ptrTo (w1.heap.size + 1)] #[]] := ⟨_, rfl⟩
    obtain ⟨W, hW⟩ : ∃ W, W = ((w1.alloc (.cells #[.slice none 0 0, .slice none 0 0, .int .i64 0, .slice none 0 0] 121)).alloc (.cells #[ptrTo w.heap.size, .slice none 0 0, .slice none 0 0, ptrTo w1.heap.size] 182)).alloc (.cells F 183) := ⟨_, rfl⟩
    have e1 : W.heap.size = w1.heap.size + 3 := by rw [hW]; simp
    have hk2 : W.heap[w1.heap.size + 1]? = some (.cells #[ptrTo w.heap.size, .slice none 0 0, .slice none 0 0, ptrTo w1.heap.size] 182) := by rw [hW]; exact heap_alloc_old (heap_alloc_at (by simp) _)
    have hm2 : W.heap[w1.heap.size]? = some (.cells #[.slice none 0 0, .slice none 0 0, .int .i64 0, .slice none 0 0] 121) := by rw [hW]; exact heap_alloc_old (heap_alloc_old (heap_alloc_at rfl _))
    obtain ⟨I, hI⟩ : ∃ I : LIds, I = ⟨w.heap.size, w1.heap.size + 3, fun b => b < w.heap.size ∨ b = w1.heap.size + 2, fun b hb => by rcases hb with h | h <;> omega, by omega, w.heap.size, w1.heap.size + 1, w1.heap.size, .slice ad D.length cap, D⟩ := ⟨_, rfl⟩
    have kW : Kp no w1 W := by rw [hW]; exact (((Kp.refl _ _).alloc _).alloc _).alloc _
    have hq : W.heap[w1.heap.size + 2]? = some (.cells F 183) := by rw [hW]; exact heap_alloc_at (by simp) _
    have hst : LSt I W lk0 := by
      rw [hI]
      refine ⟨fun b => if b = w.heap.size then 1 else if b = w1.heap.size then 2 else if b = w1.heap.size + 1 then 3 else 0, .slice none 0 0, .slice none 0 0, .slice none 0 0, .slice none 0 0, .slice none 0 0, [], [], ?_⟩
      refine ⟨by show w1.heap.size + 3 ≤ W.heap.size; omega, HRs.out.kp kW (fun h => h) (fun _ _ _ h => h), ?_, ?_, World.ownsRow_nil _ _ _ _, World.ownsRow_nil _ _ _ _, World.ownsRow_nil _ _ _ _, World.ownsRow_nil _ _ _ _, World.ownsRow_nil _ _ _ _, rfl, rfl, fun x hx => (by cases hx), fun x hx => (by cases hx), ?_, ?_, ?_, fun b hb => (by cases hb), fun b hb => (by cases hb), fun b hb => (by cases hb), fun b hb => (by cases hb), fun b hb => (by cases hb), fun x hx => (by cases hx), fun x hx => (by cases hx), ?_, fun b hb => .inl (HD.out b hb), fun x hx => (by cases hx), fun x hx => (by cases hx)⟩
      · exact hk2
      · exact hm2
      · exact if_pos rfl
      · show (if w1.heap.size = w.heap.size then 1 else if w1.heap.size = w1.heap.size then 2 else if w1.heap.size = w1.heap.size + 1 then 3 else 0) = 2
        rw [if_neg (by omega), if_pos rfl]
      · show (if w1.heap.size + 1 = w.heap.size then 1 else if w1.heap.size + 1 = w1.heap.size then 2 else if w1.heap.size + 1 = w1.heap.size + 1 then 3 else 0) = 3
        rw [if_neg (by omega), if_neg (by omega), if_pos rfl]
      · intro b hb
        show (if b = w.heap.size then 1 else if b = w1.heap.size then 2 else if b = w1.heap.size + 1 then 3 else 0) = 0
        rcases hb with h | h
        · rw [if_neg (by omega), if_neg (by omega), if_neg (by omega)]
        · rw [if_neg (by omega), if_neg (by omega), if_neg (by omega)]
    have hRW : RowsAt W I.lo := by
      have h1 := HR.out.kp (ro := fun b => b < w.heap.size) (w' := W) ((K1.out.trans kW).any)
      refine h1.le (fun b hb => ?_)
      rw [hI]; exact .inl hb
    have hIB : I.B = w.heap.size ∧ I.mb = w1.heap.size ∧ I.kb = w1.heap.size + 1 ∧ I.D = D ∧ I.lo (w1.heap.size + 2) := by rw [hI]; exact ⟨rfl, rfl, rfl, rfl, .inr rfl⟩
    have hlo : ∀ b, I.lo b ∨ w.heap.size ≤ b := fun b => by
      rw [hI]
      rcases Nat.lt_or_ge b w.heap.size with h | h
      · exact .inl (.inl h)
      · exact .inr h
    have hM := load_eq I (by rw [hIB.2.2.2.1]; omega)
    rw [hIB.2.2.2.1] at hM
    obtain ⟨hB, hmbI, hkbI, -, hqI⟩ := hIB
    have K2 := hide (K1.out.trans kW)
    have HSt := hide hst
    have HRW := hide hRW
    have HQ := hide hq
    have HM := hide hM
    have HLo := hide hlo
    have HFd := hide hF
    clear hst hRW hq hM hlo kW hI hmb hk2 hm2
    rw [← hF, ← hW]
    clear hF
    have hWs : w.heap.size ≤ W.heap.size := K2.out.size
    clear hW
    go_loopw [37] (fun kv wr => ∃ (k : Nat) (s : Lkr), k ≤ 7 ∧ kv = .int .i64 k ∧ LSt I wr s ∧ (k ≤ 5 → Inv k s) ∧ Kp (upl I) W wr ∧ stg I 7 lk0 = stg I (7 - k) s) (fun kv _ => 7 - (intOf kv).toNat)
    case atStart => exact ⟨0, lk0, by omega, rfl, HSt.out, fun _ => Inv.zero, (Kp.refl no W).any, rfl⟩
    case round =>
      obtain ⟨k, s, hk, rfl, hst, hinv, hkp, hlab⟩ := hrel
      have hQr := cells_of (hkp.blk HQ.out (fun hn => hn hqI))
      obtain ⟨hqc, -⟩ := hQr
      have HS := hide hst
      have HK := hide hkp
      have hszr := hkp.size
      have hF := HFd.out
      have hwB : Kp no w wr := K2.out.comp (S2 := upl I) hkp (fun _ _ h => h) (fun b hb hn => by
        rcases HLo.out b with h | h
        · exact hn h
        · omega)
      have KwB := hide hwB
      by_cases hk7 : k < 7
      · have hrw := HRW.out.kp (ro := I.lo) hkp
        have hinv' : Inv k s ∨ k = 6 := by
          rcases Nat.lt_or_ge k 6 with h | h
          · exact .inl (hinv (by omega))
          · exact .inr (by omega)
        have hone : Calls Tryz.prog (stageF k) #[ptrTo I.kb] wr fun r w' => LDone I wr w' (stage I k s) r ∧ Kp (upl I) wr w' := by
          rcases hinv' with h | h
          · exact stage_any hst h hrw hk7
          · subst h; exact readEnd_any hst
        have hnext := fun s' => fun (hle : k ≤ 4) (he : stage I k s = .ok s') => (hinv (by omega)).step hle he
        have hlab2 : stg I 7 lk0 = (match stage I k s with | .error e => .error e | .ok s' => stg I (6 - k) s') := by
          rw [hlab, show 7 - k = (6 - k) + 1 by omega]
          show (match stage I (6 - (6 - k)) s with | .error e => .error e | .ok s' => stg I (6 - k) s' : Except (Int × Int) Lkr) = _
          rw [show 6 - (6 - k) = k by omega]
        clear hlab
        have hlab := hlab2
        clear hlab2
        rw [hkbI] at hone
        generalize stage I k s = Q at *
        have hqc' : ∀ o, wr.cell? ⟨w1.heap.size + 1 + 1, o, none⟩ = F[o]? := hqc
        subst hF
        have HO := hide hone
        have HL := hide hlab
        clear hone hlab hst hkp hrw hinv hinv' hqc hwB
        match Q, HL, HO, hnext with
        | .error e, HL, HO, _ =>
          rcases (by omega : k = 0 ∨ k = 1 ∨ k = 2 ∨ k = 3 ∨ k = 4 ∨ k = 5 ∨ k = 6) with rfl | rfl | rfl | rfl | rfl | rfl | rfl
          all_goals
            go_wp2_with fail
            refine HO.out.mono ?_
            rintro r w3 ⟨⟨fv, rfl, fb, rfl, hfb, hfo⟩, k3⟩
            have HF := hide hfo
            have hfb' : w.heap.size ≤ fb := by omega
            have hwB := KwB.out.comp (S2 := upl I) k3 (fun _ _ h => h) (fun b hb hn => by
              rcases HLo.out b with h | h
              · exact hn h
              · omega)
            have KwB3 := hide hwB
            clear hfo k3 hwB
            go_wp2
            go_ret2
            rw [HM.out, HL.out]
            exact ⟨⟨ptrTo fb, rfl, fb, rfl, hfb', HF.out⟩, KwB3.out⟩
        | .ok s', HL, HO, hnext =>
          have hrel' : ∀ w3, LSt I w3 s' → Kp (upl I) wr w3 → ∃ (k2 : Nat) (s2 : Lkr), k2 ≤ 7 ∧ Value.int .i64 ((k + 1 : Nat) : Int) = .int .i64 k2 ∧ LSt I w3 s2 ∧ (k2 ≤ 5 → Inv k2 s2) ∧ Kp (upl I) W w3 ∧ stg I 7 lk0 = stg I (7 - k2) s2 :=
            fun w3 h3 k3 => ⟨k + 1, s', by omega, rfl, h3, fun h => hnext s' (by omega) rfl, HK.out.trans k3, by rw [HL.out, show 7 - (k + 1) = 6 - k by omega]⟩
          have HRel := hide hrel'
          clear hnext hrel'
          rcases (by omega : k = 0 ∨ k = 1 ∨ k = 2 ∨ k = 3 ∨ k = 4 ∨ k = 5 ∨ k = 6) with rfl | rfl | rfl | rfl | rfl | rfl | rfl
          all_goals
            go_wp2_with fail
            refine HO.out.mono ?_
            rintro r w3 ⟨⟨rfl, h3⟩, k3⟩
            have H3 := hide h3
            have K3 := hide k3
            clear h3 k3
            go_wp2
            go_roundw
            case rel => exact HRel.out _ H3.out K3.out
            case measure => simp [intOf]
      · obtain rfl : k = 7 := by omega
        have hlab' : stg I 7 lk0 = .ok s := hlab
        obtain ⟨fv, gv, cv, hmo, hmod, s1, s2, s3⟩ := hst.toMod (by rw [hB, hmbI]; omega)
        obtain ⟨tv1, gv1, hlk, -, -, -, -, -⟩ := hst.lookAt
        obtain ⟨hkc, -⟩ := cells_of hlk
        rw [hkbI] at hkc
        have HMod := hide hmod
        have HLb := hide hlab'
        clear hst hinv hkp hlab hlab' hmo hmod hqc hlk hwB hF
        subst HFd
        go_wp2
        go_ret2
        rw [HM.out, HLb.out]
        rw [hB, hmbI] at HMod
        exact ⟨⟨w1.heap.size, fv, gv, cv, rfl, HMod.out, s1, s2, s3⟩, KwB.out⟩

end Go.Proofs.YtdeplgkhmebalaaGreatDoor
