/- Keys keep what they were put last: the statement's own walk. -/
import Derived.Test.YtdeplgkhmebalaaGreatDoorKeptA
import Derived.Test.YtdeplgkhmebalaaGreatDoorKeepB
import Derived.Test.YtdeplgkhmebalaaGreatDoorP33
import Derived.Deep.DeepCutAuto

namespace Go.Proofs.YtdeplgkhmebalaaGreatDoor
open Go.RowKit

def nOf : Value → Nat
  | .int _ n => n.toNat
  | _ => 0

set_option maxRecDepth 100000 in
set_option maxHeartbeats 8000000 in
theorem kept_any {w : World} (hR : RowsOk w) {kv0 vv0 : Value} {Ks Vs : List Int} (hk : IntsAt w kv0 Ks) (hv : IntsAt w vv0 Vs) (hkr : ∀ j, j < Ks.length → -9223372036854775808 ≤ Ks.getD j 0 ∧ Ks.getD j 0 < 9223372036854775808) (hvr : ∀ j, j < Vs.length → -9223372036854775808 ≤ Vs.getD j 0 ∧ Vs.getD j 0 < 9223372036854775808) :
    Calls Tryz.prog 13 #[kv0, vv0] w fun r w' => r = .returned (.bool true) ∧ Kp no w w' := by
  obtain ⟨i0, hi0, hz0, hz1, hz2⟩ := info_parts info_si64
  obtain ⟨adk, capk, hkv0, hck⟩ := IntsAt.shape hk
  obtain ⟨adv, capv, hvv0, hcv⟩ := IntsAt.shape hv
  subst hkv0 hvv0
  have HK0 := hide hk
  have HV0 := hide hv
  have HKr := hide hkr
  have HVr := hide hvr
  have HR := hide hR
  clear hk hv hkr hvr hR
  go_enter Tryz.func13, Tryz.ntmps13
  go_wp2_with fail
  refine (keepsK_any _).mono ?_
  rintro r w1 ⟨⟨v1, rfl, h1⟩, k1⟩
  obtain ⟨a1, c1, hv1, -⟩ := h1.at.shape
  subst hv1
  have hS := started_keep h1.at h1.lt (HR.out.kp k1) (Nat.le_trans kp_okay.len (by omega)) kp_okay.load kp_okay.ok.pg kp_okay.ok.gl
  rw [kp_okay.mem, kp_okay.gl] at hS
  have HS := hide hS
  have K1 := hide k1
  clear hS h1 k1
  go_wp2_with fail
  refine HS.out.mono ?_
  rintro r w2 ⟨⟨ib, tb, rfl, hI⟩, k2⟩
  have HI := hide hI
  have K2 := hide k2
  clear hI k2 HS
  go_wp2_with fail
  refine (keepsK_any _).mono ?_
  rintro r w3 ⟨⟨v3, rfl, h3⟩, k3⟩
  obtain ⟨a3, c3, hv3, -⟩ := h3.at.shape
  subst hv3
  have hL := load_ok h3.at h3.lt (((HR.out.kp K1.out).kp K2.out).kp k3) (Nat.le_trans kp_okay.len (by omega)) kp_okay.load
  have HL := hide hL
  have K3 := hide k3
  clear hL h3 k3
  go_wp2_with fail
  refine HL.out.mono ?_
  rintro r w4 ⟨⟨mb, rfl, hM⟩, k4⟩
  have hD := duo_start HI.out K3.out k4 hM kp_okay.ok.pg kp_okay.ok.gl kp_okay.mem kp_okay.gl (by simp) (by simp)
  have HD := hide hD
  have K4 := hide k4
  clear hD hM k4 HL
  go_wp2_with fail
  refine HD.out.mono ?_
  rintro r w5 ⟨⟨jb, rfl, hjb, hduo⟩, k5⟩
  have hrd0 : KRd w w5.heap.size ib jb tb (.slice none 0 0) (.slice none 0 0) [] [] [] w5 := by
    have s1 := K1.out.size
    have s2 := K2.out.size
    have s3 := K3.out.size
    have s4 := K4.out.size
    have s5 := k5.size
    have i1 := HI.out.ib
    have i2 := HI.out.tb
    refine ⟨hduo.list (by simp) (by simp) (fun y hy => by rcases hy with hy | hy <;> cases hy), ⟨rfl, .inl ⟨rfl, rfl⟩⟩, ⟨rfl, .inl ⟨rfl, rfl⟩⟩, fun x hx => by (cases hx), K1.out.trans (K2.out.trans (K3.out.trans (K4.out.trans k5))), ?_, ?_, ?_, ?_⟩ <;> omega
  obtain ⟨B0, hB0⟩ : ∃ B0, w5.heap.size = B0 := ⟨_, rfl⟩
  rw [hB0] at hrd0
  have HRd0 := hide hrd0
  clear hrd0 hduo k5 HD hB0 hjb HI
  go_wp2
  go_loopw [12, 13, 14] (fun kv vv nv wr => ∃ (n : Nat) (m : List (Int × Int)), n ≤ 40 ∧ n ≤ Ks.length ∧ nv = .int .i64 n ∧ m.length ≤ 8 ∧ (m.map Prod.fst).Nodup ∧ KRd w B0 ib jb tb kv vv (m.map Prod.fst) (m.map Prod.snd) m wr) (fun _ _ nv _ => 40 - nOf nv)
  case atStart => exact ⟨0, [], by omega, by omega, rfl, by simp, by simp, HRd0.out⟩
  case round =>
    obtain ⟨n, m, hn40, hnl, rfl, hml, hnd, hrd⟩ := hrel
    obtain ⟨wq, hwq⟩ : ∃ wq, wq = wr := ⟨_, rfl⟩
    subst hwq
    obtain ⟨adl, capl, hlv⟩ := own_shape hrd.ks
    obtain ⟨adm, capm, hmv⟩ := own_shape hrd.vs
    rw [List.length_map] at hlv hmv
    subst hlv hmv
    have HRd := hide hrd
    have HNd := hide hnd
    clear hrd hnd
    by_cases hin : n < Ks.length ∧ n < 40
    · obtain ⟨hin1, hin2⟩ := hin
      obtain ⟨ak, ok, ck, hek, -, hck1⟩ := IntsAt.cell (IntsAt.kp HK0.out HRd.out.kp) hin1
      cases hek
      have hxr := HKr.out n hin1
      obtain ⟨x, hx⟩ : ∃ x, Ks.getD n 0 = x := ⟨_, rfl⟩
      rw [hx] at hck1 hxr
      have hpl : pickM x 12 < 12 := Nat.mod_lt _ (by decide)
      have hpk := pickK_any wq x 12 hxr.1 hxr.2 (by decide) (by decide)
      generalize pickM x 12 = q at *
      have hws : IntKind.i64.wrap ((q : Int) - 6) = (q : Int) - 6 := by rw [IntKind.wrap_i64]; omega
      have HPk := hide hpk
      clear hpk hx
      go_wp2_with fail
      refine HPk.out.mono ?_
      rintro r w6 ⟨rfl, hw⟩
      rw [hw]
      clear hw w6 HPk
      go_upto_if 79 with fail
      go_cut [15] (fun z wx => (∃ k : Int, -9223372036854775808 ≤ k ∧ k < 9223372036854775808 ∧ z = .int .i64 k) ∧ wq = wx)
      case first =>
        by_cases h11 : Int.tmod x 11 = 0
        · go_wp2_with fail
          go_meet
          exact ⟨⟨x, hxr.1, hxr.2, rfl⟩, rfl⟩
        · go_wp2_with fail
          go_meet
          exact ⟨⟨(q : Int) - 6, by omega, by omega, rfl⟩, rfl⟩
      case rest =>
      obtain ⟨⟨k, hk1, hk2, rfl⟩, rfl⟩ := hcut
      clear hws hck1 hxr
      go_upto_if 88 with fail
      go_cut [16] (fun z wx => (∃ v : Int, -9223372036854775808 ≤ v ∧ v < 9223372036854775808 ∧ z = .int .i64 v) ∧ wq = wx)
      case first =>
        by_cases hvn : n < Vs.length
        · obtain ⟨av, ov, cv, hev, -, hcv1⟩ := IntsAt.cell (IntsAt.kp HV0.out HRd.out.kp) hvn
          cases hev
          have hvr := HVr.out n hvn
          generalize Vs.getD n 0 = y at *
          go_wp2_with fail
          go_meet
          exact ⟨⟨y, hvr.1, hvr.2, rfl⟩, rfl⟩
        · go_wp2_with fail
          go_meet
          exact ⟨⟨(n : Int), by omega, by omega, rfl⟩, rfl⟩
      case rest =>
      obtain ⟨⟨v, hv1, hv2, rfl⟩, rfl⟩ := hcut
      go_wp2
      go_loopw [17] (fun tv wx => ∃ (t : Nat), t ≤ m.length ∧ tv = .int .i64 t ∧ wq = wx ∧ ∀ j, j < t → (m.getD j (0, 0)).1 ≠ k) (fun tv _ => m.length - nOf tv)
      case atStart => exact ⟨0, by omega, rfl, rfl, fun j hj => absurd hj (by omega)⟩
      case round =>
        obtain ⟨t, htl, rfl, rfl, hbef⟩ := hrel
        have HBef := hide hbef
        clear hbef
        by_cases hta : t < m.length
        · obtain ⟨gk, ckk, hel, -, hcl1, hfl1⟩ := VRow.lies HRd.out.ks (j := t) (by simpa using hta)
          simp only [Value.slice.injEq] at hel
          obtain ⟨rfl, -, rfl⟩ := hel
          have hkt : (m.map Prod.fst).getD t 0 = (m.getD t (0, 0)).1 := by simp [List.getD_eq_getElem?_getD, List.getElem?_eq_getElem hta]
          rw [hkt] at hcl1
          by_cases hek : (m.getD t (0, 0)).1 = k
          · as_aux_lemma =>
              have hlk : look m k = some (m.getD t (0, 0)).2 := look_at_some m t hta hek HBef.out
              have hput : putKey m k v = m.set t (k, v) := putKey_old HNd.out hta hek HBef.out
              obtain ⟨gv, ckv, hem, hcm1, hcm, hfm⟩ := VRow.lies HRd.out.vs (j := t) (by simpa using hta)
              simp only [Value.slice.injEq] at hem
              obtain ⟨rfl, -, rfl⟩ := hem
              have HEk := hide hek
              have HLk := hide hlk
              have HPut := hide hput
              rw [hek] at hcl1
              clear hek hlk hput hkt
              -- what is handed in, and who
              go_upto_if 116 with fail
              go_cut [19, 20] (fun x y wx => (∃ a b, x = ptrTo a ∧ y = ptrTo b ∧ ((a = ib ∧ b = jb) ∨ (a = jb ∧ b = ib))) ∧ wq.alloc (.cells #[.int .u64 (IntKind.u64.wrap k), .int .u64 (IntKind.u64.wrap v)] 38) = wx)
              case first =>
                by_cases h2 : n % 2 = 1
                · have hm1 : Int.tmod (n : Int) 2 = 1 := by rw [Int.tmod_eq_emod_of_nonneg (by omega)]; omega
                  go_wp2_with fail
                  go_meet
                  exact ⟨⟨jb, ib, rfl, rfl, .inr ⟨rfl, rfl⟩⟩, rfl⟩
                · have hm1 : Int.tmod (n : Int) 2 = 0 := by rw [Int.tmod_eq_emod_of_nonneg (by omega)]; omega
                  go_wp2_with fail
                  go_meet
                  exact ⟨⟨ib, jb, rfl, rfl, .inl ⟨rfl, rfl⟩⟩, rfl⟩
              case rest =>
              obtain ⟨⟨a, b, rfl, rfl, habs⟩, rfl⟩ := hcut
              have hq : KRq w B0 a b tb wq.heap.size (.slice (some ⟨gk, 0, none⟩) m.length capl) (.slice (some ⟨gv, 0, none⟩) m.length capm) (m.map Prod.fst) (m.map Prod.snd) k v m (wq.alloc (.cells #[.int .u64 (IntKind.u64.wrap k), .int .u64 (IntKind.u64.wrap v)] 38)) := by
                have kq : Kp no wq (wq.alloc (.cells #[.int .u64 (IntKind.u64.wrap k), .int .u64 (IntKind.u64.wrap v)] 38)) := (Kp.refl _ _).alloc _
                refine ⟨?_, heap_alloc_new _ _, HRd.out.duo.le, fun hx => ?_⟩
                · rcases habs with ⟨rfl, rfl⟩ | ⟨rfl, rfl⟩
                  · exact HRd.out.quiet kq
                  · exact HRd.out.swap.quiet kq
                · have := (HRd.out.xlt _ hx).2
                  omega
              have HQ := hide hq
              have HAB := hide habs
              clear hq habs HRd
              go_wp2_with fail
              refine (KRq.fail hk1 hk2 HQ.out hml (fun h => by rw [HLk.out] at h; cases h.1)).mono ?_
              rintro r w7 ⟨rfl, h7⟩
              obtain ⟨gv2, ckv2, hem2, -, hcm2, -⟩ := VRow.lies h7.rd.vs (j := t) (by simpa using hta)
              simp only [Value.slice.injEq, Option.some.injEq, Addr.mk.injEq] at hem2
              obtain ⟨⟨rfl, -⟩, -, rfl⟩ := hem2
              have hvt : (m.map Prod.snd).getD t 0 = (m.getD t (0, 0)).2 := by simp [List.getD_eq_getElem?_getD, List.getElem?_eq_getElem hta]
              rw [hvt] at hcm2
              obtain ⟨y, hy⟩ : ∃ y, (m.getD t (0, 0)).2 = y := ⟨_, rfl⟩
              rw [hy] at hcm2 HLk
              have HQ7 := hide h7
              clear h7 HQ hvt hy hcm hfm
              go_wp2_with fail
              refine (KRq.get hk1 hk2 HQ7.out (by omega) (x := y) (by rw [HLk.out]; rfl)).mono ?_
              rintro r w8 ⟨rfl, h8⟩
              obtain ⟨gv3, ckv3, hem3, -, hcm3, hfm3⟩ := VRow.lies h8.rd.vs (j := t) (by simpa using hta)
              simp only [Value.slice.injEq, Option.some.injEq, Addr.mk.injEq] at hem3
              obtain ⟨⟨rfl, -⟩, -, rfl⟩ := hem3
              have HQ8 := hide (h8.vsSet (by simp) t)
              clear h8 HQ7 hcm2
              have hln : (putKey m k v).length = m.length := by rw [HPut.out, List.length_set]
              -- put, got, and told
              go_wp2_with fail
              refine (KRq.put hk1 hk2 hv1 hv2 HQ8.out hml (fun h => by rw [HLk.out] at h; cases h.1)).mono ?_
              rintro r w20 ⟨rfl, h20⟩
              have HQ20 := hide h20
              clear h20 HQ8
              go_wp2_with fail
              refine (KRq.get hk1 hk2 HQ20.out (by omega) (x := v) (by rw [(show look (putKey m k v) k = some v by rw [look_put, if_pos rfl])]; rfl)).mono ?_
              rintro r w21 ⟨rfl, h21⟩
              have HQ21 := hide h21
              clear h21 HQ20
              go_wp2_with fail
              refine (KRq.tget hk1 hk2 HQ21.out (show look (putKey m k v) k = some v by rw [look_put, if_pos rfl])).mono ?_
              rintro r w22 ⟨rfl, h22⟩
              have HQ22 := hide h22
              clear h22 HQ21
              go_wp2
              go_roundw
              case rel =>
                refine ⟨n + 1, putKey m k v, by omega, by omega, by go_num, by omega, ?_, ?_⟩
                · rw [HPut.out, fst_set hta HEk.out]
                  exact HNd.out
                · have e2 : (putKey m k v).map Prod.snd = (m.map Prod.snd).set t v := by rw [HPut.out, List.map_set]
                  have e1 : (putKey m k v).map Prod.fst = m.map Prod.fst := by rw [HPut.out, fst_set hta HEk.out]
                  rw [e1, e2]
                  rcases HAB.out with ⟨rfl, rfl⟩ | ⟨rfl, rfl⟩
                  · exact HQ22.out.rd
                  · exact HQ22.out.rd.swap
              case measure => simp [nOf]; omega
          · as_aux_lemma =>
              have HEk := hide hek
              obtain ⟨kt, hkt'⟩ : ∃ kt, (m.getD t (0, 0)).1 = kt := ⟨_, rfl⟩
              rw [hkt'] at hcl1 hek
              have HKt := hide hkt'
              clear hkt' hkt
              go_wp2
              go_roundw
              case rel => exact ⟨t + 1, by omega, by go_num, trivial, fun j hj => (Nat.lt_succ_iff_lt_or_eq.1 hj).elim (HBef.out j) (fun e => by subst e; exact HEk.out)⟩
              case measure => simp [nOf]; omega
        · obtain rfl : t = m.length := by omega
          have hnone : look m k = none := look_at_none m HBef.out
          have HNone := hide hnone
          clear hnone
          -- what is handed in, and who
          go_upto_if 116 with fail
          go_cut [19, 20] (fun x y wx => (∃ a b, x = ptrTo a ∧ y = ptrTo b ∧ ((a = ib ∧ b = jb) ∨ (a = jb ∧ b = ib))) ∧ wq.alloc (.cells #[.int .u64 (IntKind.u64.wrap k), .int .u64 (IntKind.u64.wrap v)] 38) = wx)
          case first =>
            by_cases h2 : n % 2 = 1
            · have hm1 : Int.tmod (n : Int) 2 = 1 := by rw [Int.tmod_eq_emod_of_nonneg (by omega)]; omega
              go_wp2_with fail
              go_meet
              exact ⟨⟨jb, ib, rfl, rfl, .inr ⟨rfl, rfl⟩⟩, rfl⟩
            · have hm1 : Int.tmod (n : Int) 2 = 0 := by rw [Int.tmod_eq_emod_of_nonneg (by omega)]; omega
              go_wp2_with fail
              go_meet
              exact ⟨⟨ib, jb, rfl, rfl, .inl ⟨rfl, rfl⟩⟩, rfl⟩
          case rest =>
          obtain ⟨⟨a, b, rfl, rfl, habs⟩, rfl⟩ := hcut
          have hq : KRq w B0 a b tb wq.heap.size (.slice adl m.length capl) (.slice adm m.length capm) (m.map Prod.fst) (m.map Prod.snd) k v m (wq.alloc (.cells #[.int .u64 (IntKind.u64.wrap k), .int .u64 (IntKind.u64.wrap v)] 38)) := by
            have kq : Kp no wq (wq.alloc (.cells #[.int .u64 (IntKind.u64.wrap k), .int .u64 (IntKind.u64.wrap v)] 38)) := (Kp.refl _ _).alloc _
            refine ⟨?_, heap_alloc_new _ _, HRd.out.duo.le, fun hx => ?_⟩
            · rcases habs with ⟨rfl, rfl⟩ | ⟨rfl, rfl⟩
              · exact HRd.out.quiet kq
              · exact HRd.out.swap.quiet kq
            · have := (HRd.out.xlt _ hx).2
              omega
          have HQ := hide hq
          have HAB := hide habs
          clear hq habs HRd
          by_cases hfull : m.length = 8
          · as_aux_lemma =>
              go_wp2_with fail
              refine (KRq.failF hk1 hk2 HQ.out hfull (by rw [HNone.out]; rfl)).mono ?_
              rintro r w7 ⟨rfl, h7⟩
              have HQ7 := hide h7
              clear h7 HQ
              go_wp2_with fail
              refine (KRq.failT hk1 hk2 HQ7.out hfull (by rw [HNone.out]; rfl)).mono ?_
              rintro r w8 ⟨rfl, h8⟩
              have HQ8 := hide h8
              clear h8 HQ7
              go_wp2_with fail
              refine (KRq.get hk1 hk2 HQ8.out (by omega) (x := 0) (by rw [HNone.out]; rfl)).mono ?_
              rintro r w9 ⟨rfl, h9⟩
              have HQ9 := hide h9
              clear h9 HQ8
              go_wp2_with fail
              refine (KRq.putT hk1 hk2 HQ9.out hfull (by rw [HNone.out]; rfl)).mono ?_
              rintro r w10 ⟨rfl, h10⟩
              have HQ10 := hide h10
              clear h10 HQ9
              go_wp2
              go_roundw
              case rel =>
                refine ⟨n + 1, m, by omega, by omega, by go_num, hml, HNd.out, ?_⟩
                rcases HAB.out with ⟨rfl, rfl⟩ | ⟨rfl, rfl⟩
                · have h := HQ10.out.rd
                  rw [hfull] at h
                  exact h
                · have h := HQ10.out.rd.swap
                  rw [hfull] at h
                  exact h
              case measure => simp [nOf]; omega
          · as_aux_lemma =>
              have hnf : ¬ ((look m k).isNone ∧ m.length = 8) := fun h => hfull h.2
              have HNf := hide hnf
              clear hnf
              go_wp2_with fail
              refine (KRq.fail hk1 hk2 HQ.out hml HNf.out).mono ?_
              rintro r w7 ⟨rfl, h7⟩
              have HQ7 := hide h7
              clear h7 HQ
              go_wp2_with fail
              refine (KRq.get hk1 hk2 HQ7.out (by omega) (x := 0) (by rw [HNone.out]; rfl)).mono ?_
              rintro r w8 ⟨rfl, h8⟩
              have hB8 := h8.rd.duo.le
              have HQ8 := hide h8
              clear h8 HQ7
              go_wp2_with (at_builtin; refine wpList_append_lies _ rfl _ _ 70 rfl B0 2 i0 (.int .i64 0) 1 8 Tryz.underlying70 hi0 hz0 hz1 hz2 rfl (by decide) _ (m.map Prod.fst).length _ rfl (((Kp.refl no w8).alloc _).own HQ8.out.rd.ks (fun _ _ h => h)) ⟨w8.heap.size, 0, none⟩ 1 1 [.int .i64 k] rfl rfl (new_one _ _ _) ?c1h (by decide) ?c1a ?c1b ?c1c (w8.heap.size + 1) (by simp) ?_)
              case c1h => intro u hu; simp at hu; subst hu; rfl
              case c1a => simp [maxLen]; omega
              case c1b => simp; omega
              case c1c => simp; omega
              intro g9 cap9 w9 hown9 hgrow9 hg9 hlt9
              have h9 := HQ8.out.ksApp2 (((Kp.refl _ w8).alloc _).grown hgrow9 (fun y hy => .inl hy)) hown9 (hg9.imp id (fun e => by omega))
              have hB9 := h9.rd.duo.le
              have HQ9 := hide h9
              clear h9 HQ8 hown9 hgrow9 hg9 hlt9
              go_wp2_with (at_builtin; refine wpList_append_lies _ rfl _ _ 70 rfl B0 2 i0 (.int .i64 0) 1 8 Tryz.underlying70 hi0 hz0 hz1 hz2 rfl (by decide) _ (m.map Prod.snd).length _ rfl (((Kp.refl no w9).alloc _).own HQ9.out.rd.vs (fun _ _ h => h)) ⟨w9.heap.size, 0, none⟩ 1 1 [.int .i64 v] rfl rfl (new_one _ _ _) ?c2h (by decide) ?c2a ?c2b ?c2c (w9.heap.size + 1) (by simp) ?_)
              case c2h => intro u hu; simp at hu; subst hu; rfl
              case c2a => simp [maxLen]; omega
              case c2b => simp; omega
              case c2c => simp; omega
              intro g10 cap10 w10 hown10 hgrow10 hg10 hlt10
              have h10 := HQ9.out.vsApp2 (((Kp.refl _ w9).alloc _).grown hgrow10 (fun y hy => .inl hy)) hown10 (hg10.imp id (fun e => by omega))
              obtain ⟨gz, ckz, hez, hcz, hcz1, hfz1⟩ := VRow.lies h10.rd.vs (j := m.length) (by simp)
              simp only [Value.slice.injEq, Option.some.injEq, Addr.mk.injEq] at hez
              obtain ⟨⟨rfl, -⟩, -, rfl⟩ := hez
              have HQ11 := hide (h10.vsSet (by simp) m.length)
              clear h10 HQ9 hown10 hgrow10 hg10 hlt10
              have hln := putKey_len m k v
              rw [HNone.out, if_neg (by simp)] at hln
              -- put, got, and told
              go_wp2_with fail
              refine (KRq.put hk1 hk2 hv1 hv2 HQ11.out hml HNf.out).mono ?_
              rintro r w20 ⟨rfl, h20⟩
              have HQ20 := hide h20
              clear h20 HQ11
              go_wp2_with fail
              refine (KRq.get hk1 hk2 HQ20.out (by omega) (x := v) (by rw [(show look (putKey m k v) k = some v by rw [look_put, if_pos rfl])]; rfl)).mono ?_
              rintro r w21 ⟨rfl, h21⟩
              have HQ21 := hide h21
              clear h21 HQ20
              go_wp2_with fail
              refine (KRq.tget hk1 hk2 HQ21.out (show look (putKey m k v) k = some v by rw [look_put, if_pos rfl])).mono ?_
              rintro r w22 ⟨rfl, h22⟩
              have HQ22 := hide h22
              clear h22 HQ21
              go_wp2
              go_roundw
              case rel =>
                have e0 := putKey_new (v := v) HNone.out
                have e1 : (putKey m k v).map Prod.fst = m.map Prod.fst ++ [k] := by rw [e0]; simp
                have e2 : (putKey m k v).map Prod.snd = (m.map Prod.snd ++ [v]).set m.length v := by rw [e0]; simp
                refine ⟨n + 1, putKey m k v, by omega, by omega, by go_num, by omega, ?_, ?_⟩
                · rw [e0]; exact nodup_new HNd.out HNone.out
                · rw [e1, e2]
                  rcases HAB.out with ⟨rfl, rfl⟩ | ⟨rfl, rfl⟩
                  · exact HQ22.out.rd
                  · exact HQ22.out.rd.swap
              case measure => simp [nOf]; omega
    · obtain ⟨p, hst, hback⟩ := HRd.out.duo.store
      have hks := keys_any hst
      have HKs := hide hks
      have HBack := hide hback
      clear hks hback hst
      by_cases hnk : n < Ks.length
      · as_aux_lemma =>
          obtain rfl : n = 40 := by omega
          go_wp2_with fail
          refine HKs.out.mono ?_
          rintro r w7 ⟨⟨lv, l, rfl, hkl, hrow⟩, hs7, k7⟩
          obtain ⟨adq, capq, hlv⟩ := own_shape hrow
          subst hlv
          have HD7 := hide (HBack.out w7 hs7 k7)
          have hl7 := HD7.out.lts
          have hle7 := HD7.out.le
          have HKl := hide hkl
          have HRow := hide hrow
          have hll : l.length = m.length := hkl.len
          have K7 := hide (HRd.out.kp.over k7 (fun y hy => by have e : y = tb := hy; rw [e]; exact HRd.out.bt))
          have hba := HRd.out.ba
          have hbt := HRd.out.bt
          clear hkl hrow hs7 k7 HKs HBack HRd
          go_wp2
          go_loopw [30] (fun jv wx => ∃ (j : Nat), 1 ≤ j ∧ (j ≤ l.length ∨ j = 1) ∧ jv = .int .i64 j ∧ Kp no w7 wx) (fun jv _ => l.length - nOf jv)
          case atStart => exact ⟨1, by omega, .inr rfl, rfl, Kp.refl _ _⟩
          case round =>
            obtain ⟨j, hj1, hj2, rfl, hkx⟩ := hrel
            have hrx := hkx.own HRow.out (fun _ _ h => h)
            have HKx := hide hkx
            clear hkx
            by_cases hj : j < l.length
            · obtain ⟨g1, cq1, he1, hq1, hc1, -⟩ := VRow.lies hrx hj
              simp only [Value.slice.injEq] at he1
              obtain ⟨rfl, -, rfl⟩ := he1
              obtain ⟨i, rfl⟩ : ∃ i, j = i + 1 := ⟨j - 1, by omega⟩
              obtain ⟨g2, cq2, he2, -, hc2, -⟩ := VRow.lies hrx (j := i) (by omega)
              simp only [Value.slice.injEq, Option.some.injEq, Addr.mk.injEq] at he2
              obtain ⟨⟨rfl, -⟩, -, rfl⟩ := he2
              have hlt : l.getD i 0 < l.getD (i + 1) 0 := by
                have h1 := List.pairwise_iff_getElem.1 HKl.out.asc i (i + 1) (by omega) hj (by omega)
                simpa [List.getD_eq_getElem?_getD, List.getElem?_eq_getElem hj, List.getElem?_eq_getElem (show i < l.length by omega)] using h1
              generalize l.getD i 0 = y1 at *
              generalize l.getD (i + 1) 0 = y2 at *
              clear hrx
              have hws : IntKind.i64.wrap (((i + 1 : Nat) : Int) - 1) = (i : Int) := by rw [IntKind.wrap_i64]; omega
              go_wp2_with fail
              go_quiet (fail)
              go_wp2
              go_roundw
              case rel => exact ⟨i + 1 + 1, by omega, .inl (by omega), by go_num, HKx.out.drewN _⟩
              case measure => simp [nOf]; omega
            · clear hrx
              have hg := globals_keep (HD7.out.quiet HKx.out).inst
              have hsx := HKx.out.size
              have K7 := hide (K7.out.trans HKx.out)
              have HG := hide hg
              clear hg
              go_wp2_with fail
              refine HG.out.mono ?_
              rintro r w8 ⟨⟨gb, rfl, hgbl, hgv⟩, hI8, k8⟩
              have hmm := memory_keep hI8
              have HM := hide hmm
              have K8 := hide (K7.out.over k8 (fun y hy => by rcases hy with rfl | rfl <;> assumption))
              have HGv := hide hgv
              clear hgv hI8 k8 hmm HG
              go_wp2_with fail
              refine HM.out.mono ?_
              rintro r w9 ⟨⟨mb9, rfl, hmb, hmv⟩, -, k9⟩
              have K9 := hide (K8.out.over k9 (fun y hy => by rcases hy with rfl | rfl <;> assumption))
              obtain ⟨a9, o9, c9, he9, -, hc9⟩ := RowAt.get hmv (k := 0) (x := .int .u8 0) (by rfl)
              cases he9
              have hgb : gb ≠ ib ∧ gb ≠ tb := by constructor <;> omega
              obtain ⟨a8, o8, c8, he8, -, hc8⟩ := ValsAt.cell (RowAt.kp HGv.out k9 (fun y hy hs => by cases hy; exact hs.elim hgb.1 hgb.2)) (k := 0) (by simp)
              cases he8
              clear hmv k9 HM
              go_wp2
              go_ret
              exact ⟨rfl, K9.out⟩
      · as_aux_lemma =>
          obtain rfl : n = Ks.length := by omega
          go_wp2_with fail
          refine HKs.out.mono ?_
          rintro r w7 ⟨⟨lv, l, rfl, hkl, hrow⟩, hs7, k7⟩
          obtain ⟨adq, capq, hlv⟩ := own_shape hrow
          subst hlv
          have HD7 := hide (HBack.out w7 hs7 k7)
          have hl7 := HD7.out.lts
          have hle7 := HD7.out.le
          have HKl := hide hkl
          have HRow := hide hrow
          have hll : l.length = m.length := hkl.len
          have K7 := hide (HRd.out.kp.over k7 (fun y hy => by have e : y = tb := hy; rw [e]; exact HRd.out.bt))
          have hba := HRd.out.ba
          have hbt := HRd.out.bt
          clear hkl hrow hs7 k7 HKs HBack HRd
          go_wp2
          go_loopw [30] (fun jv wx => ∃ (j : Nat), 1 ≤ j ∧ (j ≤ l.length ∨ j = 1) ∧ jv = .int .i64 j ∧ Kp no w7 wx) (fun jv _ => l.length - nOf jv)
          case atStart => exact ⟨1, by omega, .inr rfl, rfl, Kp.refl _ _⟩
          case round =>
            obtain ⟨j, hj1, hj2, rfl, hkx⟩ := hrel
            have hrx := hkx.own HRow.out (fun _ _ h => h)
            have HKx := hide hkx
            clear hkx
            by_cases hj : j < l.length
            · obtain ⟨g1, cq1, he1, hq1, hc1, -⟩ := VRow.lies hrx hj
              simp only [Value.slice.injEq] at he1
              obtain ⟨rfl, -, rfl⟩ := he1
              obtain ⟨i, rfl⟩ : ∃ i, j = i + 1 := ⟨j - 1, by omega⟩
              obtain ⟨g2, cq2, he2, -, hc2, -⟩ := VRow.lies hrx (j := i) (by omega)
              simp only [Value.slice.injEq, Option.some.injEq, Addr.mk.injEq] at he2
              obtain ⟨⟨rfl, -⟩, -, rfl⟩ := he2
              have hlt : l.getD i 0 < l.getD (i + 1) 0 := by
                have h1 := List.pairwise_iff_getElem.1 HKl.out.asc i (i + 1) (by omega) hj (by omega)
                simpa [List.getD_eq_getElem?_getD, List.getElem?_eq_getElem hj, List.getElem?_eq_getElem (show i < l.length by omega)] using h1
              generalize l.getD i 0 = y1 at *
              generalize l.getD (i + 1) 0 = y2 at *
              clear hrx
              have hws : IntKind.i64.wrap (((i + 1 : Nat) : Int) - 1) = (i : Int) := by rw [IntKind.wrap_i64]; omega
              go_wp2_with fail
              go_quiet (fail)
              go_wp2
              go_roundw
              case rel => exact ⟨i + 1 + 1, by omega, .inl (by omega), by go_num, HKx.out.drewN _⟩
              case measure => simp [nOf]; omega
            · clear hrx
              have hg := globals_keep (HD7.out.quiet HKx.out).inst
              have hsx := HKx.out.size
              have K7 := hide (K7.out.trans HKx.out)
              have HG := hide hg
              clear hg
              go_wp2_with fail
              refine HG.out.mono ?_
              rintro r w8 ⟨⟨gb, rfl, hgbl, hgv⟩, hI8, k8⟩
              have hmm := memory_keep hI8
              have HM := hide hmm
              have K8 := hide (K7.out.over k8 (fun y hy => by rcases hy with rfl | rfl <;> assumption))
              have HGv := hide hgv
              clear hgv hI8 k8 hmm HG
              go_wp2_with fail
              refine HM.out.mono ?_
              rintro r w9 ⟨⟨mb9, rfl, hmb, hmv⟩, -, k9⟩
              have K9 := hide (K8.out.over k9 (fun y hy => by rcases hy with rfl | rfl <;> assumption))
              obtain ⟨a9, o9, c9, he9, -, hc9⟩ := RowAt.get hmv (k := 0) (x := .int .u8 0) (by rfl)
              cases he9
              have hgb : gb ≠ ib ∧ gb ≠ tb := by constructor <;> omega
              obtain ⟨a8, o8, c8, he8, -, hc8⟩ := ValsAt.cell (RowAt.kp HGv.out k9 (fun y hy hs => by cases hy; exact hs.elim hgb.1 hgb.2)) (k := 0) (by simp)
              cases he8
              clear hmv k9 HM
              go_wp2
              go_ret
              exact ⟨rfl, K9.out⟩
end Go.Proofs.YtdeplgkhmebalaaGreatDoor
