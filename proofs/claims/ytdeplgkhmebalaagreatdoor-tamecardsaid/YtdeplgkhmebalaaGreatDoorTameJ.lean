/- Whatever is accepted is tame: the statement's own walk. -/
import Derived.Test.YtdeplgkhmebalaaGreatDoorTameI
import Derived.Deep.DeepCutAuto

namespace Go.Proofs.YtdeplgkhmebalaaGreatDoor
open Go.RowKit
theorem Seg.of_get : ∀ (v : List Int) (t : List UInt8), v.length = t.length → (∀ k, k < t.length → InTy (t.getD k 0) (v.getD k 0)) → Seg v t
  | [], [], _, _ => trivial
  | n :: v, x :: t, h, g => ⟨g 0 (by simp), Seg.of_get v t (by simpa using h) (fun k hk => by have := g (k + 1) (by simpa using hk); simpa using this)⟩
  | [], _ :: _, h, _ => by simp at h
  | _ :: _, [], h, _ => by simp at h
theorem st_first {f : Flat} {gl : List (UInt8 × Bool)} {T : Typing} (hF : FlatT f gl T) : StT gl ⟨[], [], 0, 0, List.replicate (f.pages * 64) 0, f.globals.map fun (n : Nat) => ((n : Nat) : Int), []⟩ := by
  have hp := hF.pg
  refine ⟨Seg.of_get _ _ ?_ (fun k hk => ?_), ?_, by show 0 ≤ 8; decide⟩
  · show (f.globals.map _).length = (gl.map _).length
    rw [List.length_map, List.length_map]; exact hF.ng.1
  · have hk' : k < gl.length := by simpa using hk
    have h1 := hF.vals k hk'
    have hg : k < f.globals.length := by have := hF.ng.1; omega
    simp only [List.getD_eq_getElem?_getD, List.getElem?_map, List.getElem?_eq_getElem hk', List.getElem?_eq_getElem hg, Option.map_some, Option.getD_some] at h1 ⊢
    exact h1
  · show (List.replicate (f.pages * 64) (0 : UInt8)).length % 64 = 0 ∧ (List.replicate (f.pages * 64) (0 : UInt8)).length ≤ 256
    rw [List.length_replicate]; omega
def nOfT (v : Value) : Nat := (intOf v).toNat
theorem vals_app (l : List Int) (x : Int) : valCells (l ++ [x]) = valCells l ++ [.int .u64 x] := by simp [valCells]
theorem take_args {a : Int} {ps : List UInt8} {k : Nat} (hk : k < ps.length) : (argsT a ps).take (k + 1) = (argsT a ps).take k ++ [argT a (ps.getD k 0)] := by
  have hl : k < (argsT a ps).length := by unfold argsT; simpa using hk
  rw [List.take_add_one, List.getElem?_eq_getElem hl]
  congr 1
  simp [argsT, List.getD_eq_getElem?_getD, List.getElem?_eq_getElem hk]
set_option maxRecDepth 100000 in
set_option maxHeartbeats 4000000 in
theorem tameK_any {w : World} (hR : RowsOk w) (hTab : TabW w) {dv : Value} {D : List UInt8} (hb : BytesAt w dv D) (hd : ∀ b, dv.ownBlock = some b → b < w.heap.size) (a : Int) (h0 : 0 ≤ a) (h1 : a < 18446744073709551616) :
    Calls Tryz.prog 14 #[dv, .int .u64 a] w fun r w' => r = .returned (.bool true) ∧ Kp no w w' := by
  have h2w := hTab.lt
  obtain ⟨add, cpd, hdv, -⟩ := hb.shape
  subst hdv
  have HR := hide hR
  have HTab := hide hTab
  have HB := hide hb
  have HD := hide hd
  clear hR hTab hb hd
  go_enter Tryz.func14, Tryz.ntmps14
  go_wp2_with fail
  refine (sums_keep w).mono ?_
  rintro r w1 ⟨⟨x0, x1, x2, x3, rfl, b0, b1, b2, b3⟩, k1⟩
  obtain ⟨ad0, cp0, hx0, -⟩ := b0.shape
  obtain ⟨ad1, cp1, hx1, -⟩ := b1.shape
  obtain ⟨ad2, cp2, hx2, -⟩ := b2.shape
  obtain ⟨ad3, cp3, hx3, -⟩ := b3.shape
  subst hx0 hx1 hx2 hx3
  have hF := FnsAt.made1 (fn := loFn) b0 b1 b2 b3 27
  have hM := module_keep (pages := 0) hF (by simp) (by simp) t0_len
  have HM := hide hM
  have K1 := hide k1
  clear hF hM b0 b1 b2 b3 k1
  go_wp2_with fail
  refine HM.out.mono ?_
  rintro r w2 ⟨⟨v2, rfl, h2⟩, k2⟩
  obtain ⟨a2, c2, hv2, -⟩ := h2.at.shape
  subst hv2
  have k12 : Kp no w w2 := K1.out.trans (((Kp.refl no w1).alloc _).trans k2)
  have hS := started_keep h2.at h2.lt (HR.out.kp k12) t0_len t0_load t0_flat.pg t0_flat.gl
  have HS := hide hS
  have K12 := hide k12
  clear h2 k2 k12 hS K1 HM
  go_wp2_with fail
  refine HS.out.mono ?_
  rintro r w3 ⟨⟨hb, sb, rfl, hin⟩, k3⟩
  have hibl := hin.ib
  have htbl := hin.tb
  have hil : hb < w3.heap.size ∧ sb < w3.heap.size := by
    obtain ⟨ro, mb, mv, gv, p, i1, i2, -⟩ := hin.at'
    exact ⟨lt_of_blk i1.blk, lt_of_blk i2.blk⟩
  have hv := ValsAt.made w3 [3]
  have hg := t0_gives (hin.quiet ((Kp.refl no w3).alloc (.cells (valCells [3]).toArray 38))) (HTab.out.kp ((K12.out.trans k3).alloc (.cells (valCells [3]).toArray 38)) (fun h => h)) (Nat.lt_of_lt_of_le h2w K12.out.size) hv (fun b hb => by have hb : some _ = some b := hb; simp only [Option.some.injEq] at hb; omega)
  have hs2 := K12.out.size
  have K3 := hide (K12.out.trans k3)
  have HG := hide hg
  clear hin k3 HS hv hg
  go_wp2_with fail
  refine HG.out.mono ?_
  rintro r w4 ⟨rfl, k4⟩
  have k04 : Kp no w w4 := (K3.out.alloc _).comp k4 (fun _ _ h => h) (fun b hb h => by rcases h with h | h <;> omega)
  have hL := load_all (HB.out.kq k04) (fun b hb => Nat.lt_of_lt_of_le (HD.out b hb) k04.size) (HR.out.kp k04)
  have K4 := hide k04
  have HL := hide hL
  have h04 := k04.size
  clear k4 k04 hL HG K3 K12
  cases hld : loadM D with
  | error e =>
    rw [hld] at HL
    obtain ⟨e1, e2, e3, e4⟩ := load_eb hld
    obtain ⟨ec, ea⟩ := e
    simp only at e1 e2 e3 e4
    clear hld
    have hne : (ec == 0) = false := by rw [beq_eq_false_iff_ne]; omega
    go_wp2_with fail
    refine HL.out.mono ?_
    rintro r w5 ⟨hr, k5⟩
    have hr' : r = .returned (.tuple #[.pointer none, .int .i64 ec, .int .i64 ea]) := hr
    subst hr'
    have K5 := hide (K4.out.trans k5)
    clear k5 HL hr
    go_wp2
    go_ret
    exact ⟨by simp, K5.out⟩
  | ok f =>
    rw [hld] at HL
    have hok := load_flatOk hld
    obtain ⟨gl, T, hF⟩ := load_typed hld
    obtain ⟨i0, hi0, hz0, hz1, hz2⟩ := info_parts info_u64'
    have HOk := hide hok
    have HF := hide hF
    have hnf := hF.nf
    clear hld hok hF
    go_wp2_with fail
    refine HL.out.mono ?_
    rintro r w5 ⟨⟨mb, rfl, hmod⟩, k5⟩
    have HMod := hide hmod
    have K5 := hide (K4.out.trans k5)
    have hs5 := k5.size
    clear hmod k5 HL
    go_wp2_with fail
    refine (newStore_any _).mono ?_
    rintro r w6 ⟨rfl, hst1, k6⟩
    have HSt1 := hide hst1
    have K6 := hide k6
    clear hst1 k6
    go_wp2_with fail
    refine (newStore_any _).mono ?_
    rintro r w7 ⟨rfl, hst2, k7⟩
    have HSt2 := hide hst2
    have K7 := hide k7
    have l1 := lt_of_blk HSt1.out.blk
    have l2 := lt_of_blk hst2.blk
    have hsa := start2_any ((HMod.out.kp K6.out.any).kp k7.any) (tb := w5.heap.size) (by omega) (fun b hb => ⟨by have := hb.2; omega, by have := hb.2; omega⟩) HOk.out.pg HOk.out.gl
    have HSa := hide hsa
    clear hst2 k7 hsa
    go_wp2_with fail
    refine HSa.out.mono ?_
    rintro r w8 ⟨⟨ib, mv, gv, rfl, hib, hin, hm1, hm2⟩, k8⟩
    have hs8 := k8.size
    have hsb := start2_any (((HMod.out.kp K6.out.any).kp K7.out.any).kp k8.any) (tb := w6.heap.size) (by omega) (fun b hb => ⟨by have := hb.2; omega, by have := hb.2; omega⟩) HOk.out.pg HOk.out.gl
    have HIn := hide hin
    have HM1 := hide hm1
    have HM2 := hide hm2
    have K8 := hide k8
    have HSb := hide hsb
    clear hin hm1 hm2 k8 hsb HSa
    go_wp2_with fail
    refine HSb.out.mono ?_
    rintro r w9 ⟨⟨jb, mv', gv', rfl, hjb, hjn, hm3, hm4⟩, k9⟩
    have k09 : Kp no w w9 := K5.out.trans (K6.out.trans (K7.out.trans (K8.out.trans k9)))
    have hP : Pair w w5.heap.size (made w4 w5) mb f ib w5.heap.size jb w6.heap.size (List.replicate (f.pages * 64) 0) (f.globals.map fun (n : Nat) => ((n : Nat) : Int)) [] (List.replicate (f.pages * 64) 0) (f.globals.map fun (n : Nat) => ((n : Nat) : Int)) [] w9 :=
      Pair.begin HIn.out hjn ⟨K7.out.blk HSt1.out.blk (fun h => h), HSt1.out.map.kp K7.out (fun _ _ h => h), HSt1.out.few⟩ HSt2.out K8.out k9 (K5.out.trans (K6.out.trans K7.out)) (fun b hb => hb.2) (by omega) ⟨Nat.le_refl _, l1, l2⟩ hib hjb HM1.out HM2.out hm3 hm4 (HTab.out.kp k09 (fun h => h)) h2w
    have HP := hide hP
    have HSt := hide (st_first HF.out)
    have hBw := hP.wB
    clear hP hjn hm3 hm4 k9 k09 HSb HIn HM1 HM2 K8 HSt1 HSt2 K7 K6 K5 K4 HMod HB HD HR HTab
    generalize List.replicate (f.pages * 64) (0 : UInt8) = mem0 at *
    generalize (f.globals.map fun (n : Nat) => ((n : Nat) : Int)) = gl0 at *
    generalize made w4 w5 = ro at *
    obtain ⟨tb, htb⟩ : ∃ tb, tb = w5.heap.size := ⟨_, rfl⟩
    obtain ⟨ub, hub⟩ : ∃ ub, ub = w6.heap.size := ⟨_, rfl⟩
    rw [← hub] at HP
    go_wp2_with fail
    go_loopw [15] (fun kv wr => ∃ (k : Nat) (mem : List UInt8) (g : List Int) (keys : List (Int × Int)), k ≤ f.funcs.length ∧ kv = .int .i64 k ∧ StT gl ⟨[], [], 0, 0, mem, g, keys⟩ ∧ Pair w w5.heap.size ro mb f ib w5.heap.size jb ub mem g keys mem g keys wr) (fun kv _ => f.funcs.length - nOfT kv)
    case atStart => exact ⟨0, mem0, gl0, [], Nat.zero_le _, rfl, HSt.out, HP.out⟩
    case round =>
      obtain ⟨k, mem, g, keys, hk, rfl, hS, hp⟩ := hrel
      have hfn := funcs_any hp.mod
      have HS := hide hS
      have HPr := hide hp
      have HFn := hide hfn
      clear hS hp hfn HP HSt
      go_wp2_with fail
      refine HFn.out.mono ?_
      rintro r w10 ⟨rfl, hw⟩
      rw [hw]
      clear hw w10 HFn
      by_cases hkn : k < f.funcs.length
      · have hmem : f.funcs.getD k fn0 ∈ f.funcs := by rw [List.getD_eq_getElem?_getD, List.getElem?_eq_getElem hkn]; exact List.getElem_mem hkn
        obtain ⟨-, hl8, hl1⟩ := HF.out.fns _ hmem
        have hty := type_any HPr.out.mod hkn (by omega) (by omega) (by omega)
        obtain ⟨t, v, u, s', hcm, htl⟩ := call_typed HF.out hkn (args_seg h0 h1 (f.funcs.getD k fn0).typ.1) (fuel := 3000) (by decide) HS.out
        have href := fun (q : Nat) (hq : q ≤ 100000) => args_ref (f := f) h0 h1 (n := k) (fuel := q) hkn hq
        have hz1 := htl.zero
        have hz2 := htl.nar
        generalize (f.funcs.getD k fn0).typ.1 = ps at *
        generalize (f.funcs.getD k fn0).typ.2 = rs at *
        have HTy := hide hty
        have HCm := hide hcm
        have HTl := hide htl
        have HRef := hide href
        have HZ1 := hide hz1
        have HZ2 := hide hz2
        clear hty hmem hcm htl href hz1 hz2
        go_wp2_with fail
        refine HTy.out.mono ?_
        rintro r w10 ⟨⟨g1, g2, rfl, hg1, hg2, hn1, hn2⟩, k10⟩
        have HN1 := hide hn1.at
        have HN2 := hide hn2.at
        have K10 := hide k10
        clear hn1 hn2 k10 HTy
        go_wp2_with fail
        go_loopw [19, 20, 21] (fun av kv _ wx => ∃ (q : Nat), q ≤ ps.length ∧ kv = .int .i64 q ∧ wx.ownsRow w10.heap.size 38 1 av q (valCells ((argsT a ps).take q)) ∧ Kp no w10 wx) (fun _ kv _ _ => ps.length - nOfT kv)
        case atStart => exact ⟨0, Nat.zero_le _, rfl, World.ownsRow_nil _ _ _ _, Kp.refl _ _⟩
        case round =>
          obtain ⟨q, hq, rfl, hown, hkq⟩ := hrel
          obtain ⟨adq, cpq, hvq⟩ := own_shape hown
          subst hvq
          have HO := hide hown
          have HK := hide hkq
          have hszr := hkq.size
          clear hown hkq
          by_cases hqn : q < ps.length
          · obtain ⟨ap, op, cpp, hep, -, hcell⟩ := BytesAt.get (HN1.out.kq HK.out) hqn
            cases hep
            rw [Nat.zero_add] at hcell
            have hsu := take_args (a := a) hqn
            generalize ps.getD q 0 = pq at *
            have HSu := hide hsu
            clear hsu
            go_upto_if 115 with fail
            go_cut [21] (fun z wy => z = .int .u64 (argT a pq) ∧ wr = wy)
            case first =>
              by_cases h127 : pq = 127
              · have hb7 : ((pq.toNat : Int) == 127) = true := by rw [h127]; rfl
                have hta : argT a pq = a % 4294967296 := by unfold argT; rw [if_pos h127]
                have HTa := hide hta
                clear hta
                go_wp2_with fail
                go_meet
                exact ⟨by rw [HTa.out], rfl⟩
              · have hb7 : ((pq.toNat : Int) == 127) = false := by
                  rw [beq_eq_false_iff_ne]
                  intro e
                  exact h127 (UInt8.toNat_inj.1 (by show pq.toNat = 127; omega))
                have hta : argT a pq = a := by unfold argT; rw [if_neg h127]
                have HTa := hide hta
                clear hta
                go_wp2_with fail
                go_meet
                exact ⟨by rw [HTa.out], rfl⟩
            case rest =>
            obtain ⟨rfl, rfl⟩ := hcut
            generalize argT a pq = va at *
            go_wp2_with (at_builtin; refine wpList_append_row _ rfl _ _ 53 rfl w10.heap.size 38 i0 (.int .u64 0) 1 8 Tryz.underlying53 hi0 hz0 hz1 hz2 rfl (by decide) _ _ _ rfl (HO.out.alloc _) _ 1 _ rfl (RowAt.ofBlock (heap_alloc_new _ _) 1 1 rfl) ?c1h ?c1a ?c1b ?c1c ?_)
            case c1h => repeat' (first | rfl | apply And.intro)
            case c1a => unfold maxLen; omega
            case c1b => omega
            case c1c => simp; omega
            intro v3 w3' hown3 hgrow3
            obtain ⟨ad3', cap3', rfl⟩ := own_shape hown3
            have HK3 := hide ((HK.out.alloc _).grown hgrow3 (fun b hb => .inr (own_new HO.out b hb)))
            have HO3 : Hid (w3'.ownsRow w10.heap.size 38 1 (.slice ad3' (q + 1) cap3') (q + 1) (valCells ((argsT a ps).take (q + 1)))) := by
              refine hide ?_
              rw [HSu.out, vals_app]
              exact hown3
            clear hown3 hgrow3
            go_wp2
            go_roundw
            case rel => exact ⟨q + 1, by omega, by go_num, HO3.out, HK3.out⟩
            case measure => simp [nOfT, intOf]; omega
          · obtain rfl : q = ps.length := by omega
            have hta : (argsT a ps).take ps.length = argsT a ps := List.take_of_length_le (by unfold argsT; simp)
            have ho := HO.out
            rw [hta] at ho
            have hal : (argsT a ps).length = ps.length := by unfold argsT; simp
            have hva : ValsAt wr (.slice adq ps.length cpq) (argsT a ps) := by
              unfold ValsAt
              rw [hal]
              exact RowAt.own ho
            have hnew := own_new ho
            have hp1 := (HPr.out.quiet (K10.out.trans HK.out))
            have hlt := hp1.lts
            have hlt0 := HPr.out.lts
            have hlt1 := HPr.out.swap.lts
            have hs10 := K10.out.size
            have hc1 := hp1.call (n := k) (fuel := 3000) HOk.out hva (by omega) (fun b hb => by have := hnew b hb; omega) (HRef.out 3000 (by decide)) (by decide) HCm.out ⟨by have := HTl.out.mem; omega, by have := HTl.out.glo; have := HF.out.ng.2; omega, by have := HTl.out.keys; omega⟩
            have HC1 := hide hc1
            have HVa := hide hva
            have HNew := hide hnew
            clear hc1 hva hnew ho hta hp1
            go_wp2_with fail
            refine HC1.out.mono ?_
            rintro r w11 ⟨rfl, hca, hcb, k11⟩
            have HCa := hide hca
            have HCb := hide hcb
            have K11 := hide k11
            have hs11 := k11.size
            have hu := HTl.out.used
            have hv0 := HTl.out.val
            have hf5 := HTl.out.f5
            have HF5 := hide hf5
            clear hca hcb k11 HC1 hf5
            go_upto_region 30 with fail
            go_cut [148] (fun z wx => z = .bool false ∧ w11.alloc (.cells #[.int .i64 0, .int .i64 t, .int .u64 v, .int .i64 u] 51) = wx)
            case first =>
              by_cases ht5 : t = 5
              · have hu3 := HF5.out ht5
                subst ht5 hu3
                go_wp2_with fail
                go_meet
                exact ⟨by simp, rfl⟩
              · have hb5 : ((t : Int) == 5) = false := by rw [beq_eq_false_iff_ne]; omega
                go_wp2_with fail
                go_meet
                exact ⟨by simp; omega, rfl⟩
            case rest =>
            obtain ⟨rfl, rfl⟩ := hcut
            have hr11 : BytesAt w11 (.slice (some ⟨g2, 0, none⟩) rs.length rs.length) rs := RowAt.kp (HN2.out.kq HK.out) K11.out (fun b hb h => by have hb : some _ = some b := hb; simp only [Option.some.injEq] at hb; rcases h with h | h <;> omega)
            have hrs := hr11.kq ((Kp.refl no w11).alloc (.cells #[.int .i64 0, .int .i64 t, .int .u64 v, .int .i64 u] 51))
            clear hr11
            have HRs := hide hrs
            clear hrs
            go_upto_region 32 with fail
            go_cut [161] (fun z wx => z = .bool false ∧ w11.alloc (.cells #[.int .i64 0, .int .i64 t, .int .u64 v, .int .i64 u] 51) = wx)
            case first =>
              by_cases ht0 : t = 0
              · subst ht0
                by_cases hr0 : rs.length = 0
                · have hv1 : v = 0 := HZ1.out (.inr (List.length_eq_zero_iff.1 hr0))
                  have hb0 : ((rs.length : Int) == 0) = true := by rw [hr0]; rfl
                  subst hv1
                  clear hr0
                  go_wp2_with fail
                  go_meet
                  exact ⟨by simp, rfl⟩
                · have hb0 : ((rs.length : Int) == 0) = false := by rw [beq_eq_false_iff_ne]; omega
                  clear hr0
                  go_wp2_with fail
                  go_meet
                  exact ⟨by simp, rfl⟩
              · have hv1 : v = 0 := HZ1.out (.inl ht0)
                have hb0 : ((t : Int) == 0) = false := by rw [beq_eq_false_iff_ne]; omega
                subst hv1
                go_wp2_with fail
                go_meet
                exact ⟨by simp, rfl⟩
            case rest =>
            obtain ⟨rfl, rfl⟩ := hcut
            go_upto_region 34 with fail
            go_cut [175] (fun z wx => z = .bool false ∧ w11.alloc (.cells #[.int .i64 0, .int .i64 t, .int .u64 v, .int .i64 u] 51) = wx)
            case first =>
              by_cases hr1 : rs.length = 1
              · obtain ⟨y, hy⟩ : ∃ y, rs = [y] := List.length_eq_one_iff.1 hr1
                obtain ⟨ag, og, cg, heg, -, hcg⟩ := BytesAt.get HRs.out (k := 0) (by omega)
                simp only [Value.slice.injEq, Option.some.injEq, Addr.mk.injEq] at heg
                obtain ⟨⟨rfl, rfl, -⟩, -, rfl⟩ := heg
                have hcg' : (w11.alloc (.cells #[.int .i64 0, .int .i64 t, .int .u64 v, .int .i64 u] 51)).cell? ⟨g2, 0, none⟩ = some (.int .u8 y.toNat) := by rw [hy] at hcg; exact hcg
                have hb1 : ((rs.length : Int) == 1) = true := by rw [hr1]; rfl
                have hpos : 0 < rs.length := by omega
                by_cases hy7 : y = 127
                · have hv32 := HZ2.out (by rw [hy, hy7])
                  have hb7 : ((y.toNat : Int) == 127) = true := by rw [hy7]; rfl
                  clear hcg hr1 hy
                  go_wp2_with fail
                  go_meet
                  exact ⟨by simp; omega, rfl⟩
                · have hb7 : ((y.toNat : Int) == 127) = false := by
                    rw [beq_eq_false_iff_ne]
                    intro e
                    exact hy7 (UInt8.toNat_inj.1 (by show y.toNat = 127; omega))
                  clear hcg hr1 hy
                  go_wp2_with fail
                  go_meet
                  exact ⟨by simp, rfl⟩
              · have hb1 : ((rs.length : Int) == 1) = false := by rw [beq_eq_false_iff_ne]; omega
                clear hr1
                go_wp2_with fail
                go_meet
                exact ⟨by simp, rfl⟩
            case rest =>
            obtain ⟨rfl, rfl⟩ := hcut
            have kA : Kp no w11 (w11.alloc (.cells #[.int .i64 0, .int .i64 t, .int .u64 v, .int .i64 u] 51)) := (Kp.refl no w11).alloc _
            have KA := hide kA
            clear kA
            by_cases ht5 : t = 5
            · subst ht5
              have hpx := (HCb.out (by decide)).quiet KA.out
              have HPx := hide hpx
              clear hpx HCa HCb
              go_wp2
              go_roundw
              case rel => exact ⟨k + 1, mem, g, keys, by omega, by go_num, HS.out, HPx.out⟩
              case measure => simp [nOfT, intOf]; omega
            · have hvj : ValsAt (w11.alloc (.cells #[.int .i64 0, .int .i64 t, .int .u64 v, .int .i64 u] 51)) (.slice adq ps.length cpq) (argsT a ps) :=
                RowAt.kp (RowAt.kp HVa.out K11.out (fun b hb h => by have := HNew.out b hb; rcases h with h | h <;> omega)) KA.out (fun _ _ h => h)
              have hcj : Calls Tryz.prog 27 #[ptrTo jb, .int .i64 k, .slice adq ps.length cpq, .int .i64 ((3000 + k : Nat) : Int)] (w11.alloc (.cells #[.int .i64 0, .int .i64 t, .int .u64 v, .int .i64 u] 51)) fun r w'' => r = .returned (replyV 0 t v u) ∧
                  (∃ mem2 g3 keys2, StT gl ⟨[], [], 0, 0, mem2, g3, keys2⟩ ∧ Pair w w5.heap.size ro mb f ib w5.heap.size jb ub mem2 g3 keys2 mem2 g3 keys2 w'') ∧ Kp (ibtb jb ub) (w11.alloc (.cells #[.int .i64 0, .int .i64 t, .int .u64 v, .int .i64 u] 51)) w'' := by
                have hsz : (sf s' (s'.fuel + k)).mem.length ≤ 1000000 ∧ (sf s' (s'.fuel + k)).gl.length ≤ 1000000 ∧ (sf s' (s'.fuel + k)).keys.length ≤ 1000 :=
                  ⟨by show s'.mem.length ≤ _; have := HTl.out.mem; omega, by show s'.gl.length ≤ _; have := HTl.out.glo; have := HF.out.ng.2; omega, by show s'.keys.length ≤ _; have := HTl.out.keys; omega⟩
                by_cases ht0 : t = 0
                · have hpx := ((HCa.out ht0).quiet KA.out).swap
                  have hc := hpx.call (n := k) (fuel := 3000 + k) HOk.out hvj (by omega) (fun b hb => by have := HNew.out b hb; omega) (HRef.out (3000 + k) (by omega)) (by decide) (callT_more k HCm.out ht5) hsz
                  refine hc.mono ?_
                  rintro r w'' ⟨e1, e2, -, e4⟩
                  exact ⟨e1, ⟨s'.mem, s'.gl, s'.keys, HTl.out.st ht0, (e2 ht0).swap⟩, e4⟩
                · have hpx := ((HCb.out ht0).quiet KA.out).swap
                  have hc := hpx.call (n := k) (fuel := 3000 + k) HOk.out hvj (by omega) (fun b hb => by have := HNew.out b hb; omega) (HRef.out (3000 + k) (by omega)) (by decide) (callT_more k HCm.out ht5) hsz
                  refine hc.mono ?_
                  rintro r w'' ⟨e1, -, e3, e4⟩
                  exact ⟨e1, ⟨mem, g, keys, HS.out, (e3 ht0).swap⟩, e4⟩
              have hw3 : IntKind.i64.wrap (3000 + (k : Int)) = ((3000 + k : Nat) : Int) := by rw [IntKind.wrap_i64]; omega
              have hb5 : ((t : Int) == 5) = false := by rw [beq_eq_false_iff_ne]; omega
              have HCj := hide hcj
              clear hcj hvj
              go_wp2_with fail
              refine HCj.out.mono ?_
              rintro r w12 ⟨rfl, ⟨mem2, g3, keys2, hs2', hp2⟩, k12⟩
              have hblk := k12.blk (heap_alloc_new w11 (.cells #[.int .i64 0, .int .i64 t, .int .u64 v, .int .i64 u] 51)) (fun h => by rcases h with h | h <;> omega)
              have hcr : ∀ obj q, (w12.alloc obj).cell? ⟨w11.heap.size, q, none⟩ = #[.int .i64 0, .int .i64 t, .int .u64 v, .int .i64 u][q]? := fun obj q => (cells_of (heap_alloc_old hblk)).1 q
              have HS2 := hide hs2'
              have HP2 := hide (hp2.quiet ((Kp.refl no w12).alloc (.cells #[.int .i64 0, .int .i64 t, .int .u64 v, .int .i64 u] 51)))
              clear hs2' hp2 k12 hblk HCj
              go_wp2
              go_roundw
              case rel => exact ⟨k + 1, mem2, g3, keys2, by omega, by go_num, HS2.out, HP2.out⟩
              case measure => simp [nOfT, intOf]; omega
      · obtain rfl : k = f.funcs.length := by omega
        have hk0 := HPr.out.kp
        clear HPr HS HF HOk
        go_wp2
        go_ret
        exact ⟨by simp, hk0⟩
end Go.Proofs.YtdeplgkhmebalaaGreatDoor
