/- What is refused has its error: what lies in memory meanwhile. -/
import Derived.Test.YtdeplgkhmebalabGreatDoorKeepA

namespace Go.Proofs.YtdeplgkhmebalabGreatDoor
open Go.RowKit

theorem Kp.over' {S : Nat → Prop} {w W W' : World} (h : Kp no w W) (k : Kp S W W') (hs : ∀ b, S b → w.heap.size ≤ b) : Kp no w W' :=
  h.comp k (fun _ _ h => h) (fun y hl hy => absurd hl (by have := hs y hy; omega))
theorem Inst.newer {w w1 W : World} {ib tb : Nat} {f : Flat} {mem : List UInt8} {gl : List Int} {keys : List (Int × Int)} (h : Inst w1 W ib tb f mem gl keys) (hw : w.heap.size ≤ w1.heap.size) : Inst w W ib tb f mem gl keys := by
  obtain ⟨⟨ro, mb, mv, gv, p, h1, h2, h3, h4, h5⟩, h6, h7⟩ := h
  exact ⟨⟨ro, mb, mv, gv, p, h1, h2, fun b hb => Nat.le_trans hw (h3 b hb), fun b hb => Nat.le_trans hw (h4 b hb), fun b hb => Nat.le_trans hw (h5 b hb)⟩, Nat.le_trans hw h6, Nat.le_trans hw h7⟩
/-- An instance, a module beside it, and blocks that were made since. -/
structure FiSt (w : World) (B0 ib tb mb : Nat) (keys : List (Int × Int)) (L : List (Nat × Obj)) (W : World) : Prop where
  inst : Inst w W ib tb kpF (List.replicate 64 0) [5] keys
  mod : ∃ ro, ModAt W ro mb 69 kpF ∧ ∀ b, ro b → B0 ≤ b
  li : ib < B0
  lt : tb < B0
  kp : Kp no w W
  blks : ∀ p ∈ L, W.heap[p.1]? = some p.2 ∧ B0 ≤ p.1
  le : B0 ≤ W.heap.size
theorem kp_ref00 (a v : Int) : refusesM kpF ((0 : Nat) : Int) [a, v] ((100000 : Nat) : Int) = 0 := by
  have hfi : fitsM [a, v] [126, 126] = true := by simp [fitsM, fitsAt, List.range, List.range.loop]
  unfold refusesM
  rw [if_neg (by rw [kp_okay.nf]; omega), show (kpF.funcs.getD (((0 : Nat) : Int)).toNat fn0).typ.1 = [126, 126] by kernel_rfl, hfi, if_neg (by simp), if_neg (by omega)]
section
variable {w W W' : World} {B0 ib tb mb : Nat} {keys keys' : List (Int × Int)} {L : List (Nat × Obj)}
theorem FiSt.step (h : FiSt w B0 ib tb mb keys L W) (hI : Inst w W' ib tb kpF (List.replicate 64 0) [5] keys') (k : Kp (ibtb ib tb) W W') : FiSt w B0 ib tb mb keys' L W' := by
  obtain ⟨ro, hm, hro⟩ := h.mod
  have h1 := h.li
  have h2 := h.lt
  refine ⟨hI, ⟨ro, hm.kp (k.mono ?_), hro⟩, h1, h2, h.kp.over' k ?_, fun p hp => ⟨k.blk (h.blks p hp).1 ?_, (h.blks p hp).2⟩, Nat.le_trans h.le k.size⟩
  · rintro b - hb hr
    have := hro b hr
    rcases hb with rfl | rfl <;> omega
  · rintro b (rfl | rfl)
    · exact h.inst.ib
    · exact h.inst.tb
  · have := (h.blks p hp).2
    rintro (e | e) <;> omega
theorem FiSt.quiet (h : FiSt w B0 ib tb mb keys L W) (k : Kp no W W') : FiSt w B0 ib tb mb keys L W' := by
  obtain ⟨ro, hm, hro⟩ := h.mod
  exact ⟨h.inst.quiet k, ⟨ro, hm.kp k.any, hro⟩, h.li, h.lt, h.kp.trans k, fun p hp => ⟨k.blk (h.blks p hp).1 (fun h => h), (h.blks p hp).2⟩, Nat.le_trans h.le k.size⟩
theorem FiSt.push (h : FiSt w B0 ib tb mb keys L W) (o : Obj) : FiSt w B0 ib tb mb keys ((W.heap.size, o) :: L) (W.alloc o) := by
  have h' := h.quiet ((Kp.refl no W).alloc o)
  refine ⟨h'.inst, h'.mod, h'.li, h'.lt, h'.kp, fun p hp => ?_, h'.le⟩
  rcases List.mem_cons.1 hp with rfl | hp
  · exact ⟨heap_alloc_new _ _, h.le⟩
  · exact h'.blks p hp
theorem FiSt.apart (h : FiSt w B0 ib tb mb keys L W) {b : Nat} (hb : B0 ≤ b) {n c : Nat} : ∀ x, (Value.slice (some ⟨b, 0, none⟩) n c).ownBlock = some x → x ≠ ib ∧ x ≠ tb := by
  intro x hx
  obtain rfl : b = x := Option.some.inj hx
  have h1 := h.li
  have h2 := h.lt
  omega
/-- A call that is refused. -/
theorem FiSt.refused {av : Value} {args : List Int} {n fuel : Int} (h : FiSt w B0 ib tb mb keys L W) (ha : ValsAt W av args) (hal : args.length ≤ 1000) (hav : ∀ b, av.ownBlock = some b → b ≠ ib ∧ b ≠ tb) (e : Nat) (he : refusesM kpF n args fuel = ((e + 1 : Nat) : Int)) :
    Calls Tryz.prog 11 #[ptrTo ib, .int .i64 n, av, .int .i64 fuel] W fun r w' => r = .returned (replyV ((e + 1 : Nat) : Int) 0 0 0) ∧ FiSt w B0 ib tb mb keys L w' :=
  (callI_refused h.inst kp_okay.ok ha hal hav e he).mono fun _ _ ⟨h1, h2, h3⟩ => ⟨h1, h.step h2 h3⟩
theorem FiSt.refL (h : FiSt w B0 ib tb mb keys L W) (l : List Int) {n fuel : Int} (hal : l.length ≤ 1000) (e : Nat) (he : refusesM kpF n l fuel = ((e + 1 : Nat) : Int)) :
    Calls Tryz.prog 11 #[ptrTo ib, .int .i64 n, .slice (some ⟨W.heap.size, 0, none⟩) l.length l.length, .int .i64 fuel] (W.alloc (.cells (valCells l).toArray 22)) fun r w' => r = .returned (replyV ((e + 1 : Nat) : Int) 0 0 0) ∧ FiSt w B0 ib tb mb keys L w' :=
  (h.quiet ((Kp.refl no W).alloc _)).refused (ValsAt.made W l) hal (h.apart h.le) e he
theorem FiSt.put (h : FiSt w B0 ib tb mb [] L W) (any : Int) :
    Calls Tryz.prog 9 #[ptrTo ib, .int .i64 0, .slice (some ⟨W.heap.size, 0, none⟩) 2 2, .int .u64 0, .int .i64 3] (W.alloc (.cells (valCells [1, any]).toArray 22)) fun r w' => r = .returned (.bool true) ∧ FiSt w B0 ib tb mb [(1, wrap64 any)] L w' := by
  have h' := h.quiet ((Kp.refl no W).alloc (.cells (valCells [1, any]).toArray 22))
  have hc := kp_put (k := 1) (v := any) (F := 99997) (mem := List.replicate 64 0) (gl := [5]) (keys := []) (by simp) (by simp)
  exact (gives_keep (n := 0) (v := 0) (u := 3) h'.inst kp_okay.ok (ValsAt.made W [1, any]) (by simp) (h.apart h.le) (kp_ref00 _ _) (by omega) hc ⟨by simp, by simp, by
    change (putKey [] _ _).length ≤ 1000
    rw [putKey_len]
    simp [look]⟩).mono fun _ _ ⟨h1, h2, h3⟩ => ⟨h1, h'.step (by
      have e : putKey [] (wrap64 1) (wrap64 any) = [(1, wrap64 any)] := by
        rw [show wrap64 1 = 1 by unfold wrap64; omega]
        unfold putKey
        simp [look]
      rw [← e]
      exact h2) h3⟩
theorem FiSt.get (h : FiSt w B0 ib tb mb keys L W) (hne : keys ≠ []) (k : Int) (h1 : -9223372036854775808 ≤ k) (h2 : k < 9223372036854775808) :
    Calls Tryz.prog 13 #[ptrTo tb, .int .i64 k] W fun r w' => r = .returned (.tuple #[.int .i64 ((look keys k).getD 0), .bool (look keys k).isSome]) ∧ FiSt w B0 ib tb mb keys L w' :=
  (get_keep h.inst hne k h1 h2).mono fun _ _ ⟨h3, h4, h5⟩ => ⟨h3, h.step h4 h5⟩
end
theorem kp_refF {n : Int} (hn : n < 0 ∨ 3 ≤ n) (fuel : Int) : refusesM kpF n [] fuel = 4 := by
  unfold refusesM
  rw [if_pos (hn.imp id (fun h => by rw [kp_okay.nf]; exact h))]
theorem kp_refA0 : refusesM kpF 0 [1] (-1) = 5 := by kernel_rfl
theorem kp_refA1 : refusesM kpF 1 [1, 2] (-1) = 5 := by kernel_rfl
theorem kp_refU {fuel : Int} (hf : fuel < 0 ∨ 100000 < fuel) : refusesM kpF 1 [1] fuel = 6 := by
  have hfi : fitsM [1] [126] = true := by kernel_rfl
  unfold refusesM
  rw [if_neg (by rw [kp_okay.nf]; omega), show (kpF.funcs.getD ((1 : Int)).toNat fn0).typ.1 = [126] by kernel_rfl, hfi, if_neg (by simp), if_pos hf]
theorem ce_refA {x : Int} (hx : 4294967295 < x) : refusesM (cellF 1 0) 2 [x] (-1) = 5 := by
  have hfi : fitsM [x] [127] = false := by simp [fitsM, fitsAt, hx]
  unfold refusesM
  rw [if_neg (by simp [cellF, cellFs]), show ((cellF 1 0).funcs.getD ((2 : Int)).toNat fn0).typ.1 = [127] from rfl, hfi, if_pos rfl]
theorem ce_load0 : loadM (cellBytes 1 0) = .ok (cellF 1 0) ∧ (cellBytes 1 0).length ≤ 1000 := cellIs_spec (by omega) (by kernel_rfl)
theorem ce_ok0 : FlatOk (cellF 1 0) := flatOk_of (by kernel_rfl)
theorem zeros_row {w : World} {B n : Nat} {v : Value} (h : w.ownsRow B 5 1 v n (madeCells #[.int .u8 0] n).toList) : BytesAt w v (List.replicate n 0) := by
  have := RowAt.own h
  rw [toList_madeCells_one] at this
  show RowAt w v 1 (List.replicate n (0 : UInt8)).length (byteCells' (List.replicate n 0))
  rw [List.length_replicate, zero_bytes]
  exact this
theorem long_error : loadM (List.replicate 2001 0) = .error (1, 0) := by kernel_rfl
end Go.Proofs.YtdeplgkhmebalabGreatDoor

namespace Go.Proofs.YtdeplgkhmebalabGreatDoor
open Go.RowKit

def nOfF : Value → Nat
  | .int _ n => n.toNat
  | _ => 0
theorem fi_load {w : World} {dv : Value} {D : List UInt8} {f : Flat} (hb : BytesAt w dv D) (hd : ∀ b, dv.ownBlock = some b → b < w.heap.size) (hR : RowsOk w) (hl : D.length ≤ 1000000) (hf : loadM D = .ok f) :
    Calls Tryz.prog 8 #[dv] w fun r w' => (∃ mb, r = .returned (.tuple #[ptrTo mb, .int .i64 0, .int .i64 0]) ∧ ModAt w' (made w w') mb 69 f) ∧ Kp no w w' := by
  have hL := load_any hb hd hR hl
  rw [hf] at hL
  exact hL
theorem fi_long {w : World} {dv : Value} (hb : BytesAt w dv (List.replicate 2001 0)) (hd : ∀ b, dv.ownBlock = some b → b < w.heap.size) (hR : RowsOk w) :
    Calls Tryz.prog 8 #[dv] w fun r w' => r = .returned (.tuple #[.pointer none, .int .i64 1, .int .i64 0]) ∧ Kp no w w' := by
  have hL := load_any hb hd hR (by rw [List.length_replicate]; omega)
  rw [long_error] at hL
  exact hL

set_option maxRecDepth 100000 in
set_option maxHeartbeats 8000000 in
theorem firm_any {w : World} (hR : RowsOk w) (f0 : Int) (any : Nat) (hf1 : -9223372036854775808 ≤ f0) (hf2 : f0 < 9223372036854775808) (ha0 : any < 18446744073709551616) :
    Calls Tryz.prog 3 #[.int .i64 f0, .int .u64 any] w fun r w' => r = .returned (.bool true) ∧ Kp no w w' := by
  obtain ⟨i0, hi0, hz0, hz1, hz2⟩ := info_parts info_su8
  have hfl : pickM f0 1099511627776 < 1099511627776 := Nat.mod_lt _ (by decide)
  have hpk := pickK_any w f0 1099511627776 hf1 hf2 (by decide) (by decide)
  generalize pickM f0 1099511627776 = far at *
  have HPk := hide hpk
  have HR := hide hR
  clear hpk hR hf1 hf2
  go_enter Tryz.func3, Tryz.ntmps3
  go_wp2_with fail
  refine HPk.out.mono ?_
  rintro r w1 ⟨rfl, hw⟩
  rw [hw]
  clear hw w1 HPk
  go_wp2_with fail
  refine (keepsK_any _).mono ?_
  rintro r w1 ⟨⟨v1, rfl, h1⟩, k1⟩
  obtain ⟨a1, c1, hv1, -⟩ := h1.at.shape
  subst hv1
  have hS := started_keep h1.at h1.lt (HR.out.kp k1) (Nat.le_trans kp_okay.len (by omega)) kp_okay.load kp_okay.ok.pg kp_okay.ok.gl
  rw [kp_okay.mem, kp_okay.gl] at hS
  have HS := hide hS
  have K1 := hide k1
  clear hS h1 k1
  go_wp2_with fail
  refine HS.out.mono ?_
  rintro r w2 ⟨⟨ib, tb, rfl, hI⟩, k2⟩
  have HI := hide hI
  have K2 := hide k2
  clear hI k2 HS
  go_wp2_with fail
  refine (keepsK_any _).mono ?_
  rintro r w3 ⟨⟨v3, rfl, h3⟩, k3⟩
  obtain ⟨a3, c3, hv3, -⟩ := h3.at.shape
  subst hv3
  have hL := fi_load h3.at h3.lt (((HR.out.kp K1.out).kp K2.out).kp k3) (Nat.le_trans kp_okay.len (by omega)) kp_okay.load
  have HL := hide hL
  have K3 := hide k3
  clear hL h3 k3
  go_wp2_with fail
  refine HL.out.mono ?_
  rintro r w4 ⟨⟨mb, rfl, hM⟩, k4⟩
  have hst : FiSt w w2.heap.size ib tb mb [] [] w4 := by
    have s3 := K3.out.size
    have s4 := k4.size
    obtain ⟨⟨ro, mb', mv, gv, p, i1, i2, i3⟩, i4, i5⟩ := HI.out.newer K1.out.size
    refine ⟨((HI.out.newer K1.out.size).quiet K3.out).quiet k4, ⟨_, hM, fun b hb => by have := hb.1; omega⟩, lt_of_blk i1.blk, lt_of_blk i2.blk, K1.out.trans (K2.out.trans (K3.out.trans k4)), fun p hp => by (cases hp), by omega⟩
  obtain ⟨B0, hB0⟩ : ∃ B0, w2.heap.size = B0 := ⟨_, rfl⟩
  rw [hB0] at hst
  have HSt := hide hst
  clear hst hM k4 HL HI K1 K2 K3 hB0
  have hp := HSt.out.put (any : Int)
  have HP := hide hp
  clear hp
  go_wp2_with fail
  refine HP.out.mono ?_
  rintro r w5 ⟨rfl, h5⟩
  have HSt5 := hide h5
  have hy : wrap64 (any : Int) = IntKind.i64.wrap (any : Int) := by rw [IntKind.wrap_i64]; unfold wrap64; omega
  obtain ⟨y, hyy⟩ : ∃ y, IntKind.i64.wrap (any : Int) = y := ⟨_, rfl⟩
  rw [hy, hyy] at HSt5
  clear h5 HP HSt hy
  -- a load that is too long
  go_wp2_with (at_make; refine wpList_make_full _ rfl _ _ 28 rfl w5.heap.size 5 i0 (.int .u8 0) 1 Tryz.underlying28 hi0 hz0 hz1 _ _ _ _ 2001 rfl rfl (by first | rfl | (push_cast; rfl)) (by first | rfl | (push_cast; rfl)) ?c1 ?c2 (Nat.le_refl _) ?_)
  case c1 => rw [hz2]; omega
  case c2 => unfold maxLen; omega
  intro w6 hown hgrow
  have k6 := Kp.ofGrown hgrow
  have hlong := fi_long (w := w6) (zeros_row hown) (fun b hb => (World.ownsRow.lt hown b hb).2) (HR.out.kp (HSt5.out.kp.trans k6))
  have HLong := hide hlong
  have HSt6 := hide (HSt5.out.quiet k6)
  clear hown hgrow k6 hlong HSt5
  go_wp2_with fail
  refine HLong.out.mono ?_
  rintro r w7 ⟨rfl, k7⟩
  have h7 := HSt6.out.quiet k7
  have h7' := h7.push (.cells #[.int .i64 (-1 - (far : Int)), .int .i64 3, .int .i64 (3 + (far : Int))] 3)
  have HSt7 := hide h7'
  have hB7 := h7.le
  have hw1 : IntKind.i64.wrap (-1 - (far : Int)) = -1 - (far : Int) := by rw [IntKind.wrap_i64]; omega
  have hw2 : IntKind.i64.wrap (3 + (far : Int)) = 3 + (far : Int) := by rw [IntKind.wrap_i64]; omega
  have hw3 : IntKind.i64.wrap (100001 + (far : Int)) = 100001 + (far : Int) := by rw [IntKind.wrap_i64]; omega
  clear k7 h7 h7' HSt6 HLong
  go_wp2
  go_loopw [15] (fun kv wr => ∃ (k : Nat), k ≤ 3 ∧ kv = .int .i64 k ∧ FiSt w B0 ib tb mb [(1, y)] [(w7.heap.size, .cells #[.int .i64 (-1 - (far : Int)), .int .i64 3, .int .i64 (3 + (far : Int))] 3)] wr) (fun kv _ => 3 - nOfF kv)
  case atStart => exact ⟨0, by omega, rfl, HSt7.out⟩
  case round =>
    obtain ⟨k, hk, rfl, hst⟩ := hrel
    have HSr := hide hst
    obtain ⟨hb7, -⟩ := hst.blks _ (.head _)
    obtain ⟨hc7, -⟩ := cells_of hb7
    clear hst hb7
    by_cases hk3 : k < 3
    · obtain ⟨tk, htk, hck⟩ : ∃ tk : Int, (tk < 0 ∨ 3 ≤ tk) ∧ wr.cell? ⟨w7.heap.size, k, none⟩ = some (.int .i64 tk) := by
        match k, hk3 with
        | 0, _ => exact ⟨-1 - (far : Int), by omega, by rw [hc7]; rfl⟩
        | 1, _ => exact ⟨3, by omega, by rw [hc7]; rfl⟩
        | 2, _ => exact ⟨3 + (far : Int), by omega, by rw [hc7]; rfl⟩
      obtain ⟨ro, hmo, -⟩ := HSr.out.mod
      have hty := type_refused (n := tk) hmo (htk.imp id (fun h => by rw [kp_okay.nf]; exact h))
      have hca := HSr.out.refused (av := .slice none 0 0) (args := []) (n := tk) (fuel := -1) (RowAt.nil _ 1) (by simp) (fun b hb => by cases hb) 3 (kp_refF htk _)
      have HTy := hide hty
      have HCa := hide hca
      clear hc7 hmo hty hca htk
      go_wp2_with fail
      refine HTy.out.mono ?_
      rintro r w8 ⟨rfl, hw⟩
      rw [hw]
      clear hw w8
      go_wp2_with fail
      refine HCa.out.mono ?_
      rintro r w8 ⟨rfl, h8⟩
      have HS8 := hide h8
      clear h8 HCa HTy
      go_wp2
      go_roundw
      case rel => exact ⟨k + 1, by omega, by go_num, HS8.out.quiet ((Kp.refl no w8).alloc _)⟩
      case measure => simp [nOfF]; omega
    · obtain rfl : k = 3 := by omega
      have hcA := HSr.out.refL [1] (n := 0) (fuel := -1) (by simp) 4 kp_refA0
      have HcA := hide hcA
      clear hcA hc7
      go_wp2_with fail
      refine HcA.out.mono ?_
      rintro r w8 ⟨rfl, h8⟩
      have h8' := h8.push (.cells #[.int .i64 5, .int .i64 0, .int .u64 0, .int .i64 0] 41)
      have hcB := h8'.refL [1, 2] (n := 1) (fuel := -1) (by simp) 4 kp_refA1
      rw [show (w8.alloc (.cells #[.int .i64 5, .int .i64 0, .int .u64 0, .int .i64 0] 41)).heap.size = w8.heap.size + 1 by simp] at hcB
      have HcB := hide hcB
      clear h8 h8' hcB HcA HSr
      go_wp2_with fail
      refine HcB.out.mono ?_
      rintro r w9 ⟨rfl, h9⟩
      have h9' := h9.push (.cells #[.int .i64 5, .int .i64 0, .int .u64 0, .int .i64 0] 41)
      have hcC := h9'.refL [1] (n := 1) (fuel := -1 - (far : Int)) (by simp) 5 (kp_refU (by omega))
      rw [show (w9.alloc (.cells #[.int .i64 5, .int .i64 0, .int .u64 0, .int .i64 0] 41)).heap.size = w9.heap.size + 1 by simp] at hcC
      have HcC := hide hcC
      clear h9 h9' hcC HcB
      go_wp2_with fail
      refine HcC.out.mono ?_
      rintro r w10 ⟨rfl, h10⟩
      have h10' := h10.push (.cells #[.int .i64 6, .int .i64 0, .int .u64 0, .int .i64 0] 41)
      have hcD := h10'.refL [1] (n := 1) (fuel := 100001 + (far : Int)) (by simp) 5 (kp_refU (by omega))
      rw [show (w10.alloc (.cells #[.int .i64 6, .int .i64 0, .int .u64 0, .int .i64 0] 41)).heap.size = w10.heap.size + 1 by simp] at hcD
      have HcD := hide hcD
      clear h10 h10' hcD HcC
      go_wp2_with fail
      refine HcD.out.mono ?_
      rintro r w11 ⟨rfl, h11⟩
      have HS11 := hide (h11.push (.cells #[.int .i64 6, .int .i64 0, .int .u64 0, .int .i64 0] 41))
      clear h11 HcD
      go_wp2_with fail
      refine (cellsK_any _ 1 0 (by omega) (by omega) ce_load0.2).mono ?_
      rintro r w12 ⟨⟨v12, rfl, h12⟩, k12⟩
      obtain ⟨a12, c12, hv12, -⟩ := h12.at.shape
      subst hv12
      have HS12 := hide (HS11.out.quiet k12)
      have hN := started_keep h12.at h12.lt (HR.out.kp HS12.out.kp) (Nat.le_trans ce_load0.2 (by omega)) ce_load0.1 ce_ok0.pg ce_ok0.gl
      have HN := hide hN
      clear hN h12 k12 HS11
      go_wp2_with fail
      refine HN.out.mono ?_
      rintro r w13 ⟨⟨nb, ntb, rfl, hI13⟩, k13⟩
      have K13 := hide k13
      obtain ⟨z, hz⟩ : ∃ z : Int, 4294967296 + (any : Int) % 1152921504606846976 = z := ⟨_, rfl⟩
      have hzr : 4294967295 < z := by omega
      have hzw : IntKind.u64.wrap (4294967296 + (any : Int) % 1152921504606846976) = z := by rw [IntKind.wrap_u64]; omega
      have hzw2 : IntKind.u64.wrap (4294967296 + Int.tmod (any : Int) 1152921504606846976) = z := by rw [Int.tmod_eq_emod_of_nonneg (by omega), hzw]
      have hnl := hI13.ib
      have hnt := hI13.tb
      have hni : nb < w13.heap.size ∧ ntb < w13.heap.size := by
        obtain ⟨⟨ro, mb', mv, gv, p, i1, i2, i3⟩, i4, i5⟩ := hI13
        exact ⟨lt_of_blk i1.blk, lt_of_blk i2.blk⟩
      have hcN := callI_refused (n := 2) (fuel := -1) (hI13.quiet ((Kp.refl no w13).alloc (.cells (valCells [z]).toArray 22))) ce_ok0 (ValsAt.made w13 [z]) (by simp) (fun b hb => by have hb : some _ = some b := hb; simp only [Option.some.injEq] at hb; omega) 4 (ce_refA hzr)
      have HcN := hide hcN
      clear hcN hI13 k13 HN hz
      go_wp2_with fail
      refine HcN.out.mono ?_
      rintro r w14 ⟨rfl, -, k14⟩
      have k14' : Kp no w12 w14 := Kp.over' (K13.out.alloc _) k14 (fun b hb => by rcases hb with rfl | rfl <;> assumption)
      have h14 := (HS12.out.quiet k14').push (.cells #[.int .i64 5, .int .i64 0, .int .u64 0, .int .i64 0] 41)
      have hG1 := h14.get (by simp) 1 (by omega) (by omega)
      rw [show look [((1 : Int), y)] 1 = some y from by simp [look]] at hG1
      have HG1 := hide hG1
      clear h14 hG1 k14 k14' HS12 HcN K13
      go_wp2_with fail
      refine HG1.out.mono ?_
      rintro r w15 ⟨rfl, h15⟩
      have hG2 := h15.get (by simp) 2 (by omega) (by omega)
      rw [show look [((1 : Int), y)] 2 = none from by simp [look]] at hG2
      have HG2 := hide hG2
      clear h15 hG2 HG1
      go_wp2_with fail
      refine HG2.out.mono ?_
      rintro r w16 ⟨rfl, h16⟩
      obtain ⟨ro, hmo, -⟩ := h16.mod
      have hfn := funcs_any hmo
      rw [kp_okay.nf] at hfn
      have HFn := hide hfn
      obtain ⟨hbN, -⟩ := h16.blks _ (.head _)
      obtain ⟨hbD, -⟩ := h16.blks _ (.tail _ (.head _))
      obtain ⟨hbC, -⟩ := h16.blks _ (.tail _ (.tail _ (.head _)))
      obtain ⟨hbB, -⟩ := h16.blks _ (.tail _ (.tail _ (.tail _ (.head _))))
      obtain ⟨hbA, -⟩ := h16.blks _ (.tail _ (.tail _ (.tail _ (.tail _ (.head _)))))
      obtain ⟨hcN, -⟩ := cells_of hbN
      obtain ⟨hcD, -⟩ := cells_of hbD
      obtain ⟨hcC, -⟩ := cells_of hbC
      obtain ⟨hcB, -⟩ := cells_of hbB
      obtain ⟨hcA, -⟩ := cells_of hbA
      have K16 := hide h16.kp
      clear h16 hmo hfn HG2 hbN hbD hbC hbB hbA
      go_wp2_with fail
      refine HFn.out.mono ?_
      rintro r w17 ⟨rfl, hw⟩
      rw [hw]
      clear hw w17
      go_wp2
      go_ret
      exact ⟨rfl, K16.out⟩
end Go.Proofs.YtdeplgkhmebalabGreatDoor

namespace Go.Proofs.YtdeplgkhmebalabGreatDoor
open Go.RowKit
theorem firmW_any {w : World} (hR : RowsOk w) (a0 a1 : Int) (h1 : -9223372036854775808 ≤ a0) (h2 : a0 < 9223372036854775808) (h3 : 0 ≤ a1) (h4 : a1 < 18446744073709551616) :
    Calls Tryz.prog 3 #[.int .i64 a0, .int .u64 a1] w fun r w' => r = .returned (.bool true) ∧ Kp no w w' := by
  obtain ⟨n, rfl⟩ : ∃ n : Nat, a1 = n := ⟨a1.toNat, by omega⟩
  exact firm_any hR a0 n h1 h2 (by omega)
end Go.Proofs.YtdeplgkhmebalabGreatDoor
