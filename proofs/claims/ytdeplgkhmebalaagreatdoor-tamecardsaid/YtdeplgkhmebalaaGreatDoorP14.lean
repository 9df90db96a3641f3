/- The program's look at a body: locals. -/
import Derived.Test.YtdeplgkhmebalaaGreatDoorP13

namespace Go.Proofs.YtdeplgkhmebalaaGreatDoor
open Go.RowKit
section
variable {E : Env} {g N : Nat} {w : World} {s : Bd}
theorem BSt.modAt (h : BSt E g w s) : ∃ cv, w.heap[E.mb]? = some (modObj E cv) ∧ E.bb ≠ E.rb ∧ E.mb ≠ E.rb ∧ E.mb ≠ E.bb := by
  obtain ⟨role, sv, cv, kc, bs, h⟩ := h
  refine ⟨cv, h.mod, fun e => ?_, fun e => ?_, fun e => ?_⟩
  · have := h.r3; rw [e, h.r1] at this; cases this
  · have := h.r2; rw [e, h.r1] at this; cases this
  · have := h.r2; rw [e, h.r3] at this; cases this
theorem u8_ne (x y : UInt8) : ((x.toNat : Int) != (y.toNat : Int)) = !(x == y) := by rw [bne, u8_eq]
set_option maxRecDepth 100000 in
set_option maxHeartbeats 3000000 in
theorem local_any (h : BSt E g w s) (z : Sz N s) (hN : N ≤ 500000) (hne : s.blocks ≠ []) (op : UInt8) : Calls Tryz.prog 265 #[ptrTo E.bb, .int .u8 op.toNat] w fun r w' => Done E w w' (localM E.c op s) r ∧ Kp (nro E.ro) w w' := by
  have hM : localM E.c op s = (match belowM E.c.D E.c.locals.length s.i with
    | .error e => .error e
    | .ok (n, j) =>
      match (if op = 32 then some { s with i := j } else takeM { s with i := j } (E.c.locals.getD n 0)) with
      | none => wrongM s
      | some s1 => .ok (if op = 33 then emitM s1 ⟨op, n, 0, 0, 0⟩ else putM (emitM s1 ⟨op, n, 0, 0, 0⟩) [E.c.locals.getD n 0])) := rfl
  generalize localM E.c op s = R at *
  have hst := z.st
  have hcd := z.cd
  have hen := h.env
  have hnl := hen.nl
  obtain ⟨lad, lcap, hlv, hlc⟩ := hen.locals.shape
  have hbe := fun W (k : Kp no w W) => below_any (h.quiet k).rd E.c.locals.length (by omega) (by omega)
  have hlt := fun n j => below_lt (D := E.c.D) (lim := (E.c.locals.length : Int)) (i := s.i) (n := n) (j := j)
  generalize belowM E.c.D E.c.locals.length s.i = Q at *
  have H := hide h
  obtain ⟨sv, kc, hbo, -⟩ := h.bodyAt
  obtain ⟨cv, hmo, hnb, hnm, hmb⟩ := h.modAt
  simp only [bodyObj] at hbo
  rw [hlv] at hbo
  obtain ⟨hc, hf⟩ := cells_of hbo
  obtain ⟨hm, hmf⟩ := cells_of hmo
  have HBo := hide hbo
  have HMo := hide hmo
  have HB := hide hbe
  have HLV := hide hlv
  have q32 : ((op.toNat : Int) != 32) = !(op == 32) := u8_ne op 32
  have q33 : ((op.toNat : Int) != 33) = !(op == 33) := u8_ne op 33
  clear h hbe hbo hmo hlv hen
  match Q, hM, HB, hlt with
  | .error e, hM, HB, _ =>
    have HM := hide hM
    clear hM
    go_enter Tryz.func265, Tryz.ntmps265
    go_wp2_with fail
    go_region_held3 (fun w' => w'.cell? ⟨E.bb, 0, none⟩ = some (ptrTo E.rb) ∧ w'.cell? ⟨E.bb, 3, none⟩ = some (.slice lad E.c.locals.length lcap)) (go_keep) (first | (go_at_call 105; refine (HB.out w.drew ((Kp.refl no w).drew)).mono ?_; rintro e w1 ⟨⟨fv, j, rfl, ⟨fb, rfl, hfb, hfo⟩, h1⟩, k1⟩; obtain ⟨hc1, hf1⟩ := cells_of (k1.blk (show w.drew.heap[E.bb]? = _ from HBo.out) hnb); obtain ⟨hm1, hmf1⟩ := cells_of (k1.blk (show w.drew.heap[E.mb]? = _ from HMo.out) hnm)))
    have HF := hide hfo
    clear hfo h1
    go_wp2
    go_ret
    rw [HM.out]
    exact ⟨⟨ptrTo fb, rfl, fb, rfl, hfb, HF.out⟩, H.out.nroRb ((Kp.refl (one E.rb) w).drew.trans k1)⟩
  | .ok (n, j), hM, HB, hlt =>
    have hn := (hlt n j rfl).1
    clear hlt
    simp only at hM
    have hcell : ∀ W, E.Ok W → ∃ a o, lad = some ⟨a, o, none⟩ ∧ W.cell? ⟨a, o + n, none⟩ = some (.int .u8 (E.c.locals.getD n 0).toNat) := by
      intro W hW
      obtain ⟨a, o, cap, hv, _, hce⟩ := hW.locals.get (show n < E.c.locals.length by omega)
      rw [HLV.out] at hv
      simp only [Value.slice.injEq] at hv
      exact ⟨a, o, hv.1, hce⟩
    have HCe := hide hcell
    clear hcell
    have z0 : Sz N { s with i := j } := z.read j s.pos s.closed
    by_cases h32 : op = 32
    · have b32 : (op == 32) = true := by simpa using h32
      have b33 : (op == 33) = false := by rw [h32]; rfl
      have e33 : op ≠ 33 := by rw [h32]; decide
      rw [if_pos h32] at hM
      simp only [if_neg e33] at hM
      rw [b32] at q32
      rw [b33] at q33
      simp only [Bool.not_true, Bool.not_false] at q32 q33
      have HM := hide hM
      clear hM h32 b32 b33 e33
      obtain ⟨a0, o0, had, hlc0⟩ := HCe.out w H.out.env
      subst had
      go_enter Tryz.func265, Tryz.ntmps265
      go_wp2_with fail
      go_region_held3 (fun w' => w'.cell? ⟨E.bb, 0, none⟩ = some (ptrTo E.rb) ∧ w'.cell? ⟨E.bb, 3, none⟩ = some (.slice (some ⟨a0, o0, none⟩) E.c.locals.length lcap)) (go_keep) (first | (go_at_call 105; refine (HB.out w.drew ((Kp.refl no w).drew)).mono ?_; rintro e w1 ⟨⟨v, rfl, rfl, h1⟩, k1⟩; obtain ⟨hc1, hf1⟩ := cells_of (k1.blk (show w.drew.heap[E.bb]? = _ from HBo.out) hnb); obtain ⟨hm1, hmf1⟩ := cells_of (k1.blk (show w.drew.heap[E.mb]? = _ from HMo.out) hnm)))
      have HK1 := hide ((Kp.refl (one E.rb) w).drew.trans k1)
      have H1 := hide (H.out.read HK1.out h1)
      clear h1 k1
      obtain ⟨a1, o1, had, hlc1⟩ := HCe.out w1 H1.out.env
      cases had
      generalize E.c.locals.getD n 0 = t at *
      have HE := hide (emit_any H1.out ⟨op, n, 0, 0, 0⟩ (by simp only; omega))
      clear hc hf hm hmf hm1 hmf1 hlc0
      go_wp2_with fail
      refine HE.out.mono ?_
      rintro e w2 ⟨rfl, h2, k2⟩
      have HP := hide (put_any (h2.quiet ((Kp.refl no w2).alloc (.cells #[.int .u8 t.toNat] 5))) (one_byte w2 t) (by simp only; omega) (by simp))
      have HK2 := hide ((H.out.nroRb HK1.out).trans k2)
      clear h2 k2
      go_wp2_with fail
      refine HP.out.mono ?_
      rintro e w3 ⟨rfl, h3, k3⟩
      have H3 := hide h3
      have HK3 := hide ((HK2.out.alloc _).trans k3)
      clear h3 k3
      go_wp2
      go_ret
      rw [HM.out]
      exact ⟨⟨rfl, g, H3.out⟩, HK3.out⟩
    · have b32 : (op == 32) = false := by simpa using h32
      rw [if_neg h32] at hM
      rw [b32] at q32
      simp only [Bool.not_false] at q32
      clear h32 b32
      have hta := fun W (h1 : BSt E g W { s with i := j }) => take_any' h1 hne z.bl (by simp only; omega) (E.c.locals.getD n 0)
      have hzz : ∀ s2, takeM { s with i := j } (E.c.locals.getD n 0) = some s2 → Sz N s2 ∧ Sunk { s with i := j } s2 := fun s2 h2 => ⟨take_sz z0 h2, take_sunk h2⟩
      obtain ⟨a0, o0, had, hlc0⟩ := HCe.out w H.out.env
      subst had
      generalize E.c.locals.getD n 0 = t at *
      generalize takeM { s with i := j } t = Q2 at *
      have HT := hide hta
      clear hta
      match Q2, hM, HT, hzz with
      | none, hM, HT, _ =>
        have HM := hide hM
        clear hM
        go_enter Tryz.func265, Tryz.ntmps265
        go_wp2_with fail
        go_region_held3 (fun w' => w'.cell? ⟨E.bb, 0, none⟩ = some (ptrTo E.rb) ∧ w'.cell? ⟨E.bb, 3, none⟩ = some (.slice (some ⟨a0, o0, none⟩) E.c.locals.length lcap)) (go_keep) (first | (go_at_call 105; refine (HB.out w.drew ((Kp.refl no w).drew)).mono ?_; rintro e w1 ⟨⟨v, rfl, rfl, h1⟩, k1⟩; obtain ⟨hc1, hf1⟩ := cells_of (k1.blk (show w.drew.heap[E.bb]? = _ from HBo.out) hnb); obtain ⟨hm1, hmf1⟩ := cells_of (k1.blk (show w.drew.heap[E.mb]? = _ from HMo.out) hnm)))
        have HK1 := hide ((Kp.refl (one E.rb) w).drew.trans k1)
        have H1 := hide (H.out.read HK1.out h1)
        clear h1 k1
        obtain ⟨a1, o1, had, hlc1⟩ := HCe.out w1 H1.out.env
        cases had
        have HT1 := hide (HT.out w1 H1.out)
        clear hc hf hm hmf hm1 hmf1 hlc0
        go_wp2_with fail
        refine HT1.out.mono ?_
        rintro r w2 ⟨⟨rfl, s2, h1, hs2⟩, k2⟩
        have hp : s2.pos = s.pos := hs2.pos
        have HK := hide ((H.out.nroRb HK1.out).trans (H1.out.nroBb k2))
        clear hs2
        have HP := hide hp
        have HW := hide (wrong_any h1)
        clear h1 hp
        go_wp2_with fail
        refine HW.out.mono ?_
        rintro e w8 ⟨⟨fv, rfl, fb, rfl, hfb, hfo⟩, k8⟩
        have HF := hide hfo
        clear hfo
        go_wp2
        go_ret
        rw [HM.out]
        exact ⟨⟨ptrTo fb, rfl, fb, rfl, by have := HK.out.size; omega, by rw [← HP.out]; exact HF.out⟩, HK.out.trans k8.any⟩
      | some s1, hM, HT, hzz =>
        have HZ := hide (hzz s1 rfl)
        have hz1 := HZ.out.1.st
        have hz2 := HZ.out.1.cd
        clear hzz
        by_cases h33 : op = 33
        · have b33 : (op == 33) = true := by simpa using h33
          rw [b33] at q33
          simp only [if_pos h33] at hM
          simp only [Bool.not_true] at q33
          have HM := hide hM
          clear hM h33 b33
          go_enter Tryz.func265, Tryz.ntmps265
          go_wp2_with fail
          go_region_held3 (fun w' => w'.cell? ⟨E.bb, 0, none⟩ = some (ptrTo E.rb) ∧ w'.cell? ⟨E.bb, 3, none⟩ = some (.slice (some ⟨a0, o0, none⟩) E.c.locals.length lcap)) (go_keep) (first | (go_at_call 105; refine (HB.out w.drew ((Kp.refl no w).drew)).mono ?_; rintro e w1 ⟨⟨v, rfl, rfl, h1⟩, k1⟩; obtain ⟨hc1, hf1⟩ := cells_of (k1.blk (show w.drew.heap[E.bb]? = _ from HBo.out) hnb); obtain ⟨hm1, hmf1⟩ := cells_of (k1.blk (show w.drew.heap[E.mb]? = _ from HMo.out) hnm)))
          have HK1 := hide ((Kp.refl (one E.rb) w).drew.trans k1)
          have H1 := hide (H.out.read HK1.out h1)
          clear h1 k1
          obtain ⟨a1, o1, had, hlc1⟩ := HCe.out w1 H1.out.env
          cases had
          have HT1 := hide (HT.out w1 H1.out)
          clear hc hf hm hmf hm1 hmf1 hlc0
          go_wp2_with fail
          refine HT1.out.mono ?_
          rintro r w2 ⟨⟨rfl, h2⟩, k2⟩
          have HE := hide (emit_any h2 ⟨op, n, 0, 0, 0⟩ (by omega))
          have HK2 := hide ((H.out.nroRb HK1.out).trans (H1.out.nroBb k2))
          clear h2
          go_wp2_with fail
          refine HE.out.mono ?_
          rintro e w3 ⟨rfl, h3, k3⟩
          have H3 := hide h3
          have HK3 := hide (HK2.out.trans k3)
          clear h3 k3
          go_wp2
          go_ret
          rw [HM.out]
          exact ⟨⟨rfl, g, H3.out⟩, HK3.out⟩
        · have b33 : (op == 33) = false := by simpa using h33
          rw [b33] at q33
          simp only [if_neg h33] at hM
          simp only [Bool.not_false] at q33
          have HM := hide hM
          clear hM h33 b33
          go_enter Tryz.func265, Tryz.ntmps265
          go_wp2_with fail
          go_region_held3 (fun w' => w'.cell? ⟨E.bb, 0, none⟩ = some (ptrTo E.rb) ∧ w'.cell? ⟨E.bb, 3, none⟩ = some (.slice (some ⟨a0, o0, none⟩) E.c.locals.length lcap)) (go_keep) (first | (go_at_call 105; refine (HB.out w.drew ((Kp.refl no w).drew)).mono ?_; rintro e w1 ⟨⟨v, rfl, rfl, h1⟩, k1⟩; obtain ⟨hc1, hf1⟩ := cells_of (k1.blk (show w.drew.heap[E.bb]? = _ from HBo.out) hnb); obtain ⟨hm1, hmf1⟩ := cells_of (k1.blk (show w.drew.heap[E.mb]? = _ from HMo.out) hnm)))
          have HK1 := hide ((Kp.refl (one E.rb) w).drew.trans k1)
          have H1 := hide (H.out.read HK1.out h1)
          clear h1 k1
          obtain ⟨a1, o1, had, hlc1⟩ := HCe.out w1 H1.out.env
          cases had
          have HT1 := hide (HT.out w1 H1.out)
          clear hc hf hm hmf hm1 hmf1 hlc0
          go_wp2_with fail
          refine HT1.out.mono ?_
          rintro r w2 ⟨⟨rfl, h2⟩, k2⟩
          have HE := hide (emit_any h2 ⟨op, n, 0, 0, 0⟩ (by omega))
          have HK2 := hide ((H.out.nroRb HK1.out).trans (H1.out.nroBb k2))
          clear h2
          go_wp2_with fail
          refine HE.out.mono ?_
          rintro e w3 ⟨rfl, h3, k3⟩
          have HP := hide (put_any (h3.quiet ((Kp.refl no w3).alloc (.cells #[.int .u8 t.toNat] 5))) (one_byte w3 t) (by simp only; omega) (by simp))
          have HK3 := hide (HK2.out.trans k3)
          clear h3 k3
          go_wp2_with fail
          refine HP.out.mono ?_
          rintro e w4 ⟨rfl, h4, k4⟩
          have H4 := hide h4
          have HK4 := hide ((HK3.out.alloc _).trans k4)
          clear h4 k4
          go_wp2
          go_ret
          rw [HM.out]
          exact ⟨⟨rfl, g, H4.out⟩, HK4.out⟩
end
section
variable {E : Env} {g N : Nat} {w : World} {s : Bd}
theorem BSt.roNe (h : BSt E g w s) {b : Nat} (hb : E.ro b) : b ≠ E.bb := by
  obtain ⟨role, sv, cv, kc, bs, h⟩ := h
  intro e; have := h.ro b hb; rw [e, h.r3] at this; cases this
set_option maxRecDepth 100000 in
set_option maxHeartbeats 3000000 in
theorem call_any (h : BSt E g w s) (z : Sz N s) (hN : N ≤ 500000) (hne : s.blocks ≠ []) : Calls Tryz.prog 261 #[ptrTo E.bb] w fun r w' => Done E w w' (callM E.c s) r ∧ Kp (nro E.ro) w w' := by
  have hM : callM E.c s = (match belowM E.c.D E.c.funcs.length s.i with
    | .error e => .error e
    | .ok (n, j) =>
      match takeAllM { s with i := j } (E.c.funcs.getD n ([], [])).1 with
      | none => wrongM s
      | some s1 => .ok (putM (emitM s1 ⟨16, n, 0, 0, 0⟩) (E.c.funcs.getD n ([], [])).2)) := rfl
  generalize callM E.c s = R at *
  have hst := z.st
  have hcd := z.cd
  have hen := h.env
  have hnf := hen.nf
  obtain ⟨fad, fcap, hfv, hfc, -⟩ := hen.funcs
  have hbe := fun W (k : Kp no w W) => below_any (h.quiet k).rd E.c.funcs.length (by omega) (by omega)
  have hlt := fun n j => below_lt (D := E.c.D) (lim := (E.c.funcs.length : Int)) (i := s.i) (n := n) (j := j)
  generalize belowM E.c.D E.c.funcs.length s.i = Q at *
  have H := hide h
  obtain ⟨sv, kc, hbo, -⟩ := h.bodyAt
  obtain ⟨cv, hmo, hnb, hnm, hmb⟩ := h.modAt
  simp only [modObj] at hmo
  rw [hfv] at hmo
  obtain ⟨hc, hf⟩ := cells_of hbo
  obtain ⟨hm, hmf⟩ := cells_of hmo
  have HBo := hide hbo
  have HMo := hide hmo
  have HB := hide hbe
  have HFV := hide hfv
  have hres := hen.res
  clear h hbe hbo hmo hfv hen
  match Q, hM, HB, hlt with
  | .error e, hM, HB, _ =>
    have HM := hide hM
    clear hM
    go_enter Tryz.func261, Tryz.ntmps261
    go_wp2_with fail
    go_region_held3 (fun w' => w'.cell? ⟨E.bb, 0, none⟩ = some (ptrTo E.rb) ∧ w'.cell? ⟨E.bb, 1, none⟩ = some (ptrTo E.mb) ∧ w'.cell? ⟨E.mb, 0, none⟩ = some (.slice fad E.c.funcs.length fcap)) (go_keep) (first | (go_at_call 105; refine (HB.out w.drew ((Kp.refl no w).drew)).mono ?_; rintro e w1 ⟨⟨fv, j, rfl, ⟨fb, rfl, hfb, hfo⟩, h1⟩, k1⟩; obtain ⟨hc1, hf1⟩ := cells_of (k1.blk (show w.drew.heap[E.bb]? = _ from HBo.out) hnb); obtain ⟨hm1, hmf1⟩ := cells_of (k1.blk (show w.drew.heap[E.mb]? = _ from HMo.out) hnm)))
    have HF := hide hfo
    clear hfo h1
    go_wp2
    go_ret
    rw [HM.out]
    exact ⟨⟨ptrTo fb, rfl, fb, rfl, hfb, HF.out⟩, H.out.nroRb ((Kp.refl (one E.rb) w).drew.trans k1)⟩
  | .ok (n, j), hM, HB, hlt =>
    have hn := (hlt n j rfl).1
    have hrs := hres n (by omega)
    clear hlt
    simp only at hM
    have hcell : ∀ W, E.Ok W → ∃ a o pv rv, fad = some ⟨a, o, none⟩ ∧ W.cell? ⟨a, o + n * 4, none⟩ = some pv ∧ W.cell? ⟨a, o + n * 4 + 1, none⟩ = some rv ∧
        BytesAt W pv (E.c.funcs.getD n ([], [])).1 ∧ RoV E.ro pv ∧ BytesAt W rv (E.c.funcs.getD n ([], [])).2 ∧ RoV E.ro rv := by
      intro W hW
      obtain ⟨ad, cap, hv, _, hce⟩ := hW.funcs
      obtain ⟨a, o, pv, rv, h1, -, h2, h3, h4, h5, h6, h7⟩ := hce n (by omega)
      rw [HFV.out] at hv
      simp only [Value.slice.injEq] at hv
      exact ⟨a, o, pv, rv, hv.1.trans h1, h2, h3, h4, h5, h6, h7⟩
    have HCe := hide hcell
    clear hcell hres
    have z0 : Sz N { s with i := j } := z.read j s.pos s.closed
    generalize E.c.funcs.getD n ([], []) = ty at *
    obtain ⟨ps, rs⟩ := ty
    simp only at hM HCe hrs
    have hta := fun X W (h1 : BSt (E.plus X) g W { s with i := j }) tv (ht : BytesAt W tv ps) (hn : ∀ b, tv.ownBlock = some b → b ≠ E.bb) => takeAll_any h1 hne z.bl (by simp only; omega) ht (by omega) hn
    have hzz : ∀ s2, takeAllM { s with i := j } ps = some s2 → Sz N s2 ∧ Sunk { s with i := j } s2 := fun s2 h2 => ⟨takeAll_sz z0 h2, takeN_sunk _ h2⟩
    generalize takeAllM { s with i := j } ps = Q2 at *
    have HT := hide hta
    clear hta
    obtain ⟨a0, o0, pv0, rv0, had, hp0, hr0, -⟩ := HCe.out w H.out.env
    subst had
    match Q2, hM, HT, hzz with
    | none, hM, HT, _ =>
      have HM := hide hM
      clear hM
      go_enter Tryz.func261, Tryz.ntmps261
      go_wp2_with fail
      go_region_held3 (fun w' => w'.cell? ⟨E.bb, 0, none⟩ = some (ptrTo E.rb) ∧ w'.cell? ⟨E.bb, 1, none⟩ = some (ptrTo E.mb) ∧ w'.cell? ⟨E.mb, 0, none⟩ = some (.slice (some ⟨a0, o0, none⟩) E.c.funcs.length fcap)) (go_keep) (first | (go_at_call 105; refine (HB.out w.drew ((Kp.refl no w).drew)).mono ?_; rintro e w1 ⟨⟨v, rfl, rfl, h1⟩, k1⟩; obtain ⟨hc1, hf1⟩ := cells_of (k1.blk (show w.drew.heap[E.bb]? = _ from HBo.out) hnb); obtain ⟨hm1, hmf1⟩ := cells_of (k1.blk (show w.drew.heap[E.mb]? = _ from HMo.out) hnm)))
      have HK1 := hide ((Kp.refl (one E.rb) w).drew.trans k1)
      have H1 := hide (H.out.read HK1.out h1)
      clear h1 k1
      obtain ⟨a1, o1, pv, rv, had, hp1, hr1, hbp, hrp, hbr, hrr⟩ := HCe.out w1 H1.out.env
      cases had
      obtain ⟨adp, capp, rfl, -⟩ := hbp.shape
      obtain ⟨adr, capr, rfl, -⟩ := hbr.shape
      have HBP := hide hbp
      have HBR := hide hbr
      have HRP := hide hrp
      have HRR := hide hrr
      clear hc hf hm hmf hp0 hr0 hbp hbr hrp hrr
      have HG := hide (H1.out.guard ((Kp.refl no w1).alloc (.cells #[.slice adp ps.length capp, .slice adr rs.length capr] 138)) (one w1.heap.size) (fun b (hb : b = _) => by subst hb; simp))
      have hnep : ∀ b, (Value.slice adp ps.length capp).ownBlock = some b → b ≠ E.bb := fun b hb => H1.out.roNe (HRP.out b hb)
      have HT1 := hide (HT.out _ _ HG.out _ (HBP.out.kp ((Kp.refl no w1).alloc _) (fun _ _ h => h)) hnep)
      clear hnep
      go_wp2_with fail
      refine HT1.out.mono ?_
      rintro r w3 ⟨⟨rfl, s2, h1, hs2⟩, k3⟩
      have hp : s2.pos = s.pos := hs2.pos
      have HK := hide (((H.out.nroRb HK1.out).alloc _).trans (HG.out.nroBb k3).unguard)
      clear hs2
      have HP := hide hp
      have HW := hide (wrong_any h1)
      clear h1 hp
      go_wp2_with fail
      refine HW.out.mono ?_
      rintro e w8 ⟨⟨fv, rfl, fb, rfl, hfb, hfo⟩, k8⟩
      have HF := hide hfo
      clear hfo
      go_wp2
      go_ret
      rw [HM.out]
      exact ⟨⟨ptrTo fb, rfl, fb, rfl, by have := HK.out.size; omega, by rw [← HP.out]; exact HF.out⟩, HK.out.trans k8.any⟩
    | some s1, hM, HT, hzz =>
      have HM := hide hM
      have HZ := hide (hzz s1 rfl)
      have hz1 := HZ.out.1.st
      have hz2 := HZ.out.1.cd
      clear hM hzz
      go_enter Tryz.func261, Tryz.ntmps261
      go_wp2_with fail
      go_region_held3 (fun w' => w'.cell? ⟨E.bb, 0, none⟩ = some (ptrTo E.rb) ∧ w'.cell? ⟨E.bb, 1, none⟩ = some (ptrTo E.mb) ∧ w'.cell? ⟨E.mb, 0, none⟩ = some (.slice (some ⟨a0, o0, none⟩) E.c.funcs.length fcap)) (go_keep) (first | (go_at_call 105; refine (HB.out w.drew ((Kp.refl no w).drew)).mono ?_; rintro e w1 ⟨⟨v, rfl, rfl, h1⟩, k1⟩; obtain ⟨hc1, hf1⟩ := cells_of (k1.blk (show w.drew.heap[E.bb]? = _ from HBo.out) hnb); obtain ⟨hm1, hmf1⟩ := cells_of (k1.blk (show w.drew.heap[E.mb]? = _ from HMo.out) hnm)))
      have HK1 := hide ((Kp.refl (one E.rb) w).drew.trans k1)
      have H1 := hide (H.out.read HK1.out h1)
      clear h1 k1
      obtain ⟨a1, o1, pv, rv, had, hp1, hr1, hbp, hrp, hbr, hrr⟩ := HCe.out w1 H1.out.env
      cases had
      obtain ⟨adp, capp, rfl, -⟩ := hbp.shape
      obtain ⟨adr, capr, rfl, -⟩ := hbr.shape
      have HBP := hide hbp
      have HBR := hide hbr
      have HRP := hide hrp
      have HRR := hide hrr
      clear hc hf hm hmf hp0 hr0 hbp hbr hrp hrr
      have HG := hide (H1.out.guard ((Kp.refl no w1).alloc (.cells #[.slice adp ps.length capp, .slice adr rs.length capr] 138)) (one w1.heap.size) (fun b (hb : b = _) => by subst hb; simp))
      have hnep : ∀ b, (Value.slice adp ps.length capp).ownBlock = some b → b ≠ E.bb := fun b hb => H1.out.roNe (HRP.out b hb)
      have HT1 := hide (HT.out _ _ HG.out _ (HBP.out.kp ((Kp.refl no w1).alloc _) (fun _ _ h => h)) hnep)
      clear hnep
      go_wp2_with fail
      refine HT1.out.mono ?_
      rintro r w3 ⟨⟨rfl, h3⟩, k3⟩
      have HK3 := hide (Kp.trans (Kp.alloc (Kp.refl (nro (E.plus (one w1.heap.size)).ro) w1) (.cells #[.slice adp ps.length capp, .slice adr rs.length capr] 138)) (HG.out.nroBb k3))
      have htb3 := (HG.out.nroBb k3).blk (heap_alloc_new w1 (.cells #[.slice adp ps.length capp, .slice adr rs.length capr] 138)) (fun hn => hn (.inr rfl))
      have HE := hide (emit_any h3 ⟨16, n, 0, 0, 0⟩ (by omega))
      have HTB := hide htb3
      clear h3 k3 htb3
      go_wp2_with fail
      refine HE.out.mono ?_
      rintro e w4 ⟨rfl, h4, k4⟩
      obtain ⟨htc, htf⟩ := cells_of (k4.blk HTB.out (fun hn => hn (.inr rfl)))
      have HK4 := hide (HK3.out.trans k4)
      have hbr4 := HBR.out.ro HRR.out (HK4.out.unguard)
      have HP := hide (put_any h4 hbr4 (by simp only; omega) (by omega))
      clear h4 k4 hbr4
      go_wp2_with fail
      refine HP.out.mono ?_
      rintro e w5 ⟨rfl, h5, k5⟩
      have HK5 := hide (HK4.out.trans k5)
      have H5 := hide (h5.unguard (H1.out.env.kp HK5.out.unguard))
      clear h5 k5
      go_wp2
      go_ret
      rw [HM.out]
      exact ⟨⟨rfl, g, H5.out⟩, (H.out.nroRb HK1.out).trans HK5.out.unguard⟩
end
def value32 (D : List UInt8) (i : Nat) : Except (Int × Int) (Nat × Nat) :=
  match S32M D i with
  | .error e => .error e
  | .ok (n, j) => .ok ((n % 4294967296).toNat, j)
def value64 (D : List UInt8) (i : Nat) : Except (Int × Int) (Nat × Nat) :=
  match S64M D i with
  | .error e => .error e
  | .ok (n, j) => .ok ((n % 18446744073709551616).toNat, j)
theorem u32_wrap (n : Int) : IntKind.u32.wrap n = ((n % 4294967296).toNat : Int) := by
  have h : IntKind.u32.wrap n = n % 4294967296 := by simp [IntKind.wrap, IntKind.signed, IntKind.bits]
  rw [h]; omega
theorem u64_wrap (n : Int) : IntKind.u64.wrap n = ((n % 18446744073709551616).toNat : Int) := by
  have h : IntKind.u64.wrap n = n % 18446744073709551616 := by simp [IntKind.wrap, IntKind.signed, IntKind.bits]
  rw [h]; omega
set_option maxRecDepth 100000 in
set_option maxHeartbeats 1000000 in
theorem readValue32 {w : World} {rb : Nat} {dv : Value} {D : List UInt8} {i : Nat} (h : RSt w rb dv D i) :
    Calls Tryz.prog 140 #[ptrTo rb, .int .u8 127] w fun r w' => Gives w w' rb dv D (fun (n : Nat) v => v = .int .u64 n) (.int .u64 0) (value32 D i) r ∧ Kp (one rb) w w' := by
  have hM : value32 D i = (match S32M D i with | .error e => .error e | .ok (n, j) => .ok ((n % 4294967296).toNat, j)) := rfl
  generalize value32 D i = R at *
  have hg := S32_any h
  have hrg := fun n j => S32_range (D := D) (i := i) (n := n) (j := j)
  generalize S32M D i = Q at *
  have Hg := hide hg
  clear hg h
  match Q, hM, Hg, hrg with
  | .error e, hM, Hg, _ =>
    have HM := hide hM
    clear hM
    go_enter Tryz.func140, Tryz.ntmps140
    go_wp2_with fail
    refine Hg.out.mono ?_
    rintro r w1 ⟨⟨fv, j, rfl, ⟨fb, rfl, hfb, hfo⟩, h1⟩, k1⟩
    have H1 := hide h1
    have HF := hide hfo
    clear h1 hfo
    go_wp2
    go_ret2
    rw [HM.out]
    exact ⟨⟨ptrTo fb, j, rfl, ⟨fb, rfl, hfb, HF.out⟩, H1.out⟩, k1⟩
  | .ok (n, j), hM, Hg, hrg =>
    have hn := hrg n j rfl
    have e1 : IntKind.u32.wrap n = ((n % 4294967296).toNat : Int) := u32_wrap n
    have hlt : (n % 4294967296).toNat < 4294967296 := by omega
    simp only at hM
    clear hrg
    generalize (n % 4294967296).toNat = m at *
    have HM := hide hM
    clear hM
    go_enter Tryz.func140, Tryz.ntmps140
    go_wp2_with fail
    refine Hg.out.mono ?_
    rintro r w1 ⟨⟨v, rfl, rfl, h1⟩, k1⟩
    have H1 := hide h1
    clear h1
    go_wp2
    go_ret2
    rw [HM.out]
    exact ⟨⟨_, rfl, rfl, H1.out⟩, k1⟩
set_option maxRecDepth 100000 in
set_option maxHeartbeats 1000000 in
theorem readValue64 {w : World} {rb : Nat} {dv : Value} {D : List UInt8} {i : Nat} (h : RSt w rb dv D i) :
    Calls Tryz.prog 140 #[ptrTo rb, .int .u8 126] w fun r w' => Gives w w' rb dv D (fun (n : Nat) v => v = .int .u64 n) (.int .u64 0) (value64 D i) r ∧ Kp (one rb) w w' := by
  have hM : value64 D i = (match S64M D i with | .error e => .error e | .ok (n, j) => .ok ((n % 18446744073709551616).toNat, j)) := rfl
  generalize value64 D i = R at *
  have hg := S64_any h
  have hrg := fun n j => S64_range (D := D) (i := i) (n := n) (j := j)
  generalize S64M D i = Q at *
  have Hg := hide hg
  clear hg h
  match Q, hM, Hg, hrg with
  | .error e, hM, Hg, _ =>
    have HM := hide hM
    clear hM
    go_enter Tryz.func140, Tryz.ntmps140
    go_wp2_with fail
    refine Hg.out.mono ?_
    rintro r w1 ⟨⟨fv, j, rfl, ⟨fb, rfl, hfb, hfo⟩, h1⟩, k1⟩
    have H1 := hide h1
    have HF := hide hfo
    clear h1 hfo
    go_wp2
    go_ret2
    rw [HM.out]
    exact ⟨⟨ptrTo fb, j, rfl, ⟨fb, rfl, hfb, HF.out⟩, H1.out⟩, k1⟩
  | .ok (n, j), hM, Hg, hrg =>
    have hn := hrg n j rfl
    have e1 : IntKind.u64.wrap n = ((n % 18446744073709551616).toNat : Int) := u64_wrap n
    have hlt : (n % 18446744073709551616).toNat < 18446744073709551616 := by omega
    simp only at hM
    clear hrg
    generalize (n % 18446744073709551616).toNat = m at *
    have HM := hide hM
    clear hM
    go_enter Tryz.func140, Tryz.ntmps140
    go_wp2_with fail
    refine Hg.out.mono ?_
    rintro r w1 ⟨⟨v, rfl, rfl, h1⟩, k1⟩
    have H1 := hide h1
    clear h1
    go_wp2
    go_ret2
    rw [HM.out]
    exact ⟨⟨_, rfl, rfl, H1.out⟩, k1⟩
theorem behind_1 (D : List UInt8) (i : Nat) : behindM D 1 i = UM D i := rfl
theorem behind_2 (D : List UInt8) (i : Nat) : behindM D 2 i = value32 D i := rfl
theorem behind_3 (D : List UInt8) (i : Nat) : behindM D 3 i = value64 D i := rfl
theorem behind_0 (D : List UInt8) (i : Nat) : behindM D 0 i = .ok (0, i) := rfl
section
variable {E : Env} {g N : Nat} {w : World} {s : Bd}
def GotNum (E : Env) (g : Nat) (w w' : World) (s : Bd) (m : Except (Int × Int) (Nat × Nat)) (r : Ending) : Prop :=
  match m with
  | .ok (n, j) => r = .returned (.tuple #[.int .u64 n, .pointer none]) ∧ BSt E g w' { s with i := j }
  | .error e => ∃ zv fv, r = .returned (.tuple #[zv, fv]) ∧ FaultAt w w' fv e
set_option maxRecDepth 100000 in
set_option maxHeartbeats 2000000 in
theorem behind_any (h : BSt E g w s) (b : Nat) (hb : b = 0 ∨ b = 1 ∨ b = 2 ∨ b = 3) :
    Calls Tryz.prog 266 #[ptrTo E.bb, .int .i64 b] w fun r w' => GotNum E g w w' s (behindM E.c.D b s.i) r ∧ Kp (one E.rb) w w' := by
  obtain ⟨sv, kc, hbo, -⟩ := h.bodyAt
  obtain ⟨hc, hf⟩ := cells_of hbo
  have H := hide h
  have hrd := h.rd
  clear h hbo
  rcases hb with rfl | rfl | rfl | rfl
  · rw [behind_0]
    clear hrd
    go_enter Tryz.func266, Tryz.ntmps266
    go_wp2
    go_ret2
    exact ⟨⟨rfl, H.out⟩, Kp.refl _ _⟩
  · rw [behind_1]
    have hg := U_any hrd
    have hle := fun n j => UM_le (D := E.c.D) (i := s.i) (n := n) (j := j)
    generalize UM E.c.D s.i = Q at *
    have Hg := hide hg
    clear hg hrd
    match Q, Hg, hle with
    | .error e, Hg, _ =>
      go_enter Tryz.func266, Tryz.ntmps266
      go_wp2_with fail
      refine Hg.out.mono ?_
      rintro r w1 ⟨⟨fv, j, rfl, ⟨fb, rfl, hfb, hfo⟩, h1⟩, k1⟩
      have HF := hide hfo
      clear h1 hfo
      go_wp2
      go_ret2
      exact ⟨⟨_, ptrTo fb, rfl, fb, rfl, hfb, HF.out⟩, k1⟩
    | .ok (n, j), Hg, hle =>
      have hn := (hle n j rfl).1
      clear hle
      go_enter Tryz.func266, Tryz.ntmps266
      go_wp2_with fail
      refine Hg.out.mono ?_
      rintro r w1 ⟨⟨v, rfl, rfl, h1⟩, k1⟩
      have H1 := hide (H.out.read k1 h1)
      clear h1
      go_wp2
      go_ret2
      exact ⟨⟨rfl, H1.out⟩, k1⟩
  · rw [behind_2]
    have hg := readValue32 hrd
    generalize value32 E.c.D s.i = Q at *
    have Hg := hide hg
    clear hg hrd
    match Q, Hg with
    | .error e, Hg =>
      go_enter Tryz.func266, Tryz.ntmps266
      go_wp2_with fail
      refine Hg.out.mono ?_
      rintro r w1 ⟨⟨fv, j, rfl, ⟨fb, rfl, hfb, hfo⟩, h1⟩, k1⟩
      have HF := hide hfo
      clear h1 hfo
      go_wp2
      go_ret2
      exact ⟨⟨_, ptrTo fb, rfl, fb, rfl, hfb, HF.out⟩, k1⟩
    | .ok (n, j), Hg =>
      go_enter Tryz.func266, Tryz.ntmps266
      go_wp2_with fail
      refine Hg.out.mono ?_
      rintro r w1 ⟨⟨v, rfl, rfl, h1⟩, k1⟩
      have H1 := hide (H.out.read k1 h1)
      clear h1
      go_wp2
      go_ret2
      exact ⟨⟨rfl, H1.out⟩, k1⟩
  · rw [behind_3]
    have hg := readValue64 hrd
    generalize value64 E.c.D s.i = Q at *
    have Hg := hide hg
    clear hg hrd
    match Q, Hg with
    | .error e, Hg =>
      go_enter Tryz.func266, Tryz.ntmps266
      go_wp2_with fail
      refine Hg.out.mono ?_
      rintro r w1 ⟨⟨fv, j, rfl, ⟨fb, rfl, hfb, hfo⟩, h1⟩, k1⟩
      have HF := hide hfo
      clear h1 hfo
      go_wp2
      go_ret2
      exact ⟨⟨_, ptrTo fb, rfl, fb, rfl, hfb, HF.out⟩, k1⟩
    | .ok (n, j), Hg =>
      go_enter Tryz.func266, Tryz.ntmps266
      go_wp2_with fail
      refine Hg.out.mono ?_
      rintro r w1 ⟨⟨v, rfl, rfl, h1⟩, k1⟩
      have H1 := hide (H.out.read k1 h1)
      clear h1
      go_wp2
      go_ret2
      exact ⟨⟨rfl, H1.out⟩, k1⟩
end
def rowCells (r : RowT) : List Value := [.int .u8 r.fr.toNat, .int .u8 r.upto.toNat, .int .i64 r.behind, .string ⟨r.takes.toArray⟩, .string ⟨r.gives.toArray⟩]
theorem rowLen (r : RowT) : (rowCells r).length = 5 := rfl
def noRow : RowT := ⟨0, 0, 0, [], []⟩
def RowsAt (w : World) (ro : Nat → Prop) : Prop := ∃ a o cap, w.cell? ⟨1, 0, none⟩ = some (.slice (some ⟨a, o, none⟩) 28 cap) ∧ 28 ≤ cap ∧ ro 1 ∧ ro a ∧ ∀ k, k < 28 → ∀ j, j < 5 → w.cell? ⟨a, o + k * 5 + j, none⟩ = (rowCells (rowsM.getD k noRow))[j]?
theorem RowsAt.kp {w w' : World} {ro : Nat → Prop} (h : RowsAt w ro) (k : Kp (nro ro) w w') : RowsAt w' ro := by
  obtain ⟨a, o, cap, h1, h2, h3, h4, h5⟩ := h
  refine ⟨a, o, cap, k.cell h1 (fun hn => hn h3), h2, h3, h4, fun j hj i hi => ?_⟩
  have h6 := h5 j hj i hi
  have h7 : ∃ v, (rowCells (rowsM.getD j noRow))[i]? = some v := by rw [List.getElem?_eq_getElem (by rw [rowLen]; exact hi)]; exact ⟨_, rfl⟩
  obtain ⟨v, hv⟩ := h7
  rw [hv] at h6 ⊢
  exact k.cell h6 (fun hn => hn h4)
theorem find_at (op : UInt8) : findM op = (rowsM.drop 0).find? fun r => decide (r.fr ≤ op) && decide (op ≤ r.upto) := rfl
theorem u8_le (x y : UInt8) : decide ((x.toNat : Int) ≤ (y.toNat : Int)) = decide (x ≤ y) := by
  rw [Bool.eq_iff_iff]; simp [UInt8.le_iff_toNat_le]
def rowAgg (r : RowT) : Value := .agg (rowCells r).toArray
def GotRow (m : Option RowT) (r : Ending) : Prop :=
  match m with
  | some x => r = .returned (.tuple #[rowAgg x, .bool true])
  | none => r = .returned (.tuple #[rowAgg noRow, .bool false])
def put5 (w : World) (b : Nat) (v0 v1 v2 v3 v4 : Value) : World := ((((w.setCell ⟨b, 0, none⟩ v0).setCell ⟨b, 1, none⟩ v1).setCell ⟨b, 2, none⟩ v2).setCell ⟨b, 3, none⟩ v3).setCell ⟨b, 4, none⟩ v4
theorem put5_blk {w : World} {b : Nat} {a0 a1 a2 a3 a4 : Value} {t : TypeId} (h : w.heap[b]? = some (.cells #[a0, a1, a2, a3, a4] t)) (v0 v1 v2 v3 v4 : Value) : (put5 w b v0 v1 v2 v3 v4).heap[b]? = some (.cells #[v0, v1, v2, v3, v4] t) :=
  heap_setCell (heap_setCell (heap_setCell (heap_setCell (heap_setCell h v0) v1) v2) v3) v4
theorem put5_kp {w w' : World} {b : Nat} (hb : w.heap.size ≤ b) (k : Kp no w w') (v0 v1 v2 v3 v4 : Value) : Kp no w (put5 w' b v0 v1 v2 v3 v4) :=
  ((((k.setNew hb _ _).setNew hb _ _).setNew hb _ _).setNew hb _ _).setNew hb _ _
set_option maxRecDepth 100000 in
set_option maxHeartbeats 2000000 in
theorem find_any {w : World} {ro : Nat → Prop} (h : RowsAt w ro) (op : UInt8) :
    Calls Tryz.prog 210 #[.int .u8 op.toNat] w fun r w' => GotRow (findM op) r ∧ Kp no w w' := by
  have hM := find_at op
  generalize findM op = R at *
  obtain ⟨a, o, cap, h1, h2, -, -, h5⟩ := h
  have hl1 := World.block_lt_of_cell? w _ h1
  simp only at hl1
  have HR := hide h5
  have HM := hide hM
  clear h5 hM
  go_enter Tryz.func210, Tryz.ntmps210
  go_wp2
  go_loopw [8] (fun kv wr => ∃ k : Nat, k ≤ 28 ∧ kv = .int .i64 k ∧ Kp no (w.alloc (.cells #[.int .u8 0, .int .u8 0, .int .i64 0, .string ⟨#[]⟩, .string ⟨#[]⟩] 329)) wr ∧ (rowsM.drop 0).find? (fun r => decide (r.fr ≤ op) && decide (op ≤ r.upto)) = (rowsM.drop k).find? (fun r => decide (r.fr ≤ op) && decide (op ≤ r.upto))) (fun kv _ => 28 - (intOf kv).toNat)
  case atStart => exact ⟨0, by omega, rfl, Kp.refl _ _, rfl⟩
  case round =>
    obtain ⟨k, hk, rfl, hkp, hfi⟩ := hrel
    have HK := hide hkp
    have HF := hide hfi
    clear hkp hfi
    by_cases hk28 : k < 28
    · have hce : ∀ j v, j < 5 → (rowCells (rowsM.getD k noRow))[j]? = some v → wr.cell? ⟨a, o + k * 5 + j, none⟩ = some v := fun j v hj hv => HK.out.allCells (((Kp.refl no w).alloc _).allCells ((HR.out k hk28 j hj).trans hv))
      have hdr : rowsM.drop k = rowsM.getD k noRow :: rowsM.drop (k + 1) := by
        have hlen : rowsM.length = 28 := rfl
        rw [List.drop_eq_getElem_cons (by omega)]; simp [List.getD, List.getElem?_eq_getElem (show k < rowsM.length by omega)]
      have hF := HF.out
      rw [hdr, List.find?_cons] at hF
      generalize rowsM.getD k noRow = rw at *
      obtain ⟨fr, up, bh, tk, gv⟩ := rw
      have c0 := hce 0 _ (by decide) rfl
      rw [Nat.add_zero] at c0
      have c1 := hce 1 _ (by decide) rfl
      have c2 := hce 2 _ (by decide) rfl
      have c3 := hce 3 _ (by decide) rfl
      have c4 := hce 4 _ (by decide) rfl
      clear hce hdr HF
      have hgo : w.heap.size < wr.heap.size := by have := HK.out.size; simp at this; omega
      have hal : a < wr.heap.size := World.block_lt_of_cell? wr _ c0
      have hblk := HK.out.blk (heap_alloc_new w (.cells #[.int .u8 0, .int .u8 0, .int .i64 0, .string ⟨#[]⟩, .string ⟨#[]⟩] 329)) (fun h => h)
      have HBk := hide hblk
      clear hblk
      obtain ⟨hrc, hrf⟩ := cells_of (HK.out.blk (heap_alloc_new w (.cells #[.int .u8 0, .int .u8 0, .int .i64 0, .string ⟨#[]⟩, .string ⟨#[]⟩] 329)) (fun h => h))
      simp only at hF
      have hsz := size_setCell
      by_cases h1 : fr ≤ op
      · have h1' : (fr.toNat : Int) ≤ (op.toNat : Int) := by have := UInt8.le_iff_toNat_le.1 h1; omega
        by_cases h2 : op ≤ up
        · have h2' : (op.toNat : Int) ≤ (up.toNat : Int) := by have := UInt8.le_iff_toNat_le.1 h2; omega
          simp only [h1, h2, decide_true, Bool.and_self] at hF
          have HF := hide hF
          clear hF h1 h2
          go_wp2
          have hfin := (cells_of (heap_alloc_old (o := .cells #[.int .u8 fr.toNat, .int .u8 up.toNat, .int .i64 bh, .string ⟨tk.toArray⟩, .string ⟨gv.toArray⟩] 329) (put5_blk HBk.out (.int .u8 fr.toNat) (.int .u8 up.toNat) (.int .i64 bh) (.string ⟨tk.toArray⟩) (.string ⟨gv.toArray⟩)))).1
          simp only [put5] at hfin
          refine bodyPost_ret (v := .tuple #[rowAgg ⟨fr, up, bh, tk, gv⟩, .bool true]) (by simp [results, Tryz.results210, go_sem, hfin, rowAgg, rowCells]) rfl ?_
          rw [HM.out, HF.out]
          exact ⟨rfl, (put5_kp (w := w) (Nat.le_refl _) (Kp.trans ((Kp.refl no w).alloc _) HK.out) _ _ _ _ _).alloc _⟩
        · have h2' : ¬ ((op.toNat : Int) ≤ (up.toNat : Int)) := by intro e; exact h2 (UInt8.le_iff_toNat_le.2 (by omega))
          simp only [h1, h2, decide_true, decide_false, Bool.and_false] at hF
          have HF := hide hF
          clear hF h1 h2
          go_wp2
          go_roundw
          case rel => exact ⟨k + 1, by omega, by go_num, HK.out.alloc _, HF.out⟩
          case measure => simp [intOf]; omega
      · have h1' : ¬ ((fr.toNat : Int) ≤ (op.toNat : Int)) := by intro e; exact h1 (UInt8.le_iff_toNat_le.2 (by omega))
        simp only [h1, decide_false, Bool.false_and] at hF
        have HF := hide hF
        clear hF h1
        go_wp2
        go_roundw
        case rel => exact ⟨k + 1, by omega, by go_num, HK.out.alloc _, HF.out⟩
        case measure => simp [intOf]; omega
    · obtain rfl : k = 28 := by omega
      have hF := HF.out
      rw [show (rowsM.drop 28).find? (fun r => decide (r.fr ≤ op) && decide (op ≤ r.upto)) = none from rfl] at hF
      have HF1 := hide hF
      have hblk := HK.out.blk (heap_alloc_new w (.cells #[.int .u8 0, .int .u8 0, .int .i64 0, .string ⟨#[]⟩, .string ⟨#[]⟩] 329)) (fun h => h)
      have HBk := hide hblk
      clear hblk
      obtain ⟨hrc, hrf⟩ := cells_of (HK.out.blk (heap_alloc_new w (.cells #[.int .u8 0, .int .u8 0, .int .i64 0, .string ⟨#[]⟩, .string ⟨#[]⟩] 329)) (fun h => h))
      clear hF HF
      go_wp2
      have hfin := (cells_of (put5_blk HBk.out (.int .u8 0) (.int .u8 0) (.int .i64 0) (.string ⟨#[]⟩) (.string ⟨#[]⟩))).1
      simp only [put5] at hfin
      refine bodyPost_ret (v := .tuple #[rowAgg noRow, .bool false]) (by simp [results, Tryz.results210, go_sem, hfin, rowAgg, rowCells, noRow]) rfl ?_
      rw [HM.out, HF1.out]
      exact ⟨rfl, put5_kp (w := w) (Nat.le_refl _) (Kp.trans ((Kp.refl no w).alloc _) HK.out) _ _ _ _ _⟩
section
variable {E : Env} {g N : Nat} {w : World} {s : Bd}
theorem cut_end {role : Nat → Nat} {sv cv : Value} {kc : Nat} {bs : List BkV} (h : BStG E g w s role sv cv kc bs) {ad : Option Addr} {cap n : Nat} (hsv : sv = .slice ad s.stack.length cap) (hn : n ≤ s.stack.length) {W : World} (kW : Kp no w W) :
    BSt E g (W.setCell ⟨E.bb, 4, none⟩ (.slice ad n cap)) { s with stack := s.stack.take n } ∧ Kp (one E.bb) w (W.setCell ⟨E.bb, 4, none⟩ (.slice ad n cap)) := by
  subst hsv
  have k2 : Kp (fun b => (fun r => r = 3 ∨ r = 4) (role b)) w (W.setCell ⟨E.bb, 4, none⟩ (.slice ad n cap)) := Kp.setAt kW.any (.inl h.r3) 4 _
  have hbody := kW.blk h.body (fun h => h)
  refine ⟨⟨role, _, cv, kc, bs, h.setStack (l := s.stack.take n) k2 (heap_setCell hbody _) ?_ (fun b hb => h.r4 b (by cases ad with | none => cases hb | some a => exact hb))⟩, Kp.set1 kW.any 4 _⟩
  have ho : (W.setCell ⟨E.bb, 4, none⟩ (.slice ad n cap)).ownsRow E.B 5 1 (.slice ad s.stack.length cap) s.stack.length (s.stack.map fun c => .int .u8 c.toNat) :=
    ((Kp.refl (one E.bb) W).set1 4 _).own (kW.own h.stack (fun _ _ h => h)) (fun b hb (e : b = E.bb) => by subst e; have := h.r4 _ hb; rw [h.r3] at this; cases this)
  have hlen : (s.stack.take n).length = n := by simp; omega
  obtain ⟨h1, ⟨h2, h3⟩ | ⟨g', cap', cur, hv, hb, hh, hc, hm, hsz, ht⟩⟩ := ho
  · simp only [Value.slice.injEq] at h2
    obtain ⟨rfl, -, rfl⟩ := h2
    have hn0 : n = 0 := by omega
    subst hn0
    exact ⟨by simp, .inl ⟨by simp, by simp⟩⟩
  · cases hv
    refine ⟨by simp, .inr ⟨g', cap, cur, by rw [hlen], hb, hh, by omega, hm, hsz, ?_⟩⟩
    rw [hlen, List.map_take, ← ht, List.take_take]
    congr 1
    omega
theorem kind_end {role : Nat → Nat} {sv cv : Value} {kc : Nat} {bs : List BkV} (h : BStG E g w s role sv cv kc bs) {k : Nat} (hk : k < s.blocks.length) (kd : Nat) :
    BSt E g (w.setCell ⟨g, k * 5, none⟩ (.int .i64 kd)) { s with blocks := s.blocks.set k { s.bk k with kind := kd } } ∧ Kp (one g) w (w.setCell ⟨g, k * 5, none⟩ (.int .i64 kd)) := by
  obtain ⟨rv, wv, hbs, -⟩ := h.bk hk
  have k2 : Kp (fun b => (fun r => r = 5) (role b)) w (w.setCell ⟨g, k * 5, none⟩ (.int .i64 kd)) := Kp.setAt (S := fun b => (fun r => r = 5) (role b)) (Kp.refl _ w) (b := g) h.r5 _ _
  have hst := (h.blocks.stored (k * 5 + 0) (.int .i64 kd)).1
  have hset : (bs.flatMap bkCells).set (k * 5 + 0) (.int .i64 kd) = (bs.set k ({ s.bk k with kind := kd }, rv, wv)).flatMap bkCells := flat_set bkLen bs k 0 (by decide) _ _ _ hbs rfl
  rw [hset] at hst
  have hl : k < bs.length := by
    have := h.eq
    rw [this, List.length_map] at hk; exact hk
  have hget : ∀ (j : Nat) (x : BkV), (bs.set k ({ s.bk k with kind := kd }, rv, wv))[j]? = some x → ∃ y, bs[j]? = some y ∧ y.2 = x.2 ∧ y.1.waits = x.1.waits ∧ y.1.result = x.1.result := by
    intro j x hx
    rw [List.getElem?_set] at hx
    by_cases e : k = j
    · rw [if_pos e, if_pos hl] at hx; cases hx; subst e; exact ⟨_, hbs, rfl, rfl, rfl⟩
    · rw [if_neg e] at hx; exact ⟨x, hx, rfl, rfl, rfl⟩
  refine ⟨⟨role, sv, cv, kc, bs.set k ({ s.bk k with kind := kd }, rv, wv), ?_⟩, (Kp.refl _ w).set1 _ _⟩
  refine ⟨h.kEnv (X := fun r => r = 5) k2 (by omega), (h.kRd (X := fun r => r = 5) k2 (by omega) (by omega) :), ?_, (h.kMod (X := fun r => r = 5) k2 (by omega) :), (h.kStack (X := fun r => r = 5) k2 (by omega) :), ?_, (h.kCode (X := fun r => r = 5) k2 (by omega) :), ?_, ?_, ?_, h.r1, h.r2, h.r3, h.r4, h.r5, h.r6, ?_, ?_, h.ro, h.kLt (X := fun r => r = 5) k2⟩
  · have := h.kBody (X := fun r => r = 5) k2 (by omega)
    simpa [bodyObj] using this
  · simpa using hst
  · simp only [List.map_set, h.eq]
  · intro j x hx
    obtain ⟨y, hy, e1, e2, -⟩ := hget j x hx
    have := h.kWaits (X := fun r => r = 5) k2 j y hy (by omega)
    rw [e1, e2] at this; exact this
  · intro j x hx
    obtain ⟨y, hy, e1, -, e2⟩ := hget j x hx
    have := h.kResults (X := fun r => r = 5) k2 (by omega) j y hy
    rw [e1, e2] at this; exact this
  · intro j x hx
    obtain ⟨y, hy, e1, -⟩ := hget j x hx
    rw [← e1]; exact h.rw j y hy
  · intro j x hx
    obtain ⟨y, hy, e1, -⟩ := hget j x hx
    rw [← e1]; exact h.kRr (X := fun r => r = 5) k2 j y hy
theorem BSt.cut (h : BSt E g w s) {n : Nat} (hn : n ≤ s.stack.length) : ∃ ad cap, (∃ kc, w.heap[E.bb]? = some (bodyObj E g s (.slice ad s.stack.length cap) kc)) ∧ s.stack.length ≤ cap ∧ (ad = none → cap = 0) ∧ ∀ W, Kp no w W → BSt E g (W.setCell ⟨E.bb, 4, none⟩ (.slice ad n cap)) { s with stack := s.stack.take n } ∧ Kp (one E.bb) w (W.setCell ⟨E.bb, 4, none⟩ (.slice ad n cap)) := by
  obtain ⟨role, sv, cv, kc, bs, h⟩ := h
  obtain ⟨h1, ⟨rfl, h3⟩ | ⟨g', cap', cur, rfl, hb, hh, hc, hm, hsz, ht⟩⟩ := h.stack
  · refine ⟨none, 0, ⟨kc, ?_⟩, by omega, fun _ => rfl, fun W kW => cut_end h (by rw [h3]) hn kW⟩
    rw [h3]; exact h.body
  · exact ⟨some ⟨g', 0, none⟩, cap', ⟨kc, h.body⟩, hc, (fun h => by cases h), fun W kW => cut_end h rfl hn kW⟩
theorem BSt.blkAt (h : BSt E g w s) {k : Nat} (hk : k < s.blocks.length) : ∃ rv wv, (∀ W, Kp no w W → W.cell? ⟨g, k * 5, none⟩ = some (.int .i64 (s.bk k).kind) ∧ W.cell? ⟨g, k * 5 + 1, none⟩ = some rv ∧ W.cell? ⟨g, k * 5 + 2, none⟩ = some (.int .i64 (s.bk k).height) ∧
      W.cell? ⟨g, k * 5 + 3, none⟩ = some (.int .i64 (s.bk k).start) ∧ W.cell? ⟨g, k * 5 + 4, none⟩ = some wv ∧ W.frozen? ⟨g, k * 5, none⟩ = false) ∧ BytesAt w rv (s.bk k).result ∧ (∀ b, rv.ownBlock = some b → b ≠ E.bb) ∧ RowAt w wv 1 (s.bk k).waits.length ((s.bk k).waits.map fun n => Value.int .i64 ((n : Nat) : Int)) ∧ g ≠ E.bb := by
  obtain ⟨role, sv, cv, kc, bs, h⟩ := h
  obtain ⟨rv, wv, hbs, h1, h2, h3, h4, h5⟩ := h.bk hk
  refine ⟨rv, wv, fun W k => ⟨k.allCells h1, k.allCells h2, k.allCells h3, k.allCells h4, k.allCells h5, (k.own h.blocks (fun _ _ h => h)).frozenAt _⟩, h.results k _ hbs, fun b hb e => ?_, RowAt.own (h.waits k _ hbs), fun e => ?_⟩
  · have := (h.rr k _ hbs b hb).1; rw [e, h.r3] at this; cases this
  · have := h.r5; rw [e, h.r3] at this; cases this
theorem BSt.setKind (h : BSt E g w s) {k : Nat} (hk : k < s.blocks.length) (kd : Nat) : BSt E g (w.setCell ⟨g, k * 5, none⟩ (.int .i64 kd)) { s with blocks := s.blocks.set k { s.bk k with kind := kd } } ∧ Kp (nro E.ro) w (w.setCell ⟨g, k * 5, none⟩ (.int .i64 kd)) := by
  obtain ⟨role, sv, cv, kc, bs, h⟩ := h
  obtain ⟨h1, h2⟩ := kind_end h hk kd
  exact ⟨h1, h2.mono (fun b _ (e : b = g) hr => by have := h.ro b hr; rw [e, h.r5] at this; cases this)⟩
set_option maxRecDepth 100000 in
set_option maxHeartbeats 3000000 in
theorem turn_no (h : BSt E g w s) (z : Sz N s) (hN : N ≤ 500000) (hne : s.blocks ≠ []) (hw : s.top.kind ≠ 3 ∨ fullM s (s.blocks.length - 1) = false) : Calls Tryz.prog 256 #[ptrTo E.bb] w fun r w' => Done E w w' (wrongM s) r ∧ Kp (nro E.ro) w w' := by
  have hl : 0 < s.blocks.length := List.length_pos_iff.2 hne
  have hst := z.st
  have hbl := z.bl
  have hin := inner_any' h hne (by omega)
  obtain ⟨rv, wv, hcl, -, -, -, -⟩ := h.blkAt (k := s.blocks.length - 1) (by omega)
  have hfu := fun W (kW : Kp no w W) => full_any (h.quiet kW) (k := s.blocks.length - 1) (by omega) (z.height (by omega)) (by omega)
  have H := hide h
  have hkq : ((s.top.kind : Int) != 3) = !(s.top.kind == 3) := by rw [bne]; congr 1; rw [Bool.eq_iff_iff]; simp; omega
  have HI := hide hin
  have HC := hide hcl
  have HF := hide hfu
  clear h hin hcl hfu
  change Hid (∀ W, Kp no w W → W.cell? _ = some (.int .i64 (s.top.kind : Nat)) ∧ _) at HC
  generalize s.top.kind = kd at *
  by_cases h3 : kd = 3
  · have hq : (kd == 3) = true := by simpa using h3
    have hfl : fullM s (s.blocks.length - 1) = false := hw.resolve_left (fun e => e h3)
    rw [hq] at hkq
    have HFl := hide hfl
    clear hw hq hfl
    subst h3
    go_enter Tryz.func256, Tryz.ntmps256
    go_wp2_with fail
    refine HI.out.mono ?_
    rintro e w1 ⟨rfl, k1⟩
    obtain ⟨hc1, -, -, -, -, -⟩ := HC.out w1 k1
    have HF1 := hide (HF.out w1 k1)
    go_wp2_with fail
    refine HF1.out.mono ?_
    rintro e w2 ⟨rfl, k2⟩
    have HW := hide (wrong_any (H.out.quiet (k1.trans k2)))
    have HK := hide (k1.trans k2)
    rw [HFl.out]
    clear k1 k2 hc1
    go_wp2_with fail
    refine HW.out.mono ?_
    rintro e w8 ⟨⟨fv, rfl, fb, rfl, hfb, hfo⟩, k8⟩
    have HFo := hide hfo
    clear hfo
    go_wp2
    go_ret
    exact ⟨⟨ptrTo fb, rfl, fb, rfl, by have := HK.out.size; omega, HFo.out⟩, (HK.out.trans k8).any⟩
  · have hq : (kd == 3) = false := by simpa using h3
    rw [hq] at hkq
    clear hw hq h3
    go_enter Tryz.func256, Tryz.ntmps256
    go_wp2_with fail
    refine HI.out.mono ?_
    rintro e w1 ⟨rfl, k1⟩
    obtain ⟨hc1, -, -, -, -, -⟩ := HC.out w1 k1
    have HW := hide (wrong_any (H.out.quiet k1))
    have HK := hide k1
    clear k1
    go_wp2_with fail
    refine HW.out.mono ?_
    rintro e w8 ⟨⟨fv, rfl, fb, rfl, hfb, hfo⟩, k8⟩
    have HFo := hide hfo
    clear hfo
    go_wp2
    go_ret
    exact ⟨⟨ptrTo fb, rfl, fb, rfl, by have := HK.out.size; omega, HFo.out⟩, (HK.out.trans k8).any⟩
end
section
variable {E : Env} {g N : Nat} {w : World} {s : Bd}
theorem jump_same (op : UInt8) {k : Nat} (hk : k < s.blocks.length) : (jumpM s op k).stack = s.stack ∧ (jumpM s op k).blocks.length = s.blocks.length ∧ (jumpM s op k).pos = s.pos ∧ ∀ j, ((jumpM s op k).bk j).kind = (s.bk j).kind ∧ ((jumpM s op k).bk j).height = (s.bk j).height ∧ ((jumpM s op k).bk j).start = (s.bk j).start ∧ ((jumpM s op k).bk j).result = (s.bk j).result := by
  unfold jumpM
  split
  · exact ⟨rfl, rfl, rfl, fun j => ⟨rfl, rfl, rfl, rfl⟩⟩
  · refine ⟨rfl, by simp [emitM], rfl, fun j => ?_⟩
    have hb : ∀ x, (emitM { s with blocks := s.blocks.set k { s.bk k with waits := (s.bk k).waits ++ [s.code.length] } } x).bk j = if k = j then { s.bk k with waits := (s.bk k).waits ++ [s.code.length] } else s.bk j := fun x => bk_set hk _ j
    rw [hb]
    split
    · rename_i e; subst e; exact ⟨rfl, rfl, rfl, rfl⟩
    · exact ⟨rfl, rfl, rfl, rfl⟩
set_option maxRecDepth 100000 in
set_option maxHeartbeats 3000000 in
theorem turn_ok (h : BSt E g w s) (z : Sz N s) (hN : N ≤ 500000) (hne : s.blocks ≠ []) (hk3 : s.top.kind = 3) (hfl : fullM s (s.blocks.length - 1) = true) : Calls Tryz.prog 256 #[ptrTo E.bb] w fun r w' => Done E w w' (turnM s) r ∧ Kp (nro E.ro) w w' := by
  have hM : turnM s = .ok { aimM (jumpM s 5 (s.blocks.length - 1)) (s.top.start - 1) with blocks := (jumpM s 5 (s.blocks.length - 1)).blocks.set (s.blocks.length - 1) { (jumpM s 5 (s.blocks.length - 1)).bk (s.blocks.length - 1) with kind := 4 }, stack := s.stack.take s.top.height, closed := false } := by
    have hl : 0 < s.blocks.length := List.length_pos_iff.2 hne
    obtain ⟨e1, e2, -, e3⟩ := jump_same (s := s) 5 (k := s.blocks.length - 1) (by omega)
    unfold turnM
    rw [if_neg (by simp [hk3, hfl])]
    show Except.ok _ = _
    have e4 : (aimM (jumpM s 5 (s.blocks.length - 1)) (s.top.start - 1)).top = (jumpM s 5 (s.blocks.length - 1)).bk (s.blocks.length - 1) := by
      unfold Bd.top
      show (jumpM s 5 (s.blocks.length - 1)).bk _ = _
      congr 1
      show (jumpM s 5 (s.blocks.length - 1)).blocks.length - 1 = _
      rw [e2]
    rw [e4]
    have a1 : (aimM (jumpM s 5 (s.blocks.length - 1)) (s.top.start - 1)).stack = s.stack := e1
    have a2 : (aimM (jumpM s 5 (s.blocks.length - 1)) (s.top.start - 1)).blocks.length = s.blocks.length := e2
    rw [a1, a2, (e3 _).2.1]
    rfl
  have hl : 0 < s.blocks.length := List.length_pos_iff.2 hne
  generalize turnM s = R at *
  have hst := z.st
  have hbl := z.bl
  have hcd := z.cd
  have hin := inner_any' h hne (by omega)
  have hkl : s.blocks.length - 1 < s.blocks.length := by omega
  have hblk := fun W s1 (h1 : BSt E g W s1) (hl1 : s1.blocks.length = s.blocks.length) => h1.blkAt (k := s.blocks.length - 1) (by omega)
  have hfu := fun W (kW : Kp no w W) => full_any (h.quiet kW) (k := s.blocks.length - 1) (by omega) (z.height (by omega)) (by omega)
  rw [hfl] at hfu
  have htop : s.top = s.bk (s.blocks.length - 1) := rfl
  obtain ⟨j1, j2, -, j3⟩ := jump_same (s := s) 5 hkl
  have zj := jump_sz z 5 hkl
  have hju := fun W (h1 : BSt E g W s) => jump_any h1 z hN hkl 5
  have hjw := (zj.wt (s.blocks.length - 1) (by omega)).2.2.2.2 (by rw [(j3 _).1, ← htop]; exact hk3)
  have hst1 := (z.wt _ hkl).2.1
  have hheight := z.height hkl
  rw [(j3 _).2.2.1, ← htop] at hjw
  rw [← htop] at hst1 hheight
  have hhe1 := (j3 (s.blocks.length - 1)).2.1
  have hsta1 := (j3 (s.blocks.length - 1)).2.2.1
  rw [← htop] at hhe1 hsta1
  have zc := zj.cd
  generalize jumpM s 5 (s.blocks.length - 1) = sj at *
  have hai := fun W (h1 : BSt E g W sj) => aim_any h1 (n := s.top.start - 1) (by omega) (by omega)
  have haeq : ∀ j, (aimM sj (s.top.start - 1)).bk j = sj.bk j := fun _ => rfl
  have hal : (aimM sj (s.top.start - 1)).blocks.length = s.blocks.length := j2
  have hast : (aimM sj (s.top.start - 1)).stack = s.stack := j1
  have habl : (aimM sj (s.top.start - 1)).blocks = sj.blocks := rfl
  have H := hide h
  have HI := hide hin
  have HB := hide hblk
  have HF := hide hfu
  have HJ := hide hju
  have HA := hide hai
  have HM := hide hM
  have HK3 := hide hk3
  have HTop := hide htop
  have HHe := hide hhe1
  have HSt := hide hsta1
  have HAe := hide haeq
  have HAl := hide hal
  have HAs := hide hast
  have HJ2 := hide j2
  have HAb := hide habl
  clear h hin hblk hfu hju hai hM hk3 hfl htop hhe1 hsta1 haeq hal hast j1 j2 j3 z zj habl
  have hki : ∀ W, Kp no w W → W.cell? ⟨g, (s.blocks.length - 1) * 5, none⟩ = some (.int .i64 3) := by
    intro W kW
    obtain ⟨rv, wv, hcl, -⟩ := HB.out w s H.out rfl
    have := (hcl W kW).1
    rw [← HTop.out, HK3.out] at this; exact this
  have HKi := hide hki
  clear hki
  generalize hht : s.top.height = ht at *
  generalize hsr : s.top.start = sr at *
  go_enter Tryz.func256, Tryz.ntmps256
  go_wp2_with fail
  refine HI.out.mono ?_
  rintro e w1 ⟨rfl, k1⟩
  have hc1 := HKi.out w1 k1
  have HF1 := hide (HF.out w1 k1)
  go_wp2_with fail
  refine HF1.out.mono ?_
  rintro e w2 ⟨rfl, k2⟩
  have HJ1 := hide (HJ.out w2 (H.out.quiet (k1.trans k2)))
  have HK := hide (k1.trans k2)
  clear k1 k2 hc1
  go_wp2_with fail
  refine HJ1.out.mono ?_
  rintro e w3 ⟨rfl, h3, k3⟩
  obtain ⟨rv3, wv3, hcl3, -⟩ := HB.out w3 sj h3 HJ2.out
  obtain ⟨-, -, -, hsc3, -, -⟩ := hcl3 w3 (Kp.refl no w3)
  rw [HSt.out] at hsc3
  have HA1 := hide (HA.out w3 h3)
  have HK2 := hide (Kp.trans HK.out.any k3)
  clear h3 k3 hcl3
  have hsr1 : ((sr : Int) - 1) = ((sr - 1 : Nat) : Int) := by omega
  have HSR := hide hsr1
  clear hsr1
  go_wp2_with fail
  rw [HSR.out]
  refine HA1.out.mono ?_
  rintro e w4 ⟨rfl, h4, k4⟩
  have HK4 := hide (HK2.out.trans k4)
  obtain ⟨h5, k5⟩ := h4.setKind (k := s.blocks.length - 1) (by rw [HAl.out]; exact hkl) 4
  obtain ⟨rv4, wv4, hcl4, -, -, -, hgb⟩ := HB.out w4 _ h4 HAl.out
  obtain ⟨hkc4, -, -, -, -, hkf4⟩ := hcl4 w4 (Kp.refl no w4)
  obtain ⟨rv5, wv5, hcl5, -⟩ := HB.out _ _ h5 (by simp only [List.length_set]; exact HAl.out)
  have hhc5 := (hcl5 _ (Kp.refl no _)).2.2.1
  rw [show (Bd.bk { aimM sj (sr - 1) with blocks := (aimM sj (sr - 1)).blocks.set (s.blocks.length - 1) { (aimM sj (sr - 1)).bk (s.blocks.length - 1) with kind := 4 } } (s.blocks.length - 1)).height = ht by
    rw [bk_set (by rw [HAl.out]; exact hkl), if_pos rfl]; show ((aimM sj (sr - 1)).bk (s.blocks.length - 1)).height = ht; rw [HAe.out, HHe.out]] at hhc5
  obtain ⟨ad, cap, ⟨kc5, hbo5⟩, hcap, hnil, hcut⟩ := h5.cut (n := ht) (by show ht ≤ (aimM sj (sr - 1)).stack.length; rw [HAs.out]; exact hheight)
  simp only [bodyObj] at hbo5
  simp only [show (aimM sj (sr - 1)).stack = s.stack from HAs.out] at hbo5 hcap hcut
  obtain ⟨hc5, hf5⟩ := cells_of hbo5
  have HK5 := hide (HK4.out.trans k5)
  have HC5 := hide hcut
  have H5 := hide h5
  clear h4 k4 h5 k5 hcl4 hcl5 hcut hbo5
  go_wp2_with fail
  generalize w4.setCell ⟨g, (s.blocks.length - 1) * 5, none⟩ (.int .i64 4) = w5 at *
  clear hkc4 hkf4 hsc3
  cases ad with
  | none =>
    have hcap0 := hnil rfl
    subst hcap0
    have hh0 : ht = 0 := by omega
    subst hh0
    clear hnil
    go_region
    all_goals
      go_wp2
      go_ret
      rw [HM.out]
      obtain ⟨h6, k6⟩ := HC5.out w5 (Kp.refl no w5)
      obtain ⟨h7, k7⟩ := closed_end h6 false
      exact ⟨⟨rfl, g, h7.quiet ((Kp.refl no _).drew)⟩, ((HK5.out.trans (H5.out.nroBb k6)).trans (h6.nroBb k7)).drew⟩
  | some a =>
    clear hnil
    go_region
    all_goals
      go_wp2
      go_ret
      rw [HM.out]
      obtain ⟨h6, k6⟩ := HC5.out w5 (Kp.refl no w5)
      obtain ⟨h7, k7⟩ := closed_end h6 false
      exact ⟨⟨rfl, g, h7.quiet ((Kp.refl no _).drew)⟩, ((HK5.out.trans (H5.out.nroBb k6)).trans (h6.nroBb k7)).drew⟩
end
def CodeB (E : Env) (w : World) (b : Nat) : Prop := ∃ n c, w.cell? ⟨E.mb, 3, none⟩ = some (.slice (some ⟨b, 0, none⟩) n c)
section
variable {E : Env} {g N : Nat} {w : World} {s : Bd}
set_option maxRecDepth 100000 in
set_option maxHeartbeats 1000000 in
theorem aim_any2 (h : BSt E g w s) {n : Nat} (hn : n < s.code.length) (hc : s.code.length ≤ 1000000) :
    Calls Tryz.prog 282 #[ptrTo E.bb, .int .i64 n] w fun r w' => r = .returned (.tuple #[]) ∧ BSt E g w' (aimM s n) ∧ Kp (CodeB E w) w w' := by
  have hhere := fun W (k : Kp no w W) => here_any (h.quiet k) hc
  obtain ⟨role, sv, cv, kc, bs, h⟩ := h
  obtain ⟨hcb, -⟩ := cells_of h.body
  obtain ⟨hm, hmf⟩ := cells_of h.mod
  obtain ⟨a, cap, hcv, -, -⟩ := h.code.form (by omega)
  have hcap := RowAt.own h.code
  obtain ⟨ad', cap', hcv', hcap'⟩ := hcap.shape
  have hend := fun W (k : Kp no w W) => (aim_end h hcv hn k).1
  have hab : a ≠ E.bb := fun e => by have := h.r6 a (by rw [hcv]; rfl); rw [e, h.r3] at this; cases this
  have ham : a ≠ E.mb := fun e => by have := h.r6 a (by rw [hcv]; rfl); rw [e, h.r2] at this; cases this
  have hcell := fun W (k : Kp no w W) => (k.own h.code (fun _ _ h => h))
  have HBo := hide h.body
  have HMo := hide h.mod
  subst hcv
  cases hcv'
  have hCB : CodeB E w a := ⟨_, _, (cells_of h.mod).1 3⟩
  have HCB := hide hCB
  have hce : ∀ W, Kp no w W → W.cell? ⟨a, n * 5 + 2, none⟩ = some (.int .i64 (s.code.getD n ⟨0, 0, 0, 0, 0⟩).goal) ∧ W.frozen? ⟨a, n * 5 + 2, none⟩ = false := by
    intro W k
    refine ⟨?_, (hcell W k).frozenAt _⟩
    rw [(hcell W k).cellAt (n * 5 + 2) (by omega), flat_get Ins.len s.code n 2 (by decide), List.getD, List.getElem?_eq_getElem hn]; rfl
  generalize (s.code.getD n ⟨0, 0, 0, 0, 0⟩).goal = gl0 at *
  have HH := hide hhere
  have HE := hide hend
  have HC := hide hce
  have hi0 : (0 : Int) ≤ (n : Int) := by omega
  have hi1 : (n : Int) < (s.code.length : Int) := by omega
  obtain ⟨hc0, hf0⟩ := hce w (Kp.refl no w)
  clear h hhere hend hcell hce hcap hCB
  go_enter Tryz.func282, Tryz.ntmps282
  go_wp2_with fail
  go_region_held3 (fun w' => w'.cell? ⟨E.bb, 1, none⟩ = some (ptrTo E.mb) ∧ w'.cell? ⟨E.mb, 3, none⟩ = some (.slice (some ⟨a, 0, none⟩) s.code.length cap)) (go_keep) (first | (go_at_call 278; refine (HH.out w.drew ((Kp.refl no w).drew)).mono ?_; rintro e w1 ⟨rfl, k1⟩; obtain ⟨hc1, hf1⟩ := cells_of (k1.blk (show w.drew.heap[E.bb]? = _ from HBo.out) (fun h => h)); obtain ⟨hm1, hmf1⟩ := cells_of (k1.blk (show w.drew.heap[E.mb]? = _ from HMo.out) (fun h => h)); obtain ⟨hcc1, hcf1⟩ := HC.out w1 ((Kp.refl no w).drew.trans k1)))
  have HK := hide ((Kp.refl no w).drew.trans k1)
  go_end0
  exact ⟨rfl, HE.out w1 HK.out, Kp.setAt HK.out.any HCB.out _ _⟩
theorem BSt.waitsAt (h : BSt E g w s) {k : Nat} (hk : k < s.blocks.length) : ∃ wv, w.cell? ⟨g, k * 5 + 4, none⟩ = some wv ∧ RowAt w wv 1 (s.bk k).waits.length ((s.bk k).waits.map fun n => Value.int .i64 ((n : Nat) : Int)) ∧ (∀ b, wv.ownBlock = some b → ¬ CodeB E w b) ∧ ¬ CodeB E w E.mb ∧ ¬ CodeB E w g ∧ ¬ CodeB E w E.bb := by
  obtain ⟨role, sv, cv, kc, bs, h⟩ := h
  obtain ⟨rv, wv, hbs, h1, h2, h3, h4, h5⟩ := h.bk hk
  have key : ∀ b, CodeB E w b → role b = 6 := by
    rintro b ⟨n, c, hb⟩
    rw [(cells_of h.mod).1 3] at hb
    have hb' : cv = .slice (some ⟨b, 0, none⟩) n c := by simpa using hb
    exact h.r6 b (by rw [hb']; rfl)
  refine ⟨wv, h5, RowAt.own (h.waits k _ hbs), fun b hb hc => ?_, fun hc => ?_, fun hc => ?_, fun hc => ?_⟩
  · have := key b hc; rw [h.rw k _ hbs b hb] at this; omega
  · have := key _ hc; rw [h.r2] at this; cases this
  · have := key _ hc; rw [h.r5] at this; cases this
  · have := key _ hc; rw [h.r3] at this; cases this
theorem BSt.nroCode (h : BSt E g w s) {w' : World} (k : Kp (CodeB E w) w w') : Kp (nro E.ro) w w' := by
  obtain ⟨role, sv, cv, kc, bs, h⟩ := h
  refine k.mono (fun b _ hc hr => ?_)
  obtain ⟨n, c, hb⟩ := hc
  rw [(cells_of h.mod).1 3] at hb
  have hb' : cv = .slice (some ⟨b, 0, none⟩) n c := by simpa using hb
  have := h.r6 b (by rw [hb']; rfl)
  rw [h.ro b hr] at this; cases this
theorem aimAll_same (l : List Nat) : ∀ s : Bd, (aimAll l s).stack = s.stack ∧ (aimAll l s).blocks = s.blocks ∧ (aimAll l s).pos = s.pos ∧ (aimAll l s).i = s.i ∧ (aimAll l s).closed = s.closed ∧ (aimAll l s).code.length = s.code.length := by
  induction l with
  | nil => intro s; exact ⟨rfl, rfl, rfl, rfl, rfl, rfl⟩
  | cons a l ih =>
    intro s
    obtain ⟨a1, a2, a3, a4, a5, a6⟩ := ih (aimM s a)
    exact ⟨a1, a2, a3, a4, a5, a6.trans (by simp [aimM])⟩
theorem aimAll_snoc (l : List Nat) (a : Nat) (s : Bd) : aimAll (l ++ [a]) s = aimM (aimAll l s) a := by simp [aimAll]
theorem endstack_end {role : Nat → Nat} {sv cv : Value} {kc : Nat} {bs : List BkV} (h : BStG E g w s role sv cv kc bs) {n : Nat} (hn : n ≤ s.stack.length) (res : List UInt8) {W w1 : World} {v0 v1 : Value} (hv0 : v0.ownBlock = sv.ownBlock) (kW : Kp no w W) {m : Nat} {xs : List Value} (hm : m = n + res.length)
    (hxs : xs = ((s.stack.take n).map fun c => .int .u8 c.toNat) ++ (res.map fun c => .int .u8 c.toNat))
    (hown1 : w1.ownsRow E.B 5 1 v1 m xs) (hgrow : W.grownBy w1 v0.ownBlock) (hat : v1.ownBlock = v0.ownBlock ∨ v1.ownBlock = some W.heap.size) :
    BSt E g (w1.setCell ⟨E.bb, 4, none⟩ v1) { s with stack := s.stack.take n ++ res } ∧ Kp (nro E.ro) w (w1.setCell ⟨E.bb, 4, none⟩ v1) := by
  subst hm hxs
  rw [hv0] at hgrow hat
  have h' := h.renew 4
  have hm := lt_of_blk h.body
  have k1 : Kp (fun b => (fun r => r = 3 ∨ r = 4) (newRole role w.heap.size 4 b)) w w1 := (kW.any).grown hgrow (fun b hb => .inl (.inr (h'.r4 b hb)))
  have k2 : Kp (fun b => (fun r => r = 3 ∨ r = 4) (newRole role w.heap.size 4 b)) w (w1.setCell ⟨E.bb, 4, none⟩ v1) := k1.setAt (.inl h'.r3) 4 v1
  have hr : ∀ b, v1.ownBlock = some b → newRole role w.heap.size 4 b = 4 := by
    intro b hb
    rcases hat with e | e
    · exact h'.r4 b (e ▸ hb)
    · rw [hb] at e; cases e; exact newRole_new kW.size
  have hbody : w1.heap[E.bb]? = some (bodyObj E g s sv kc) := (hgrow.block E.bb (Nat.lt_of_lt_of_le hm kW.size) (fun e => by have := h.r4 _ e.symm; rw [h.r3] at this; cases this)).trans (kW.blk h.body (fun h => h))
  refine ⟨⟨_, v1, cv, kc, bs, h'.setStack (l := s.stack.take n ++ res) k2 (heap_setCell hbody v1) ?_ hr⟩, h'.nro (X := fun r => r = 3 ∨ r = 4) k2 (by decide)⟩
  have ho : (w1.setCell ⟨E.bb, 4, none⟩ v1).ownsRow E.B 5 1 v1 (n + res.length) (((s.stack.take n).map fun c => .int .u8 c.toNat) ++ (res.map fun c => .int .u8 c.toNat)) :=
    ((Kp.refl (one E.bb) w1).set1 4 v1).own hown1 (fun b hb (e : b = E.bb) => by subst e; have := hr _ hb; rw [h'.r3] at this; cases this)
  have e : (s.stack.take n ++ res).length = n + res.length := by simp; omega
  rw [e]; simpa using ho
theorem pop_end {role : Nat → Nat} {sv cv : Value} {kc : Nat} {bs : List BkV} (h : BStG E g w s role sv cv kc bs) {n : Nat} (hn : n ≤ s.blocks.length) {W : World} (kW : Kp no w W) :
    BSt E g (W.setCell ⟨E.bb, 5, none⟩ (.slice (some ⟨g, 0, none⟩) n kc)) { s with blocks := s.blocks.take n } ∧ Kp (one E.bb) w (W.setCell ⟨E.bb, 5, none⟩ (.slice (some ⟨g, 0, none⟩) n kc)) := by
  have hq := h.quiet kW
  have k2 : Kp (fun b => (fun r => r = 3) (role b)) W (W.setCell ⟨E.bb, 5, none⟩ (.slice (some ⟨g, 0, none⟩) n kc)) := Kp.setAt (S := fun b => (fun r => r = 3) (role b)) (Kp.refl _ W) (b := E.bb) h.r3 _ _
  have hlen : (s.blocks.take n).length = n := by simp; omega
  have hget : ∀ (j : Nat) (x : BkV), (bs.take n)[j]? = some x → bs[j]? = some x := by
    intro j x hx
    rw [List.getElem?_take] at hx
    split at hx
    · exact hx
    · cases hx
  refine ⟨⟨role, sv, cv, kc, bs.take n, ?_⟩, Kp.set1 kW.any _ _⟩
  refine ⟨hq.kEnv (X := fun r => r = 3) k2 (by omega), (hq.kRd (X := fun r => r = 3) k2 (by omega) (by omega) :), ?_, (hq.kMod (X := fun r => r = 3) k2 (by omega) :), (hq.kStack (X := fun r => r = 3) k2 (by omega) :), ?_, (hq.kCode (X := fun r => r = 3) k2 (by omega) :), ?_, ?_, ?_, h.r1, h.r2, h.r3, h.r4, h.r5, h.r6, fun j x hx => h.rw j x (hget j x hx), fun j x hx => hq.kRr (X := fun r => r = 3) k2 j x (hget j x hx), h.ro, hq.kLt (X := fun r => r = 3) k2⟩
  · have := heap_setCell (o := 5) hq.body (.slice (some ⟨g, 0, none⟩) n kc)
    simpa [bodyObj, hlen] using this
  · have ho := hq.kBlocks (X := fun r => r = 3) k2 (by omega)
    obtain ⟨h1, ⟨h2, h3⟩ | ⟨g', cap', cur, hv, hb, hh, hc, hm, hsz, ht⟩⟩ := ho
    · cases h2
    · cases hv
      refine ⟨?_, .inr ⟨g, kc, cur, by simp [hlen], hb, hh, by simp only [hlen]; omega, hm, hsz, ?_⟩⟩
      · rw [flat_take bkLen, List.length_take, h1]; simp only [hlen]; rw [Nat.min_eq_left (Nat.mul_le_mul_right 5 hn)]
      · rw [flat_take bkLen, ← ht, List.take_take]; simp only [hlen]; congr 1; rw [Nat.min_eq_left (Nat.mul_le_mul_right 5 hn)]
  · simp only [h.eq, List.map_take]
  · exact fun j x hx => hq.kWaits (X := fun r => r = 3) k2 j x (hget j x hx) (by omega)
  · exact fun j x hx => hq.kResults (X := fun r => r = 3) k2 (by omega) j x (hget j x hx)
end
section
variable {E : Env} {g N : Nat} {w : World} {s : Bd}
theorem info_block : (Tryz.prog.info? 298).map (fun i => (i.zero, i.size, i.bytes)) = some (some (.agg #[.int .i64 0, .slice none 0 0, .int .i64 0, .int .i64 0, .slice none 0 0]), 5, 72) := by kernel_rfl
theorem push_end {role : Nat → Nat} {sv cv : Value} {kc : Nat} {bs : List BkV} (h : BStG E g w s role sv cv kc bs) (b : Bk) (hw0 : b.waits = []) {rv : Value} {W w1 : World} (kW : Kp no w W) (hrv : BytesAt W rv b.result) (hrn : ∀ c, rv.ownBlock = some c → E.ro c)
    {g1 kc1 : Nat} {n : Nat} {xs : List Value} (hn : n = s.blocks.length + 1) (hxs : xs = bs.flatMap bkCells ++ bkCells (b, rv, .slice none 0 0))
    (hown1 : w1.ownsRow E.B 298 5 (.slice (some ⟨g1, 0, none⟩) n kc1) n xs) (hgrow : W.grownBy w1 (some g)) (hat : some g1 = some g ∨ some g1 = some W.heap.size) :
    BSt E g1 (w1.setCell ⟨E.bb, 5, none⟩ (.slice (some ⟨g1, 0, none⟩) n kc1)) { s with blocks := s.blocks ++ [b] } ∧ Kp (nro E.ro) w (w1.setCell ⟨E.bb, 5, none⟩ (.slice (some ⟨g1, 0, none⟩) n kc1)) := by
  subst hn hxs
  obtain ⟨role', hro⟩ : ∃ role' : Nat → Nat, role' = newRole role w.heap.size 5 := ⟨_, rfl⟩
  have h' : BStG E g w s role' sv cv kc bs := h.rerole (fun k hk => by rw [hro]; exact newRole_old hk)
  have hlg := own_lt h.blocks rfl
  have hlb := lt_of_blk h.body
  have hnr : ∀ c, rv.ownBlock = some c → role' c = 0 := fun c hc => h'.ro c (hrn c hc)
  have hg1 : role' g1 = 5 := by
    rcases hat with e | e
    · cases e; exact h'.r5
    · cases e
      rw [hro]
      exact newRole_new kW.size
  have k1 : Kp (fun b => (fun r => r = 3 ∨ r = 5) (role' b)) w w1 := (kW.any).grown hgrow (fun b hb => .inl (.inr (by cases hb; exact h'.r5)))
  have k2 : Kp (fun b => (fun r => r = 3 ∨ r = 5) (role' b)) w (w1.setCell ⟨E.bb, 5, none⟩ (.slice (some ⟨g1, 0, none⟩) (s.blocks.length + 1) kc1)) := k1.setAt (.inl h'.r3) 5 _
  have hgb : g ≠ E.bb := fun e => by have := h.r5; rw [e, h.r3] at this; cases this
  have hg1b : g1 ≠ E.bb := fun e => by rw [e, h'.r3] at hg1; cases hg1
  have hbody : w1.heap[E.bb]? = some (bodyObj E g s sv kc) := (hgrow.block E.bb (Nat.lt_of_lt_of_le hlb kW.size) (fun e => by cases e; exact hgb rfl)).trans (kW.blk h.body (fun h => h))
  have hlen : s.blocks.length = bs.length := by rw [h.eq, List.length_map]
  have hget : ∀ (j : Nat) (x : BkV), (bs ++ [(b, rv, Value.slice none 0 0)])[j]? = some x → bs[j]? = some x ∨ x = (b, rv, .slice none 0 0) := by
    intro j x hx
    rcases Nat.lt_or_ge j bs.length with hj | hj
    · rw [List.getElem?_append_left hj] at hx; exact .inl hx
    · rw [List.getElem?_append_right hj] at hx
      rcases Nat.eq_zero_or_pos (j - bs.length) with e | e
      · rw [e] at hx; cases hx; exact .inr rfl
      · rw [List.getElem?_eq_none (by simp; omega)] at hx; cases hx
  have hrF : BytesAt (w1.setCell ⟨E.bb, 5, none⟩ (.slice (some ⟨g1, 0, none⟩) (s.blocks.length + 1) kc1)) rv b.result := by
    have kk : Kp (fun k => k = g ∨ k = E.bb) W (w1.setCell ⟨E.bb, 5, none⟩ (.slice (some ⟨g1, 0, none⟩) (s.blocks.length + 1) kc1)) := ((Kp.refl _ W).grown hgrow (fun k hk => .inl (.inl (by cases hk; rfl)))).setAt (.inr rfl) _ _
    refine hrv.kp kk (fun c hc e => ?_)
    have h1 := hnr c hc
    rcases e with e | e
    · rw [e, h'.r5] at h1; cases h1
    · rw [e, h'.r3] at h1; cases h1
  have ho : (w1.setCell ⟨E.bb, 5, none⟩ (.slice (some ⟨g1, 0, none⟩) (s.blocks.length + 1) kc1)).ownsRow E.B 298 5 (.slice (some ⟨g1, 0, none⟩) (s.blocks.length + 1) kc1) (s.blocks.length + 1) (bs.flatMap bkCells ++ bkCells (b, rv, .slice none 0 0)) :=
    ((Kp.refl (one E.bb) w1).set1 _ _).own hown1 (fun c hc (e : c = E.bb) => by cases hc; exact hg1b e)
  refine ⟨⟨role', sv, cv, kc1, bs ++ [(b, rv, .slice none 0 0)], ?_⟩, h'.nro (X := fun r => r = 3 ∨ r = 5) k2 (by omega)⟩
  refine ⟨h'.kEnv (X := fun r => r = 3 ∨ r = 5) k2 (by omega), (h'.kRd (X := fun r => r = 3 ∨ r = 5) k2 (by omega) (by omega) :), ?_, (h'.kMod (X := fun r => r = 3 ∨ r = 5) k2 (by omega) :), (h'.kStack (X := fun r => r = 3 ∨ r = 5) k2 (by omega) :), ?_, (h'.kCode (X := fun r => r = 3 ∨ r = 5) k2 (by omega) :), ?_, ?_, ?_, h'.r1, h'.r2, h'.r3, h'.r4, hg1, h'.r6, ?_, ?_, h'.ro, h'.kLt (X := fun r => r = 3 ∨ r = 5) k2⟩
  · have := heap_setCell (o := 5) hbody (.slice (some ⟨g1, 0, none⟩) (s.blocks.length + 1) kc1)
    simpa [bodyObj] using this
  · simpa [List.flatMap_append] using ho
  · simp [h.eq]
  · intro j x hx
    rcases hget j x hx with hx | rfl
    · exact h'.kWaits (X := fun r => r = 3 ∨ r = 5) k2 j x hx (by omega)
    · simp only [hw0]; exact World.ownsRow_nil _ _ _ _
  · intro j x hx
    rcases hget j x hx with hx | rfl
    · exact h'.kResults (X := fun r => r = 3 ∨ r = 5) k2 (by omega) j x hx
    · exact hrF
  · intro j x hx
    rcases hget j x hx with hx | rfl
    · exact h'.rw j x hx
    · intro c hc; cases hc
  · intro j x hx
    rcases hget j x hx with hx | rfl
    · exact h'.kRr (X := fun r => r = 3 ∨ r = 5) k2 j x hx
    · intro c hc
      exact ⟨hnr c hc, Nat.lt_of_lt_of_le (h.lt c (hrn c hc)) k2.size⟩
theorem BSt.push (h : BSt E g w s) : ∃ sv kc xs, w.heap[E.bb]? = some (bodyObj E g s sv kc) ∧ (∃ ad cap, sv = .slice ad s.stack.length cap) ∧ some E.bb ≠ some g ∧ (∀ W, Kp no w W → W.ownsRow E.B 298 5 (.slice (some ⟨g, 0, none⟩) s.blocks.length kc) s.blocks.length xs) ∧
    ∀ (b : Bk) rv W w1 g1 kc1 n ys, b.waits = [] → Kp no w W → BytesAt W rv b.result → (∀ c, rv.ownBlock = some c → E.ro c) → n = s.blocks.length + 1 → ys = xs ++ bkCells (b, rv, .slice none 0 0) → w1.ownsRow E.B 298 5 (.slice (some ⟨g1, 0, none⟩) n kc1) n ys → W.grownBy w1 (some g) → (some g1 = some g ∨ some g1 = some W.heap.size) →
      BSt E g1 (w1.setCell ⟨E.bb, 5, none⟩ (.slice (some ⟨g1, 0, none⟩) n kc1)) { s with blocks := s.blocks ++ [b] } ∧ Kp (nro E.ro) w (w1.setCell ⟨E.bb, 5, none⟩ (.slice (some ⟨g1, 0, none⟩) n kc1)) := by
  obtain ⟨role, sv, cv, kc, bs, h⟩ := h
  refine ⟨sv, kc, bs.flatMap bkCells, h.body, own_shape h.stack, fun e => ?_, fun W k => k.own h.blocks (fun _ _ h => h), fun b rv W w1 g1 kc1 n ys h0 kW h1 h2 h3 h4 h5 h6 h7 => push_end h b h0 kW h1 h2 h3 h4 h5 h6 h7⟩
  have := h.r5; cases e; rw [h.r3] at this; cases this
end
end Go.Proofs.YtdeplgkhmebalaaGreatDoor
