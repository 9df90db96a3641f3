/- The program's reader of bytes (package scan): its state, its smallest functions. -/
import Derived.Test.YtdeplgkhmebalaaGreatDoorProg
import Derived.Test.YtdeplgkhmebalaaGreatDoorP03

namespace Go.Proofs.YtdeplgkhmebalaaGreatDoor
open Go.RowKit
abbrev ptrTo (b : Nat) : Value := .pointer (some ⟨b, 0, none⟩)
abbrev rdObj (dv : Value) (i : Int) : Obj := .cells #[dv, .int .i64 i] 218
structure RSt (w : World) (rb : Nat) (dv : Value) (D : List UInt8) (i : Nat) : Prop where
  blk : w.heap[rb]? = some (rdObj dv i)
  bytes : BytesAt w dv D
  sep : ∀ b, dv.ownBlock = some b → b ≠ rb
  len : D.length ≤ 2000
  le : i ≤ D.length
theorem RSt.kp {S : Nat → Prop} {w w' : World} {rb : Nat} {dv : Value} {D : List UInt8} {i : Nat} (h : RSt w rb dv D i) (k : Kp S w w') (hr : ¬ S rb) (hd : ∀ b, dv.ownBlock = some b → b < w.heap.size → ¬ S b) : RSt w' rb dv D i :=
  ⟨k.blk h.blk hr, RowAt.kp0 h.bytes k hd, h.sep, h.len, h.le⟩
theorem RSt.step {w w' : World} {rb : Nat} {dv : Value} {D : List UInt8} {i j : Nat} (h : RSt w rb dv D i) (k : Kp (one rb) w w') (hb : w'.heap[rb]? = some (rdObj dv j)) (hj : j ≤ D.length) : RSt w' rb dv D j :=
  ⟨hb, h.bytes.kp k (fun b hb e => h.sep b hb e), h.sep, h.len, hj⟩
def FaultAt (w w' : World) (v : Value) (e : Int × Int) : Prop := ∃ fb, v = ptrTo fb ∧ w.heap.size ≤ fb ∧ w'.heap[fb]? = some (.cells #[.int .i64 e.1, .int .i64 e.2] 132)
set_option maxHeartbeats 400000 in
theorem at_any {w : World} {rb : Nat} {dv : Value} {D : List UInt8} {i : Nat} (h : RSt w rb dv D i) :
    Calls Tryz.prog 108 #[ptrTo rb] w fun r w' => r = .returned (.int .i64 i) ∧ w' = w := by
  obtain ⟨hc, -⟩ := cells_of h.blk
  clear h
  go_enter Tryz.func108, Tryz.ntmps108
  go_wp2
  go_ret
  exact ⟨rfl, rfl⟩
set_option maxHeartbeats 400000 in
theorem left_any {w : World} {rb : Nat} {dv : Value} {D : List UInt8} {i : Nat} (h : RSt w rb dv D i) :
    Calls Tryz.prog 110 #[ptrTo rb] w fun r w' => r = .returned (.int .i64 ((D.length : Int) - i)) ∧ Kp no w w' := by
  obtain ⟨hc, -⟩ := cells_of h.blk
  obtain ⟨ad, cap, rfl, _⟩ := h.bytes.shape
  have hl := h.len
  have hi := h.le
  clear h
  go_enter Tryz.func110, Tryz.ntmps110
  go_wp2
  go_quiet (fail)
  go_wp2
  go_ret
  exact ⟨rfl, (Kp.refl no w).drewN _⟩
set_option maxHeartbeats 400000 in
theorem form_any (w : World) (i : Int) :
    Calls Tryz.prog 111 #[.int .i64 i] w fun r w' => r = .returned (ptrTo w.heap.size) ∧ w' = w.alloc (.cells #[.int .i64 2, .int .i64 i] 132) := by
  go_enter Tryz.func111, Tryz.ntmps111
  go_wp2
  go_ret
  exact ⟨rfl, rfl⟩
def byteM (D : List UInt8) (i : Nat) : Except (Int × Int) (UInt8 × Nat) := if i < D.length then .ok (D.getD i 0, i + 1) else .error (2, i)
def Gives {α : Type} (w w' : World) (rb : Nat) (dv : Value) (D : List UInt8) (val : α → Value → Prop) (zero : Value) (m : Except (Int × Int) (α × Nat)) (r : Ending) : Prop :=
  match m with
  | .ok (x, j) => ∃ v, r = .returned (.tuple #[v, .pointer none]) ∧ val x v ∧ RSt w' rb dv D j
  | .error e => ∃ fv j, r = .returned (.tuple #[zero, fv]) ∧ FaultAt w w' fv e ∧ RSt w' rb dv D j
set_option maxHeartbeats 400000 in
theorem byte_ok {w : World} {rb : Nat} {dv : Value} {D : List UInt8} {i : Nat} (h : RSt w rb dv D i) (hi : i < D.length) :
    Calls Tryz.prog 138 #[ptrTo rb] w fun r w' => r = .returned (.tuple #[.int .u8 (D.getD i 0).toNat, .pointer none]) ∧ RSt w' rb dv D (i + 1) ∧ Kp (one rb) w w' := by
  obtain ⟨hc, hf⟩ := cells_of h.blk
  obtain ⟨a, o, cap, rfl, hcap, hdc⟩ := h.bytes.get hi
  have hsep : a ≠ rb := h.sep a rfl
  have hl := h.len
  have H := hide h
  generalize D.getD i 0 = c at *
  have hz : ((D.length : Int) - i == 0) = false := by simp; omega
  clear h
  go_enter Tryz.func138, Tryz.ntmps138
  go_wp2_with fail
  refine (left_any H.out).mono ?_
  rintro e w1 ⟨rfl, k1⟩
  have H1 := hide (H.out.kp k1 (fun h => h) (fun _ _ _ h => h))
  obtain ⟨hc1, hf1⟩ := cells_of H1.out.blk
  have hdc1 := k1.allCells hdc
  clear hc hf hdc
  go_wp2
  go_quiet (fail)
  go_wp2
  go_ret2
  refine ⟨rfl, H1.out.step (((Kp.refl (one rb) w1).drewN _).set1 _ _) ?_ (by omega) |>.kp (Kp.refl no _) (fun h => h) (fun _ _ _ h => h), (k1.any.drewN _).set1 _ _⟩
  exact heap_setCell H1.out.blk _
set_option maxHeartbeats 400000 in
theorem byte_end {w : World} {rb : Nat} {dv : Value} {D : List UInt8} {i : Nat} (h : RSt w rb dv D i) (hi : ¬ i < D.length) :
    Calls Tryz.prog 138 #[ptrTo rb] w fun r w' => (∃ fv, r = .returned (.tuple #[.int .u8 0, fv]) ∧ FaultAt w w' fv (2, i) ∧ RSt w' rb dv D i) ∧ Kp (one rb) w w' := by
  have hl := h.len
  have hle := h.le
  have H := hide h
  have hz : ((D.length : Int) - i == 0) = true := by simp; omega
  clear h
  go_enter Tryz.func138, Tryz.ntmps138
  go_wp2_with fail
  refine (left_any H.out).mono ?_
  rintro e w1 ⟨rfl, k1⟩
  have H1 := hide (H.out.kp k1 (fun h => h) (fun _ _ _ h => h))
  obtain ⟨hc1, hf1⟩ := cells_of H1.out.blk
  go_wp2_with fail
  refine (form_any _ _).mono ?_
  rintro e w2 ⟨rfl, rfl⟩
  go_wp2
  go_ret2
  refine ⟨⟨ptrTo w1.heap.size, rfl, ⟨w1.heap.size, rfl, k1.size, heap_alloc_new _ _⟩, H1.out.kp ((Kp.refl no w1).alloc _) (fun h => h) (fun _ _ _ h => h)⟩, k1.any.alloc _⟩
theorem byte_any {w : World} {rb : Nat} {dv : Value} {D : List UInt8} {i : Nat} (h : RSt w rb dv D i) :
    Calls Tryz.prog 138 #[ptrTo rb] w fun r w' => Gives w w' rb dv D (fun c v => v = .int .u8 (UInt8.toNat c)) (.int .u8 0) (byteM D i) r ∧ Kp (one rb) w w' := by
  by_cases hi : i < D.length
  · refine (byte_ok h hi).mono ?_
    rintro r w' ⟨rfl, h', k⟩
    rw [byteM, if_pos hi]
    exact ⟨⟨_, rfl, rfl, h'⟩, k⟩
  · refine (byte_end h hi).mono ?_
    rintro r w' ⟨⟨fv, rfl, hf, h'⟩, k⟩
    rw [byteM, if_neg hi]
    exact ⟨⟨fv, i, rfl, hf, h'⟩, k⟩
def grpGo (D : List UInt8) (start : Int) : Nat → Nat → Except (Int × Int) Nat
  | 0, _ => .error (2, start)
  | r + 1, i => if i < D.length then (if (D.getD i 0).toNat < 128 then .ok (i + 1) else grpGo D start r (i + 1)) else .error (2, i)
def groupsM (D : List UInt8) (most i : Nat) : Except (Int × Int) (List UInt8 × Nat) :=
  match grpGo D i most i with
  | .ok j => .ok ((D.take j).drop i, j)
  | .error e => .error e
theorem BytesAt.mid {w : World} {a o len cap : Nat} {l : List UInt8} (h : BytesAt w (.slice (some ⟨a, o, none⟩) len cap) l) (i j : Nat) (hij : i ≤ j) (hj : j ≤ l.length) : BytesAt w (.slice (some ⟨a, o + i, none⟩) (j - i) (cap - i)) ((l.take j).drop i) := by
  rcases h.cases with ⟨hv, -⟩ | ⟨a', o', cap', hv, hc, hcell⟩
  · cases hv
  · cases hv
    have hlen : ((l.take j).drop i).length = j - i := by simp; omega
    have := BytesAt.mk (w := w) (a := a) (o := o + i) (cap := cap - i) (l := (l.take j).drop i) (by omega) (fun k hk => by
      rw [Nat.add_assoc, hcell (i + k) (by omega)]
      simp only [List.getD, List.getElem?_drop, List.getElem?_take, if_pos (show i + k < j by omega)])
    rwa [hlen] at this
def Sub (v dv : Value) : Prop := ∀ b, v.ownBlock = some b → dv.ownBlock = some b
set_option maxRecDepth 100000 in
set_option maxHeartbeats 1000000 in
theorem groups_any {w : World} {rb : Nat} {dv : Value} {D : List UInt8} {i : Nat} (h : RSt w rb dv D i) (most : Nat) (hm : most ≤ 10) :
    Calls Tryz.prog 141 #[ptrTo rb, .int .i64 most] w fun r w' => Gives w w' rb dv D (fun l v => BytesAt w' v l ∧ Sub v dv) (.slice none 0 0) (groupsM D most i) r ∧ Kp (one rb) w w' := by
  have hM : groupsM D most i = (match grpGo D i most i with | .ok j => .ok ((D.take j).drop i, j) | .error e => .error e) := rfl
  generalize groupsM D most i = R at *
  obtain ⟨hc, -⟩ := cells_of h.blk
  have hl := h.len
  have hle := h.le
  have H := hide h
  have HM := hide hM
  clear h hM
  go_enter Tryz.func141, Tryz.ntmps141
  go_wp2
  go_loopw [14] (fun kv wr => ∃ (k j : Nat), k ≤ most ∧ kv = .int .i64 k ∧ i ≤ j ∧ RSt wr rb dv D j ∧ Kp (one rb) w wr ∧ grpGo D i (most - k) j = grpGo D i most i) (fun kv _ => most - (intOf kv).toNat)
  case atStart => exact ⟨0, i, by omega, rfl, Nat.le_refl _, H.out, Kp.refl _ _, rfl⟩
  case round =>
    obtain ⟨k, j, hk, rfl, hij, hst, hkp, hg⟩ := hrel
    have HS := hide hst
    have HK := hide hkp
    have HG := hide hg
    clear hst hkp hg hc
    by_cases hkm : k < most
    · have hg := HG.out
      obtain ⟨q, hq⟩ : ∃ q, most - k = q + 1 := ⟨most - k - 1, by omega⟩
      rw [hq, grpGo] at hg
      have Hq := hide hq
      clear hq
      by_cases hj : j < D.length
      · rw [if_pos hj] at hg
        have hbl := D.getD j 0 |>.toNat_lt
        have hb := byte_ok HS.out hj
        generalize D.getD j 0 = c at *
        have Hb := hide hb
        clear hb
        by_cases hc128 : c.toNat < 128
        · rw [if_pos hc128] at hg
          have HG1 := hide hg
          clear hg
          go_wp2_with fail
          refine Hb.out.mono ?_
          rintro e w1 ⟨rfl, h1, k1⟩
          have H1 := hide h1
          obtain ⟨hc1, hf1⟩ := cells_of h1.blk
          rcases h1.bytes.cases with ⟨-, hnil⟩ | ⟨a, o, cap, rfl, hcap, -⟩
          · rw [hnil] at hj; simp at hj
          · clear h1
            by_cases hcap2 : cap = i
            · omega
            · have hij1 : i ≤ j + 1 := by omega
              go_wp2
              go_quiet (fail)
              go_wp2
              go_ret2
              rw [HM.out, ← HG1.out]
              have H2 : ∀ n, RSt (w1.drewN n) rb (.slice (some ⟨a, o, none⟩) D.length cap) D (j + 1) := fun n => H1.out.kp ((Kp.refl no w1).drewN n) (fun h => h) (fun _ _ _ h => h)
              refine ⟨⟨.slice (some ⟨a, o + i, none⟩) (j + 1 - i) (cap - i), rfl, ⟨(H2 _).bytes.mid i (j + 1) (by omega) (by omega), fun b hb => hb⟩, H2 _⟩, (HK.out.trans k1).drewN _⟩
        · rw [if_neg hc128] at hg
          have HG1 := hide hg
          clear hg
          go_wp2_with fail
          refine Hb.out.mono ?_
          rintro e w1 ⟨rfl, h1, k1⟩
          have H1 := hide h1
          clear h1
          go_wp2
          go_roundw
          case rel => exact ⟨k + 1, j + 1, by omega, by go_num, by omega, H1.out, HK.out.trans k1, by rw [show most - (k + 1) = q by have := Hq.out; omega]; exact HG1.out⟩
          case measure => simp [intOf]; omega
      · rw [if_neg hj] at hg
        have HG1 := hide hg
        clear hg
        go_wp2_with fail
        refine (byte_end HS.out hj).mono ?_
        rintro e w1 ⟨⟨fv, rfl, hf, h1⟩, k1⟩
        obtain ⟨fb, rfl, hfb, hfo⟩ := hf
        have H1 := hide h1
        have HF := hide hfo
        clear h1 hfo
        go_wp2
        go_ret2
        rw [HM.out, ← HG1.out]
        exact ⟨⟨ptrTo fb, j, rfl, ⟨fb, rfl, by have := HK.out.size; omega, HF.out⟩, H1.out⟩, HK.out.trans k1⟩
    · have hg := HG.out
      rw [show most - k = 0 by omega, grpGo] at hg
      have HG1 := hide hg
      clear hg
      go_wp2_with fail
      refine (form_any _ _).mono ?_
      rintro e w1 ⟨rfl, rfl⟩
      go_wp2
      go_ret2
      rw [HM.out, ← HG1.out]
      exact ⟨⟨ptrTo wr.heap.size, j, rfl, ⟨wr.heap.size, rfl, HK.out.size, heap_alloc_new _ _⟩, HS.out.kp ((Kp.refl no wr).alloc _) (fun h => h) (fun _ _ _ h => h)⟩, HK.out.alloc _⟩
def joinTo (l : List UInt8) : Nat → Nat
  | 0 => 0
  | k + 1 => joinTo l k ||| ((l.getD k 0).toNat % 128) * 2 ^ (7 * k) % 18446744073709551616
set_option maxRecDepth 100000 in
theorem andNot_all : ∀ x : Fin 256, Go.bits BinOp.andNot IntKind.u8 (x.val : Int) 128 = ((x.val % 128 : Nat) : Int) := by decide +kernel
theorem andNot_at (x : UInt8) : Go.bits BinOp.andNot IntKind.u8 (x.toNat : Int) 128 = ((x.toNat % 128 : Nat) : Int) := andNot_all ⟨x.toNat, x.toNat_lt⟩
theorem wrap_nat (a : Nat) : IntKind.u64.wrap (a : Int) = ((a % 18446744073709551616 : Nat) : Int) := by
  have h : IntKind.u64.wrap (a : Int) = (a : Int) % 18446744073709551616 := by simp [IntKind.wrap, IntKind.signed, IntKind.bits]
  rw [h]; omega
theorem join_lt (l : List UInt8) (k : Nat) : joinTo l k < 18446744073709551616 := by
  induction k with
  | zero => simp [joinTo]
  | succ k ih =>
    rw [joinTo]
    have h := Nat.or_lt_two_pow (x := joinTo l k) (y := ((l.getD k 0).toNat % 128) * 2 ^ (7 * k) % 18446744073709551616) (n := 64) ih (Nat.mod_lt _ (by decide))
    exact h
theorem join_step (x : UInt8) (n k : Nat) (hn : n < 18446744073709551616) : Go.bits BinOp.or IntKind.u64 (n : Int) (IntKind.u64.wrap (IntKind.u64.wrap (Go.bits BinOp.andNot IntKind.u8 (x.toNat : Int) 128) * 2 ^ (7 * k))) = ((n ||| (x.toNat % 128) * 2 ^ (7 * k) % 18446744073709551616 : Nat) : Int) := by
  rw [andNot_at, wrap_nat, Nat.mod_eq_of_lt (show x.toNat % 128 < 18446744073709551616 by omega)]
  have e : (((x.toNat % 128 : Nat) : Int) * 2 ^ (7 * k)) = (((x.toNat % 128) * 2 ^ (7 * k) : Nat) : Int) := by simp
  rw [e, wrap_nat, bits_or_u64_nat _ _ hn (Nat.mod_lt _ (by decide))]
set_option maxRecDepth 100000 in
set_option maxHeartbeats 1000000 in
theorem join_any {w : World} {v : Value} {l : List UInt8} (h : BytesAt w v l) (hl : l.length ≤ 10) :
    Calls Tryz.prog 142 #[v] w fun r w' => r = .returned (.int .u64 (joinTo l l.length)) ∧ w' = w := by
  obtain ⟨ad, cap, hv, hcap⟩ := h.shape
  have H := hide h
  subst hv
  clear h
  go_enter Tryz.func142, Tryz.ntmps142
  go_wp2
  go_loop [3, 8] (fun n i => ∃ k : Nat, k ≤ l.length ∧ i = .int .i64 k ∧ n = .int .u64 (joinTo l k)) (fun _ i => l.length - (intOf i).toNat)
  case atStart => exact ⟨0, Nat.zero_le _, rfl, rfl⟩
  case round =>
    obtain ⟨k, hk, rfl, rfl⟩ := hrel
    by_cases hlt : k < l.length
    · obtain ⟨a, o, cap', hv, _, hcell⟩ := BytesAt.get H.out hlt
      simp only [Value.slice.injEq] at hv
      obtain ⟨rfl, -, rfl⟩ := hv
      generalize hx : l.getD k 0 = x at *
      generalize hn : joinTo l k = n at *
      have HX := hide hx
      have HN := hide hn
      clear hx hn
      go_wp2
      go_round
      case rel => exact ⟨k + 1, by omega, by go_num, by rw [join_step x n k (by rw [← HN.out]; exact join_lt l k), joinTo, HN.out, HX.out]⟩
      case measure => simp [intOf]; omega
    · go_wp2
      go_ret
      obtain rfl : k = l.length := by omega
      exact ⟨rfl, rfl⟩
def paddedM (l : List UInt8) : Bool := decide (1 < l.length) && (l.getD (l.length - 1) 0 == 0)
theorem u8_eq0 (x : UInt8) : ((x.toNat : Int) == 0) = (x == 0) := by
  rw [Bool.eq_iff_iff]; simp [← UInt8.toNat_inj]
set_option maxHeartbeats 400000 in
theorem padded_any {w : World} {v : Value} {l : List UInt8} (h : BytesAt w v l) (hl : l.length ≤ 10) :
    Calls Tryz.prog 143 #[v] w fun r w' => r = .returned (.bool (paddedM l)) ∧ w' = w := by
  obtain ⟨ad, cap, hv, hcap⟩ := h.shape
  have H := hide h
  subst hv
  clear h
  by_cases h1 : 1 < l.length
  · obtain ⟨a, o, cap', hv, _, hcell⟩ := BytesAt.get H.out (show l.length - 1 < l.length by omega)
    simp only [Value.slice.injEq] at hv
    obtain ⟨rfl, -, rfl⟩ := hv
    have hM : paddedM l = (l.getD (l.length - 1) 0 == 0) := by simp [paddedM, h1]
    generalize l.getD (l.length - 1) 0 = x at *
    have HM := hide hM
    have hq := u8_eq0 x
    clear hM
    go_enter Tryz.func143, Tryz.ntmps143
    go_wp2
    go_ret
    exact ⟨by rw [HM.out]; rfl, rfl⟩
  · have hM : paddedM l = false := by simp [paddedM, h1]
    have HM := hide hM
    clear hM
    go_enter Tryz.func143, Tryz.ntmps143
    go_wp2
    go_ret
    exact ⟨by rw [HM.out]; rfl, rfl⟩
theorem grpGo_range {D : List UInt8} {s : Int} (r : Nat) : ∀ (i j : Nat), grpGo D s r i = .ok j → i < j ∧ j ≤ i + r ∧ j ≤ D.length := by
  induction r with
  | zero => intro i j h; cases h
  | succ r ih =>
    intro i j h
    rw [grpGo] at h
    split at h
    · split at h
      · cases h; omega
      · have := ih _ _ h; omega
    · cases h
theorem groups_range {D : List UInt8} {m i : Nat} {g : List UInt8} {j : Nat} (h : groupsM D m i = .ok (g, j)) : i < j ∧ j ≤ i + m ∧ j ≤ D.length ∧ g.length = j - i := by
  unfold groupsM at h
  split at h
  · rename_i j' hj
    cases h
    have := grpGo_range _ _ _ hj
    refine ⟨this.1, this.2.1, this.2.2, by simp; omega⟩
  · cases h
def UM (D : List UInt8) (i : Nat) : Except (Int × Int) (Nat × Nat) :=
  match groupsM D 5 i with
  | .error e => .error e
  | .ok (g, j) => if 4294967295 < joinTo g g.length ∨ paddedM g = true then .error (2, i) else .ok (joinTo g g.length, j)
set_option maxRecDepth 100000 in
set_option maxHeartbeats 1000000 in
theorem U_any {w : World} {rb : Nat} {dv : Value} {D : List UInt8} {i : Nat} (h : RSt w rb dv D i) :
    Calls Tryz.prog 109 #[ptrTo rb] w fun r w' => Gives w w' rb dv D (fun (n : Nat) v => v = .int .u32 n) (.int .u32 0) (UM D i) r ∧ Kp (one rb) w w' := by
  have hM : UM D i = (match groupsM D 5 i with | .error e => .error e | .ok (g, j) => if 4294967295 < joinTo g g.length ∨ paddedM g = true then .error (2, i) else .ok (joinTo g g.length, j)) := rfl
  generalize UM D i = R at *
  have hg := groups_any h 5 (by decide)
  have hrg := fun g j => groups_range (D := D) (m := 5) (i := i) (g := g) (j := j)
  obtain ⟨hc, -⟩ := cells_of h.blk
  generalize groupsM D 5 i = Q at *
  have Hg := hide hg
  clear hg h
  match Q, hM, Hg, hrg with
  | .error e, hM, Hg, _ =>
    have HM := hide hM
    clear hM
    go_enter Tryz.func109, Tryz.ntmps109
    go_wp2_with fail
    refine Hg.out.mono ?_
    rintro r w1 ⟨⟨fv, j, rfl, ⟨fb, rfl, hfb, hfo⟩, h1⟩, k1⟩
    have H1 := hide h1
    have HF := hide hfo
    clear h1 hfo
    go_wp2
    go_ret2
    rw [HM.out]
    exact ⟨⟨ptrTo fb, j, rfl, ⟨fb, rfl, hfb, HF.out⟩, H1.out⟩, k1⟩
  | .ok (g, j), hM, Hg, hrg =>
    have hgl : g.length ≤ 10 := by have := hrg g j rfl; omega
    have HM := hide hM
    clear hM hrg
    go_enter Tryz.func109, Tryz.ntmps109
    go_wp2_with fail
    refine Hg.out.mono ?_
    rintro r w1 ⟨⟨v, rfl, ⟨hb, hsub⟩, h1⟩, k1⟩
    obtain ⟨ad, cap, rfl, _⟩ := hb.shape
    have H1 := hide h1
    have HB := hide hb
    have HSub := hide hsub
    clear h1 hb hsub
    go_wp2_with fail
    refine (join_any HB.out hgl).mono ?_
    rintro r w2 ⟨rfl, rfl⟩
    have hjl := join_lt g g.length
    have hM := HM.out
    generalize joinTo g g.length = n at *
    by_cases hn : 4294967295 < n
    · rw [if_pos (.inl hn)] at hM
      have HM1 := hide hM
      clear hM
      go_wp2_with fail
      refine (form_any _ _).mono ?_
      rintro r w3 ⟨rfl, rfl⟩
      go_wp2
      go_ret2
      rw [HM1.out]
      exact ⟨⟨ptrTo w2.heap.size, j, rfl, ⟨w2.heap.size, rfl, k1.size, heap_alloc_new _ _⟩, H1.out.kp ((Kp.refl no w2).alloc _) (fun h => h) (fun _ _ _ h => h)⟩, k1.alloc _⟩
    · go_wp2_with fail
      refine (padded_any HB.out hgl).mono ?_
      rintro r w3 ⟨rfl, rfl⟩
      generalize paddedM g = pd at *
      cases pd
      · rw [if_neg (by simp [hn])] at hM
        have HM1 := hide hM
        clear hM
        go_wp2
        go_ret2
        rw [HM1.out]
        exact ⟨⟨_, rfl, rfl, H1.out⟩, k1⟩
      · rw [if_pos (by simp)] at hM
        have HM1 := hide hM
        clear hM
        go_wp2_with fail
        refine (form_any _ _).mono ?_
        rintro r w4 ⟨rfl, rfl⟩
        go_wp2
        go_ret2
        rw [HM1.out]
        exact ⟨⟨ptrTo w3.heap.size, j, rfl, ⟨w3.heap.size, rfl, k1.size, heap_alloc_new _ _⟩, H1.out.kp ((Kp.refl no w3).alloc _) (fun h => h) (fun _ _ _ h => h)⟩, k1.alloc _⟩
theorem UM_le {D : List UInt8} {i n j : Nat} (h : UM D i = .ok (n, j)) : n ≤ 4294967295 ∧ i < j ∧ j ≤ D.length := by
  unfold UM at h
  split at h
  · cases h
  · rename_i g j' hg
    split at h
    · cases h
    · rename_i hc
      cases h
      have := groups_range hg
      omega
def belowM (D : List UInt8) (limit : Int) (i : Nat) : Except (Int × Int) (Nat × Nat) :=
  match UM D i with
  | .error e => .error e
  | .ok (n, j) => if limit ≤ (n : Int) then .error (2, i) else .ok (n, j)
set_option maxRecDepth 100000 in
set_option maxHeartbeats 1000000 in
theorem below_any {w : World} {rb : Nat} {dv : Value} {D : List UInt8} {i : Nat} (h : RSt w rb dv D i) (limit : Int) (_hl0 : 0 ≤ limit) (_hl : limit ≤ 1000000) :
    Calls Tryz.prog 105 #[ptrTo rb, .int .i64 limit] w fun r w' => Gives w w' rb dv D (fun (n : Nat) v => v = .int .i64 n) (.int .i64 0) (belowM D limit i) r ∧ Kp (one rb) w w' := by
  have hM : belowM D limit i = (match UM D i with | .error e => .error e | .ok (n, j) => if limit ≤ (n : Int) then .error (2, i) else .ok (n, j)) := rfl
  generalize belowM D limit i = R at *
  have hg := U_any h
  have hrg := fun n j => UM_le (D := D) (i := i) (n := n) (j := j)
  obtain ⟨hc, -⟩ := cells_of h.blk
  generalize UM D i = Q at *
  have Hg := hide hg
  clear hg h
  match Q, hM, Hg, hrg with
  | .error e, hM, Hg, _ =>
    have HM := hide hM
    clear hM
    go_enter Tryz.func105, Tryz.ntmps105
    go_wp2_with fail
    refine Hg.out.mono ?_
    rintro r w1 ⟨⟨fv, j, rfl, ⟨fb, rfl, hfb, hfo⟩, h1⟩, k1⟩
    have H1 := hide h1
    have HF := hide hfo
    clear h1 hfo
    go_wp2
    go_ret2
    rw [HM.out]
    exact ⟨⟨ptrTo fb, j, rfl, ⟨fb, rfl, hfb, HF.out⟩, H1.out⟩, k1⟩
  | .ok (n, j), hM, Hg, hrg =>
    have hn := (hrg n j rfl).1
    have HM := hide hM
    clear hM hrg
    by_cases hlim : limit ≤ (n : Int)
    · have hM := HM.out
      simp only [if_pos hlim] at hM
      have HM1 := hide hM
      clear hM
      go_enter Tryz.func105, Tryz.ntmps105
      go_wp2_with fail
      refine Hg.out.mono ?_
      rintro r w1 ⟨⟨v, rfl, rfl, h1⟩, k1⟩
      have H1 := hide h1
      clear h1
      go_wp2_with fail
      refine (form_any _ _).mono ?_
      rintro r w3 ⟨rfl, rfl⟩
      go_wp2
      go_ret2
      rw [HM1.out]
      exact ⟨⟨ptrTo w1.heap.size, j, rfl, ⟨w1.heap.size, rfl, k1.size, heap_alloc_new _ _⟩, H1.out.kp ((Kp.refl no w1).alloc _) (fun h => h) (fun _ _ _ h => h)⟩, k1.alloc _⟩
    · have hM := HM.out
      simp only [if_neg hlim] at hM
      have HM1 := hide hM
      clear hM
      go_enter Tryz.func105, Tryz.ntmps105
      go_wp2_with fail
      refine Hg.out.mono ?_
      rintro r w1 ⟨⟨v, rfl, rfl, h1⟩, k1⟩
      have H1 := hide h1
      clear h1
      go_wp2
      go_ret2
      rw [HM1.out]
      exact ⟨⟨_, rfl, rfl, H1.out⟩, k1⟩
set_option maxHeartbeats 400000 in
theorem new_any {w : World} {dv : Value} {D : List UInt8} (h : BytesAt w dv D) (hl : D.length ≤ 2000) (hold : ∀ b, dv.ownBlock = some b → b < w.heap.size) :
    Calls Tryz.prog 74 #[dv] w fun r w' => r = .returned (ptrTo w.heap.size) ∧ RSt w' w.heap.size dv D 0 ∧ Kp no w w' := by
  obtain ⟨ad, cap, rfl, _⟩ := h.shape
  have H := hide h
  have HO := hide hold
  clear h hold
  go_enter Tryz.func74, Tryz.ntmps74
  go_wp2
  go_ret
  have k : Kp no w (w.alloc (rdObj (.slice ad D.length cap) 0)) := (Kp.refl no w).alloc _
  exact ⟨rfl, ⟨heap_alloc_new _ _, H.out.kp k (fun _ _ h => h), fun b hb => by have := HO.out b hb; omega, hl, Nat.zero_le _⟩, k⟩
def aboveOf (n : Nat) : Nat := 64 - 7 * n
def signedM (g : List UInt8) : Int := wrap64 ((joinTo g g.length * 2 ^ aboveOf g.length % 18446744073709551616 : Nat) : Int) / 2 ^ aboveOf g.length
set_option maxRecDepth 100000 in
set_option maxHeartbeats 1000000 in
theorem signed_any {w : World} {v : Value} {l : List UInt8} (h : BytesAt w v l) (hl : l.length ≤ 10) :
    Calls Tryz.prog 207 #[v] w fun r w' => r = .returned (.int .i64 (signedM l)) ∧ Kp no w w' := by
  obtain ⟨ad, cap, hv, hcap⟩ := h.shape
  have H := hide h
  subst hv
  clear h
  by_cases h10 : 10 ≤ l.length
  · have hM : signedM l = wrap64 ((joinTo l l.length : Nat) : Int) := by
      rw [signedM, show aboveOf l.length = 0 by unfold aboveOf; omega, Nat.pow_zero, Nat.mul_one, Nat.mod_eq_of_lt (join_lt _ _)]; simp
    have hj := join_any H.out hl
    have hjl := join_lt l l.length
    generalize joinTo l l.length = n at *
    have HJ := hide hj
    have HM := hide hM
    clear hM hj
    have h11 : ¬ (0 < 64 - 7 * (l.length : Int)) := by omega
    go_enter Tryz.func207, Tryz.ntmps207
    go_wp2_with fail
    refine HJ.out.mono ?_
    rintro r w1 ⟨rfl, rfl⟩
    go_wp2
    go_ret
    exact ⟨by rw [HM.out]; rfl, Kp.refl _ _⟩
  · have hM : signedM l = wrap64 ((joinTo l l.length * 2 ^ (64 - 7 * l.length) % 18446744073709551616 : Nat) : Int) / 2 ^ (64 - 7 * l.length) := rfl
    have hj := join_any H.out hl
    have hjl := join_lt l l.length
    generalize joinTo l l.length = n at *
    have HJ := hide hj
    have HM := hide hM
    clear hM hj
    have h10' : 7 * l.length < 64 := by omega
    go_enter Tryz.func207, Tryz.ntmps207
    go_wp2_with fail
    refine HJ.out.mono ?_
    rintro r w1 ⟨rfl, rfl⟩
    go_wp2
    go_ret
    refine ⟨?_, Kp.refl _ _⟩
    rw [HM.out]
    have e : ((n : Int) * 2 ^ (64 - 7 * l.length)) = ((n * 2 ^ (64 - 7 * l.length) : Nat) : Int) := by simp
    show Ending.returned (.int .i64 (wrap64 (IntKind.u64.wrap ((n : Int) * 2 ^ (64 - 7 * l.length))) / 2 ^ (64 - 7 * l.length))) = _
    rw [e, wrap_nat]
def andSign (x : UInt8) : Bool := x &&& 64 == 0
def paddedSignedM (g : List UInt8) : Bool := decide (2 ≤ g.length) && ((g.getD (g.length - 1) 0 == 0 && andSign (g.getD (g.length - 2) 0)) || (g.getD (g.length - 1) 0 == 127 && !andSign (g.getD (g.length - 2) 0)))
set_option maxRecDepth 100000 in
theorem andSign_all : ∀ x : Fin 256, (Go.bits BinOp.and IntKind.u8 (x.val : Int) 64 == 0) = andSign (UInt8.ofNat x.val) := by decide +kernel
theorem andSign_at (x : UInt8) : (Go.bits BinOp.and IntKind.u8 (x.toNat : Int) 64 == 0) = andSign x := by
  have := andSign_all ⟨x.toNat, x.toNat_lt⟩
  simpa using this
theorem u8_eq127 (x : UInt8) : ((x.toNat : Int) == 127) = (x == 127) := by
  rw [Bool.eq_iff_iff]; simp [← UInt8.toNat_inj]; omega
set_option maxRecDepth 100000 in
set_option maxHeartbeats 1000000 in
theorem paddedSigned_any {w : World} {v : Value} {l : List UInt8} (h : BytesAt w v l) (hl : l.length ≤ 10) :
    Calls Tryz.prog 208 #[v] w fun r w' => r = .returned (.bool (paddedSignedM l)) ∧ Kp no w w' := by
  obtain ⟨ad, cap, hv, hcap⟩ := h.shape
  have H := hide h
  subst hv
  clear h
  by_cases h1 : 2 ≤ l.length
  · obtain ⟨a, o, cap', hv, _, hcell⟩ := BytesAt.get H.out (show l.length - 1 < l.length by omega)
    obtain ⟨a2, o2, cap2, hv2, _, hcell2⟩ := BytesAt.get H.out (show l.length - 2 < l.length by omega)
    simp only [Value.slice.injEq] at hv hv2
    obtain ⟨rfl, -, rfl⟩ := hv
    simp only [Option.some.injEq, Addr.mk.injEq, and_true, true_and] at hv2
    obtain ⟨⟨rfl, rfl⟩, rfl⟩ := hv2
    have hM : paddedSignedM l = ((l.getD (l.length - 1) 0 == 0 && andSign (l.getD (l.length - 2) 0)) || (l.getD (l.length - 1) 0 == 127 && !andSign (l.getD (l.length - 2) 0))) := by simp [paddedSignedM, h1]
    generalize l.getD (l.length - 1) 0 = x at *
    generalize l.getD (l.length - 2) 0 = y at *
    have q0 := u8_eq0 x
    have q1 := u8_eq127 x
    have q2 := andSign_at y
    have q3 : (Go.bits BinOp.and IntKind.u8 (y.toNat : Int) 64 != 0) = !andSign y := by rw [bne, q2]
    generalize (x == 0) = b0 at *
    generalize (x == 127) = b1 at *
    generalize andSign y = b2 at *
    have HM := hide hM
    clear hM
    cases b0 <;> cases b1 <;> cases b2 <;>
    · simp only [Bool.not_true, Bool.not_false] at q3
      go_enter Tryz.func208, Tryz.ntmps208
      go_wp2
      go_quiet (fail)
      go_wp2
      go_ret
      exact ⟨by rw [HM.out]; rfl, (Kp.refl _ _).drewN _⟩
  · have hM : paddedSignedM l = false := by simp [paddedSignedM, h1]
    have HM := hide hM
    clear hM
    go_enter Tryz.func208, Tryz.ntmps208
    go_wp2
    go_ret
    exact ⟨by rw [HM.out]; rfl, Kp.refl _ _⟩
def beyondM (g : List UInt8) : Bool := decide (10 ≤ g.length) && !(g.getD 9 0 == 0) && !(g.getD 9 0 == 127)
set_option maxHeartbeats 1000000 in
theorem beyond_any {w : World} {v : Value} {l : List UInt8} (h : BytesAt w v l) (hl : l.length ≤ 10) :
    Calls Tryz.prog 209 #[v] w fun r w' => r = .returned (.bool (beyondM l)) ∧ Kp no w w' := by
  obtain ⟨ad, cap, hv, hcap⟩ := h.shape
  have H := hide h
  subst hv
  clear h
  by_cases h1 : 10 ≤ l.length
  · obtain ⟨a, o, cap', hv, _, hcell⟩ := BytesAt.get H.out (show 9 < l.length by omega)
    simp only [Value.slice.injEq] at hv
    obtain ⟨rfl, -, rfl⟩ := hv
    have hM : beyondM l = (!(l.getD 9 0 == 0) && !(l.getD 9 0 == 127)) := by simp [beyondM, h1]
    generalize l.getD 9 0 = x at *
    have q0 := u8_eq0 x
    have q1 := u8_eq127 x
    have q2 : ((x.toNat : Int) != 0) = !(x == 0) := by rw [bne, q0]
    have q3 : ((x.toNat : Int) != 127) = !(x == 127) := by rw [bne, q1]
    generalize (x == 0) = b0 at *
    generalize (x == 127) = b1 at *
    have HM := hide hM
    clear hM
    clear q0 q1
    cases b0 <;> cases b1 <;>
    · simp only [Bool.not_true, Bool.not_false] at q2 q3
      go_enter Tryz.func209, Tryz.ntmps209
      go_wp2
      go_ret
      exact ⟨by rw [HM.out]; rfl, Kp.refl _ _⟩
  · have hM : beyondM l = false := by simp [beyondM, h1]
    have HM := hide hM
    clear hM
    go_enter Tryz.func209, Tryz.ntmps209
    go_wp2
    go_ret
    exact ⟨by rw [HM.out]; rfl, Kp.refl _ _⟩
def S32M (D : List UInt8) (i : Nat) : Except (Int × Int) (Int × Nat) :=
  match groupsM D 5 i with
  | .error e => .error e
  | .ok (g, j) => if signedM g ≠ IntKind.i32.wrap (signedM g) ∨ paddedSignedM g = true then .error (2, i) else .ok (signedM g, j)
def S64M (D : List UInt8) (i : Nat) : Except (Int × Int) (Int × Nat) :=
  match groupsM D 10 i with
  | .error e => .error e
  | .ok (g, j) => if beyondM g = true ∨ paddedSignedM g = true then .error (2, i) else .ok (signedM g, j)
theorem signed_range (g : List UInt8) : -9223372036854775808 ≤ signedM g ∧ signedM g ≤ 9223372036854775807 := by
  unfold signedM
  generalize ((joinTo g g.length * 2 ^ aboveOf g.length % 18446744073709551616 : Nat) : Int) = x
  generalize aboveOf g.length = a
  have h1 : -9223372036854775808 ≤ wrap64 x ∧ wrap64 x ≤ 9223372036854775807 := by
    unfold wrap64; omega
  generalize wrap64 x = y at *
  have hp : (0 : Int) < 2 ^ a := Int.pow_pos (by decide)
  have hp1 : (1 : Int) ≤ 2 ^ a := hp
  constructor
  · refine Int.le_trans ?_ (Int.ediv_le_ediv hp h1.1)
    refine Int.le_ediv_of_mul_le hp ?_
    have := Int.mul_le_mul_of_nonpos_left (a := (-9223372036854775808 : Int)) (b := 2 ^ a) (c := 1) (by decide) hp1
    simpa using this
  · refine Int.le_trans (Int.ediv_le_ediv hp h1.2) (Int.ediv_le_self _ (by decide))
theorem i32_range (n : Int) : -2147483648 ≤ IntKind.i32.wrap n ∧ IntKind.i32.wrap n ≤ 2147483647 := by
  simp only [IntKind.wrap, IntKind.signed, IntKind.bits]
  simp
  split <;> omega
theorem i32_wrap (n : Int) : IntKind.i32.wrap n = wrap32 n := by
  simp only [IntKind.wrap, IntKind.signed, IntKind.bits, wrap32]
  simp
  split <;> omega
set_option maxRecDepth 100000 in
set_option maxHeartbeats 1000000 in
theorem S32_any {w : World} {rb : Nat} {dv : Value} {D : List UInt8} {i : Nat} (h : RSt w rb dv D i) :
    Calls Tryz.prog 177 #[ptrTo rb] w fun r w' => Gives w w' rb dv D (fun (n : Int) v => v = .int .i32 n) (.int .i32 0) (S32M D i) r ∧ Kp (one rb) w w' := by
  have hM : S32M D i = (match groupsM D 5 i with | .error e => .error e | .ok (g, j) => if signedM g ≠ IntKind.i32.wrap (signedM g) ∨ paddedSignedM g = true then .error (2, i) else .ok (signedM g, j)) := rfl
  generalize S32M D i = R at *
  have hg := groups_any h 5 (by decide)
  have hrg := fun g j => groups_range (D := D) (m := 5) (i := i) (g := g) (j := j)
  obtain ⟨hc, -⟩ := cells_of h.blk
  generalize groupsM D 5 i = Q at *
  have Hg := hide hg
  clear hg h
  match Q, hM, Hg, hrg with
  | .error e, hM, Hg, _ =>
    have HM := hide hM
    clear hM
    go_enter Tryz.func177, Tryz.ntmps177
    go_wp2_with fail
    refine Hg.out.mono ?_
    rintro r w1 ⟨⟨fv, j, rfl, ⟨fb, rfl, hfb, hfo⟩, h1⟩, k1⟩
    have H1 := hide h1
    have HF := hide hfo
    clear h1 hfo
    go_wp2
    go_ret2
    rw [HM.out]
    exact ⟨⟨ptrTo fb, j, rfl, ⟨fb, rfl, hfb, HF.out⟩, H1.out⟩, k1⟩
  | .ok (g, j), hM, Hg, hrg =>
    have hgl : g.length ≤ 10 := by have := hrg g j rfl; omega
    have HM := hide hM
    clear hM hrg
    go_enter Tryz.func177, Tryz.ntmps177
    go_wp2_with fail
    refine Hg.out.mono ?_
    rintro r w1 ⟨⟨v, rfl, ⟨hb, hsub⟩, h1⟩, k1⟩
    obtain ⟨ad, cap, rfl, _⟩ := hb.shape
    have H1 := hide h1
    have HB := hide hb
    clear h1 hb hsub
    go_wp2_with fail
    refine (signed_any HB.out hgl).mono ?_
    rintro r w2 ⟨rfl, k2⟩
    have HK := hide (k1.then k2)
    have H2 := hide (H1.out.kp k2 (fun h => h) (fun _ _ _ h => h))
    have HB2 := hide (HB.out.kp k2 (fun _ _ h => h))
    clear H1 HB k1 k2
    have hM := HM.out
    have hjl := signed_range g
    generalize signedM g = n at *
    clear HM
    by_cases hn : n = IntKind.i32.wrap n
    · have hb32 : -2147483648 ≤ n ∧ n ≤ 2147483647 := by rw [hn]; exact i32_range n
      have hpd := paddedSigned_any HB2.out hgl
      generalize paddedSignedM g = pd at *
      have HP := hide hpd
      have HN := hide hn
      clear hpd hn
      cases pd
      · rw [if_neg (by simpa using HN.out)] at hM
        have HM1 := hide hM
        clear hM
        go_wp2_with fail
        refine HP.out.mono ?_
        rintro r w3 ⟨rfl, k3⟩
        go_wp2
        go_ret2
        rw [HM1.out]
        exact ⟨⟨_, rfl, rfl, H2.out.kp k3 (fun h => h) (fun _ _ _ h => h)⟩, HK.out.then k3⟩
      · rw [if_pos (.inr rfl)] at hM
        have HM1 := hide hM
        clear hM
        go_wp2_with fail
        refine HP.out.mono ?_
        rintro r w3 ⟨rfl, k3⟩
        have H1 := hide (H2.out.kp k3 (fun h => h) (fun _ _ _ h => h))
        have HK3 := hide (HK.out.then k3)
        go_wp2_with fail
        refine (form_any _ _).mono ?_
        rintro r w9 ⟨rfl, rfl⟩
        go_wp2
        go_ret2
        rw [HM1.out]
        exact ⟨⟨ptrTo w3.heap.size, j, rfl, ⟨w3.heap.size, rfl, HK3.out.size, heap_alloc_new _ _⟩, H1.out.kp ((Kp.refl no w3).alloc _) (fun h => h) (fun _ _ _ h => h)⟩, HK3.out.alloc _⟩
    · rw [if_pos (.inl hn)] at hM
      have HM1 := hide hM
      clear hM
      rw [i32_wrap] at hn
      have hq : (n == wrap32 n) = false := by simpa using hn
      have hq2 : (n != wrap32 n) = true := by simpa using hn
      have hr := i32_range n
      rw [i32_wrap] at hr
      go_wp2_with fail
      refine (form_any _ _).mono ?_
      rintro r w9 ⟨rfl, rfl⟩
      go_wp2
      go_ret2
      rw [HM1.out]
      exact ⟨⟨ptrTo w2.heap.size, j, rfl, ⟨w2.heap.size, rfl, HK.out.size, heap_alloc_new _ _⟩, H2.out.kp ((Kp.refl no w2).alloc _) (fun h => h) (fun _ _ _ h => h)⟩, HK.out.alloc _⟩
theorem S32_range {D : List UInt8} {i : Nat} {n : Int} {j : Nat} (h : S32M D i = .ok (n, j)) : -2147483648 ≤ n ∧ n ≤ 2147483647 ∧ i < j ∧ j ≤ D.length := by
  unfold S32M at h
  split at h
  · cases h
  · rename_i g j' hg
    split at h
    · cases h
    · rename_i hc
      cases h
      have h1 : signedM g = IntKind.i32.wrap (signedM g) := Classical.byContradiction (fun e => hc (.inl e))
      have h2 := i32_range (signedM g)
      have h3 := groups_range hg
      rw [← h1] at h2
      omega
theorem S64_range {D : List UInt8} {i : Nat} {n : Int} {j : Nat} (h : S64M D i = .ok (n, j)) : -9223372036854775808 ≤ n ∧ n ≤ 9223372036854775807 ∧ i < j ∧ j ≤ D.length := by
  unfold S64M at h
  split at h
  · cases h
  · rename_i g j' hg
    split at h
    · cases h
    · cases h
      have h2 := signed_range g
      have h3 := groups_range hg
      omega
set_option maxRecDepth 100000 in
set_option maxHeartbeats 1000000 in
theorem S64_any {w : World} {rb : Nat} {dv : Value} {D : List UInt8} {i : Nat} (h : RSt w rb dv D i) :
    Calls Tryz.prog 178 #[ptrTo rb] w fun r w' => Gives w w' rb dv D (fun (n : Int) v => v = .int .i64 n) (.int .i64 0) (S64M D i) r ∧ Kp (one rb) w w' := by
  have hM : S64M D i = (match groupsM D 10 i with | .error e => .error e | .ok (g, j) => if beyondM g = true ∨ paddedSignedM g = true then .error (2, i) else .ok (signedM g, j)) := rfl
  generalize S64M D i = R at *
  have hg := groups_any h 10 (by decide)
  have hrg := fun g j => groups_range (D := D) (m := 10) (i := i) (g := g) (j := j)
  obtain ⟨hc, -⟩ := cells_of h.blk
  generalize groupsM D 10 i = Q at *
  have Hg := hide hg
  clear hg h
  match Q, hM, Hg, hrg with
  | .error e, hM, Hg, _ =>
    have HM := hide hM
    clear hM
    go_enter Tryz.func178, Tryz.ntmps178
    go_wp2_with fail
    refine Hg.out.mono ?_
    rintro r w1 ⟨⟨fv, j, rfl, ⟨fb, rfl, hfb, hfo⟩, h1⟩, k1⟩
    have H1 := hide h1
    have HF := hide hfo
    clear h1 hfo
    go_wp2
    go_ret2
    rw [HM.out]
    exact ⟨⟨ptrTo fb, j, rfl, ⟨fb, rfl, hfb, HF.out⟩, H1.out⟩, k1⟩
  | .ok (g, j), hM, Hg, hrg =>
    have hgl : g.length ≤ 10 := by have := hrg g j rfl; omega
    have HM := hide hM
    clear hM hrg
    go_enter Tryz.func178, Tryz.ntmps178
    go_wp2_with fail
    refine Hg.out.mono ?_
    rintro r w1 ⟨⟨v, rfl, ⟨hb, hsub⟩, h1⟩, k1⟩
    obtain ⟨ad, cap, rfl, _⟩ := hb.shape
    have H1 := hide h1
    have HB := hide hb
    clear h1 hb hsub
    go_wp2_with fail
    refine (beyond_any HB.out hgl).mono ?_
    rintro r w2 ⟨rfl, k2⟩
    have HK := hide (k1.then k2)
    have H2 := hide (H1.out.kp k2 (fun h => h) (fun _ _ _ h => h))
    have HB2 := hide (HB.out.kp k2 (fun _ _ h => h))
    clear H1 HB k1 k2
    have hM := HM.out
    clear HM
    have hpd := paddedSigned_any HB2.out hgl
    generalize beyondM g = bd at *
    cases bd
    · generalize paddedSignedM g = pd at *
      have HP := hide hpd
      clear hpd
      cases pd
      · rw [if_neg (by simp)] at hM
        have HM1 := hide hM
        clear hM
        go_wp2_with fail
        refine HP.out.mono ?_
        rintro r w3 ⟨rfl, k3⟩
        have HB3 := hide (HB2.out.kp k3 (fun _ _ h => h))
        go_wp2_with fail
        refine (signed_any HB3.out hgl).mono ?_
        rintro r w4 ⟨rfl, k4⟩
        go_wp2
        go_ret2
        rw [HM1.out]
        exact ⟨⟨_, rfl, rfl, (H2.out.kp k3 (fun h => h) (fun _ _ _ h => h)).kp k4 (fun h => h) (fun _ _ _ h => h)⟩, (HK.out.then k3).then k4⟩
      · rw [if_pos (.inr rfl)] at hM
        have HM1 := hide hM
        clear hM
        go_wp2_with fail
        refine HP.out.mono ?_
        rintro r w3 ⟨rfl, k3⟩
        have H1 := hide (H2.out.kp k3 (fun h => h) (fun _ _ _ h => h))
        have HK3 := hide (HK.out.then k3)
        go_wp2_with fail
        refine (form_any _ _).mono ?_
        rintro r w9 ⟨rfl, rfl⟩
        go_wp2
        go_ret2
        rw [HM1.out]
        exact ⟨⟨ptrTo w3.heap.size, j, rfl, ⟨w3.heap.size, rfl, HK3.out.size, heap_alloc_new _ _⟩, H1.out.kp ((Kp.refl no w3).alloc _) (fun h => h) (fun _ _ _ h => h)⟩, HK3.out.alloc _⟩
    · rw [if_pos (.inl rfl)] at hM
      have HM1 := hide hM
      clear hM hpd
      go_wp2_with fail
      refine (form_any _ _).mono ?_
      rintro r w9 ⟨rfl, rfl⟩
      go_wp2
      go_ret2
      rw [HM1.out]
      exact ⟨⟨ptrTo w2.heap.size, j, rfl, ⟨w2.heap.size, rfl, HK.out.size, heap_alloc_new _ _⟩, H2.out.kp ((Kp.refl no w2).alloc _) (fun h => h) (fun _ _ _ h => h)⟩, HK.out.alloc _⟩
end Go.Proofs.YtdeplgkhmebalaaGreatDoor
