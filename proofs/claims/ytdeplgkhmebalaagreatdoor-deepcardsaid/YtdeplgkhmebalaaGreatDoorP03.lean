/- The program's look at a body: its smallest functions. -/
import Derived.Test.YtdeplgkhmebalaaGreatDoorP02
import Derived.Deep.RegionLaw

namespace Go.Proofs.YtdeplgkhmebalaaGreatDoor
open Go.RowKit

section
variable {E : Env} {g : Nat} {w : World} {s : Bd}

set_option maxHeartbeats 400000 in
theorem here_any (h : BSt E g w s) (_hc : s.code.length ≤ 1000000) : Calls Tryz.prog 278 #[ptrTo E.bb] w fun r w' => r = .returned (.int .i64 s.code.length) ∧ Kp no w w' := by
  obtain ⟨role, sv, cv, kc, bs, h⟩ := h
  obtain ⟨hb, -⟩ := cells_of h.body
  obtain ⟨hm, -⟩ := cells_of h.mod
  obtain ⟨ad, cap, rfl⟩ := own_shape h.code
  clear h
  go_enter Tryz.func278, Tryz.ntmps278
  go_wp2
  go_ret
  exact ⟨rfl, Kp.refl _ _⟩

set_option maxHeartbeats 400000 in
theorem wrong_any (h : BSt E g w s) : Calls Tryz.prog 211 #[ptrTo E.bb] w fun r w' => (∃ fv, r = .returned fv ∧ FaultAt w w' fv (3, s.pos)) ∧ Kp no w w' := by
  obtain ⟨role, sv, cv, kc, bs, h⟩ := h
  obtain ⟨hb, -⟩ := cells_of h.body
  clear h
  go_enter Tryz.func211, Tryz.ntmps211
  go_wp2
  go_ret
  exact ⟨⟨_, rfl, ⟨w.heap.size, rfl, Nat.le_refl _, heap_alloc_new _ _⟩⟩, (Kp.refl _ _).alloc _⟩

set_option maxHeartbeats 400000 in
theorem inner_any' (h : BSt E g w s) (hc : s.blocks ≠ []) (hbl : s.blocks.length ≤ 1000) : Calls Tryz.prog 279 #[ptrTo E.bb] w fun r w' => r = .returned (.pointer (some ⟨g, (s.blocks.length - 1) * 5, none⟩)) ∧ Kp no w w' := by
  obtain ⟨role, sv, cv, kc, bs, h⟩ := h
  obtain ⟨hb, -⟩ := cells_of h.body
  have hl : 0 < s.blocks.length := List.length_pos_iff.2 hc
  clear h
  go_enter Tryz.func279, Tryz.ntmps279
  go_wp2
  go_quiet (fail)
  go_wp2
  go_ret
  exact ⟨rfl, (Kp.refl _ _).drewN _⟩

theorem emit_end {role : Nat → Nat} {sv cv : Value} {kc : Nat} {bs : List BkV} (h : BStG E g w s role sv cv kc bs) (x : Ins) {W w1 : World} {v1 : Value} {n : Nat} {xs : List Value} (hn : n = s.code.length + 1) (hxs : xs = s.code.flatMap Ins.cells ++ x.cells) (kW : Kp no w W)
    (hown1 : w1.ownsRow E.B 214 5 v1 n xs) (hgrow : W.grownBy w1 cv.ownBlock) (hat : v1.ownBlock = cv.ownBlock ∨ v1.ownBlock = some W.heap.size) :
    BSt E g (w1.setCell ⟨E.mb, 3, none⟩ v1) { s with code := s.code ++ [x] } ∧ Kp (nro E.ro) w (w1.setCell ⟨E.mb, 3, none⟩ v1) := by
  subst hn hxs
  have h' := h.renew 6
  have hm := lt_of_blk h.mod
  have k1 : Kp (fun b => (fun r => r = 2 ∨ r = 6) (newRole role w.heap.size 6 b)) w w1 := (kW.any).grown hgrow (fun b hb => .inl (.inr (h'.r6 b hb)))
  have k2 : Kp (fun b => (fun r => r = 2 ∨ r = 6) (newRole role w.heap.size 6 b)) w (w1.setCell ⟨E.mb, 3, none⟩ v1) := k1.setAt (.inl h'.r2) 3 v1
  have hr : ∀ b, v1.ownBlock = some b → newRole role w.heap.size 6 b = 6 := by
    intro b hb
    rcases hat with e | e
    · exact h'.r6 b (e ▸ hb)
    · rw [hb] at e; cases e; exact newRole_new kW.size
  have hmod : w1.heap[E.mb]? = some (modObj E cv) := (hgrow.block E.mb (Nat.lt_of_lt_of_le hm kW.size) (fun e => by have := h.r6 _ e.symm; rw [h.r2] at this; cases this)).trans (kW.blk h.mod (fun h => h))
  refine ⟨⟨_, sv, v1, kc, bs, h'.setCode (l := s.code ++ [x]) k2 (heap_setCell hmod v1) ?_ hr⟩, h'.nro (X := fun r => r = 2 ∨ r = 6) k2 (by decide)⟩
  have ho : (w1.setCell ⟨E.mb, 3, none⟩ v1).ownsRow E.B 214 5 v1 (s.code.length + 1) (s.code.flatMap Ins.cells ++ x.cells) :=
    ((Kp.refl (one E.mb) w1).set1 3 v1).own hown1 (fun b hb (e : b = E.mb) => by subst e; have := hr _ hb; rw [h'.r2] at this; cases this)
  simpa [List.flatMap_append] using ho

theorem info_instr : (Tryz.prog.info? 214).map (fun i => (i.zero, i.size, i.bytes)) = some (some (.agg #[.int .u8 0, .int .u64 0, .int .i64 0, .int .i64 0, .int .i64 0]), 5, 40) := by kernel_rfl

set_option maxRecDepth 100000 in
set_option maxHeartbeats 1000000 in
theorem emit_any (h : BSt E g w s) (x : Ins) (hc : s.code.length ≤ 1000000) : Calls Tryz.prog 268 #[ptrTo E.bb, .agg x.cells.toArray] w fun r w' => r = .returned (.tuple #[]) ∧ BSt E g w' { s with code := s.code ++ [x] } ∧ Kp (nro E.ro) w w' := by
  obtain ⟨role, sv, cv, kc, bs, h⟩ := h
  obtain ⟨i0, hi0, hz0, hz1, hz2⟩ := info_parts info_instr
  obtain ⟨hb, -⟩ := cells_of h.body
  obtain ⟨hm, hmf⟩ := cells_of h.mod
  have hlb := lt_of_blk h.body
  have hlm := lt_of_blk h.mod
  have hB := h.env.base
  have hf1 := fun (X : Obj) => (cells_of (heap_alloc_old (o := X) h.mod)).2 3
  have hf2 := fun (X Y : Obj) => (cells_of (heap_alloc_old (o := Y) (heap_alloc_old (o := X) h.mod))).2 3
  have n1 : some E.bb ≠ cv.ownBlock := fun e => by have := h.r6 _ e.symm; rw [h.r3] at this; cases this
  have n2 : some E.mb ≠ cv.ownBlock := fun e => by have := h.r6 _ e.symm; rw [h.r2] at this; cases this
  have n3 : some w.heap.size ≠ cv.ownBlock := fun e => by have := own_lt h.code e.symm; omega
  have H := hide h
  clear h
  obtain ⟨op, num, gl, ht, kp⟩ := x
  simp only [Ins.cells]
  go_enter Tryz.func268, Tryz.ntmps268
  go_wp2_with fail
  have hx := heap_alloc_new w (.cells #[.int .u8 op.toNat, .int .u64 num, .int .i64 gl, .int .i64 ht, .int .i64 kp] 214)
  have hx1 := (cells_of hx).1
  have hmc := fun (X Y : Obj) => (cells_of (heap_alloc_old (o := Y) (heap_alloc_old (o := X) H.out.mod))).1 3
  go_region_law ((refine step_append_at _ (by rfl) _ _ _ (by rfl) E.B 214 i0 _ 5 40 Tryz.underlying119 hi0 hz0 hz1 hz2 rfl (by omega) cv s.code.length (s.code.flatMap Ins.cells) (by rfl) ((H.out.code.alloc _).alloc _) (.slice (some ⟨w.heap.size + 1, 0, none⟩) 1 1) 1 [.int .u8 op.toNat, .int .u64 num, .int .i64 gl, .int .i64 ht, .int .i64 kp] (by rfl) (RowAt.allocAt (by simp) #[.int .u8 op.toNat, .int .u64 num, .int .i64 gl, .int .i64 ht, .int .i64 kp] _ 1 5 rfl) (by simp [Value.oneCell']) (by simp only [maxLen]; omega) (by omega) (by simp; omega) ?_; intro v1 w1 hown1 hgrow hat; obtain ⟨ad1, cap1, rfl⟩ := own_shape hown1; have hmc1 := (hgrow.cell_far ⟨E.mb, 3, none⟩ (by simp; omega) n2).trans (hmc _ _); have hmb1 := (hgrow.cell_far ⟨E.bb, 1, none⟩ (by simp; omega) n1); have hmf1 := (hgrow.frozen_far ⟨E.mb, 3, none⟩ (by simp; omega) n2).trans (hf2 _ _)))
  all_goals
    go_end0
    exact ⟨rfl, emit_end H.out ⟨op, num, gl, ht, kp⟩ rfl rfl ((((Kp.refl no w).alloc _).alloc _).drewN 1) hown1 hgrow hat⟩
end

end Go.Proofs.YtdeplgkhmebalaaGreatDoor

namespace Go.Proofs.YtdeplgkhmebalaaGreatDoor
open Go.RowKit

theorem info_u8 : (Tryz.prog.info? 5).map (fun i => (i.zero, i.size, i.bytes)) = some (some (.int .u8 0), 1, 1) := by kernel_rfl

section
variable {E : Env} {g : Nat} {w : World} {s : Bd}

theorem put_end {role : Nat → Nat} {sv cv : Value} {kc : Nat} {bs : List BkV} (h : BStG E g w s role sv cv kc bs) (ts : List UInt8) {w1 : World} {v1 : Value} {n : Nat} {xs : List Value} (hn : n = s.stack.length + ts.length) (hxs : xs = (s.stack.map fun c => .int .u8 c.toNat) ++ (ts.map fun c => .int .u8 c.toNat))
    (hown1 : w1.ownsRow E.B 5 1 v1 n xs) (hgrow : w.grownBy w1 sv.ownBlock) (hat : v1.ownBlock = sv.ownBlock ∨ v1.ownBlock = some w.heap.size) :
    BSt E g (w1.setCell ⟨E.bb, 4, none⟩ v1) (putM s ts) ∧ Kp (nro E.ro) w (w1.setCell ⟨E.bb, 4, none⟩ v1) := by
  subst hn hxs
  have h' := h.renew 4
  have hm := lt_of_blk h.body
  have k1 : Kp (fun b => (fun r => r = 3 ∨ r = 4) (newRole role w.heap.size 4 b)) w w1 := (Kp.refl _ w).grown hgrow (fun b hb => .inl (.inr (h'.r4 b hb)))
  have k2 : Kp (fun b => (fun r => r = 3 ∨ r = 4) (newRole role w.heap.size 4 b)) w (w1.setCell ⟨E.bb, 4, none⟩ v1) := k1.setAt (.inl h'.r3) 4 v1
  have hr : ∀ b, v1.ownBlock = some b → newRole role w.heap.size 4 b = 4 := by
    intro b hb
    rcases hat with e | e
    · exact h'.r4 b (e ▸ hb)
    · rw [hb] at e; cases e; exact newRole_new (Nat.le_refl _)
  have hbody : w1.heap[E.bb]? = some (bodyObj E g s sv kc) := (hgrow.block E.bb hm (fun e => by have := h.r4 _ e.symm; rw [h.r3] at this; cases this)).trans h.body
  refine ⟨⟨_, v1, cv, kc, bs, h'.setStack (l := s.stack ++ ts) k2 (heap_setCell hbody v1) ?_ hr⟩, h'.nro (X := fun r => r = 3 ∨ r = 4) k2 (by decide)⟩
  have ho : (w1.setCell ⟨E.bb, 4, none⟩ v1).ownsRow E.B 5 1 v1 (s.stack.length + ts.length) ((s.stack.map fun c => .int .u8 c.toNat) ++ (ts.map fun c => .int .u8 c.toNat)) :=
    ((Kp.refl (one E.bb) w1).set1 4 v1).own hown1 (fun b hb (e : b = E.bb) => by subst e; have := hr _ hb; rw [h'.r3] at this; cases this)
  simpa using ho

set_option maxRecDepth 100000 in
set_option maxHeartbeats 1000000 in
theorem put_any (h : BSt E g w s) {tv : Value} {ts : List UInt8} (ht : BytesAt w tv ts) (hs : s.stack.length ≤ 1000000) (hts : ts.length ≤ 1000000) :
    Calls Tryz.prog 269 #[ptrTo E.bb, tv] w fun r w' => r = .returned (.tuple #[]) ∧ BSt E g w' (putM s ts) ∧ Kp (nro E.ro) w w' := by
  obtain ⟨role, sv, cv, kc, bs, h⟩ := h
  obtain ⟨i0, hi0, hz0, hz1, hz2⟩ := info_parts info_u8
  obtain ⟨hb, hbf⟩ := cells_of h.body
  have hB := h.env.base
  have hlb := lt_of_blk h.body
  obtain ⟨ad, cap, rfl⟩ := own_shape h.stack
  obtain ⟨ad2, cap2, rfl, -⟩ := ht.shape
  have n1 : some E.bb ≠ (Value.slice ad s.stack.length cap).ownBlock := fun e => by have := h.r4 _ e.symm; rw [h.r3] at this; cases this
  have H := hide h
  have HT := hide ht
  clear h ht
  go_enter Tryz.func269, Tryz.ntmps269
  go_wp2_with (at_builtin; refine wpList_append_at _ rfl _ _ 25 rfl E.B 5 i0 (.int .u8 0) 1 1 Tryz.underlying25 hi0 hz0 hz1 hz2 rfl (by decide) _ _ _ rfl H.out.stack _ ts.length _ rfl HT.out (bytes_oneCell _) ?c3 ?c4 hB ?_)
  case c3 => unfold maxLen; omega
  case c4 => omega
  intro v1 w1 hown1 hgrow hat
  obtain ⟨ad1, cap1, rfl⟩ := own_shape hown1
  have hbc := hgrow.cell_far ⟨E.bb, 4, none⟩ hlb n1
  have hbf1 := (hgrow.frozen_far ⟨E.bb, 4, none⟩ hlb n1).trans (hbf 4)
  rw [hb] at hbc
  have HO := hide hown1
  have HG := hide hgrow
  have HA := hide hat
  clear hown1 hgrow hat
  go_wp2
  go_end0
  exact ⟨rfl, put_end H.out ts rfl rfl HO.out HG.out HA.out⟩

theorem take_end {role : Nat → Nat} {sv cv : Value} {kc : Nat} {bs : List BkV} (h : BStG E g w s role sv cv kc bs) {ad : Option Addr} {cap : Nat} (hsv : sv = .slice ad s.stack.length cap) (hl : 0 < s.stack.length) {W : World} (kW : Kp no w W) :
    BSt E g (W.setCell ⟨E.bb, 4, none⟩ (.slice ad (s.stack.length - 1) cap)) { s with stack := s.stack.take (s.stack.length - 1) } ∧ Kp (one E.bb) w (W.setCell ⟨E.bb, 4, none⟩ (.slice ad (s.stack.length - 1) cap)) := by
  subst hsv
  have k2 : Kp (fun b => (fun r => r = 3 ∨ r = 4) (role b)) w (W.setCell ⟨E.bb, 4, none⟩ (.slice ad (s.stack.length - 1) cap)) := Kp.setAt kW.any (.inl h.r3) 4 _
  have hbody := kW.blk h.body (fun h => h)
  refine ⟨⟨role, _, cv, kc, bs, h.setStack (l := s.stack.take (s.stack.length - 1)) k2 (heap_setCell hbody _) ?_ (fun b hb => h.r4 b (by cases ad with | none => cases hb | some a => exact hb))⟩, Kp.set1 kW.any 4 _⟩
  have ho : (W.setCell ⟨E.bb, 4, none⟩ (.slice ad (s.stack.length - 1) cap)).ownsRow E.B 5 1 (.slice ad s.stack.length cap) s.stack.length (s.stack.map fun c => .int .u8 c.toNat) :=
    ((Kp.refl (one E.bb) W).set1 4 _).own (kW.own h.stack (fun _ _ h => h)) (fun b hb (e : b = E.bb) => by subst e; have := h.r4 _ hb; rw [h.r3] at this; cases this)
  obtain ⟨h1, ⟨h2, h3⟩ | ⟨g', cap', cur, hv, hb, hh, hc, hm, hsz, ht⟩⟩ := ho
  · omega
  · cases hv
    have hlen : (s.stack.take (s.stack.length - 1)).length = s.stack.length - 1 := by simp
    refine ⟨by simp, .inr ⟨g', cap, cur, by rw [hlen], hb, hh, by omega, hm, hsz, ?_⟩⟩
    rw [hlen, List.map_take, ← ht, List.take_take]
    simp

theorem BStG.bk {role : Nat → Nat} {sv cv : Value} {kc : Nat} {bs : List BkV} (h : BStG E g w s role sv cv kc bs) {k : Nat} (hk : k < s.blocks.length) :
    ∃ rv wv, bs[k]? = some (s.bk k, rv, wv) ∧ w.cell? ⟨g, k * 5, none⟩ = some (.int .i64 (s.bk k).kind) ∧ w.cell? ⟨g, k * 5 + 1, none⟩ = some rv ∧ w.cell? ⟨g, k * 5 + 2, none⟩ = some (.int .i64 (s.bk k).height) ∧
      w.cell? ⟨g, k * 5 + 3, none⟩ = some (.int .i64 (s.bk k).start) ∧ w.cell? ⟨g, k * 5 + 4, none⟩ = some wv := by
  have hl : s.blocks.length = bs.length := by rw [h.eq, List.length_map]
  have hk' : k < bs.length := by omega
  have hb : bs[k]? = some bs[k] := List.getElem?_eq_getElem hk'
  have e : s.bk k = bs[k].1 := by
    unfold Bd.bk
    rw [h.eq, List.getD, List.getElem?_map, hb]; rfl
  have hc : ∀ j, j < 5 → w.cell? ⟨g, k * 5 + j, none⟩ = (bkCells bs[k])[j]? := by
    intro j hj
    rw [h.blocks.cellAt (k * 5 + j) (by omega), flat_get bkLen bs k j hj, hb]; rfl
  refine ⟨bs[k].2.1, bs[k].2.2, by rw [hb, e], ?_, ?_, ?_, ?_, ?_⟩
  · rw [e]; exact hc 0 (by decide)
  · exact hc 1 (by decide)
  · rw [e]; exact hc 2 (by decide)
  · rw [e]; exact hc 3 (by decide)
  · exact hc 4 (by decide)

theorem BStG.stackCell {role : Nat → Nat} {sv cv : Value} {kc : Nat} {bs : List BkV} (h : BStG E g w s role sv cv kc bs) {k : Nat} (hk : k < s.stack.length) :
    ∃ a cap, sv = .slice (some ⟨a, 0, none⟩) s.stack.length cap ∧ s.stack.length ≤ cap ∧ w.cell? ⟨a, k, none⟩ = some (.int .u8 (s.stack.getD k 0).toNat) := by
  obtain ⟨h1, ⟨h2, h3⟩ | ⟨g', cap', cur, hv, hb, hh, hc, hm, hsz, ht⟩⟩ := h.stack
  · omega
  · refine ⟨g', cap', hv, hc, ?_⟩
    have := h.stack
    rw [hv] at this
    rw [this.cellAt k (by omega)]
    simp [List.getD, List.getElem?_eq_getElem hk]

set_option maxRecDepth 100000 in
set_option maxHeartbeats 1000000 in
theorem takeAny_ok (h : BSt E g w s) (hb : s.blocks ≠ []) (hbl : s.blocks.length ≤ 17) (hs : s.stack.length ≤ 1000000) (hh : s.top.height < s.stack.length) :
    Calls Tryz.prog 286 #[ptrTo E.bb] w fun r w' => r = .returned (.tuple #[.int .u8 (s.stack.getD (s.stack.length - 1) 0).toNat, .bool true]) ∧ BSt E g w' { s with stack := s.stack.take (s.stack.length - 1) } ∧ Kp (one E.bb) w w' := by
  have hin := inner_any' h hb (by omega)
  obtain ⟨role, sv, cv, kc, bs, h⟩ := h
  have hl : 0 < s.blocks.length := List.length_pos_iff.2 hb
  obtain ⟨rv, wv, -, -, -, hht, -, -⟩ := h.bk (k := s.blocks.length - 1) (by omega)
  change w.cell? _ = some (.int .i64 (s.top.height : Nat)) at hht
  obtain ⟨a, cap, hsv, hcap, hsc⟩ := h.stackCell (k := s.stack.length - 1) (by omega)
  have hend := fun W (kW : Kp no w W) => take_end h hsv (by omega) kW
  generalize s.top.height = ht at *
  generalize s.stack.getD (s.stack.length - 1) 0 = u at *
  subst hsv
  obtain ⟨hc, hf⟩ := cells_of h.body
  have HB := hide h.body
  have HI := hide hin
  have HE := hide hend
  clear h hin hend
  go_enter Tryz.func286, Tryz.ntmps286
  go_wp2_with fail
  refine HI.out.mono ?_
  rintro e w1 ⟨rfl, k1⟩
  have hht1 := k1.allCells hht
  have hsc1 := k1.allCells hsc
  obtain ⟨hc1, hf1⟩ := cells_of (k1.blk HB.out (fun h => h))
  have HK := hide k1
  clear hht hsc hc hf k1
  go_wp2
  go_ret2
  exact ⟨rfl, HE.out w1 HK.out⟩

set_option maxRecDepth 100000 in
set_option maxHeartbeats 1000000 in
theorem takeAny_no (h : BSt E g w s) (hb : s.blocks ≠ []) (hbl : s.blocks.length ≤ 17) (hs : s.stack.length ≤ 1000000) (hh : s.stack.length ≤ s.top.height) :
    Calls Tryz.prog 286 #[ptrTo E.bb] w fun r w' => r = .returned (.tuple #[.int .u8 0, .bool false]) ∧ Kp no w w' := by
  have hin := inner_any' h hb (by omega)
  obtain ⟨role, sv, cv, kc, bs, h⟩ := h
  have hl : 0 < s.blocks.length := List.length_pos_iff.2 hb
  obtain ⟨rv, wv, -, -, -, hht, -, -⟩ := h.bk (k := s.blocks.length - 1) (by omega)
  change w.cell? _ = some (.int .i64 (s.top.height : Nat)) at hht
  generalize s.top.height = ht at *
  obtain ⟨hc, hf⟩ := cells_of h.body
  obtain ⟨ad, cap, rfl⟩ := own_shape h.stack
  have HI := hide hin
  clear h hin
  go_enter Tryz.func286, Tryz.ntmps286
  go_wp2_with fail
  refine HI.out.mono ?_
  rintro e w1 ⟨rfl, k1⟩
  have hht1 := k1.allCells hht
  have HK := hide k1
  clear hht hc hf k1
  go_wp2
  go_ret2
  exact ⟨rfl, HK.out⟩

def TookAny (E : Env) (g : Nat) (w' : World) (s : Bd) (m : Option (UInt8 × Bd)) (r : Ending) : Prop :=
  match m with
  | some (u, s') => r = .returned (.tuple #[.int .u8 u.toNat, .bool true]) ∧ BSt E g w' s'
  | none => r = .returned (.tuple #[.int .u8 0, .bool false]) ∧ BSt E g w' s

theorem BSt.nroBb {w' : World} (h : BSt E g w s) (k : Kp (one E.bb) w w') : Kp (nro E.ro) w w' := by
  obtain ⟨role, sv, cv, kc, bs, h⟩ := h
  exact k.mono (fun b _ (e : b = E.bb) hr => by have := h.ro b hr; rw [e, h.r3] at this; cases this)

/-- What the stack's top gives, or that there is none within reach. -/
theorem takeAny_any (h : BSt E g w s) (hb : s.blocks ≠ []) (hbl : s.blocks.length ≤ 17) (hs : s.stack.length ≤ 1000000) :
    Calls Tryz.prog 286 #[ptrTo E.bb] w fun r w' => TookAny E g w' s (takeAnyM s) r ∧ Kp (one E.bb) w w' := by
  unfold takeAnyM
  by_cases hh : s.stack.length ≤ s.top.height
  · rw [if_pos hh]
    refine (takeAny_no h hb hbl hs hh).mono ?_
    rintro r w' ⟨rfl, k⟩
    obtain ⟨role, sv, cv, kc, bs, h⟩ := h
    exact ⟨⟨rfl, role, sv, cv, kc, bs, h.quiet k⟩, k.any⟩
  · rw [if_neg hh]
    refine (takeAny_ok h hb hbl hs (by omega)).mono ?_
    rintro r w' ⟨rfl, h', k⟩
    exact ⟨⟨rfl, h'⟩, k⟩

theorem u8_eq (x y : UInt8) : ((x.toNat : Int) == (y.toNat : Int)) = (x == y) := by
  rw [Bool.eq_iff_iff]; simp [← UInt8.toNat_inj]; omega

/-- Only the stack may have changed. -/
def Sunk (s s' : Bd) : Prop := ∃ l, s' = { s with stack := l } ∧ l.length ≤ s.stack.length
theorem Sunk.refl (s : Bd) : Sunk s s := ⟨s.stack, rfl, Nat.le_refl _⟩
theorem Sunk.trans {a b c : Bd} (h : Sunk a b) (k : Sunk b c) : Sunk a c := by
  obtain ⟨l, rfl, hl⟩ := h
  obtain ⟨m, rfl, hm⟩ := k
  exact ⟨m, rfl, Nat.le_trans hm hl⟩
theorem takeAny_sunk {s s' : Bd} {u : UInt8} (h : takeAnyM s = some (u, s')) : Sunk s s' := by
  unfold takeAnyM at h
  split at h
  · cases h
  · cases h
    exact ⟨_, rfl, by simp⟩
theorem take_sunk {s s' : Bd} {u : UInt8} (h : takeM s u = some s') : Sunk s s' := by
  unfold takeM at h
  split at h
  · cases h
  · rename_i v s1 h1
    split at h
    · cases h; exact takeAny_sunk h1
    · cases h

def Took (E : Env) (g : Nat) (w' : World) (s : Bd) (m : Option Bd) (r : Ending) : Prop :=
  match m with
  | some s' => r = .returned (.bool true) ∧ BSt E g w' s'
  | none => r = .returned (.bool false) ∧ ∃ s', BSt E g w' s' ∧ Sunk s s'

set_option maxRecDepth 100000 in
set_option maxHeartbeats 1000000 in
theorem take_any' (h : BSt E g w s) (hb : s.blocks ≠ []) (hbl : s.blocks.length ≤ 17) (hs : s.stack.length ≤ 1000000) (t : UInt8) :
    Calls Tryz.prog 276 #[ptrTo E.bb, .int .u8 t.toNat] w fun r w' => Took E g w' s (takeM s t) r ∧ Kp (one E.bb) w w' := by
  have hta := takeAny_any h hb hbl hs
  have hM : takeM s t = (match takeAnyM s with | none => none | some (u, s') => if u = t then some s' else none) := rfl
  have hsk := fun u s' => takeAny_sunk (s := s) (s' := s') (u := u)
  generalize takeM s t = R at *
  generalize takeAnyM s = Q at *
  have HT := hide hta
  have HM := hide hM
  clear hta hM h
  match Q, HM, HT, hsk with
  | none, HM, HT, _ =>
    go_enter Tryz.func276, Tryz.ntmps276
    go_wp2_with fail
    refine HT.out.mono ?_
    rintro r w1 ⟨⟨rfl, h1⟩, k1⟩
    have H1 := hide h1
    have HK := hide k1
    clear h1 k1
    go_wp2
    go_ret
    rw [HM.out]
    exact ⟨⟨rfl, s, H1.out, Sunk.refl s⟩, HK.out⟩
  | some (u, s'), HM, HT, hsk =>
    have HS := hide (hsk u s' rfl)
    clear hsk
    have hq := u8_eq u t
    by_cases hut : u = t
    · have hq1 : (u == t) = true := by simpa using hut
      rw [hq1] at hq
      have HU := hide hut
      clear hut hq1
      go_enter Tryz.func276, Tryz.ntmps276
      go_wp2_with fail
      refine HT.out.mono ?_
      rintro r w1 ⟨⟨rfl, h1⟩, k1⟩
      have H1 := hide h1
      have HK := hide k1
      clear h1 k1
      go_wp2
      go_ret
      rw [HM.out]
      simp only [if_pos HU.out]
      exact ⟨⟨rfl, H1.out⟩, HK.out⟩
    · have hq1 : (u == t) = false := by simpa using hut
      rw [hq1] at hq
      have HU := hide hut
      clear hut hq1
      go_enter Tryz.func276, Tryz.ntmps276
      go_wp2_with fail
      refine HT.out.mono ?_
      rintro r w1 ⟨⟨rfl, h1⟩, k1⟩
      have H1 := hide h1
      have HK := hide k1
      clear h1 k1
      go_wp2
      go_ret
      rw [HM.out]
      simp only [if_neg HU.out]
      exact ⟨⟨rfl, s', H1.out, HS.out⟩, HK.out⟩

end

end Go.Proofs.YtdeplgkhmebalaaGreatDoor

namespace Go.Proofs.YtdeplgkhmebalaaGreatDoor
open Go.RowKit

section
variable {E : Env} {g : Nat} {w : World} {s : Bd}

theorem takeN_sunk {ts : List UInt8} (k : Nat) : ∀ {s s' : Bd}, takeN ts k s = some s' → Sunk s s' := by
  induction k with
  | zero => intro s s' h; cases h; exact Sunk.refl s
  | succ k ih =>
    intro s s' h
    rw [takeN] at h
    split at h
    · cases h
    · rename_i s1 h1
      exact (take_sunk h1).trans (ih h)

set_option maxRecDepth 100000 in
set_option maxHeartbeats 1000000 in
theorem takeAll_any (h : BSt E g w s) (hb : s.blocks ≠ []) (hbl : s.blocks.length ≤ 17) (hs : s.stack.length ≤ 1000000) {tv : Value} {ts : List UInt8} (ht : BytesAt w tv ts) (htl : ts.length ≤ 1000000) (hne : ∀ b, tv.ownBlock = some b → b ≠ E.bb) :
    Calls Tryz.prog 267 #[ptrTo E.bb, tv] w fun r w' => Took E g w' s (takeAllM s ts) r ∧ Kp (one E.bb) w w' := by
  have hM : takeAllM s ts = takeN ts ts.length s := rfl
  generalize takeAllM s ts = R at *
  obtain ⟨ad, cap, hv, hcap⟩ := ht.shape
  have H := hide h
  have HT := hide ht
  have HM := hide hM
  have HN := hide hne
  subst hv
  clear h ht hM hne
  go_enter Tryz.func267, Tryz.ntmps267
  go_wp2
  go_loopw [5] (fun kv wr => ∃ (k : Nat) (sk : Bd), k ≤ ts.length ∧ kv = .int .i64 ((k : Int) - 1) ∧ BSt E g wr sk ∧ Kp (one E.bb) w wr ∧ takeN ts k sk = takeN ts ts.length s ∧ Sunk s sk) (fun kv _ => ((intOf kv) + 1).toNat)
  case atStart => exact ⟨ts.length, s, Nat.le_refl _, rfl, H.out, Kp.refl _ _, rfl, Sunk.refl s⟩
  case round =>
    obtain ⟨k, sk, hk, rfl, hst, hkp, hg, hsk⟩ := hrel
    have hbk : sk.blocks ≠ [] ∧ sk.blocks.length ≤ 17 ∧ sk.stack.length ≤ 1000000 := by
      obtain ⟨l, rfl, hl⟩ := hsk
      exact ⟨hb, hbl, by simp only; omega⟩
    have HB := hide hbk
    have HS := hide hst
    have HK := hide hkp
    have HG := hide hg
    have HSk := hide hsk
    clear hst hkp hg hsk hbk
    by_cases hk0 : k = 0
    · have HG0 : takeN ts 0 sk = takeN ts ts.length s := by rw [← hk0]; exact HG.out
      have HG1 := hide HG0
      have hk1 : (k : Int) - 1 < 0 := by omega
      clear HG0 hk0
      go_wp2
      go_ret
      rw [HM.out, ← HG1.out]
      exact ⟨⟨rfl, HS.out⟩, HK.out⟩
    · obtain ⟨q, rfl⟩ : ∃ q, k = q + 1 := ⟨k - 1, by omega⟩
      have hq : (((q + 1 : Nat) : Int) - 1) = (q : Int) := by omega
      obtain ⟨a, o, cap', hv, _, hcell⟩ := BytesAt.get (HT.out.kp HK.out (fun b hb e => HN.out b hb e)) (show q < ts.length by omega)
      simp only [Value.slice.injEq] at hv
      obtain ⟨rfl, -, rfl⟩ := hv
      have hg := HG.out
      rw [takeN] at hg
      have htk := take_any' HS.out HB.out.1 HB.out.2.1 HB.out.2.2 (ts.getD q 0)
      have htsk := fun s' => take_sunk (s := sk) (s' := s') (u := ts.getD q 0)
      generalize ts.getD q 0 = t at *
      generalize takeM sk t = Q at *
      have HTk := hide htk
      clear htk HG
      rw [hq]
      match Q, HTk, hg, htsk with
      | none, HTk, hg, _ =>
        have HG := hide hg
        clear hg
        go_wp2_with fail
        refine HTk.out.mono ?_
        rintro r w1 ⟨⟨rfl, s1, h1, hs1⟩, k1⟩
        have H1 := hide h1
        have HS1 := hide hs1
        clear h1 hs1
        go_wp2
        go_ret
        rw [HM.out, ← HG.out]
        exact ⟨⟨rfl, s1, H1.out, HSk.out.trans HS1.out⟩, HK.out.trans k1⟩
      | some s1, HTk, hg, htsk =>
        have HG := hide hg
        have HS1 := hide (htsk s1 rfl)
        clear hg htsk
        go_wp2_with fail
        refine HTk.out.mono ?_
        rintro r w1 ⟨⟨rfl, h1⟩, k1⟩
        have H1 := hide h1
        clear h1
        go_wp2
        go_roundw
        case rel => exact ⟨q, s1, by omega, rfl, H1.out, HK.out.trans k1, HG.out, HSk.out.trans HS1.out⟩
        case measure => simp [intOf]

set_option maxHeartbeats 400000 in
theorem value_any (h : BSt E g w s) {k : Nat} (hk : k < s.blocks.length) :
    Calls Tryz.prog 288 #[.pointer (some ⟨g, k * 5, none⟩)] w fun r w' => (∃ v, r = .returned v ∧ BytesAt w v (valueM (s.bk k)) ∧ (∀ b, v.ownBlock = some b → b ≠ E.bb)) ∧ w' = w := by
  obtain ⟨role, sv, cv, kc, bs, h⟩ := h
  obtain ⟨rv, wv, hbs, hkd, hr, -, -, -⟩ := h.bk hk
  have hrb := h.results k _ hbs
  have hrr := h.rr k _ hbs
  have hr3 := h.r3
  have hM : valueM (s.bk k) = if (s.bk k).kind = 2 then [] else (s.bk k).result := rfl
  generalize valueM (s.bk k) = R at *
  generalize s.bk k = b at *
  obtain ⟨kd, res, ht, st, ws⟩ := b
  simp only at *
  obtain ⟨ad, cap, rfl, -⟩ := hrb.shape
  have HB := hide hrb
  have HR := hide hrr
  have H3 := hide hr3
  have HM := hide hM
  clear h hrb hrr hbs hr3 hM
  by_cases h2 : kd = 2
  · subst h2
    go_enter Tryz.func288, Tryz.ntmps288
    go_wp2
    go_ret
    rw [HM.out]
    exact ⟨⟨_, rfl, BytesAt.nil w, fun b hb => by cases hb⟩, rfl⟩
  · have hq : ((kd : Int) == 2) = false := by simp; omega
    go_enter Tryz.func288, Tryz.ntmps288
    go_wp2
    go_ret
    rw [HM.out, if_neg h2]
    exact ⟨⟨_, rfl, HB.out, fun b hb e => by have := (HR.out b hb).1; rw [e, H3.out] at this; cases this⟩, rfl⟩

end

end Go.Proofs.YtdeplgkhmebalaaGreatDoor
