/- What is reckoned: a list of functions that grows; an instance while another changes. -/
import Derived.Test.YtdeplgkhmebalaaGreatDoorReckB
import Derived.Test.YtdeplgkhmebalaaGreatDoorReckA
import Derived.Deep.DeepCutAuto

namespace Go.Proofs.YtdeplgkhmebalaaGreatDoor
open Go.RowKit

/-- A list's own memory is apart from what an element names. -/
def Sep (w : World) (v x : Value) : Prop := ∀ b, x.ownBlock = some b → v.ownBlock ≠ some b ∧ b < w.heap.size
/-- A list of functions in memory of its own. -/
def FnOwn (B : Nat) (w : World) (v : Value) (fs : List FnS) : Prop :=
  ∃ vs, w.ownsRow B 27 4 v fs.length vs ∧ ∀ k, k < fs.length → ∃ x0 x1 x2 x3, vs[k * 4]? = some x0 ∧ vs[k * 4 + 1]? = some x1 ∧ vs[k * 4 + 2]? = some x2 ∧ vs[k * 4 + 3]? = some x3 ∧
    (BytesAt w x0 (fs.getD k fnS0).params ∧ BytesAt w x1 (fs.getD k fnS0).results ∧ BytesAt w x2 (fs.getD k fnS0).locals ∧ BytesAt w x3 (fs.getD k fnS0).code) ∧ Sep w v x0 ∧ Sep w v x1 ∧ Sep w v x2 ∧ Sep w v x3
section
variable {B : Nat} {w W W' : World} {v x x0 x1 x2 x3 : Value} {fs : List FnS}
theorem FnOwn.nil : FnOwn B w (.slice none 0 0) [] := ⟨[], ⟨rfl, .inl ⟨rfl, rfl⟩⟩, fun k hk => absurd hk (by simp)⟩
theorem FnOwn.fns (h : FnOwn B w v fs) : FnsAt w v fs := by
  obtain ⟨vs, h1, h2⟩ := h
  refine ⟨vs, RowAt.own h1, fun k hk => ?_⟩
  obtain ⟨x0, x1, x2, x3, e0, e1, e2, e3, ⟨b0, b1, b2, b3⟩, -⟩ := h2 k hk
  exact ⟨x0, x1, x2, x3, e0, e1, e2, e3, b0, b1, b2, b3⟩
theorem Sep.grow (h : Sep W v x) (k : Kp no W W') : Sep W' v x := fun b hb => ⟨(h b hb).1, Nat.lt_of_lt_of_le (h b hb).2 k.size⟩
theorem FnOwn.quiet (h : FnOwn B W v fs) (k : Kp no W W') : FnOwn B W' v fs := by
  obtain ⟨vs, h1, h2⟩ := h
  refine ⟨vs, k.own h1 (fun _ _ h => h), fun j hj => ?_⟩
  obtain ⟨x0, x1, x2, x3, e0, e1, e2, e3, ⟨b0, b1, b2, b3⟩, s0, s1, s2, s3⟩ := h2 j hj
  exact ⟨x0, x1, x2, x3, e0, e1, e2, e3, ⟨b0.kq k, b1.kq k, b2.kq k, b3.kq k⟩, s0.grow k, s1.grow k, s2.grow k, s3.grow k⟩
theorem FnOwn.shape (h : FnOwn B W v fs) : ∃ ad cap, v = .slice ad fs.length cap := by
  obtain ⟨vs, h1, h2⟩ := h
  exact own_shape h1
theorem FnOwn.lt (h : FnOwn B W v fs) : ∀ b, v.ownBlock = some b → B ≤ b ∧ b < W.heap.size := by
  obtain ⟨vs, h1, h2⟩ := h
  exact World.ownsRow.lt h1
/-- One more. -/
theorem FnOwn.app {f : FnS} {vs : List Value} {g cap : Nat} (h1 : W.ownsRow B 27 4 v fs.length vs) (h2 : ∀ k, k < fs.length → ∃ x0 x1 x2 x3, vs[k * 4]? = some x0 ∧ vs[k * 4 + 1]? = some x1 ∧ vs[k * 4 + 2]? = some x2 ∧ vs[k * 4 + 3]? = some x3 ∧
    (BytesAt W x0 (fs.getD k fnS0).params ∧ BytesAt W x1 (fs.getD k fnS0).results ∧ BytesAt W x2 (fs.getD k fnS0).locals ∧ BytesAt W x3 (fs.getD k fnS0).code) ∧ Sep W v x0 ∧ Sep W v x1 ∧ Sep W v x2 ∧ Sep W v x3)
    (k' : Kp (fun y => v.ownBlock = some y) W W') (ho : W'.ownsRow B 27 4 (.slice (some ⟨g, 0, none⟩) (fs.length + 1) cap) (fs.length + 1) (vs ++ [x0, x1, x2, x3])) (hg : v.ownBlock = some g ∨ W.heap.size ≤ g)
    (hb : BytesAt W x0 f.params ∧ BytesAt W x1 f.results ∧ BytesAt W x2 f.locals ∧ BytesAt W x3 f.code) (s0 : Sep W v x0) (s1 : Sep W v x1) (s2 : Sep W v x2) (s3 : Sep W v x3) : FnOwn B W' (.slice (some ⟨g, 0, none⟩) (fs.length + 1) cap) (fs ++ [f]) := by
  have hsep : ∀ {x : Value}, Sep W v x → Sep W' (.slice (some ⟨g, 0, none⟩) (fs.length + 1) cap) x := by
    intro x hx b hxb
    obtain ⟨q1, q2⟩ := hx b hxb
    refine ⟨fun e => ?_, Nat.lt_of_lt_of_le q2 k'.size⟩
    obtain rfl : g = b := Option.some.inj e
    rcases hg with hg | hg
    · exact q1 hg
    · omega
  have hby : ∀ {x : Value} {l : List UInt8}, BytesAt W x l → Sep W v x → BytesAt W' x l := fun hx hs => RowAt.kp hx k' (fun b hb e => (hs b hb).1 e)
  have hlen : vs.length = fs.length * 4 := h1.1
  refine ⟨vs ++ [x0, x1, x2, x3], by rw [List.length_append]; exact ho, fun k hk => ?_⟩
  rw [List.length_append] at hk
  by_cases hkl : k < fs.length
  · obtain ⟨y0, y1, y2, y3, e0, e1, e2, e3, ⟨b0, b1, b2, b3⟩, t0, t1, t2, t3⟩ := h2 k hkl
    have eg : (fs ++ [f]).getD k fnS0 = fs.getD k fnS0 := by simp [List.getD_eq_getElem?_getD, List.getElem?_append_left hkl]
    rw [eg]
    exact ⟨y0, y1, y2, y3, by rw [List.getElem?_append_left (by omega)]; exact e0, by rw [List.getElem?_append_left (by omega)]; exact e1, by rw [List.getElem?_append_left (by omega)]; exact e2, by rw [List.getElem?_append_left (by omega)]; exact e3, ⟨hby b0 t0, hby b1 t1, hby b2 t2, hby b3 t3⟩, hsep t0, hsep t1, hsep t2, hsep t3⟩
  · obtain rfl : k = fs.length := by simp at hk; omega
    have eg : (fs ++ [f]).getD fs.length fnS0 = f := by simp [List.getD_eq_getElem?_getD]
    rw [eg]
    obtain ⟨b0, b1, b2, b3⟩ := hb
    have hi : ∀ j, (vs ++ [x0, x1, x2, x3])[fs.length * 4 + j]? = [x0, x1, x2, x3][j]? := fun j => by
      rw [List.getElem?_append_right (by omega), hlen]
      congr 1
      omega
    exact ⟨x0, x1, x2, x3, hi 0, hi 1, hi 2, hi 3, ⟨hby b0 s0, hby b1 s1, hby b2 s2, hby b3 s3⟩, hsep s0, hsep s1, hsep s2, hsep s3⟩
end
/-- An instance, while older blocks change. -/
theorem Inst.other {S : Nat → Prop} {w W W' : World} {jb tb : Nat} {f : Flat} {mem : List UInt8} {gl : List Int} {keys : List (Int × Int)} (h : Inst w W jb tb f mem gl keys) (k : Kp S W W') (hS : ∀ b, S b → b < w.heap.size ∧ ∃ cs t, W.heap[b]? = some (.cells cs t)) : Inst w W' jb tb f mem gl keys := by
  obtain ⟨⟨ro, mb, mv, gv, p, h1, h2, h3, h4, h5⟩, h6, h7⟩ := h
  refine ⟨⟨ro, mb, mv, gv, p, h1.kp k (fun hs => ?_) (fun b hb hs => ?_) (fun b hb hs => ?_) (fun b hb hs => ?_), ⟨k.blk h2.blk (fun hs => ?_), h2.map.kp k (fun b hb hs => ?_), h2.few⟩, h3, h4, h5⟩, h6, h7⟩
  · have := (hS _ hs).1
    omega
  · have := (hS _ hs).1
    have := h3 b hb
    omega
  · have := (hS _ hs).1
    have := h4 b hb
    omega
  · have := (hS _ hs).1
    have := h5 b hb
    omega
  · have := (hS _ hs).1
    omega
  · obtain ⟨cs, t, hc⟩ := (hS b hs).2
    exact h2.map.ne hc b hb rfl
theorem Inst.objs {w W : World} {ib tb : Nat} {f : Flat} {mem : List UInt8} {gl : List Int} {keys : List (Int × Int)} (h : Inst w W ib tb f mem gl keys) : (∀ b, ibtb ib tb b → ∃ cs t, W.heap[b]? = some (.cells cs t)) ∧ ib < W.heap.size ∧ tb < W.heap.size := by
  obtain ⟨⟨ro, mb, mv, gv, p, h1, h2, h3, h4, h5⟩, h6, h7⟩ := h
  refine ⟨?_, lt_of_blk h1.blk, lt_of_blk h2.blk⟩
  rintro b (rfl | rfl)
  · exact ⟨_, _, h1.blk⟩
  · exact ⟨_, _, h2.blk⟩
theorem combine_zero {wd : Bool} {k : Nat} {a b v : Int} {t : Nat} (h : combineR wd k a b = some (v, t)) (ht : t ≠ 0) : v = 0 := by
  unfold combineR at h
  split at h
  all_goals (repeat' split at h)
  all_goals first | (cases h; done) | (simp only [Option.some.injEq, Prod.mk.injEq] at h; omega)
/-- What a call of the first module gives. -/
theorem cb_told {w W : World} {ib tb : Nat} {wd : Bool} {k : Nat} {a b v : Int} {t : Nat} {av : Value} (hI : Inst w W ib tb (cbG wd) [] [5] []) (hk : k < 15) (ha : ValsAt W av [a, b]) (hav : ∀ y, av.ownBlock = some y → y ≠ ib ∧ y ≠ tb) (h0 : 0 ≤ a ∧ a < top wd) (h1 : 0 ≤ b ∧ b < top wd) (hc : combineR wd k a b = some (v, t)) :
    Calls Tryz.prog 27 #[ptrTo ib, .int .i64 k, av, .int .i64 3] W fun r w' => r = .returned (replyV 0 t v 3) ∧ Inst w w' ib tb (cbG wd) [] [5] [] ∧ Kp (ibtb ib tb) W w' := by
  obtain ⟨s', hs, e1, e2, e3⟩ := cb_call (mem := []) (gl := [5]) (keys := []) hk hc
  have hv : (if t = 0 then v else 0) = v := by
    split
    · rfl
    · rename_i ht
      exact (combine_zero hc ht).symm
  rw [hv] at hs
  have hty : ((cbG wd).funcs.getD k fn0).typ.1 = [tyR wd, tyR wd] := by
    unfold cbG
    simp [List.getD_eq_getElem?_getD, hk]
  have hfi : fitsM [a, b] [tyR wd, tyR wd] = true := by
    cases wd
    · simp only [top, Bool.false_eq_true, if_false] at h0 h1
      simp [fitsM, fitsAt, List.range, List.range.loop, tyR]
      omega
    · simp [fitsM, fitsAt, List.range, List.range.loop, tyR]
  have hrf : refusesM (cbG wd) ((k : Nat) : Int) [a, b] ((3 : Nat) : Int) = 0 := by
    unfold refusesM
    rw [if_neg (by simp [cbG]; omega), Int.toNat_natCast, hty, hfi, if_neg (by simp), if_neg (by omega)]
  refine (callI_keep (fuel := 3) hI (cb_ok wd).ok ha (by simp) hav hrf (by omega) hs ⟨by rw [e1]; simp, by rw [e2]; simp, by rw [e3]; simp⟩).mono ?_
  rintro r w' ⟨hr, hz, hn, hkk⟩
  refine ⟨hr, ?_, hkk⟩
  by_cases ht : t = 0
  · have := hz ht
    rwa [e1, e2, e3] at this
  · exact hn ht
/-- What a call of the second gives. -/
theorem cp_told {w W : World} {ib tb : Nat} {wd : Bool} {k : Nat} {a b : Int} {av : Value} (hI : Inst w W ib tb (cpG wd) [] [5] []) (hk : k < 10) (ha : ValsAt W av [a, b]) (hav : ∀ y, av.ownBlock = some y → y ≠ ib ∧ y ≠ tb) (h0 : 0 ≤ a ∧ a < top wd) (h1 : 0 ≤ b ∧ b < top wd) :
    Calls Tryz.prog 22 #[ptrTo ib, .int .i64 k, av, .int .u64 (truth (compareR wd k a b)), .int .i64 3] W fun r w' => r = .returned (.bool true) ∧ Inst w w' ib tb (cpG wd) [] [5] [] ∧ Kp (ibtb ib tb) W w' := by
  obtain ⟨s', hs, e1, e2, e3⟩ := cp_call (a := a) (b := b) (wd := wd) (mem := []) (gl := [5]) (keys := []) hk
  have hty : ((cpG wd).funcs.getD k fn0).typ.1 = [tyR wd, tyR wd] := by
    unfold cpG
    simp [List.getD_eq_getElem?_getD, hk]
  have hfi : fitsM [a, b] [tyR wd, tyR wd] = true := by
    cases wd
    · simp only [top, Bool.false_eq_true, if_false] at h0 h1
      simp [fitsM, fitsAt, List.range, List.range.loop, tyR]
      omega
    · simp [fitsM, fitsAt, List.range, List.range.loop, tyR]
  have hrf : refusesM (cpG wd) ((k : Nat) : Int) [a, b] ((100000 : Nat) : Int) = 0 := by
    unfold refusesM
    rw [if_neg (by simp [cpG]; omega), Int.toNat_natCast, hty, hfi, if_neg (by simp), if_neg (by omega)]
  refine (gives_keep hI (cp_ok wd).ok ha (by simp) hav hrf (by omega) hs ⟨by rw [e1]; simp, by rw [e2]; simp, by rw [e3]; simp⟩).mono ?_
  rintro r w' ⟨hr, hz, hkk⟩
  rw [e1, e2, e3] at hz
  exact ⟨hr, hz, hkk⟩
end Go.Proofs.YtdeplgkhmebalaaGreatDoor

namespace Go.Proofs.YtdeplgkhmebalaaGreatDoor
open Go.RowKit

theorem info_fn : (Tryz.prog.info? 27).map (fun i => (i.zero, i.size, i.bytes)) = some (some (.agg #[.slice none 0 0, .slice none 0 0, .slice none 0 0, .slice none 0 0]), 4, 96) := by kernel_rfl
def nOfR : Value → Nat
  | .int _ n => n.toNat
  | _ => 0
theorem opC_nat (wd : Bool) {k f : Nat} (_hk : k < 15) (hf : (if wd then 124 else 106 : Nat) = f) : IntKind.u8.wrap ((f : Int) + (k : Int)) = ((opC wd k).toNat : Int) := by
  subst hf
  unfold opC
  rw [IntKind.wrap_u8, UInt8.toNat_ofNat']
  cases wd
  · simp only [Bool.false_eq_true, if_false]
    omega
  · simp only [if_true]
    omega
theorem opP_nat (wd : Bool) {k f : Nat} (_hk : k < 10) (hf : (if wd then 81 else 70 : Nat) = f) : IntKind.u8.wrap ((f : Int) + (k : Int)) = ((opP wd k).toNat : Int) := by
  subst hf
  unfold opP
  rw [IntKind.wrap_u8, UInt8.toNat_ofNat']
  cases wd
  · simp only [Bool.false_eq_true, if_false]
    omega
  · simp only [if_true]
    omega
theorem new_four (W : World) (x0 x1 x2 x3 : Value) (t : TypeId) {H : Nat} (hH : W.heap.size = H) : ∀ (j : Nat) (u : Value), [x0, x1, x2, x3][j]? = some u → (W.alloc (.cells #[x0, x1, x2, x3] t)).cell? (Addr.add ⟨H, 0, none⟩ j) = some u := by
  subst hH
  intro j u hj
  rw [Addr.add_lit, Nat.zero_add, (cells_of (heap_alloc_new W (.cells #[x0, x1, x2, x3] t))).1]
  simpa using hj
theorem range_app (f : Nat → FnS) (k : Nat) : (List.range k).map f ++ [f k] = (List.range (k + 1)).map f := by
  rw [List.range_succ, List.map_append]
  rfl
theorem sep_nb {w w' W : World} {v x : Value} {l : List UInt8} (h : NB w w' x l) (hv : ∀ b, v.ownBlock = some b → b < w.heap.size) (hs : w'.heap.size ≤ W.heap.size) : Sep W v x := by
  intro b hb
  obtain ⟨h1, h2⟩ := World.ownsRow.lt h b hb
  exact ⟨fun e => by have := hv b e; omega, by omega⟩
theorem want_at (wd : Bool) {c d : Nat} (hc : c < top wd) (hd : d < top wd) : ∀ j, j < 10 → (#[Value.bool ((c : Int) == (d : Int)), Value.bool ((c : Int) != (d : Int)), Value.bool (decide (sgn wd c < sgn wd d)),
          Value.bool (decide (c < d)), Value.bool (decide (sgn wd d < sgn wd c)), Value.bool (decide (d < c)),
          Value.bool !decide (sgn wd d < sgn wd c), Value.bool (decide (c ≤ d)),
          Value.bool !decide (sgn wd c < sgn wd d), Value.bool (decide (d ≤ c))] : Array Value)[j]? = some (.bool (compareR wd j (c : Int) (d : Int))) := by
  have h1 := signR_eq wd hc
  have h2 := signR_eq wd hd
  intro j hj
  match j, hj with
  | 0, _ => rfl
  | 1, _ => rfl
  | 2, _ => simp [compareR, h1, h2]
  | 3, _ => simp [compareR]
  | 4, _ => simp [compareR, h1, h2]
  | 5, _ => simp [compareR]
  | 6, _ =>
    simp [compareR, h1, h2]
    by_cases h : sgn wd d < sgn wd c <;> simp [h] <;> omega
  | 7, _ => simp [compareR]
  | 8, _ =>
    simp [compareR, h1, h2]
    by_cases h : sgn wd c < sgn wd d <;> simp [h] <;> omega
  | 9, _ => simp [compareR]
  | n + 10, h => exact absurd h (by omega)
theorem sep_nil (W : World) (v : Value) : Sep W v (.slice none 0 0) := fun b hb => by cases hb

set_option maxRecDepth 100000 in
set_option maxHeartbeats 8000000 in
theorem reckons_any {w : World} (hR : RowsOk w) (a0 b0 : Nat) (ha0 : a0 < 18446744073709551616) (hb0 : b0 < 18446744073709551616) :
    Calls Tryz.prog 7 #[.int .u64 a0, .int .u64 b0] w fun r w' => r = .returned (.bool true) ∧ Kp no w w' := by
  obtain ⟨i0, hi0, hz0, hz1, hz2⟩ := info_parts info_fn
  have HR := hide hR
  clear hR
  go_enter Tryz.func7, Tryz.ntmps7
  go_wp2
  go_loopw [0, 1, 5] (fun av bv iv wr => ∃ (a b i : Nat), i ≤ 2 ∧ a < 18446744073709551616 ∧ b < 18446744073709551616 ∧ av = .int .u64 a ∧ bv = .int .u64 b ∧ iv = .int .i64 i ∧ Kp no w wr) (fun _ _ iv _ => 2 - nOfR iv)
  case atStart => exact ⟨a0, b0, 0, by omega, ha0, hb0, rfl, rfl, rfl, Kp.refl _ _⟩
  case round =>
    obtain ⟨a, b, i, hi, ha, hb, rfl, rfl, rfl, hkp⟩ := hrel
    obtain ⟨wq, hwq⟩ : ∃ wq, wq = wr := ⟨_, rfl⟩
    subst hwq
    have HKp := hide hkp
    clear hkp
    by_cases hi2 : i < 2
    · go_upto_if 33 with fail
      go_cut [0, 1, 6, 7, 8] (fun x0 x1 x6 x7 x8 wx => (∃ (wd : Bool) (c d : Nat), ((wd = true ∧ i = 0) ∨ (wd = false ∧ i = 1)) ∧ c < top wd ∧ d < top wd ∧ x0 = .int .u64 c ∧ x1 = .int .u64 d ∧ x6 = .int .u8 (tyR wd).toNat ∧ x7 = .int .u8 (if wd then 124 else 106 : Nat) ∧ x8 = .int .u8 (if wd then 81 else 70 : Nat)) ∧ wq = wx)
      case first =>
        by_cases hi0' : i = 0
        · subst hi0'
          go_wp2_with fail
          go_meet
          exact ⟨⟨true, a, b, .inl ⟨rfl, trivial⟩, ha, hb, rfl, rfl, rfl, rfl, rfl⟩, rfl⟩
        · obtain rfl : i = 1 := by omega
          have hma : (a : Int) % 4294967296 = ((a % 4294967296 : Nat) : Int) := rfl
          have hmb : (b : Int) % 4294967296 = ((b % 4294967296 : Nat) : Int) := rfl
          have hma2 : Int.tmod (a : Int) 4294967296 = ((a % 4294967296 : Nat) : Int) := by rw [Int.tmod_eq_emod_of_nonneg (by omega)]; rfl
          have hmb2 : Int.tmod (b : Int) 4294967296 = ((b % 4294967296 : Nat) : Int) := by rw [Int.tmod_eq_emod_of_nonneg (by omega)]; rfl
          have hla : a % 4294967296 < 4294967296 := Nat.mod_lt _ (by decide)
          have hlb : b % 4294967296 < 4294967296 := Nat.mod_lt _ (by decide)
          generalize a % 4294967296 = c at *
          generalize b % 4294967296 = d at *
          go_wp2_with fail
          go_meet
          exact ⟨⟨false, c, d, .inr ⟨rfl, trivial⟩, hla, hlb, rfl, rfl, rfl, rfl, rfl⟩, rfl⟩
      case rest =>
      obtain ⟨⟨wd, c, d, hwd, hc, hd, rfl, rfl, rfl, rfl, rfl⟩, rfl⟩ := hcut
      obtain ⟨fC, hfC⟩ : ∃ fC, (if wd then 124 else 106 : Nat) = fC := ⟨_, rfl⟩
      obtain ⟨fP, hfP⟩ : ∃ fP, (if wd then 81 else 70 : Nat) = fP := ⟨_, rfl⟩
      rw [hfC, hfP]
      have HFC := hide hfC
      have HFP := hide hfP
      have hc64 : c < 18446744073709551616 := Nat.lt_of_lt_of_le hc (top_le wd)
      have hd64 : d < 18446744073709551616 := Nat.lt_of_lt_of_le hd (top_le wd)
      have HC := hide hc
      have HDd := hide hd
      have HWd := hide hwd
      clear hfC hfP hc hd hwd ha hb
      go_wp2
      go_loopw [9, 11] (fun lv kv wr => ∃ (k : Nat), k ≤ 15 ∧ kv = .int .i64 k ∧ FnOwn wq.heap.size wr lv ((List.range k).map (cbFn wd)) ∧ Kp no wq wr) (fun _ kv _ => 15 - nOfR kv)
      case atStart => exact ⟨0, by omega, rfl, FnOwn.nil, Kp.refl _ _⟩
      case round =>
      obtain ⟨k, hk, rfl, hfo, hk1⟩ := hrel
      obtain ⟨adl, capl, hlv⟩ := hfo.shape
      rw [List.length_map, List.length_range] at hlv
      subst hlv
      have HFo := hide hfo
      have HK1 := hide hk1
      clear hfo hk1
      by_cases hkn : k < 15
      · have hop := opC_nat wd hkn HFC.out
        have hku : IntKind.u8.wrap (k : Int) = (k : Int) := by rw [IntKind.wrap_u8]; omega
        go_wp2_with fail
        refine (twoK_any _ (tyR wd)).mono ?_
        rintro r w20 ⟨⟨v20, rfl, h20⟩, k20⟩
        obtain ⟨a20, c20, hv20, -⟩ := h20.at.shape
        subst hv20
        have H20 := hide h20
        have K20 := hide k20
        clear h20 k20
        go_wp2_with fail
        refine (oneK_any _ (tyR wd)).mono ?_
        rintro r w21 ⟨⟨v21, rfl, h21⟩, k21⟩
        obtain ⟨a21, c21, hv21, -⟩ := h21.at.shape
        subst hv21
        have H21 := hide h21
        have K21 := hide k21
        clear h21 k21
        have kz : Kp no w21 ((w21.alloc (.cells (bcs [32, 0, 32, 1, opC wd k]).toArray 5)).alloc (.cells #[.slice a20 2 c20, .slice a21 1 c21, .slice none 0 0, .slice (some ⟨w21.heap.size, 0, none⟩) 5 5] 27)) := ((Kp.refl no w21).alloc _).alloc _
        have kw := K20.out.trans (K21.out.trans kz)
        obtain ⟨vs, ho3, hel3⟩ := HFo.out.quiet kw
        have HO3 := hide ho3
        have HEl := hide hel3
        have KZ := hide kz
        clear ho3 hel3 kz kw
        go_wp2_with (at_builtin; refine wpList_append_lies _ rfl _ _ 46 rfl wq.heap.size 27 i0 (.agg #[.slice none 0 0, .slice none 0 0, .slice none 0 0, .slice none 0 0]) 4 96 Tryz.underlying46 hi0 hz0 hz1 hz2 rfl (by decide) _ ((List.range k).map (cbFn wd)).length vs rfl HO3.out ⟨w21.heap.size + 1, 0, none⟩ 1 1 [.slice a20 2 c20, .slice a21 1 c21, .slice none 0 0, .slice (some ⟨w21.heap.size, 0, none⟩) 5 5] rfl rfl (new_four _ _ _ _ _ _ (by simp)) ?c1h (by decide) ?c1a ?c1b ?c1c (w21.heap.size + 2) (by simp) ?_)
        case c1h => intro u hu; simp at hu; rcases hu with rfl | rfl | rfl | rfl <;> rfl
        case c1a => simp [maxLen]; omega
        case c1b => simp; omega
        case c1c => have := HK1.out.size; have := K20.out.size; have := K21.out.size; simp; omega
        intro g22 cap22 w22 ho22 hgrow22 hg22 hlt22
        have s20 := K20.out.size
        have s21 := K21.out.size
        have hlt := fun y hy => (HFo.out.lt y hy).2
        have hsz : ((w21.alloc (.cells (bcs [32, 0, 32, 1, opC wd k]).toArray 5)).alloc (.cells #[.slice a20 2 c20, .slice a21 1 c21, .slice none 0 0, .slice (some ⟨w21.heap.size, 0, none⟩) 5 5] 27)).heap.size = w21.heap.size + 2 := by simp
        have hnew : FnOwn wq.heap.size w22 (.slice (some ⟨g22, 0, none⟩) (k + 1) cap22) ((List.range (k + 1)).map (cbFn wd)) := by
          have hc1 : NB w21 (w21.alloc (.cells (bcs [32, 0, 32, 1, opC wd k]).toArray 5)) (.slice (some ⟨w21.heap.size, 0, none⟩) 5 5) [32, 0, 32, 1, opC wd k] := NB.made w21 [32, 0, 32, 1, opC wd k] (by simp [maxLen])
          have kq : Kp no (w21.alloc (.cells (bcs [32, 0, 32, 1, opC wd k]).toArray 5)) ((w21.alloc (.cells (bcs [32, 0, 32, 1, opC wd k]).toArray 5)).alloc (.cells #[.slice a20 2 c20, .slice a21 1 c21, .slice none 0 0, .slice (some ⟨w21.heap.size, 0, none⟩) 5 5] 27)) := (Kp.refl _ _).alloc _
          have hap := FnOwn.app (f := cbFn wd k) HO3.out HEl.out ((Kp.refl _ _).grown hgrow22 (fun y hy => .inl hy)) (by first | exact ho22 | (rw [List.length_map, List.length_range]; exact ho22)) (hg22.imp id (fun e => by rw [e, hsz]; exact Nat.le_refl _))
            ⟨(H20.out.at.kq K21.out).kq KZ.out, H21.out.at.kq KZ.out, RowAt.nil _ 1, hc1.at.kq kq⟩
            (sep_nb H20.out hlt (by rw [hsz]; omega)) (sep_nb H21.out (fun y hy => Nat.lt_of_lt_of_le (hlt y hy) s20) (by rw [hsz]; omega)) (sep_nil _ _) (sep_nb hc1 (fun y hy => Nat.lt_of_lt_of_le (hlt y hy) (Nat.le_trans s20 s21)) (by rw [hsz]; simp))
          rw [range_app, List.length_map, List.length_range] at hap
          exact hap
        have HNew := hide hnew
        have K22 := hide ((HK1.out.trans (K20.out.trans (K21.out.trans KZ.out))).grown hgrow22 (fun y hy => .inr (HFo.out.lt y hy).1))
        clear hnew ho22 hgrow22 hg22 hlt22 hlt HO3 HEl hsz
        go_wp2
        go_roundw
        case rel => exact ⟨k + 1, by omega, by go_num, HNew.out, K22.out⟩
        case measure => simp [nOfR]; omega
      obtain rfl : k = 15 := by omega
      rw [show (((15 : Nat)) : Int) = 15 from rfl]
      obtain ⟨wm, hwm⟩ : ∃ wm, wm = wr := ⟨_, rfl⟩
      subst hwm
      have HMade := hide HFo.out.fns
      obtain ⟨adm, capm, hadm⟩ : ∃ ad cap, Value.slice adl 15 capl = .slice ad 15 cap := ⟨_, _, rfl⟩
      have KM := hide (HKp.out.trans HK1.out)
      clear HFo HK1 hadm
      go_wp2
      go_loopw [10, 12] (fun lv kv wr => ∃ (k : Nat), k ≤ 10 ∧ kv = .int .i64 k ∧ FnOwn wm.heap.size wr lv ((List.range k).map (cpFn wd)) ∧ Kp no wm wr) (fun _ kv _ => 10 - nOfR kv)
      case atStart => exact ⟨0, by omega, rfl, FnOwn.nil, Kp.refl _ _⟩
      case round =>
      obtain ⟨k, hk, rfl, hfo, hk1⟩ := hrel
      obtain ⟨adl, capl, hlv⟩ := hfo.shape
      rw [List.length_map, List.length_range] at hlv
      subst hlv
      have HFo := hide hfo
      have HK1 := hide hk1
      clear hfo hk1
      by_cases hkn : k < 10
      · have hop := opP_nat wd hkn HFP.out
        have hku : IntKind.u8.wrap (k : Int) = (k : Int) := by rw [IntKind.wrap_u8]; omega
        go_wp2_with fail
        refine (twoK_any _ (tyR wd)).mono ?_
        rintro r w20 ⟨⟨v20, rfl, h20⟩, k20⟩
        obtain ⟨a20, c20, hv20, -⟩ := h20.at.shape
        subst hv20
        have H20 := hide h20
        have K20 := hide k20
        clear h20 k20
        go_wp2_with fail
        refine (oneK_any _ 127).mono ?_
        rintro r w21 ⟨⟨v21, rfl, h21⟩, k21⟩
        obtain ⟨a21, c21, hv21, -⟩ := h21.at.shape
        subst hv21
        have H21 := hide h21
        have K21 := hide k21
        clear h21 k21
        have kz : Kp no w21 ((w21.alloc (.cells (bcs [32, 0, 32, 1, opP wd k]).toArray 5)).alloc (.cells #[.slice a20 2 c20, .slice a21 1 c21, .slice none 0 0, .slice (some ⟨w21.heap.size, 0, none⟩) 5 5] 27)) := ((Kp.refl no w21).alloc _).alloc _
        have kw := K20.out.trans (K21.out.trans kz)
        obtain ⟨vs, ho3, hel3⟩ := HFo.out.quiet kw
        have HO3 := hide ho3
        have HEl := hide hel3
        have KZ := hide kz
        clear ho3 hel3 kz kw
        go_wp2_with (at_builtin; refine wpList_append_lies _ rfl _ _ 46 rfl wm.heap.size 27 i0 (.agg #[.slice none 0 0, .slice none 0 0, .slice none 0 0, .slice none 0 0]) 4 96 Tryz.underlying46 hi0 hz0 hz1 hz2 rfl (by decide) _ ((List.range k).map (cpFn wd)).length vs rfl HO3.out ⟨w21.heap.size + 1, 0, none⟩ 1 1 [.slice a20 2 c20, .slice a21 1 c21, .slice none 0 0, .slice (some ⟨w21.heap.size, 0, none⟩) 5 5] rfl rfl (new_four _ _ _ _ _ _ (by simp)) ?c2h (by decide) ?c2a ?c2b ?c2c (w21.heap.size + 2) (by simp) ?_)
        case c2h => intro u hu; simp at hu; rcases hu with rfl | rfl | rfl | rfl <;> rfl
        case c2a => simp [maxLen]; omega
        case c2b => simp; omega
        case c2c => have := HK1.out.size; have := K20.out.size; have := K21.out.size; simp; omega
        intro g22 cap22 w22 ho22 hgrow22 hg22 hlt22
        have s20 := K20.out.size
        have s21 := K21.out.size
        have hlt := fun y hy => (HFo.out.lt y hy).2
        have hsz : ((w21.alloc (.cells (bcs [32, 0, 32, 1, opP wd k]).toArray 5)).alloc (.cells #[.slice a20 2 c20, .slice a21 1 c21, .slice none 0 0, .slice (some ⟨w21.heap.size, 0, none⟩) 5 5] 27)).heap.size = w21.heap.size + 2 := by simp
        have hnew : FnOwn wm.heap.size w22 (.slice (some ⟨g22, 0, none⟩) (k + 1) cap22) ((List.range (k + 1)).map (cpFn wd)) := by
          have hc1 : NB w21 (w21.alloc (.cells (bcs [32, 0, 32, 1, opP wd k]).toArray 5)) (.slice (some ⟨w21.heap.size, 0, none⟩) 5 5) [32, 0, 32, 1, opP wd k] := NB.made w21 [32, 0, 32, 1, opP wd k] (by simp [maxLen])
          have kq : Kp no (w21.alloc (.cells (bcs [32, 0, 32, 1, opP wd k]).toArray 5)) ((w21.alloc (.cells (bcs [32, 0, 32, 1, opP wd k]).toArray 5)).alloc (.cells #[.slice a20 2 c20, .slice a21 1 c21, .slice none 0 0, .slice (some ⟨w21.heap.size, 0, none⟩) 5 5] 27)) := (Kp.refl _ _).alloc _
          have hap := FnOwn.app (f := cpFn wd k) HO3.out HEl.out ((Kp.refl _ _).grown hgrow22 (fun y hy => .inl hy)) (by first | exact ho22 | (rw [List.length_map, List.length_range]; exact ho22)) (hg22.imp id (fun e => by rw [e, hsz]; exact Nat.le_refl _))
            ⟨(H20.out.at.kq K21.out).kq KZ.out, H21.out.at.kq KZ.out, RowAt.nil _ 1, hc1.at.kq kq⟩
            (sep_nb H20.out hlt (by rw [hsz]; omega)) (sep_nb H21.out (fun y hy => Nat.lt_of_lt_of_le (hlt y hy) s20) (by rw [hsz]; omega)) (sep_nil _ _) (sep_nb hc1 (fun y hy => Nat.lt_of_lt_of_le (hlt y hy) (Nat.le_trans s20 s21)) (by rw [hsz]; simp))
          rw [range_app, List.length_map, List.length_range] at hap
          exact hap
        have HNew := hide hnew
        have K22 := hide ((HK1.out.trans (K20.out.trans (K21.out.trans KZ.out))).grown hgrow22 (fun y hy => .inr (HFo.out.lt y hy).1))
        clear hnew ho22 hgrow22 hg22 hlt22 hlt HO3 HEl hsz
        go_wp2
        go_roundw
        case rel => exact ⟨k + 1, by omega, by go_num, HNew.out, K22.out⟩
        case measure => simp [nOfR]; omega
      obtain rfl : k = 10 := by omega
      rw [show (((10 : Nat)) : Int) = 10 from rfl]
      obtain ⟨wn, hwn⟩ : ∃ wn, wn = wr := ⟨_, rfl⟩
      subst hwn
      have hMd := module_keep (pages := 0) (HMade.out.kp HK1.out) (by simp) (by omega) (Nat.le_trans (cb_ok wd).len (by omega))
      have HCmp := hide HFo.out.fns
      have KN := hide (KM.out.trans HK1.out)
      have HMd := hide hMd
      clear hMd HMade HFo HK1 KM
      go_wp2_with fail
      refine HMd.out.mono ?_
      rintro r w30 ⟨⟨v30, rfl, h30⟩, k30⟩
      obtain ⟨a30, c30, hv30, -⟩ := h30.at.shape
      subst hv30
      have hS := started_keep h30.at h30.lt (HR.out.kp (KN.out.trans k30)) (Nat.le_trans (cb_ok wd).len (by omega)) (cb_ok wd).load (cb_ok wd).ok.pg (cb_ok wd).ok.gl
      rw [show List.replicate ((cbG wd).pages * 64) (0 : UInt8) = [] from rfl, show (cbG wd).globals.map (fun (n : Nat) => ((n : Nat) : Int)) = [5] from rfl] at hS
      have HS := hide hS
      have K30 := hide k30
      clear hS h30 k30 HMd
      go_wp2_with fail
      refine HS.out.mono ?_
      rintro r w31 ⟨⟨ib, tb, rfl, hI⟩, k31⟩
      have hMd2 := module_keep (pages := 0) ((HCmp.out.kp K30.out).kp k31) (by simp) (by omega) (Nat.le_trans (cp_ok wd).len (by omega))
      have HMd2 := hide hMd2
      have HI := hide hI
      have K31 := hide k31
      clear hMd2 hI k31 HS HCmp
      go_wp2_with fail
      refine HMd2.out.mono ?_
      rintro r w32 ⟨⟨v32, rfl, h32⟩, k32⟩
      obtain ⟨a32, c32, hv32, -⟩ := h32.at.shape
      subst hv32
      have hS2 := started_keep h32.at h32.lt (HR.out.kp (KN.out.trans (K30.out.trans (K31.out.trans k32)))) (Nat.le_trans (cp_ok wd).len (by omega)) (cp_ok wd).load (cp_ok wd).ok.pg (cp_ok wd).ok.gl
      rw [show List.replicate ((cpG wd).pages * 64) (0 : UInt8) = [] from rfl, show (cpG wd).globals.map (fun (n : Nat) => ((n : Nat) : Int)) = [5] from rfl] at hS2
      have HS2 := hide hS2
      have K32 := hide k32
      clear hS2 h32 k32 HMd2
      go_wp2_with fail
      refine HS2.out.mono ?_
      rintro r w33 ⟨⟨jb, ub, rfl, hJ⟩, k33⟩
      have hI33 := (HI.out.quiet K32.out).quiet k33
      have hIl := (HI.out.quiet K32.out).objs.2
      have hIb := HI.out.ib
      have hIt := HI.out.tb
      have hKw : Kp no w w33 := KN.out.trans (K30.out.trans (K31.out.trans (K32.out.trans k33)))
      have s30 : w.heap.size ≤ w30.heap.size := (KN.out.trans K30.out).size
      have s32 : w.heap.size ≤ w32.heap.size := (KN.out.trans (K30.out.trans (K31.out.trans K32.out))).size
      have HI33 := hide hI33
      have HJ := hide hJ
      have KW := hide hKw
      clear hI33 hJ k33 hKw HS2 HI KN K30 K31 K32
      obtain ⟨hwdi, hwdb⟩ : ((i : Int) == 1) = !wd ∧ True := by
        refine ⟨?_, trivial⟩
        rcases HWd.out with ⟨rfl, rfl⟩ | ⟨rfl, rfl⟩ <;> rfl
      go_wp2
      go_loopw [19] (fun kv wr => ∃ (k : Nat), k ≤ 15 ∧ kv = .int .i64 k ∧ Inst w30 wr ib tb (cbG wd) [] [5] [] ∧ Inst w32 wr jb ub (cpG wd) [] [5] [] ∧ Kp no w wr) (fun kv _ => 15 - nOfR kv)
      case atStart => exact ⟨0, by omega, rfl, HI33.out, HJ.out, KW.out⟩
      case round =>
      obtain ⟨k, hk, rfl, hi, hj, hkw⟩ := hrel
      have HIr := hide hi
      have HJr := hide hj
      have KWr := hide hkw
      clear hi hj hkw
      by_cases hkn : k < 15
      · have hres := result_any wr wd k hkn c d HC.out HDd.out
        have HRes := hide hres
        clear hres
        go_wp2_with fail
        refine HRes.out.mono ?_
        rintro r w40 ⟨⟨v, t, hcmb, rfl⟩, k40⟩
        have hI40 := HIr.out.quiet k40
        have hl40 := hI40.objs.2
        have hct := cb_told (hI40.quiet ((Kp.refl no w40).alloc (.cells (valCells [(c : Int), (d : Int)]).toArray 38))) hkn (ValsAt.made w40 [(c : Int), (d : Int)]) (fun y hy => by obtain rfl : w40.heap.size = y := Option.some.inj hy; omega) ⟨by omega, by have := HC.out; omega⟩ ⟨by omega, by have := HDd.out; omega⟩ hcmb
        have HCt := hide hct
        have K40 := hide k40
        clear hct hI40 k40 hcmb HRes
        go_wp2_with fail
        refine HCt.out.mono ?_
        rintro r w41 ⟨rfl, hI41, k41⟩
        have hJ41 : Inst w32 w41 jb ub (cpG wd) [] [5] [] := (((HJr.out.quiet K40.out).quiet ((Kp.refl no w40).alloc (.cells (valCells [(c : Int), (d : Int)]).toArray 38)))).other k41 (fun y hy => ⟨by rcases hy with rfl | rfl <;> omega, ((HIr.out.quiet K40.out).quiet ((Kp.refl no w40).alloc _)).objs.1 y hy⟩)
        have K41 := hide (((KWr.out.trans K40.out).alloc _).comp (S := no) k41 (fun _ _ h => h) (fun y hl hy => by rcases hy with rfl | rfl <;> omega))
        have HI41 := hide hI41
        have HJ41 := hide hJ41
        clear hI41 hJ41 k41 HCt
        go_wp2
        go_roundw
        case rel => exact ⟨k + 1, by omega, by go_num, HI41.out.quiet ((Kp.refl no w41).alloc _), HJ41.out.quiet ((Kp.refl no w41).alloc _), K41.out.alloc _⟩
        case measure => simp [nOfR]; omega
      obtain rfl : k = 15 := by omega
      rw [show (((15 : Nat)) : Int) = 15 from rfl]
      obtain ⟨wp, hwp⟩ : ∃ wp, wp = wr := ⟨_, rfl⟩
      subst hwp
      have hls := less_any wp wd c d HC.out HDd.out
      have HLs := hide hls
      clear hls HIr
      go_wp2_with fail
      refine HLs.out.mono ?_
      rintro r w50 ⟨rfl, k50⟩
      have hls2 := less_any w50 wd d c HDd.out HC.out
      have HLs2 := hide hls2
      have K50 := hide k50
      clear hls2 k50 HLs
      go_wp2_with fail
      refine HLs2.out.mono ?_
      rintro r w51 ⟨rfl, k51⟩
      have K51 := hide (KWr.out.trans (K50.out.trans k51))
      have HJ51 := hide ((HJr.out.quiet K50.out).quiet k51)
      clear k51 HLs2 K50 HJr KWr
      have hlj := HJ51.out.objs.2
      go_wp2_with fail
      go_loopw [26] (fun kv wr => ∃ (k : Nat), k ≤ 10 ∧ kv = .int .i64 k ∧ Inst w32 wr jb ub (cpG wd) [] [5] [] ∧ Kp no w wr ∧ ∀ j, j < 10 → wr.cell? ⟨w51.heap.size, j, none⟩ = some (.bool (compareR wd j (c : Int) (d : Int)))) (fun kv _ => 10 - nOfR kv)
      case atStart =>
        refine ⟨0, by omega, rfl, HJ51.out.quiet ((Kp.refl no w51).alloc _), K51.out.alloc _, fun j hj => ?_⟩
        rw [(cells_of (heap_alloc_new w51 _)).1]
        exact want_at wd HC.out HDd.out j hj
      case round =>
      obtain ⟨k, hk, rfl, hj, hkw, hcs⟩ := hrel
      have HJr := hide hj
      have KWr := hide hkw
      have HCs := hide hcs
      clear hj hkw hcs
      by_cases hkn : k < 10
      · have hck := fun obj => ((Kp.refl no wr).alloc obj).allCells (HCs.out k hkn)
        have hlw := HJr.out.objs.2
        have hct := cp_told (HJr.out.quiet ((Kp.refl no wr).alloc (.cells (valCells [(c : Int), (d : Int)]).toArray 38))) hkn (ValsAt.made wr [(c : Int), (d : Int)]) (fun y hy => by obtain rfl : wr.heap.size = y := Option.some.inj hy; omega) ⟨by omega, by have := HC.out; omega⟩ ⟨by omega, by have := HDd.out; omega⟩
        obtain ⟨Q, hQ⟩ : ∃ Q, compareR wd k (c : Int) (d : Int) = Q := ⟨_, rfl⟩
        rw [hQ] at hct hck
        have HCt := hide hct
        clear hct hQ
        go_wp2_with fail
        refine (bit_any _ Q).mono ?_
        rintro r w60 ⟨rfl, hw⟩
        rw [hw]
        clear hw w60
        go_wp2_with fail
        refine HCt.out.mono ?_
        rintro r w61 ⟨rfl, hJ61, k61⟩
        have hJb := HJ51.out.ib
        have hUb := HJ51.out.tb
        have K61 := hide ((KWr.out.alloc _).comp (S := no) k61 (fun _ _ h => h) (fun y hl hy => by rcases hy with rfl | rfl <;> omega))
        have HJ61 := hide hJ61
        have HC61 := hide (fun j hj => k61.cell (((Kp.refl no wr).alloc (.cells (valCells [(c : Int), (d : Int)]).toArray 38)).allCells (HCs.out j hj)) (fun e => by
          have e' : w51.heap.size = jb ∨ w51.heap.size = ub := e
          omega))
        clear hJ61 k61 HCt hck
        go_wp2
        go_roundw
        case rel => exact ⟨k + 1, by omega, by go_num, HJ61.out, K61.out, HC61.out⟩
        case measure => simp [nOfR]; omega
      obtain rfl : k = 10 := by omega
      go_wp2
      go_roundw
      case rel => exact ⟨c, d, i + 1, by omega, hc64, hd64, rfl, rfl, by go_num, KWr.out⟩
      case measure => simp [nOfR]; omega
    · obtain rfl : i = 2 := by omega
      go_wp2
      go_ret
      exact ⟨rfl, HKp.out⟩
/-- For any two numbers. -/
theorem reckonsW_any {w : World} (hR : RowsOk w) (a0 a1 : Int) (h1 : 0 ≤ a0) (h2 : a0 < 18446744073709551616) (h3 : 0 ≤ a1) (h4 : a1 < 18446744073709551616) :
    Calls Tryz.prog 7 #[.int .u64 a0, .int .u64 a1] w fun r w' => r = .returned (.bool true) ∧ Kp no w w' := by
  obtain ⟨n, rfl⟩ : ∃ n : Nat, a0 = n := ⟨a0.toNat, by omega⟩
  obtain ⟨m, rfl⟩ : ∃ m : Nat, a1 = m := ⟨a1.toNat, by omega⟩
  exact reckons_any hR n m (by omega) (by omega)
end Go.Proofs.YtdeplgkhmebalaaGreatDoor
