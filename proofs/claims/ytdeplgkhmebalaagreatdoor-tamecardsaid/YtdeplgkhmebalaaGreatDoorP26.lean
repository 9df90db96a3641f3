/- The run of a module's code: what is reckoned. -/
import Derived.Test.YtdeplgkhmebalaaGreatDoorP09
import Derived.Test.YtdeplgkhmebalaaGreatDoorP25
import Derived.Test.YtdeplgkhmebalaaGreatDoorP06

namespace Go.Proofs.YtdeplgkhmebalaaGreatDoor
open Go.RowKit
def truth (b : Bool) : Int := if b then 1 else 0
def compareB (wd : Bool) (k : Nat) (s : Mc) : Option (Nat × Mc) :=
  if 2 ≤ s.stack.length then some (0, putR (popR (popR s)) (truth (compareR wd k (topR (popR s)) (topR s)))) else none
def combineB (wd : Bool) (k : Nat) (s : Mc) : Option (Nat × Mc) :=
  if 2 ≤ s.stack.length then match combineR wd k (topR (popR s)) (topR s) with
    | none => none
    | some (v, t) => if t = 0 then some (0, putR (popR (popR s)) v) else some (t, popR (popR s))
  else none
def reckonR (s : Mc) (op : Nat) : Option (Nat × Mc) :=
  if op = 69 ∨ op = 80 then (if s.stack.length = 0 then none else some (0, putR (popR s) (truth (topR s == 0))))
  else if 70 ≤ op ∧ op ≤ 79 then compareB false (op - 70) s
  else if 81 ≤ op ∧ op ≤ 90 then compareB true (op - 81) s
  else if 106 ≤ op ∧ op ≤ 120 then combineB false (op - 106) s
  else if 124 ≤ op ∧ op ≤ 138 then combineB true (op - 124) s
  else if op = 167 then (if s.stack.length = 0 then none else some (0, putR (popR s) (cutR false (topR s))))
  else if op = 172 then (if s.stack.length = 0 then none else some (0, putR (popR s) (IntKind.u64.wrap (signR false (topR s)))))
  else if op = 173 then some (0, s)
  else none
section
variable {E : MEnv} {w : World} {s : Mc}
set_option maxRecDepth 100000 in
set_option maxHeartbeats 1000000 in
theorem putTruth_any (h : MSt E w s) (b : Bool) (hs : s.stack.length ≤ 1000000000) :
    Calls Tryz.prog 170 #[ptrTo E.mb, .bool b] w fun r w' => r = .returned (.tuple #[]) ∧ MSt E w' (putR s (truth b)) ∧ Kp (upm E) w w' := by
  have hp := fun v => putR_any h v hs
  have HP := hide hp
  clear h hp
  cases b
  all_goals
    go_enter Tryz.func170, Tryz.ntmps170
    go_wp2_with fail
    refine (HP.out _).mono ?_
    rintro e w1 ⟨rfl, h1, k1⟩
    go_wp2
    go_end0
    exact ⟨rfl, h1, k1⟩
theorem two_len (hs : 2 ≤ s.stack.length) (hb : s.stack.length ≤ 1000000000) : 0 < (popR s).stack.length ∧ (popR s).stack.length ≤ 1000000000 ∧ (popR (popR s)).stack.length ≤ 1000000000 := by
  have e1 : (popR s).stack.length = s.stack.length - 1 := by unfold popR; simp
  have e2 := pop_len (popR s)
  omega
set_option maxRecDepth 100000 in
set_option maxHeartbeats 1000000 in
theorem mcompare_any (h : MSt E w s) (hs0 : 2 ≤ s.stack.length) (hs : s.stack.length ≤ 1000000000) (wd : Bool) (k : Nat) (hk : k < 10) :
    Calls Tryz.prog 171 #[ptrTo E.mb, wV wd, .int .u8 k] w fun r w' => r = .returned (.tuple #[]) ∧ MSt E w' (putR (popR (popR s)) (truth (compareR wd k (topR (popR s)) (topR s)))) ∧ Kp (upm E) w w' := by
  obtain ⟨l1, l2, l3⟩ := two_len hs0 hs
  have t1 := takeR_any h (by omega) hs
  have t2 := fun W (hW : MSt E W (popR s)) => takeR_any hW l1 l2
  have c1 := fun W => wcompare_any wd k hk (topR (popR s)) (topR s) W
  have p1 := fun b W (hW : MSt E W (popR (popR s))) => putTruth_any hW b l3
  generalize compareR wd k (topR (popR s)) (topR s) = R at *
  generalize topR (popR s) = a at *
  generalize topR s = b at *
  generalize wV wd = v at *
  have T1 := hide t1
  have T2 := hide t2
  have C1 := hide c1
  have P1 := hide p1
  clear h t1 t2 c1 p1
  go_enter Tryz.func171, Tryz.ntmps171
  go_wp2_with fail
  refine T1.out.mono ?_
  rintro e w1 ⟨rfl, h1, k1⟩
  go_wp2_with fail
  refine (T2.out _ h1).mono ?_
  rintro e w2 ⟨rfl, h2, k2⟩
  go_wp2_with fail
  refine (C1.out _).mono ?_
  rintro e w3 ⟨rfl, k3⟩
  go_wp2_with fail
  refine (P1.out _ _ (h2.quiet k3)).mono ?_
  rintro e w4 ⟨rfl, h4, k4⟩
  go_wp2
  go_end0
  exact ⟨rfl, h4, ((k1.trans k2).trans k3.any).trans k4⟩
set_option maxRecDepth 100000 in
set_option maxHeartbeats 1000000 in
theorem mcombine_any (h : MSt E w s) (hs : s.stack.length ≤ 1000000000) (wd : Bool) (k : Nat) (hk : k < 15) {t : Nat} {s' : Mc} (hm : combineB wd k s = some (t, s')) :
    Calls Tryz.prog 173 #[ptrTo E.mb, wV wd, .int .u8 k] w fun r w' => r = .returned (.int .i64 t) ∧ MSt E w' s' ∧ Kp (upm E) w w' := by
  unfold combineB at hm
  split at hm
  · rename_i hs0
    obtain ⟨l1, l2, l3⟩ := two_len hs0 hs
    have t1 := takeR_any h (by omega) hs
    have t2 := fun W (hW : MSt E W (popR s)) => takeR_any hW l1 l2
    have p1 := fun b W (hW : MSt E W (popR (popR s))) => putR_any hW b l3
    split at hm
    · cases hm
    · rename_i v t' hc
      have c1 := fun W => wcombine_any wd k hk (topR (popR s)) (topR s) W hc
      generalize topR (popR s) = a at *
      generalize topR s = b at *
      generalize wV wd = wv at *
      have T1 := hide t1
      have T2 := hide t2
      have C1 := hide c1
      have P1 := hide p1
      clear h t1 t2 c1 p1 hc
      split at hm
      · rename_i ht
        cases hm
        subst ht
        go_enter Tryz.func173, Tryz.ntmps173
        go_wp2_with fail
        refine T1.out.mono ?_
        rintro e w1 ⟨rfl, h1, k1⟩
        go_wp2_with fail
        refine (T2.out _ h1).mono ?_
        rintro e w2 ⟨rfl, h2, k2⟩
        go_wp2_with fail
        refine (C1.out _).mono ?_
        rintro e w3 ⟨rfl, k3⟩
        go_wp2_with fail
        refine (P1.out _ _ (h2.quiet k3)).mono ?_
        rintro e w4 ⟨rfl, h4, k4⟩
        go_wp2
        go_ret
        exact ⟨rfl, h4, ((k1.trans k2).trans k3.any).trans k4⟩
      · rename_i ht
        cases hm
        have ht' : ((t : Int) == 0) = false := by simpa using ht
        clear ht
        go_enter Tryz.func173, Tryz.ntmps173
        go_wp2_with fail
        refine T1.out.mono ?_
        rintro e w1 ⟨rfl, h1, k1⟩
        go_wp2_with fail
        refine (T2.out _ h1).mono ?_
        rintro e w2 ⟨rfl, h2, k2⟩
        go_wp2_with fail
        refine (C1.out _).mono ?_
        rintro e w3 ⟨rfl, k3⟩
        go_wp2
        go_ret
        exact ⟨rfl, h2.quiet k3, (k1.trans k2).trans k3.any⟩
  · cases hm
set_option maxRecDepth 100000 in
set_option maxHeartbeats 1000000 in
theorem reckon_zero (h : MSt E w s) (hs0 : 0 < s.stack.length) (hs : s.stack.length ≤ 1000000000) {op : Nat} (hop : op = 69 ∨ op = 80) :
    Calls Tryz.prog 137 #[ptrTo E.mb, .int .u8 op] w fun r w' => r = .returned (.int .i64 0) ∧ MSt E w' (putR (popR s) (truth (topR s == 0))) ∧ Kp (upm E) w w' := by
  have t1 := takeR_any h hs0 hs
  have p1 := fun b W (hW : MSt E W (popR s)) => putTruth_any hW b (Nat.le_trans (pop_len s) hs)
  generalize topR s = a at *
  have T1 := hide t1
  have P1 := hide p1
  clear h t1 p1
  rcases hop with rfl | rfl
  all_goals
    go_enter Tryz.func137, Tryz.ntmps137
    go_wp2_with fail
    refine T1.out.mono ?_
    rintro e w1 ⟨rfl, h1, k1⟩
    go_wp2_with fail
    refine (P1.out _ _ h1).mono ?_
    rintro e w2 ⟨rfl, h2, k2⟩
    go_wp2
    go_ret
    exact ⟨rfl, h2, k1.trans k2⟩
set_option maxRecDepth 100000 in
set_option maxHeartbeats 1000000 in
theorem reckon_compare (h : MSt E w s) (hs0 : 2 ≤ s.stack.length) (hs : s.stack.length ≤ 1000000000) {op : Nat} (wd : Bool) (hop : (wd = false ∧ 70 ≤ op ∧ op ≤ 79) ∨ (wd = true ∧ 81 ≤ op ∧ op ≤ 90)) :
    Calls Tryz.prog 137 #[ptrTo E.mb, .int .u8 op] w fun r w' => r = .returned (.int .i64 0) ∧ MSt E w' (putR (popR (popR s)) (truth (compareR wd (op - (if wd then 81 else 70)) (topR (popR s)) (topR s)))) ∧ Kp (upm E) w w' := by
  have c1 := mcompare_any h hs0 hs wd (op - (if wd then 81 else 70)) (by rcases hop with ⟨rfl, a, b⟩ | ⟨rfl, a, b⟩ <;> simp <;> omega)
  generalize putR (popR (popR s)) (truth (compareR wd (op - (if wd then 81 else 70)) (topR (popR s)) (topR s))) = R at *
  have n1 : ((op : Int) == 69) = false := by simp only [beq_eq_false_iff_ne]; rcases hop with ⟨-, a, b⟩ | ⟨-, a, b⟩ <;> omega
  have n2 : ((op : Int) == 80) = false := by simp only [beq_eq_false_iff_ne]; rcases hop with ⟨-, a, b⟩ | ⟨-, a, b⟩ <;> omega
  rcases hop with ⟨rfl, a, b⟩ | ⟨rfl, a, b⟩
  · have ha : (70 : Int) ≤ op := by omega
    have hb : (op : Int) ≤ 79 := by omega
    have hw : IntKind.u8.wrap ((op : Int) - 70) = ((op - 70 : Nat) : Int) := by rw [IntKind.wrap_u8]; omega
    have c2 : Calls Tryz.prog 171 #[ptrTo E.mb, .int .u64 32, .int .u8 (op - 70 : Nat)] w fun r w' => r = .returned (.tuple #[]) ∧ MSt E w' R ∧ Kp (upm E) w w' := c1
    have C1 := hide c2
    clear h c1 c2 a b
    generalize op - 70 = k at *
    go_enter Tryz.func137, Tryz.ntmps137
    go_wp2_with fail
    refine C1.out.mono ?_
    rintro e w1 ⟨rfl, h1, k1⟩
    go_wp2
    go_ret
    exact ⟨rfl, h1, k1⟩
  · have ha : (81 : Int) ≤ op := by omega
    have hb : (op : Int) ≤ 90 := by omega
    have hw : IntKind.u8.wrap ((op : Int) - 81) = ((op - 81 : Nat) : Int) := by rw [IntKind.wrap_u8]; omega
    have c2 : Calls Tryz.prog 171 #[ptrTo E.mb, .int .u64 64, .int .u8 (op - 81 : Nat)] w fun r w' => r = .returned (.tuple #[]) ∧ MSt E w' R ∧ Kp (upm E) w w' := c1
    have C1 := hide c2
    clear h c1 c2 a b
    generalize op - 81 = k at *
    go_enter Tryz.func137, Tryz.ntmps137
    go_wp2_with fail
    refine C1.out.mono ?_
    rintro e w1 ⟨rfl, h1, k1⟩
    go_wp2
    go_ret
    exact ⟨rfl, h1, k1⟩
set_option maxRecDepth 100000 in
set_option maxHeartbeats 1000000 in
theorem reckon_combine (h : MSt E w s) (hs : s.stack.length ≤ 1000000000) {op : Nat} (wd : Bool) (hop : (wd = false ∧ 106 ≤ op ∧ op ≤ 120) ∨ (wd = true ∧ 124 ≤ op ∧ op ≤ 138)) {t : Nat} {s' : Mc} (hm : combineB wd (op - (if wd then 124 else 106)) s = some (t, s')) :
    Calls Tryz.prog 137 #[ptrTo E.mb, .int .u8 op] w fun r w' => r = .returned (.int .i64 t) ∧ MSt E w' s' ∧ Kp (upm E) w w' := by
  have c1 := mcombine_any h hs wd (op - (if wd then 124 else 106)) (by rcases hop with ⟨rfl, a, b⟩ | ⟨rfl, a, b⟩ <;> simp <;> omega) hm
  have n1 : ((op : Int) == 69) = false := by simp only [beq_eq_false_iff_ne]; rcases hop with ⟨-, a, b⟩ | ⟨-, a, b⟩ <;> omega
  have n2 : ((op : Int) == 80) = false := by simp only [beq_eq_false_iff_ne]; rcases hop with ⟨-, a, b⟩ | ⟨-, a, b⟩ <;> omega
  rcases hop with ⟨rfl, a, b⟩ | ⟨rfl, a, b⟩
  · have ha : (106 : Int) ≤ op := by omega
    have hb : (op : Int) ≤ 120 := by omega
    have hw : IntKind.u8.wrap ((op : Int) - 106) = ((op - 106 : Nat) : Int) := by rw [IntKind.wrap_u8]; omega
    have c2 : Calls Tryz.prog 173 #[ptrTo E.mb, .int .u64 32, .int .u8 (op - 106 : Nat)] w fun r w' => r = .returned (.int .i64 t) ∧ MSt E w' s' ∧ Kp (upm E) w w' := c1
    have C1 := hide c2
    clear h c1 c2 a b hm
    generalize op - 106 = k at *
    go_enter Tryz.func137, Tryz.ntmps137
    go_wp2_with fail
    refine C1.out.mono ?_
    rintro e w1 ⟨rfl, h1, k1⟩
    go_wp2
    go_ret
    exact ⟨rfl, h1, k1⟩
  · have ha : (124 : Int) ≤ op := by omega
    have hb : (op : Int) ≤ 138 := by omega
    have hw : IntKind.u8.wrap ((op : Int) - 124) = ((op - 124 : Nat) : Int) := by rw [IntKind.wrap_u8]; omega
    have c2 : Calls Tryz.prog 173 #[ptrTo E.mb, .int .u64 64, .int .u8 (op - 124 : Nat)] w fun r w' => r = .returned (.int .i64 t) ∧ MSt E w' s' ∧ Kp (upm E) w w' := c1
    have C1 := hide c2
    clear h c1 c2 a b hm
    generalize op - 124 = k at *
    go_enter Tryz.func137, Tryz.ntmps137
    go_wp2_with fail
    refine C1.out.mono ?_
    rintro e w1 ⟨rfl, h1, k1⟩
    go_wp2
    go_ret
    exact ⟨rfl, h1, k1⟩
set_option maxRecDepth 100000 in
set_option maxHeartbeats 1000000 in
theorem reckon_lower (h : MSt E w s) (hs0 : 0 < s.stack.length) (hs : s.stack.length ≤ 1000000000) :
    Calls Tryz.prog 137 #[ptrTo E.mb, .int .u8 167] w fun r w' => r = .returned (.int .i64 0) ∧ MSt E w' (putR (popR s) (cutR false (topR s))) ∧ Kp (upm E) w w' := by
  have t1 := takeR_any h hs0 hs
  have p1 := fun b W (hW : MSt E W (popR s)) => putR_any hW b (Nat.le_trans (pop_len s) hs)
  have c1 : ∀ n W, Calls Tryz.prog 174 #[.int .u64 32, .int .u64 n] W fun r w' => r = .returned (.int .u64 (cutR false n)) ∧ w' = W := fun n W => cut_any false n W
  generalize topR s = a at *
  have T1 := hide t1
  have P1 := hide p1
  have C1 := hide c1
  clear h t1 p1 c1
  go_enter Tryz.func137, Tryz.ntmps137
  go_wp2_with fail
  refine T1.out.mono ?_
  rintro e w1 ⟨rfl, h1, k1⟩
  go_wp2_with fail
  refine (C1.out _ _).mono ?_
  rintro e w2 ⟨rfl, rfl⟩
  go_wp2_with fail
  refine (P1.out _ _ h1).mono ?_
  rintro e w2 ⟨rfl, h2, k2⟩
  go_wp2
  go_ret
  exact ⟨rfl, h2, k1.trans k2⟩
set_option maxRecDepth 100000 in
set_option maxHeartbeats 1000000 in
theorem reckon_widenS (h : MSt E w s) (hs0 : 0 < s.stack.length) (hs : s.stack.length ≤ 1000000000) :
    Calls Tryz.prog 137 #[ptrTo E.mb, .int .u8 172] w fun r w' => r = .returned (.int .i64 0) ∧ MSt E w' (putR (popR s) (IntKind.u64.wrap (signR false (topR s)))) ∧ Kp (upm E) w w' := by
  have t1 := takeR_any h hs0 hs
  have p1 := fun b W (hW : MSt E W (popR s)) => putR_any hW b (Nat.le_trans (pop_len s) hs)
  have c1 : ∀ n W, Calls Tryz.prog 175 #[.int .u64 32, .int .u64 n] W fun r w' => r = .returned (.int .i64 (signR false n)) ∧ w' = W := fun n W => wsigned_any false n W
  generalize topR s = a at *
  have T1 := hide t1
  have P1 := hide p1
  have C1 := hide c1
  clear h t1 p1 c1
  go_enter Tryz.func137, Tryz.ntmps137
  go_wp2_with fail
  refine T1.out.mono ?_
  rintro e w1 ⟨rfl, h1, k1⟩
  go_wp2_with fail
  refine (C1.out _ _).mono ?_
  rintro e w2 ⟨rfl, rfl⟩
  go_wp2_with fail
  refine (P1.out _ _ h1).mono ?_
  rintro e w2 ⟨rfl, h2, k2⟩
  go_wp2
  go_ret
  exact ⟨rfl, h2, k1.trans k2⟩
set_option maxRecDepth 100000 in
set_option maxHeartbeats 1000000 in
theorem reckon_widen (h : MSt E w s) :
    Calls Tryz.prog 137 #[ptrTo E.mb, .int .u8 173] w fun r w' => r = .returned (.int .i64 0) ∧ MSt E w' s ∧ Kp (upm E) w w' := by
  have H := hide h
  clear h
  go_enter Tryz.func137, Tryz.ntmps137
  go_wp2
  go_ret
  exact ⟨rfl, H.out, Kp.refl _ _⟩
theorem reckon_any (h : MSt E w s) (hs : s.stack.length ≤ 1000000000) {op : Nat} {t : Nat} {s' : Mc} (hm : reckonR s op = some (t, s')) :
    Calls Tryz.prog 137 #[ptrTo E.mb, .int .u8 op] w fun r w' => r = .returned (.int .i64 t) ∧ MSt E w' s' ∧ Kp (upm E) w w' := by
  unfold reckonR at hm
  split at hm
  · rename_i hop
    split at hm
    · cases hm
    · cases hm; exact reckon_zero h (by omega) hs hop
  split at hm
  · rename_i hop
    unfold compareB at hm
    split at hm
    · rename_i hl; cases hm; exact reckon_compare h hl hs false (.inl ⟨rfl, hop.1, hop.2⟩)
    · cases hm
  split at hm
  · rename_i hop
    unfold compareB at hm
    split at hm
    · rename_i hl; cases hm; exact reckon_compare h hl hs true (.inr ⟨rfl, hop.1, hop.2⟩)
    · cases hm
  split at hm
  · rename_i hop; exact reckon_combine h hs false (.inl ⟨rfl, hop.1, hop.2⟩) hm
  split at hm
  · rename_i hop; exact reckon_combine h hs true (.inr ⟨rfl, hop.1, hop.2⟩) hm
  split at hm
  · rename_i hop
    split at hm
    · cases hm
    · cases hm; subst hop; exact reckon_lower h (by omega) hs
  split at hm
  · rename_i hop
    split at hm
    · cases hm
    · cases hm; subst hop; exact reckon_widenS h (by omega) hs
  split at hm
  · rename_i hop; cases hm; subst hop; exact reckon_widen h
  · cases hm
end
open Go.Maps (Keyed)
def putKey (m : List (Int × Int)) (k v : Int) : List (Int × Int) := if (look m k).isSome then m.map (fun p => if p.1 = k then (k, v) else p) else m ++ [(k, v)]
theorem look_none {m : List (Int × Int)} {k : Int} (h : look m k = none) : ∀ p ∈ m, p.1 ≠ k := by
  intro p hp e
  unfold look at h
  rw [Option.map_eq_none_iff, List.find?_eq_none] at h
  exact h p hp (by simpa using e)
theorem look_cons (p : Int × Int) (m : List (Int × Int)) (k : Int) : look (p :: m) k = if p.1 = k then some p.2 else look m k := by
  unfold look
  rw [List.find?_cons]
  by_cases h : p.1 = k
  · simp [h]
  · have hb : (p.1 == k) = false := by simpa using h
    simp only [hb, if_neg h]
theorem look_app (m : List (Int × Int)) (p : Int × Int) (k : Int) : look (m ++ [p]) k = match look m k with | some v => some v | none => if p.1 = k then some p.2 else none := by
  induction m with
  | nil => simp [look]
  | cons q m ih =>
    rw [List.cons_append, look_cons, look_cons]
    by_cases h : q.1 = k
    · simp [h]
    · simp [h, ih]
theorem look_set (m : List (Int × Int)) (k v k' : Int) : look (m.map (fun p => if p.1 = k then (k, v) else p)) k' = if k' = k then (look m k).map (fun _ => v) else look m k' := by
  induction m with
  | nil => simp [look]
  | cons q m ih =>
    rw [List.map_cons, look_cons, look_cons, look_cons, ih]
    by_cases hq : q.1 = k
    · rw [if_pos hq]
      by_cases hk : k' = k
      · subst hk; simp [hq]
      · simp [hk, hq, Ne.symm hk]
    · rw [if_neg hq]
      by_cases hk : k' = k
      · subst hk; simp [hq]
      · simp [hk]
theorem look_put (m : List (Int × Int)) (k v k' : Int) : look (putKey m k v) k' = if k' = k then some v else look m k' := by
  unfold putKey
  split
  · rename_i h
    rw [look_set]
    obtain ⟨x, hx⟩ := Option.isSome_iff_exists.1 h
    split
    · rw [hx]; rfl
    · rfl
  · rename_i h
    have hn : look m k = none := by simpa using h
    rw [look_app]
    by_cases hk : k' = k
    · subst hk; simp [hn]
    · rw [if_neg hk]
      cases hl : look m k' with
      | none => simp [Ne.symm hk]
      | some x => rfl
theorem putKey_len (m : List (Int × Int)) (k v : Int) : (putKey m k v).length = if (look m k).isSome then m.length else m.length + 1 := by
  unfold putKey
  split <;> simp
theorem KRep.put {D : DataW Unit} {m : List (Int × Int)} (h : KRep D m) (ht : Maps.Tidy D) (hm : Maps.IsMap D) {k v : Int} (hk : WideAt.IsKeyLit (.int .i64 k)) : KRep (D.put (.int .i64 k) (.lit (.int .i64 v))) (putKey m k v) := by
  obtain ⟨h1, h2⟩ := h
  refine ⟨?_, fun k' => ?_⟩
  · rw [Maps.size_put ht, putKey_len, (h2 k).1, h1]
  · rw [look_put]
    by_cases e : k' = k
    · subst e
      rw [Maps.has_put_same hm hk, Maps.atKey_put_same hm hk]
      simp
    · have hne : Lit.int .i64 k' ≠ Lit.int .i64 k := by simpa using e
      rw [Maps.has_put_other hne, Maps.atKey_put_other hne, if_neg e]
      exact h2 k'
theorem own_tight {w : World} {P : Program} {k : TypeId} {R : Value → Option (DataW Unit × List MemPlace)} {b n : Nat} {D : DataW Unit} (h : w.ownsMap P k R b n D) : w.ownsMap P k R b (Maps.size D) D := by
  obtain ⟨es, clock, hb, F, hn, hD⟩ := h
  refine ⟨es, clock, hb, F, ?_, hD⟩
  rw [hD]
  have : ∀ (l : List (Lit × DataW Unit)), (l.foldr DataW.insert []).length = l.length := by
    intro l
    induction l with
    | nil => rfl
    | cons x l ih => rw [List.foldr_cons, length_insert, ih]; rfl
  show es.size ≤ ((es.toList.map (WideElems.rg P k R)).foldr DataW.insert []).length
  rw [this]
  simp
set_option maxRecDepth 100000 in
set_option maxHeartbeats 1000000 in
theorem reach_out {w : World} {mb sb n cap a b z : Nat} {ad : Option Addr} {x0 x2 x3 x4 x5 gv kv : Value} (hm : w.heap[mb]? = some (.cells #[x0, ptrTo sb, x2, x3, x4, x5] 172)) (hs : w.heap[sb]? = some (.cells #[.slice ad n cap, gv, kv] 125))
    (hn : n ≤ 1000000) (ha : a < 4294967296) (hb : b < 4294967296) (hz : z ≤ 8) (hlt : n < a + b + z) :
    Calls Tryz.prog 200 #[ptrTo mb, .int .u64 a, .int .u64 b, .int .u64 z] w fun r w' => r = .returned (.tuple #[.slice none 0 0, .bool false]) ∧ w' = w := by
  obtain ⟨hmc, -⟩ := cells_of hm
  obtain ⟨hsc, -⟩ := cells_of hs
  have h1 : IntKind.u64.wrap ((a : Int) + (b : Int)) = ((a + b : Nat) : Int) := by rw [IntKind.wrap_u64]; omega
  obtain ⟨c, hc⟩ : ∃ c, a + b = c := ⟨_, rfl⟩
  rw [hc] at h1 hlt
  have h2 : IntKind.u64.wrap ((c : Int) + (z : Int)) = (c : Int) + (z : Int) := by rw [IntKind.wrap_u64]; omega
  have h3 : IntKind.u64.wrap (n : Int) = (n : Int) := by rw [IntKind.wrap_u64]; omega
  clear hm hs hc
  go_enter Tryz.func200, Tryz.ntmps200
  go_wp2
  go_ret2
  exact ⟨rfl, rfl⟩
set_option maxRecDepth 100000 in
set_option maxHeartbeats 1000000 in
theorem reach_in {w : World} {mb sb g n cap a b z : Nat} {x0 x2 x3 x4 x5 gv kv : Value} (hm : w.heap[mb]? = some (.cells #[x0, ptrTo sb, x2, x3, x4, x5] 172)) (hs : w.heap[sb]? = some (.cells #[.slice (some ⟨g, 0, none⟩) n cap, gv, kv] 125))
    (hn : n ≤ 1000000) (hcap : n ≤ cap) (ha : a < 4294967296) (hb : b < 4294967296) (hz0 : 0 < z) (hz : z ≤ 8) (hle : a + b + z ≤ n) :
    Calls Tryz.prog 200 #[ptrTo mb, .int .u64 a, .int .u64 b, .int .u64 z] w fun r w' => (∃ c, r = .returned (.tuple #[.slice (some ⟨g, a + b, none⟩) z c, .bool true]) ∧ z ≤ c) ∧ w' = w := by
  obtain ⟨hmc, -⟩ := cells_of hm
  obtain ⟨hsc, -⟩ := cells_of hs
  have h1 : IntKind.u64.wrap ((a : Int) + (b : Int)) = ((a + b : Nat) : Int) := by rw [IntKind.wrap_u64]; omega
  obtain ⟨c, hc⟩ : ∃ c, a + b = c := ⟨_, rfl⟩
  rw [hc] at h1 hle ⊢
  have h2 : IntKind.u64.wrap ((c : Int) + (z : Int)) = ((c + z : Nat) : Int) := by rw [IntKind.wrap_u64]; omega
  have h3 : IntKind.u64.wrap (n : Int) = (n : Int) := by rw [IntKind.wrap_u64]; omega
  clear hm hs hc
  go_enter Tryz.func200, Tryz.ntmps200
  go_wp2
  go_ret2
  exact ⟨⟨cap - c, by first | rfl | (rw [Nat.add_sub_cancel_left]; rfl), by omega⟩, rfl⟩
set_option maxRecDepth 100000 in
theorem pages_any {w : World} {mb sb n cap : Nat} {ad : Option Addr} {x0 x2 x3 x4 x5 gv kv : Value} (hm : w.heap[mb]? = some (.cells #[x0, ptrTo sb, x2, x3, x4, x5] 172)) (hs : w.heap[sb]? = some (.cells #[.slice ad n cap, gv, kv] 125)) (hn : n ≤ 1000000) :
    Calls Tryz.prog 168 #[ptrTo mb] w fun r w' => r = .returned (.int .u64 ((n / 64 : Nat) : Int)) ∧ w' = w := by
  obtain ⟨hmc, -⟩ := cells_of hm
  obtain ⟨hsc, -⟩ := cells_of hs
  have h1 : IntKind.i64.wrap (Int.tdiv (n : Int) 64) = ((n / 64 : Nat) : Int) := by rw [show Int.tdiv (n : Int) 64 = ((n / 64 : Nat) : Int) from (Int.ofNat_tdiv n 64).symm, IntKind.wrap_i64]; omega
  obtain ⟨c, hc⟩ : ∃ c, n / 64 = c := ⟨_, rfl⟩
  rw [hc] at h1 ⊢
  have h1' : (n : Int) / 64 = (c : Int) := by omega
  have h2 : IntKind.u64.wrap (c : Int) = (c : Int) := by rw [IntKind.wrap_u64]; omega
  clear hm hs hc
  go_enter Tryz.func168, Tryz.ntmps168
  go_wp2
  go_ret
  exact ⟨rfl, rfl⟩
def memAt (s : Mc) (p k : Nat) : UInt8 := s.mem.getD (p + k) 0
def leTo (s : Mc) (p : Nat) : Nat → Nat
  | 0 => 0
  | k + 1 => leTo s p k ||| (memAt s p k).toNat * 2 ^ (8 * k) % 18446744073709551616
theorem leTo_lt (s : Mc) (p k : Nat) : leTo s p k < 18446744073709551616 := by
  induction k with
  | zero => simp [leTo]
  | succ k ih =>
    rw [leTo]
    exact Nat.or_lt_two_pow (x := leTo s p k) (n := 64) ih (Nat.mod_lt _ (by decide))
theorem le_step (x : UInt8) (n k : Nat) (hn : n < 18446744073709551616) : Go.bits BinOp.or IntKind.u64 (n : Int) (IntKind.u64.wrap ((x.toNat : Int) * 2 ^ (8 * k))) = ((n ||| x.toNat * 2 ^ (8 * k) % 18446744073709551616 : Nat) : Int) := by
  have e : ((x.toNat : Int) * 2 ^ (8 * k)) = ((x.toNat * 2 ^ (8 * k) : Nat) : Int) := by simp
  rw [e, wrap_nat, bits_or_u64_nat _ _ hn (Nat.mod_lt _ (by decide))]
def addrOk (s : Mc) (num : Nat) : Bool := decide (0 < s.stack.length) && decide (0 ≤ topR s) && decide (topR s < 4294967296) && decide (num < 4294967296) && decide (s.mem.length ≤ 1000000)
def getMemR (s : Mc) (num z : Nat) : Option (Nat × Mc) :=
  if addrOk s num = false then none
  else if s.mem.length < (topR s).toNat + num + z then some (4, popR s)
  else some (0, putR (popR s) (leTo s ((topR s).toNat + num) z))
theorem enters_reach : ∀ args w, (callFunc 200 args).run Tryz.prog w = .ok (.enter 200 args) w := enters_of Tryz.func200 (by kernel_rfl) rfl
section
variable {E : MEnv} {w : World} {s : Mc}
set_option maxRecDepth 100000 in
set_option maxHeartbeats 2000000 in
theorem getMem_any (h : MSt E w s) (hs : s.stack.length ≤ 1000000000) {x : Ins} {z : Nat} (hz0 : 0 < z) (hz : z ≤ 8) (hop : x.op ≠ 44) {t : Nat} {s' : Mc} (hm : getMemR s x.num z = some (t, s')) :
    Calls Tryz.prog 166 #[ptrTo E.mb, insAgg x, .int .u64 z] w fun r w' => r = .returned (.int .i64 t) ∧ MSt E w' s' ∧ Kp (upm E) w w' := by
  unfold getMemR at hm
  split at hm
  · cases hm
  rename_i hok
  simp only [addrOk, Bool.not_eq_false, Bool.and_eq_true, decide_eq_true_eq] at hok
  obtain ⟨⟨⟨⟨hs0, ha0⟩, ha1⟩, hb1⟩, hml⟩ := hok
  obtain ⟨a, hat⟩ : ∃ a : Nat, topR s = (a : Int) := ⟨(topR s).toNat, by omega⟩
  have hro := h.roLo
  have hbx := h.box (insObj x)
  have hta : Calls Tryz.prog 73 #[ptrTo E.mb] (w.alloc (insObj x)).drew fun r w' => r = .returned (.int .u64 (topR s)) ∧ MSt (E.plus (fun b => b = w.heap.size)) w' (popR s) ∧ Kp (upm (E.plus (fun b => b = w.heap.size))) (w.alloc (insObj x)).drew w' := takeR_any (hbx.quiet ((Kp.refl no _).drew)) hs0 hs
  have hbo : ((w.alloc (insObj x)).drew).heap[w.heap.size]? = some (insObj x) := heap_alloc_new _ _
  rw [hat] at hm hta
  rw [show ((a : Int)).toNat = a by omega] at hm
  have hop' : ((x.op.toNat : Int) == 44) = false := by
    simp
    intro e
    exact hop (by apply UInt8.toNat_inj.1; simp; omega)
  have HT := hide hta
  have HBo := hide hbo
  have HM := hide hm
  have HRo := hide hro
  have hak : a < 4294967296 := by omega
  clear h hbx hta hbo hm hro hat ha0 ha1 hop
  go_enter Tryz.func166, Tryz.ntmps166
  go_wp2_with fail
  refine wp_region_S 12 (fun w' => w'.cell? ⟨w.heap.size, 1, none⟩ = some (.int .u64 x.num)) (by kernel_rfl) (n := 12) (listed := #[false, false, false, false, false, false, false, false, false, false, false, false]) rfl (by kernel_rfl) ?hS (fun hS => ?_)
  case hS => exact (cells_of HBo.out).1 1
  refine tk 0 [] rfl (by kernel_rfl) rfl (fun _ _ _ h => h) hS (fun _ h => by (try dsimp only at h); go_simp; all_goals with_reducible rfl) ?_
  simp only [pS]
  refine tk 1 [] rfl (by kernel_rfl) rfl (fun _ _ _ h => h) hS (fun _ h => by (try dsimp only at h); go_simp; all_goals with_reducible rfl) ?_
  simp only [pS]
  refine tk 3 [] rfl (by kernel_rfl) rfl (fun _ _ _ h => h) hS (fun _ h => by (try dsimp only at h); go_simp; all_goals with_reducible rfl) ?_
  simp only [pS]
  refine tk 4 [] rfl (by kernel_rfl) rfl (fun _ _ _ h => h) hS (fun _ h => by (try dsimp only at h); go_simp; all_goals with_reducible rfl) ?_
  simp only [pS]
  refine tk 5 [] rfl (by kernel_rfl) rfl (fun _ _ _ h => h) hS (fun _ h => by (try dsimp only at h); go_simp; all_goals with_reducible rfl) ?_
  simp only [pS]
  refine wpAnyS_one 2 (listed' := #[true, true, true, true, true, true, false, false, false, false, false, false]) rfl (by kernel_rfl) (by kernel_rfl) (fun K hK => ?_)
  refine step_call (by rfl) 73 _ _ (by rfl) enters_take _ (by rfl) HT.out ?_
  rintro e w1 ⟨rfl, h1, k1⟩
  have hb1' := k1.blk HBo.out (fun h => h (.inr rfl))
  refine ⟨_, rfl, hK _ _ ((cells_of hb1').1 1) (fun hS => ?_)⟩
  clear hK K
  simp only [pS]
  obtain ⟨sv, cv, hmo, -⟩ := h1.open
  obtain ⟨mv, gv, hst, ⟨adm, capm, hmv, hcapm⟩, -, hmem, -⟩ := h1.openS
  have hpm : (popR s).mem = s.mem := rfl
  rw [hpm] at hmv hcapm hmem
  subst hmv
  have hmo' : w1.heap[E.mb]? = some (.cells #[ptrTo E.fb, ptrTo E.sb, sv, cv, .int .i64 s.pos, .int .i64 s.fuel] 172) := hmo
  have hst' : w1.heap[E.sb]? = some (.cells #[.slice adm s.mem.length capm, gv, .map (some E.kb)] 125) := hst
  have HF := hide (h1.free HRo.out)
  have K1 := hide (upm_plus ((((Kp.refl no w).alloc (insObj x)).drew.any).trans k1))
  have hpl : (popR s).stack.length ≤ 1000000000 := Nat.le_trans (pop_len s) hs
  have hput := fun v => putR_any HF.out v hpl
  have HPut := hide hput
  obtain ⟨hbc, -⟩ := cells_of hb1'
  by_cases hlt : s.mem.length < a + x.num + z
  · have hm := HM.out
    rw [if_pos hlt] at hm
    simp only [Option.some.injEq, Prod.mk.injEq] at hm
    obtain ⟨rfl, rfl⟩ := hm
    have hre := reach_out hmo' hst' hml hak hb1 hz hlt
    clear hmo hst hmem hmo' hst' h1 k1 HM HT
    refine wpAnyS_one 6 (listed' := #[true, true, true, true, true, true, true, false, false, false, false, false]) rfl (by kernel_rfl) (by kernel_rfl) (fun K hK => ?_)
    refine step_call (by rfl) 200 _ _ (by rfl) enters_reach _ (by rfl) hre ?_
    rintro e w2 ⟨rfl, rfl⟩
    refine ⟨_, rfl, hK _ _ hS (fun hS => ?_)⟩
    clear hK K
    simp only [pS]
    refine tk 7 [] rfl (by kernel_rfl) rfl (fun _ _ _ h => h) hS (fun _ h => by (try dsimp only at h); go_simp; all_goals with_reducible rfl) ?_
    simp only [pS]
    refine tk 8 [] rfl (by kernel_rfl) rfl (fun _ _ _ h => h) hS (fun _ h => by (try dsimp only at h); go_simp; all_goals with_reducible rfl) ?_
    simp only [pS]
    refine tk 9 [] rfl (by kernel_rfl) rfl (fun _ _ _ h => h) hS (fun _ h => by (try dsimp only at h); go_simp; all_goals with_reducible rfl) ?_
    simp only [pS]
    refine tk 10 [] rfl (by kernel_rfl) rfl (fun _ _ _ h => h) hS (fun _ h => by (try dsimp only at h); go_simp; all_goals with_reducible rfl) ?_
    simp only [pS]
    refine tk 11 [] rfl (by kernel_rfl) rfl (fun _ _ _ h => h) hS (fun _ h => by (try dsimp only at h); go_simp; all_goals with_reducible rfl) ?_
    simp only [pS]
    refine wpAnyS_done (by kernel_rfl) ?_ _
    clear hS hre
    go_wp2
    go_ret
    exact ⟨rfl, HF.out, K1.out⟩
  · have hm := HM.out
    rw [if_neg hlt] at hm
    simp only [Option.some.injEq, Prod.mk.injEq] at hm
    obtain ⟨rfl, hs'⟩ := hm
    obtain ⟨-, ⟨hnil, hn0⟩ | ⟨g, cap', cur, hsl, -⟩⟩ := id hmem
    · omega
    cases hsl
    have hre := reach_in hmo' hst' hml hcapm hak hb1 hz0 hz (by omega)
    obtain ⟨p, hp⟩ : ∃ p, a + x.num = p := ⟨_, rfl⟩
    rw [hp] at hre hs' hlt
    have hcell : ∀ k, k < z → w1.cell? ⟨g, p + k, none⟩ = some (.int .u8 (memAt s p k).toNat) := by
      intro k hk
      obtain ⟨a', o', c', he, -, hc⟩ := RowAt.get (RowAt.own hmem) (k := p + k) (x := .int .u8 (memAt s p k).toNat) (by
        have hlt' : p + k < s.mem.length := by omega
        simp [byteCells', memAt, List.getD, hlt'])
      cases he
      rw [Nat.zero_add] at hc
      exact hc
    have HCe := hide hcell
    have HS' := hide hs'
    have hpl2 : p ≤ 1000000 := by omega
    clear hmo hst hmem hmo' hst' h1 k1 HM HT hcell hs' hp
    refine wpAnyS_one 6 (listed' := #[true, true, true, true, true, true, true, false, false, false, false, false]) rfl (by kernel_rfl) (by kernel_rfl) (fun K hK => ?_)
    refine step_call (by rfl) 200 _ _ (by rfl) enters_reach _ (by rfl) hre ?_
    rintro e w2 ⟨⟨c2, rfl, hc2⟩, rfl⟩
    refine ⟨_, rfl, hK _ _ hS (fun hS => ?_)⟩
    clear hK K
    simp only [pS]
    refine tk 7 [] rfl (by kernel_rfl) rfl (fun _ _ _ h => h) hS (fun _ h => by (try dsimp only at h); go_simp; all_goals with_reducible rfl) ?_
    simp only [pS]
    refine tk 8 [] rfl (by kernel_rfl) rfl (fun _ _ _ h => h) hS (fun _ h => by (try dsimp only at h); go_simp; all_goals with_reducible rfl) ?_
    simp only [pS]
    refine tk 9 [] rfl (by kernel_rfl) rfl (fun _ _ _ h => h) hS (fun _ h => by (try dsimp only at h); go_simp; all_goals with_reducible rfl) ?_
    simp only [pS]
    refine tk 10 [] rfl (by kernel_rfl) rfl (fun _ _ _ h => h) hS (fun _ h => by (try dsimp only at h); go_simp; all_goals with_reducible rfl) ?_
    simp only [pS]
    refine tk 11 [] rfl (by kernel_rfl) rfl (fun _ _ _ h => h) hS (fun _ h => by (try dsimp only at h); go_simp; all_goals with_reducible rfl) ?_
    simp only [pS]
    refine wpAnyS_done (by kernel_rfl) ?_ _
    clear hS hre
    go_wp2
    go_loopw [9, 26] (fun vv kv wr => ∃ k : Nat, k ≤ z ∧ kv = .int .i64 k ∧ vv = .int .u64 (leTo s p k) ∧ wr = w2) (fun _ kv _ => z - (intOf kv).toNat)
    case atStart => exact ⟨0, by omega, rfl, rfl, rfl⟩
    case round =>
      obtain ⟨k, hk, rfl, rfl, rfl⟩ := hrel
      by_cases hkz : k < z
      · have hc := HCe.out k hkz
        have hst := le_step (memAt s p k) (leTo s p k) k (leTo_lt s p k)
        have hlt2 : leTo s p (k + 1) = leTo s p k ||| (memAt s p k).toNat * 2 ^ (8 * k) % 18446744073709551616 := rfl
        rw [← hlt2] at hst
        obtain ⟨cb, hcb⟩ : ∃ cb, memAt s p k = cb := ⟨_, rfl⟩
        rw [hcb] at hc hst
        obtain ⟨v1, hv1⟩ : ∃ v1, leTo s p k = v1 := ⟨_, rfl⟩
        obtain ⟨v2, hv2⟩ : ∃ v2, leTo s p (k + 1) = v2 := ⟨_, rfl⟩
        rw [hv1, hv2] at hst
        rw [hv1]
        have HV2 := hide hv2
        have HSt := hide hst
        have hw8 : IntKind.i64.wrap (8 * (k : Int)) = 8 * (k : Int) := by rw [IntKind.wrap_i64]; omega
        have hwc : IntKind.u64.wrap (cb.toNat : Int) = (cb.toNat : Int) := by have := cb.toNat_lt; rw [IntKind.wrap_u64]; omega
        clear hcb hv1 hv2 hst hlt2
        go_wp2
        go_roundw
        case rel => exact ⟨k + 1, by omega, by go_num, by rw [HSt.out, HV2.out], trivial⟩
        case measure => simp [intOf]; omega
      · obtain rfl : k = z := by omega
        go_wp2_with fail
        refine (HPut.out _).mono ?_
        rintro r w3 ⟨rfl, h3, k3⟩
        have H3 := hide h3
        have K3 := hide k3
        clear h3 k3
        go_wp2
        go_ret
        rw [← HS'.out]
        exact ⟨rfl, H3.out, K1.out.trans K3.out⟩
end
def stTo (m : List UInt8) (p v : Nat) : Nat → List UInt8
  | 0 => m
  | k + 1 => (stTo m p v k).set (p + k) (UInt8.ofNat (v / 2 ^ (8 * k)))
theorem stTo_len (m : List UInt8) (p v k : Nat) : (stTo m p v k).length = m.length := by
  induction k with
  | zero => rfl
  | succ k ih => rw [stTo, List.length_set, ih]
def setMemR (s : Mc) (num z : Nat) : Option (Nat × Mc) :=
  if s.stack.length < 2 ∨ topR s < 0 ∨ 18446744073709551616 ≤ topR s ∨ addrOk (popR s) num = false then none
  else if s.mem.length < (topR (popR s)).toNat + num + z then some (4, popR (popR s))
  else some (0, { popR (popR s) with mem := stTo s.mem ((topR (popR s)).toNat + num) (topR s).toNat z })
theorem byte_step (v k : Nat) : IntKind.u8.wrap ((v : Int) / 2 ^ (8 * k)) = (((UInt8.ofNat (v / 2 ^ (8 * k))).toNat : Nat) : Int) := by
  have e : (v : Int) / 2 ^ (8 * k) = ((v / 2 ^ (8 * k) : Nat) : Int) := by simp
  rw [e, IntKind.wrap_u8, UInt8.toNat_ofNat']
  omega
section
variable {E : MEnv} {w : World} {s : Mc}
set_option maxRecDepth 100000 in
set_option maxHeartbeats 2000000 in
theorem setMem_any (h : MSt E w s) (hs : s.stack.length ≤ 1000000000) {x : Ins} {z : Nat} (hz0 : 0 < z) (hz : z ≤ 8) {t : Nat} {s' : Mc} (hm : setMemR s x.num z = some (t, s')) :
    Calls Tryz.prog 167 #[ptrTo E.mb, insAgg x, .int .u64 z] w fun r w' => r = .returned (.int .i64 t) ∧ MSt E w' s' ∧ Kp (upm E) w w' := by
  unfold setMemR at hm
  split at hm
  · cases hm
  rename_i hok
  have hl1 : (popR s).stack.length = s.stack.length - 1 := by unfold popR; simp
  have hok2 : addrOk (popR s) x.num = true := by
    cases hq : addrOk (popR s) x.num with
    | true => rfl
    | false => exact absurd (.inr (.inr (.inr hq))) hok
  simp only [addrOk, Bool.and_eq_true, decide_eq_true_eq] at hok2
  obtain ⟨⟨⟨⟨hs0, ha0⟩, ha1⟩, hb1⟩, hml⟩ := hok2
  have hpm : (popR s).mem = s.mem := rfl
  rw [hpm] at hml
  obtain ⟨v, hvt⟩ : ∃ v : Nat, topR s = (v : Int) := ⟨(topR s).toNat, by omega⟩
  obtain ⟨a, hat⟩ : ∃ a : Nat, topR (popR s) = (a : Int) := ⟨(topR (popR s)).toNat, by omega⟩
  have hvl : v < 18446744073709551616 := by omega
  have hak : a < 4294967296 := by omega
  have hro := h.roLo
  have hbx := h.box (insObj x)
  have hta : Calls Tryz.prog 73 #[ptrTo E.mb] (w.alloc (insObj x)) fun r w' => r = .returned (.int .u64 (topR s)) ∧ MSt (E.plus (fun b => b = w.heap.size)) w' (popR s) ∧ Kp (upm (E.plus (fun b => b = w.heap.size))) (w.alloc (insObj x)) w' := takeR_any hbx (by omega) hs
  have htb : ∀ W, MSt (E.plus (fun b => b = w.heap.size)) W (popR s) → Calls Tryz.prog 73 #[ptrTo E.mb] W fun r w' => r = .returned (.int .u64 (topR (popR s))) ∧ MSt (E.plus (fun b => b = w.heap.size)) w' (popR (popR s)) ∧ Kp (upm (E.plus (fun b => b = w.heap.size))) W w' := fun W hW => takeR_any hW hs0 (by omega)
  have hbo : (w.alloc (insObj x)).heap[w.heap.size]? = some (insObj x) := heap_alloc_new _ _
  rw [hvt, hat] at hm
  rw [hvt] at hta
  rw [hat] at htb
  rw [show ((a : Int)).toNat = a by omega, show ((v : Int)).toNat = v by omega] at hm
  obtain ⟨s2, hs2⟩ : ∃ s2, popR (popR s) = s2 := ⟨_, rfl⟩
  have hm2 : s2.mem = s.mem := by rw [← hs2]; rfl
  rw [hs2, ← hm2] at hm
  rw [hs2] at htb
  rw [← hm2] at hml
  have HT := hide hta
  have HTb := hide htb
  have HBo := hide hbo
  have HM := hide hm
  have HRo := hide hro
  clear h hbx hta htb hbo hm hro hat hvt ha0 ha1 hok hpm hm2 hs2 hl1
  go_enter Tryz.func167, Tryz.ntmps167
  go_wp2_with fail
  refine HT.out.mono ?_
  rintro e w1 ⟨rfl, h1, k1⟩
  have H1 := hide (h1.quiet ((Kp.refl no w1).drew))
  have K1 := hide k1
  have hb1' : w1.drew.heap[w.heap.size]? = some (insObj x) := k1.blk HBo.out (fun h => h (.inr rfl))
  have HB1 := hide hb1'
  clear h1 k1 hb1' HT
  go_wp2_with fail
  refine wp_region_S 12 (fun w' => w'.cell? ⟨w.heap.size, 1, none⟩ = some (.int .u64 x.num)) (by kernel_rfl) (n := 12) (listed := #[false, false, false, false, false, false, false, false, false, false, false, false]) rfl (by kernel_rfl) ?hS (fun hS => ?_)
  case hS => exact (cells_of HB1.out).1 1
  refine tk 0 [] rfl (by kernel_rfl) rfl (fun _ _ _ h => h) hS (fun _ h => by (try dsimp only at h); go_simp; all_goals with_reducible rfl) ?_
  simp only [pS]
  refine tk 1 [] rfl (by kernel_rfl) rfl (fun _ _ _ h => h) hS (fun _ h => by (try dsimp only at h); go_simp; all_goals with_reducible rfl) ?_
  simp only [pS]
  refine tk 3 [] rfl (by kernel_rfl) rfl (fun _ _ _ h => h) hS (fun _ h => by (try dsimp only at h); go_simp; all_goals with_reducible rfl) ?_
  simp only [pS]
  refine tk 4 [] rfl (by kernel_rfl) rfl (fun _ _ _ h => h) hS (fun _ h => by (try dsimp only at h); go_simp; all_goals with_reducible rfl) ?_
  simp only [pS]
  refine tk 5 [] rfl (by kernel_rfl) rfl (fun _ _ _ h => h) hS (fun _ h => by (try dsimp only at h); go_simp; all_goals with_reducible rfl) ?_
  simp only [pS]
  refine wpAnyS_one 2 (listed' := #[true, true, true, true, true, true, false, false, false, false, false, false]) rfl (by kernel_rfl) (by kernel_rfl) (fun K hK => ?_)
  refine step_call (by rfl) 73 _ _ (by rfl) enters_take _ (by rfl) (HTb.out _ H1.out) ?_
  rintro e w2 ⟨rfl, h2, k2⟩
  have hb2 := k2.blk HB1.out (fun h => h (.inr rfl))
  refine ⟨_, rfl, hK _ _ ((cells_of hb2).1 1) (fun hS => ?_)⟩
  clear hK K
  simp only [pS]
  obtain ⟨sv, cv, hmo, -⟩ := h2.open
  obtain ⟨mv, gv, hst, ⟨adm, capm, hmv, hcapm⟩, -, hmem, -⟩ := h2.openS
  subst hmv
  have hmo' : w2.heap[E.mb]? = some (.cells #[ptrTo E.fb, ptrTo E.sb, sv, cv, .int .i64 s2.pos, .int .i64 s2.fuel] 172) := hmo
  have hst' : w2.heap[E.sb]? = some (.cells #[.slice adm s2.mem.length capm, gv, .map (some E.kb)] 125) := hst
  have H2 := hide h2
  have K2 := hide ((((Kp.refl no w).alloc (insObj x)).any.trans K1.out).trans ((Kp.refl _ w1).drew.trans k2))
  by_cases hlt : s2.mem.length < a + x.num + z
  · have hm := HM.out
    rw [if_pos hlt] at hm
    simp only [Option.some.injEq, Prod.mk.injEq] at hm
    obtain ⟨rfl, rfl⟩ := hm
    have hre := reach_out hmo' hst' hml hak hb1 hz hlt
    clear hmo hst hmem hmo' hst' h2 k2 HM HTb
    refine wpAnyS_one 6 (listed' := #[true, true, true, true, true, true, true, false, false, false, false, false]) rfl (by kernel_rfl) (by kernel_rfl) (fun K hK => ?_)
    refine step_call (by rfl) 200 _ _ (by rfl) enters_reach _ (by rfl) hre ?_
    rintro e w3 ⟨rfl, rfl⟩
    refine ⟨_, rfl, hK _ _ hS (fun hS => ?_)⟩
    clear hK K
    simp only [pS]
    refine tk 7 [] rfl (by kernel_rfl) rfl (fun _ _ _ h => h) hS (fun _ h => by (try dsimp only at h); go_simp; all_goals with_reducible rfl) ?_
    simp only [pS]
    refine tk 8 [] rfl (by kernel_rfl) rfl (fun _ _ _ h => h) hS (fun _ h => by (try dsimp only at h); go_simp; all_goals with_reducible rfl) ?_
    simp only [pS]
    refine tk 9 [] rfl (by kernel_rfl) rfl (fun _ _ _ h => h) hS (fun _ h => by (try dsimp only at h); go_simp; all_goals with_reducible rfl) ?_
    simp only [pS]
    refine tk 10 [] rfl (by kernel_rfl) rfl (fun _ _ _ h => h) hS (fun _ h => by (try dsimp only at h); go_simp; all_goals with_reducible rfl) ?_
    simp only [pS]
    refine tk 11 [] rfl (by kernel_rfl) rfl (fun _ _ _ h => h) hS (fun _ h => by (try dsimp only at h); go_simp; all_goals with_reducible rfl) ?_
    simp only [pS]
    refine wpAnyS_done (by kernel_rfl) ?_ _
    clear hS hre
    go_wp2
    go_ret
    exact ⟨rfl, H2.out.free HRo.out, upm_plus K2.out⟩
  · have hm := HM.out
    rw [if_neg hlt] at hm
    simp only [Option.some.injEq, Prod.mk.injEq] at hm
    obtain ⟨rfl, hs'⟩ := hm
    obtain ⟨-, ⟨hnil, hn0⟩ | ⟨g, cap', cur, hsl, -⟩⟩ := id hmem
    · omega
    cases hsl
    have hre := reach_in hmo' hst' hml hcapm hak hb1 hz0 hz (by omega)
    obtain ⟨p, hp⟩ : ∃ p, a + x.num = p := ⟨_, rfl⟩
    rw [hp] at hre hs' hlt
    have HS' := hide hs'
    have HSt := hide hst'
    have hpl2 : p ≤ 1000000 := by omega
    clear hmo hst hmem hmo' hst' h2 k2 HM HTb hs' hp
    refine wpAnyS_one 6 (listed' := #[true, true, true, true, true, true, true, false, false, false, false, false]) rfl (by kernel_rfl) (by kernel_rfl) (fun K hK => ?_)
    refine step_call (by rfl) 200 _ _ (by rfl) enters_reach _ (by rfl) hre ?_
    rintro e w3 ⟨⟨c2, rfl, hc2⟩, rfl⟩
    refine ⟨_, rfl, hK _ _ hS (fun hS => ?_)⟩
    clear hK K
    simp only [pS]
    refine tk 7 [] rfl (by kernel_rfl) rfl (fun _ _ _ h => h) hS (fun _ h => by (try dsimp only at h); go_simp; all_goals with_reducible rfl) ?_
    simp only [pS]
    refine tk 8 [] rfl (by kernel_rfl) rfl (fun _ _ _ h => h) hS (fun _ h => by (try dsimp only at h); go_simp; all_goals with_reducible rfl) ?_
    simp only [pS]
    refine tk 9 [] rfl (by kernel_rfl) rfl (fun _ _ _ h => h) hS (fun _ h => by (try dsimp only at h); go_simp; all_goals with_reducible rfl) ?_
    simp only [pS]
    refine tk 10 [] rfl (by kernel_rfl) rfl (fun _ _ _ h => h) hS (fun _ h => by (try dsimp only at h); go_simp; all_goals with_reducible rfl) ?_
    simp only [pS]
    refine tk 11 [] rfl (by kernel_rfl) rfl (fun _ _ _ h => h) hS (fun _ h => by (try dsimp only at h); go_simp; all_goals with_reducible rfl) ?_
    simp only [pS]
    refine wpAnyS_done (by kernel_rfl) ?_ _
    clear hS hre
    go_wp2
    go_loopw [27] (fun kv wr => ∃ k : Nat, k ≤ z ∧ kv = .int .i64 k ∧ MSt (E.plus (fun b => b = w.heap.size)) wr { s2 with mem := stTo s2.mem p v k } ∧ Kp (upm (E.plus (fun b => b = w.heap.size))) w wr ∧ wr.heap[E.sb]? = some (.cells #[.slice (some ⟨g, 0, none⟩) s2.mem.length capm, gv, .map (some E.kb)] 125)) (fun kv _ => z - (intOf kv).toNat)
    case atStart => exact ⟨0, by omega, rfl, H2.out, K2.out, HSt.out⟩
    case round =>
      obtain ⟨k, hk, rfl, hst, hkp, hsb⟩ := hrel
      by_cases hkz : k < z
      · obtain ⟨mv', gv', hst2, -, -, hmem', -, -, -, -, -, ⟨-, hsbm, -, -⟩, -, -, hsetm, -, -⟩ := hst.openS
        have heq : mv' = .slice (some ⟨g, 0, none⟩) s2.mem.length capm := by
          have h3 := hst2.symm.trans hsb
          simp at h3
          exact h3.1
        subst heq
        have hlen : ({ s2 with mem := stTo s2.mem p v k } : Mc).mem.length = s2.mem.length := stTo_len _ _ _ _
        have hres := hsetm wr g (p + k) (UInt8.ofNat (v / 2 ^ (8 * k))) (Kp.refl no wr) rfl (by rw [hlen]; omega)
        obtain ⟨-, ⟨hnil, -⟩ | ⟨g', cap2, cur2, hsl2, -, hh, hcc, -, hcs, -⟩⟩ := id hmem'
        · cases hnil
        simp only [Value.slice.injEq, Option.some.injEq, Addr.mk.injEq] at hsl2
        obtain ⟨⟨rfl, -⟩, -, rfl⟩ := hsl2
        have hcx : ∃ y, wr.cell? ⟨g, p + k, none⟩ = some y := by
          rw [(cells_of hh).1, Array.getElem?_eq_getElem (by rw [hcs]; rw [hlen] at hcc; omega)]
          exact ⟨_, rfl⟩
        obtain ⟨y, hy⟩ := hcx
        have hfz := (cells_of hh).2 (p + k)
        have hsbg : E.sb ≠ g := fun e => hsbm (by show some E.sb = some g; rw [e])
        have hsb2 := heap_setCell_ne (o := p + k) hsbg (.int .u8 ((UInt8.ofNat (v / 2 ^ (8 * k))).toNat : Nat)) hsb
        have hbs := byte_step v k
        have hw8 : IntKind.i64.wrap (8 * (k : Int)) = 8 * (k : Int) := by rw [IntKind.wrap_i64]; omega
        obtain ⟨cb, hcb⟩ : ∃ cb, UInt8.ofNat (v / 2 ^ (8 * k)) = cb := ⟨_, rfl⟩
        have hnext : stTo s2.mem p v (k + 1) = (stTo s2.mem p v k).set (p + k) cb := by rw [stTo, hcb]
        rw [hcb] at hres hsb2 hbs
        have HRes := hide hres
        have HSb2 := hide hsb2
        have HNx := hide hnext
        have K5 := hide hkp
        have HBs := hide hbs
        clear hst hkp hsb hst2 hmem' hsetm hres hh hcc hcs hsb2 hcb hnext hbs hsbm
        go_wp2
        have e := HBs.out
        rw [IntKind.wrap_u8] at e
        rw [e]
        go_roundw
        case rel => exact ⟨k + 1, by omega, by go_num, by rw [HNx.out]; exact HRes.out.1, K5.out.trans HRes.out.2, HSb2.out⟩
        case measure => simp [intOf]; omega
      · obtain rfl : k = z := by omega
        have H5 := hide hst
        have K5 := hide hkp
        clear hst hkp hsb
        go_wp2
        go_ret
        rw [← HS'.out]
        exact ⟨rfl, H5.out.free HRo.out, upm_plus K5.out⟩
end
def growR (s : Mc) : Option Mc :=
  if s.stack.length = 0 ∨ topR s < 0 ∨ 4294967296 ≤ topR s ∨ 1000000 < s.mem.length then none
  else if 4 < s.mem.length / 64 + (topR s).toNat then some (putR (popR s) 4294967295)
  else some (putR { popR s with mem := s.mem ++ List.replicate ((topR s).toNat * 64) 0 } ((s.mem.length / 64 : Nat) : Int))
section
variable {E : MEnv} {w : World} {s : Mc}
set_option maxRecDepth 100000 in
set_option maxHeartbeats 2000000 in
theorem grow_any (h : MSt E w s) (hs : s.stack.length ≤ 1000000000) {s' : Mc} (hm : growR s = some s') :
    Calls Tryz.prog 169 #[ptrTo E.mb] w fun r w' => r = .returned (.tuple #[]) ∧ MSt E w' s' ∧ Kp (upm E) w w' := by
  unfold growR at hm
  split at hm
  · cases hm
  rename_i hok
  have hml : s.mem.length ≤ 1000000 := by omega
  obtain ⟨m, hmt⟩ : ∃ m : Nat, topR s = (m : Int) := ⟨(topR s).toNat, by omega⟩
  have hmk : m < 4294967296 := by omega
  obtain ⟨sv, cv, hmo, -⟩ := h.open
  obtain ⟨mv, gv, hst, ⟨adm, capm, hmv, -⟩, -⟩ := h.openS
  subst hmv
  have hmo' : w.heap[E.mb]? = some (.cells #[ptrTo E.fb, ptrTo E.sb, sv, cv, .int .i64 s.pos, .int .i64 s.fuel] 172) := hmo
  have hst' : w.heap[E.sb]? = some (.cells #[.slice adm s.mem.length capm, gv, .map (some E.kb)] 125) := hst
  have hpg := pages_any hmo' hst' hml
  have hta := takeR_any h (by omega) hs
  rw [hmt] at hm hta
  rw [show ((m : Int)).toNat = m by omega] at hm
  obtain ⟨b, hb⟩ : ∃ b, s.mem.length / 64 = b := ⟨_, rfl⟩
  rw [hb] at hm hpg
  have hb2 : b ≤ 20000 := by omega
  have HP := hide hpg
  have HT := hide hta
  have HM := hide hm
  have hpl : (popR s).stack.length ≤ 1000000000 := Nat.le_trans (pop_len s) hs
  have hB := h.base
  have hw1 : IntKind.u64.wrap ((b : Int) + (m : Int)) = (b : Int) + (m : Int) := by rw [IntKind.wrap_u64]; omega
  clear h hmo hst hmo' hst' hpg hta hm hmt hok hb
  go_enter Tryz.func169, Tryz.ntmps169
  go_wp2_with fail
  refine HP.out.mono ?_
  rintro r w1 ⟨rfl, hw⟩
  rw [hw]
  clear hw w1
  go_wp2_with fail
  refine HT.out.mono ?_
  rintro r w1 ⟨rfl, h1, k1⟩
  have H1 := hide h1
  have K1 := hide k1
  clear h1 k1 HP HT
  by_cases h4 : 4 < b + m
  · have hm := HM.out
    rw [if_pos h4] at hm
    simp only [Option.some.injEq] at hm
    have hput := putR_any H1.out 4294967295 hpl
    have HPut := hide hput
    have HS' := hide hm
    clear hput hm HM
    go_wp2_with fail
    refine HPut.out.mono ?_
    rintro r w2 ⟨rfl, h2, k2⟩
    have H2 := hide h2
    have K2 := hide k2
    clear h2 k2 HPut
    go_wp2
    refine bodyPost_ret (results_none rfl _ _ _) rfl ?_
    rw [← HS'.out]
    exact ⟨rfl, H2.out, K1.out.trans K2.out⟩
  · have hm := HM.out
    rw [if_neg h4] at hm
    simp only [Option.some.injEq] at hm
    obtain ⟨i0, hi0, hz0, hz1, hz2⟩ := info_parts info_u8
    obtain ⟨sv1, cv1, hmo1, -⟩ := H1.out.open
    obtain ⟨mv1, gv1, hst1, ⟨ad1, cap1, hmv1, -⟩, -, hmem1, -, -, hsbm, -, -, ⟨hmm, hsm, -, -⟩, -, -, -, hrep, -⟩ := H1.out.openS
    subst hmv1
    have hpm : (popR s).mem = s.mem := rfl
    rw [hpm] at hmem1 hst1 hrep hmm hsm
    have hB1 := H1.out.base
    have hmo1' : w1.heap[E.mb]? = some (.cells #[ptrTo E.fb, ptrTo E.sb, sv1, cv1, .int .i64 s.pos, .int .i64 s.fuel] 172) := hmo1
    have hst1' : w1.heap[E.sb]? = some (.cells #[.slice ad1 s.mem.length cap1, gv1, .map (some E.kb)] 125) := hst1
    obtain ⟨S, hSd⟩ : ∃ S : World → Prop, S = fun w' => (∀ q, w'.cell? ⟨E.mb, q, none⟩ = #[ptrTo E.fb, ptrTo E.sb, sv1, cv1, .int .i64 s.pos, .int .i64 s.fuel][q]?) ∧ (∀ q, w'.cell? ⟨E.sb, q, none⟩ = #[.slice ad1 s.mem.length cap1, gv1, .map (some E.kb)][q]?) := ⟨_, rfl⟩
    have hSk : ∀ W', Kp (fun b => some b = (Value.slice ad1 s.mem.length cap1).ownBlock) w1 W' → S W' := fun W' k => by rw [hSd]; exact ⟨(cells_of (k.blk hmo1' hmm)).1, (cells_of (k.blk hst1' hsm)).1⟩
    have hfz : ∀ W', Kp (fun b => some b = (Value.slice ad1 s.mem.length cap1).ownBlock) w1 W' → W'.frozen? ⟨E.sb, 0, none⟩ = false := fun W' k => (cells_of (k.blk hst1' hsm)).2 0
    have hwm : IntKind.u64.wrap ((m : Int) * 64) = ((m * 64 : Nat) : Int) := by rw [IntKind.wrap_u64]; omega
    obtain ⟨q, hq⟩ : ∃ q, m * 64 = q := ⟨_, rfl⟩
    rw [hq] at hwm hm
    have hq4 : q ≤ 256 := by omega
    have HSk := hide hSk
    have HSd := hide hSd
    have HFz := hide hfz
    have HO1 := hide hmem1
    have HRep := hide hrep
    have HM2 := hide hm
    clear hm HM hmo1 hst1 hmem1 hrep hmo1' hst1' hSk hSd hfz hq hsbm
    go_wp2_with fail
    refine wp_region_S 16 (S) (by kernel_rfl) (n := 17) (listed := #[false, false, false, false, false, false, false, false, false, false, false, false, false, false, false, false, false]) rfl (by kernel_rfl) ?hS (fun hS => ?_)
    case hS => exact HSk.out _ ((Kp.refl _ _).drew)
    have hSd := HSd.out
    subst hSd
    refine tk 0 [] rfl (by kernel_rfl) rfl (fun _ _ _ h => h) hS (fun _ h => by (try dsimp only at h); go_simp; all_goals with_reducible rfl) ?_
    simp only [pS]
    refine tk 1 [] rfl (by kernel_rfl) rfl (fun _ _ _ h => h) hS (fun _ h => by (try dsimp only at h); go_simp; all_goals with_reducible rfl) ?_
    simp only [pS]
    refine tk 2 [] rfl (by kernel_rfl) rfl (fun _ _ _ h => h) hS (fun _ h => by (try dsimp only at h); go_simp; all_goals with_reducible rfl) ?_
    simp only [pS]
    refine tk 3 [] rfl (by kernel_rfl) rfl (fun _ _ _ h => h) hS (fun _ h => by (try dsimp only at h); go_simp; all_goals with_reducible rfl) ?_
    simp only [pS]
    refine tk 4 [] rfl (by kernel_rfl) rfl (fun _ _ _ h => h) hS (fun _ h => by (try dsimp only at h); go_simp; all_goals with_reducible rfl) ?_
    simp only [pS]
    refine tk 5 [] rfl (by kernel_rfl) rfl (fun _ _ _ h => h) hS (fun _ h => by (try dsimp only at h); go_simp; all_goals with_reducible rfl) ?_
    simp only [pS]
    refine tk 6 [] rfl (by kernel_rfl) rfl (fun _ _ _ h => h) hS (fun _ h => by (try dsimp only at h); go_simp; all_goals with_reducible rfl) ?_
    simp only [pS]
    refine tk 7 [] rfl (by kernel_rfl) rfl (fun _ _ _ h => h) hS (fun _ h => by (try dsimp only at h); go_simp; all_goals with_reducible rfl) ?_
    simp only [pS]
    refine tk 8 [] rfl (by kernel_rfl) rfl (fun _ _ _ h => h) hS (fun _ h => by (try dsimp only at h); go_simp; all_goals with_reducible rfl) ?_
    simp only [pS]
    refine tk 9 [] rfl (by kernel_rfl) rfl (fun _ _ _ h => h) hS (fun _ h => by (try dsimp only at h); go_simp; all_goals with_reducible rfl) ?_
    simp only [pS]
    refine tk 10 [] rfl (by kernel_rfl) rfl (fun _ _ _ h => h) hS (fun _ h => by (try dsimp only at h); go_simp; all_goals with_reducible rfl) ?_
    simp only [pS]
    refine tk 11 [] rfl (by kernel_rfl) rfl (fun _ _ _ h => h) hS (fun _ h => by (try dsimp only at h); go_simp; all_goals with_reducible rfl) ?_
    simp only [pS]
    refine tk 12 [] rfl (by kernel_rfl) rfl (fun _ _ _ h => h) hS (fun _ h => by (try dsimp only at h); go_simp; all_goals with_reducible rfl) ?_
    simp only [pS]
    refine wpAnyS_one 13 (listed' := #[true, true, true, true, true, true, true, true, true, true, true, true, true, true, false, false, false]) rfl (by kernel_rfl) (by kernel_rfl) (fun K hK => ?_)
    refine step_append_zerosK _ (by rfl) _ _ _ _ (by rfl) E.B 5 i0 (.int .u8 0) 1 .u64 .u64 Tryz.underlying25 Tryz.underlying38 hi0 hz0 hz1 hz2 rfl rfl _ s.mem.length _ (by rfl) (((Kp.refl no w1).drew).own HO1.out (fun _ _ h => h)) q (by rfl) (by unfold maxLen; omega) (by omega) hB1 ?_
    intro v1 w5 hown5 hgrow hat
    have k5 : Kp (fun b => some b = (Value.slice ad1 s.mem.length cap1).ownBlock) w1 w5 := ((Kp.refl _ _).drew).grown hgrow (fun k e => .inl e.symm)
    have hfz5 := HFz.out _ k5
    refine hK _ _ (HSk.out _ k5) (fun hS => ?_)
    clear hK K
    obtain ⟨ad5, cap5, rfl⟩ := own_shape hown5
    refine tk 14 [15] rfl (by kernel_rfl) rfl (fun _ _ _ h => h) hS (fun _ h => by (try dsimp only at h); go_simp; all_goals with_reducible rfl) ?_
    simp only [pS]
    refine tk 15 [] rfl (by kernel_rfl) rfl (fun _ _ _ h => h) hS (fun _ h => by (try dsimp only at h); go_simp; all_goals with_reducible rfl) ?_
    simp only [pS]
    refine wpAnyS_end 16 (listed' := #[true, true, true, true, true, true, true, true, true, true, true, true, true, true, true, true, true]) rfl (by kernel_rfl) (by kernel_rfl) (by kernel_rfl) (fun K hK => ?_)
    go_simp
    refine hK _ _ ?_
    clear hK K
    refine wpAnyS_done (by kernel_rfl) ?_ _
    have hx2 := HRep.out w1.drew w5 (.slice ad5 (s.mem.length + q) cap5) (s.mem ++ List.replicate q 0) ((Kp.refl no w1).drew) (by
      have e1 : (s.mem ++ List.replicate q (0 : UInt8)).length = s.mem.length + q := by simp
      have e2 : byteCells' (s.mem ++ List.replicate q (0 : UInt8)) = byteCells' s.mem ++ List.replicate q (.int .u8 0) := by simp [byteCells']
      rw [e1, e2]
      exact hown5) hgrow hat
    obtain ⟨h2, k2⟩ := hx2
    have hput := putR_any h2 ((b : Nat) : Int) hpl
    have HPut := hide hput
    have K2 := hide k2
    clear hown5 hgrow hat h2 k2 hput k5 hfz5 hS HSk HSd HFz HO1 HRep
    generalize World.setCell w5 ⟨E.sb, 0, none⟩ (.slice ad5 (s.mem.length + q) cap5) = w2 at *
    go_wp2_with fail
    refine HPut.out.mono ?_
    rintro r w3 ⟨rfl, h3, k3⟩
    have H3 := hide h3
    have K3 := hide k3
    clear h3 k3 HPut
    go_wp2
    go_end0
    rw [← HM2.out]
    exact ⟨rfl, H3.out, (K1.out.trans K2.out).trans K3.out⟩
end
def memoryR (s : Mc) (x : Ins) : Option (Nat × Mc) :=
  if x.op = 45 then getMemR s x.num 1
  else if x.op = 40 then getMemR s x.num 4
  else if x.op = 41 then getMemR s x.num 8
  else if x.op = 58 then setMemR s x.num 1
  else if x.op = 54 then setMemR s x.num 4
  else if x.op = 55 then setMemR s x.num 8
  else if x.op = 63 then (if s.mem.length ≤ 1000000 then some (0, putR s ((s.mem.length / 64 : Nat) : Int)) else none)
  else if x.op = 64 then (growR s).map (fun s' => (0, s'))
  else none
section
variable {E : MEnv} {w : World} {s : Mc}
theorem getMem_plus {P : Nat → Prop} (h : MSt (E.plus P) w s) (hs : s.stack.length ≤ 1000000000) {x : Ins} {z : Nat} (hz0 : 0 < z) (hz : z ≤ 8) (hop : x.op ≠ 44) {t : Nat} {s' : Mc} (hm : getMemR s x.num z = some (t, s')) :
    Calls Tryz.prog 166 #[ptrTo E.mb, insAgg x, .int .u64 z] w fun r w' => r = .returned (.int .i64 t) ∧ MSt (E.plus P) w' s' ∧ Kp (upm (E.plus P)) w w' := getMem_any h hs hz0 hz hop hm
theorem setMem_plus {P : Nat → Prop} (h : MSt (E.plus P) w s) (hs : s.stack.length ≤ 1000000000) {x : Ins} {z : Nat} (hz0 : 0 < z) (hz : z ≤ 8) {t : Nat} {s' : Mc} (hm : setMemR s x.num z = some (t, s')) :
    Calls Tryz.prog 167 #[ptrTo E.mb, insAgg x, .int .u64 z] w fun r w' => r = .returned (.int .i64 t) ∧ MSt (E.plus P) w' s' ∧ Kp (upm (E.plus P)) w w' := setMem_any h hs hz0 hz hm
theorem grow_plus {P : Nat → Prop} (h : MSt (E.plus P) w s) (hs : s.stack.length ≤ 1000000000) {s' : Mc} (hm : growR s = some s') :
    Calls Tryz.prog 169 #[ptrTo E.mb] w fun r w' => r = .returned (.tuple #[]) ∧ MSt (E.plus P) w' s' ∧ Kp (upm (E.plus P)) w w' := grow_any h hs hm
theorem put_plusM {P : Nat → Prop} (h : MSt (E.plus P) w s) (v : Int) (hs : s.stack.length ≤ 1000000000) :
    Calls Tryz.prog 134 #[ptrTo E.mb, .int .u64 v] w fun r w' => r = .returned (.tuple #[]) ∧ MSt (E.plus P) w' (putR s v) ∧ Kp (upm (E.plus P)) w w' := putR_any h v hs
set_option maxRecDepth 100000 in
set_option maxHeartbeats 2000000 in
theorem memory_any (h : MSt E w s) (hs : s.stack.length ≤ 1000000000) {x : Ins} {t : Nat} {s' : Mc} (hm : memoryR s x = some (t, s')) :
    Calls Tryz.prog 133 #[ptrTo E.mb, insAgg x] w fun r w' => r = .returned (.int .i64 t) ∧ MSt E w' s' ∧ Kp (upm E) w w' := by
  have hro := h.roLo
  have hbx := h.box (insObj x)
  have kA : Kp (upm E) w (w.alloc (insObj x)) := (Kp.refl _ w).alloc _
  obtain ⟨op, num, goal, height, keep⟩ := x
  have HRo := hide hro
  have KA := hide kA
  unfold memoryR at hm
  simp only at hm
  split at hm
  · rename_i hop
    subst hop
    have hc := getMem_plus (x := ⟨45, num, goal, height, keep⟩) (z := 1) hbx hs (by decide) (by decide) (by simp) hm
    have HC := hide hc
    clear h hbx hm hc hro kA
    go_enter Tryz.func133, Tryz.ntmps133
    go_wp2_with fail
    refine HC.out.mono ?_
    rintro r w1 ⟨rfl, h1, k1⟩
    have H1 := hide (h1.free HRo.out)
    have K1 := hide (KA.out.trans (upm_plus k1))
    clear h1 k1 HC
    go_wp2
    go_ret
    exact ⟨rfl, H1.out, K1.out⟩
  split at hm
  · rename_i hop
    subst hop
    have hc := getMem_plus (x := ⟨40, num, goal, height, keep⟩) (z := 4) hbx hs (by decide) (by decide) (by simp) hm
    have HC := hide hc
    clear h hbx hm hc hro kA
    go_enter Tryz.func133, Tryz.ntmps133
    go_wp2_with fail
    refine HC.out.mono ?_
    rintro r w1 ⟨rfl, h1, k1⟩
    have H1 := hide (h1.free HRo.out)
    have K1 := hide (KA.out.trans (upm_plus k1))
    clear h1 k1 HC
    go_wp2
    go_ret
    exact ⟨rfl, H1.out, K1.out⟩
  split at hm
  · rename_i hop
    subst hop
    have hc := getMem_plus (x := ⟨41, num, goal, height, keep⟩) (z := 8) hbx hs (by decide) (by decide) (by simp) hm
    have HC := hide hc
    clear h hbx hm hc hro kA
    go_enter Tryz.func133, Tryz.ntmps133
    go_wp2_with fail
    refine HC.out.mono ?_
    rintro r w1 ⟨rfl, h1, k1⟩
    have H1 := hide (h1.free HRo.out)
    have K1 := hide (KA.out.trans (upm_plus k1))
    clear h1 k1 HC
    go_wp2
    go_ret
    exact ⟨rfl, H1.out, K1.out⟩
  split at hm
  · rename_i hop
    subst hop
    have hc := setMem_plus (x := ⟨58, num, goal, height, keep⟩) (z := 1) hbx hs (by decide) (by decide) hm
    have HC := hide hc
    clear h hbx hm hc hro kA
    go_enter Tryz.func133, Tryz.ntmps133
    go_wp2_with fail
    refine HC.out.mono ?_
    rintro r w1 ⟨rfl, h1, k1⟩
    have H1 := hide (h1.free HRo.out)
    have K1 := hide (KA.out.trans (upm_plus k1))
    clear h1 k1 HC
    go_wp2
    go_ret
    exact ⟨rfl, H1.out, K1.out⟩
  split at hm
  · rename_i hop
    subst hop
    have hc := setMem_plus (x := ⟨54, num, goal, height, keep⟩) (z := 4) hbx hs (by decide) (by decide) hm
    have HC := hide hc
    clear h hbx hm hc hro kA
    go_enter Tryz.func133, Tryz.ntmps133
    go_wp2_with fail
    refine HC.out.mono ?_
    rintro r w1 ⟨rfl, h1, k1⟩
    have H1 := hide (h1.free HRo.out)
    have K1 := hide (KA.out.trans (upm_plus k1))
    clear h1 k1 HC
    go_wp2
    go_ret
    exact ⟨rfl, H1.out, K1.out⟩
  split at hm
  · rename_i hop
    subst hop
    have hc := setMem_plus (x := ⟨55, num, goal, height, keep⟩) (z := 8) hbx hs (by decide) (by decide) hm
    have HC := hide hc
    clear h hbx hm hc hro kA
    go_enter Tryz.func133, Tryz.ntmps133
    go_wp2_with fail
    refine HC.out.mono ?_
    rintro r w1 ⟨rfl, h1, k1⟩
    have H1 := hide (h1.free HRo.out)
    have K1 := hide (KA.out.trans (upm_plus k1))
    clear h1 k1 HC
    go_wp2
    go_ret
    exact ⟨rfl, H1.out, K1.out⟩
  split at hm
  · rename_i hop
    subst hop
    split at hm
    · rename_i hml
      simp only [Option.some.injEq, Prod.mk.injEq] at hm
      obtain ⟨rfl, rfl⟩ := hm
      obtain ⟨sv, cv, hmo, -⟩ := hbx.open
      obtain ⟨mv, gv, hst, ⟨adm, capm, hmv, -⟩, -⟩ := hbx.openS
      subst hmv
      have hmo' : (w.alloc (insObj ⟨63, num, goal, height, keep⟩)).heap[E.mb]? = some (.cells #[ptrTo E.fb, ptrTo E.sb, sv, cv, .int .i64 s.pos, .int .i64 s.fuel] 172) := hmo
      have hst' : (w.alloc (insObj ⟨63, num, goal, height, keep⟩)).heap[E.sb]? = some (.cells #[.slice adm s.mem.length capm, gv, .map (some E.kb)] 125) := hst
      have hpg := pages_any hmo' hst' hml
      have hpu := put_plusM hbx ((s.mem.length / 64 : Nat) : Int) hs
      have HPg := hide hpg
      have HPu := hide hpu
      obtain ⟨pn, hpn⟩ : ∃ pn, s.mem.length / 64 = pn := ⟨_, rfl⟩
      rw [hpn] at HPg HPu ⊢
      clear h hbx hpg hpu hro kA hmo hst hmo' hst' hpn
      go_enter Tryz.func133, Tryz.ntmps133
      go_wp2_with fail
      refine HPg.out.mono ?_
      rintro r w1 ⟨rfl, hw⟩
      rw [hw]
      clear hw w1
      go_wp2_with fail
      refine HPu.out.mono ?_
      rintro r w1 ⟨rfl, h1, k1⟩
      have H1 := hide (h1.free HRo.out)
      have K1 := hide (KA.out.trans (upm_plus k1))
      clear h1 k1 HPg HPu
      go_wp2
      go_ret
      exact ⟨rfl, H1.out, K1.out⟩
    · cases hm
  split at hm
  · rename_i hop
    subst hop
    cases hg : growR s with
    | none => rw [hg] at hm; cases hm
    | some s1 =>
      rw [hg] at hm
      simp only [Option.map_some, Option.some.injEq, Prod.mk.injEq] at hm
      obtain ⟨rfl, rfl⟩ := hm
      have hc := grow_plus hbx hs hg
      have HC := hide hc
      clear h hbx hc hro kA hg
      go_enter Tryz.func133, Tryz.ntmps133
      go_wp2_with fail
      refine HC.out.mono ?_
      rintro r w1 ⟨rfl, h1, k1⟩
      have H1 := hide (h1.free HRo.out)
      have K1 := hide (KA.out.trans (upm_plus k1))
      clear h1 k1 HC
      go_wp2
      go_ret
      exact ⟨rfl, H1.out, K1.out⟩
  cases hm
end
def getKeyR (s : Mc) : Option Mc := if s.stack.length = 0 then none else some (putR (popR s) (IntKind.u64.wrap ((look s.keys (wrap64 (topR s))).getD 0)))
def setKeyR (s : Mc) : Option (Nat × Mc) :=
  if s.stack.length < 2 ∨ 900 < s.keys.length then none
  else if (look s.keys (wrap64 (topR (popR s)))).isNone ∧ s.keys.length = 8 then some (7, popR (popR s))
  else some (0, { popR (popR s) with keys := putKey s.keys (wrap64 (topR (popR s))) (wrap64 (topR s)) })
section
variable {E : MEnv} {w : World} {s : Mc}
theorem wrap64_wf (x : Int) : (Lit.int .i64 (wrap64 x)).wf = true := by
  show (decide (IntKind.i64.min ≤ wrap64 x) && decide (wrap64 x ≤ IntKind.i64.max)) = true
  rw [show IntKind.i64.min = -9223372036854775808 from rfl, show IntKind.i64.max = 9223372036854775807 from rfl]
  unfold wrap64
  simp only [Bool.and_eq_true, decide_eq_true_eq]
  omega
theorem key64 (x : Int) : keyOf Tryz.prog 2 (.int .i64 (wrap64 x)) = some (.int .i64 (wrap64 x)) := Maps.keyOf_int_mk Tryz.underlying2 (wrap64_wf x)
theorem zero64 (w : World) : (zeroValue 2).run Tryz.prog w = .ok (.int .i64 0) w := by simp [Tryz.zeroValue2]
set_option maxRecDepth 100000 in
set_option maxHeartbeats 1000000 in
theorem getKey_any (h : MSt E w s) (hs : s.stack.length ≤ 1000000000) {s' : Mc} (hm : getKeyR s = some s') :
    Calls Tryz.prog 135 #[ptrTo E.mb] w fun r w' => r = .returned (.tuple #[]) ∧ MSt E w' s' ∧ Kp (upm E) w w' := by
  unfold getKeyR at hm
  split at hm
  · cases hm
  rename_i hne
  simp only [Option.some.injEq] at hm
  have ht := takeR_any h (by omega) hs
  have hkeys : (popR s).keys = s.keys := rfl
  have hkw : IntKind.i64.wrap (topR s) = wrap64 (topR s) := by rw [IntKind.wrap_i64]; unfold wrap64; rfl
  have hkey := key64 (topR s)
  obtain ⟨kv, hkv⟩ : ∃ kv, wrap64 (topR s) = kv := ⟨_, rfl⟩
  rw [hkv] at hm hkw hkey
  clear hkv
  generalize topR s = tv at *
  have HT := hide ht
  have HM := hide hm
  have HKy := hide hkey
  clear ht hm h hkey
  go_enter Tryz.func135, Tryz.ntmps135
  go_wp2_with fail
  refine HT.out.mono ?_
  rintro r w1 ⟨rfl, h1, k1⟩
  obtain ⟨sv, cv, hmo, -⟩ := h1.open
  obtain ⟨mv, gv, hst, -, -, -, -, hks, -⟩ := h1.openS
  obtain ⟨D, n, hown, hn, hrep⟩ := hks
  obtain ⟨hmc, -⟩ := cells_of hmo
  obtain ⟨hsc, -⟩ := cells_of hst
  have hpl : (popR s).stack.length ≤ 1000000000 := Nat.le_trans (pop_len s) hs
  have hput := fun v => putR_any h1 v hpl
  have HPut := hide hput
  have HOwn := hide hown
  have HRep := hide hrep
  have K1 := hide k1
  clear h1 hmo hst hown hrep hput k1 HT
  go_wp2_with (at_lookup; refine wpList_lookup_own_int _ rfl _ _ 108 rfl 2 2 .i64 keyed64 Tryz.underlying108 Tryz.underlying2 (zero64 _) E.kb n D rfl HOwn.out _ _ rfl HKy.out ?_)
  intro c hat hwc
  have hcv : c = (look s.keys kv).getD 0 := by
    have := ((HRep.out).2 kv).2
    rw [hat] at this
    change _ = DataW.lit (Lit.int .i64 ((look s.keys kv).getD 0)) at this
    simpa using this
  have HCv := hide hcv
  clear hat hwc hcv
  go_wp2_with fail
  refine (HPut.out _).mono ?_
  rintro r w2 ⟨rfl, h2, k2⟩
  have H2 := hide h2
  have K2 := hide k2
  clear h2 k2
  go_wp2
  go_end0
  rw [← HM.out, ← HCv.out]
  exact ⟨rfl, H2.out, K1.out.trans K2.out⟩
set_option maxRecDepth 100000 in
set_option maxHeartbeats 2000000 in
theorem setKey_any (h : MSt E w s) (hs : s.stack.length ≤ 1000000000) {t : Nat} {s' : Mc} (hm : setKeyR s = some (t, s')) :
    Calls Tryz.prog 136 #[ptrTo E.mb] w fun r w' => r = .returned (.int .i64 t) ∧ MSt E w' s' ∧ Kp (upm E) w w' := by
  unfold setKeyR at hm
  split at hm
  · cases hm
  rename_i hne
  have hl1 : (popR s).stack.length = s.stack.length - 1 := by unfold popR; simp
  have ht1 := takeR_any h (by omega) hs
  have ht2 := fun W (hW : MSt E W (popR s)) => takeR_any hW (by omega) (by omega)
  have hkw1 : IntKind.i64.wrap (topR s) = wrap64 (topR s) := by rw [IntKind.wrap_i64]; unfold wrap64; rfl
  have hkw2 : IntKind.i64.wrap (topR (popR s)) = wrap64 (topR (popR s)) := by rw [IntKind.wrap_i64]; unfold wrap64; rfl
  have hkey := key64 (topR (popR s))
  have hwv := wrap64_wf (topR s)
  have hkk : WideAt.IsKeyLit (.int .i64 (wrap64 (topR (popR s)))) := by exact True.intro
  obtain ⟨kv, hkv⟩ : ∃ kv, wrap64 (topR (popR s)) = kv := ⟨_, rfl⟩
  obtain ⟨vv, hvv⟩ : ∃ vv, wrap64 (topR s) = vv := ⟨_, rfl⟩
  rw [hkv] at hm hkw2 hkey hkk
  rw [hvv] at hm hkw1 hwv
  clear hkv hvv
  generalize topR s = t1 at *
  generalize topR (popR s) = t2 at *
  obtain ⟨s2, hs2⟩ : ∃ s2, popR (popR s) = s2 := ⟨_, rfl⟩
  have hks2 : s2.keys = s.keys := by rw [← hs2]; rfl
  rw [hs2] at hm ht2
  rw [← hks2] at hm hne
  have HT1 := hide ht1
  have HT2 := hide ht2
  have HM := hide hm
  have HKy := hide hkey
  have HWv := hide hwv
  have HKk := hide hkk
  clear ht1 ht2 hm h hkey hwv hkk hs2 hks2
  go_enter Tryz.func136, Tryz.ntmps136
  go_wp2_with fail
  refine HT1.out.mono ?_
  rintro r w1 ⟨rfl, h1, k1⟩
  have H1 := hide h1
  have K1 := hide k1
  clear h1 k1 HT1
  go_wp2_with fail
  refine (HT2.out _ H1.out).mono ?_
  rintro r w2 ⟨rfl, h2, k2⟩
  obtain ⟨sv, cv, hmo, -⟩ := h2.open
  obtain ⟨mv, gv, hst, -, -, -, -, hks, -, -, -, -, -, -, -, -, hupd⟩ := h2.openS
  obtain ⟨D, n, hown, hn, hrep⟩ := hks
  obtain ⟨hmc, -⟩ := cells_of hmo
  obtain ⟨hsc, -⟩ := cells_of hst
  have H2 := hide h2
  have K2 := hide (K1.out.trans k2)
  have HOwn := hide hown
  have HRep := hide hrep
  have HUpd := hide hupd
  have hhas := (hrep.2 kv).1
  have hsz := hrep.1
  clear h2 hmo hst hown hrep hupd k2 HT2 H1 K1
  have hlen := HOwn.out.len Tryz.underlying108
  rw [hsz] at hlen
  cases hlk : look s2.keys kv with
  | some v0 =>
    have hm := HM.out
    rw [hlk, if_neg (by simp)] at hm
    simp only [Option.some.injEq, Prod.mk.injEq] at hm
    obtain ⟨rfl, rfl⟩ := hm
    rw [hlk] at hhas
    have hhas' : Maps.has D (.int .i64 kv) = true := hhas
    clear hhas hlk HM
    go_wp2_with (at_lookup; refine wpList_lookup_own_ok_int _ rfl _ _ 108 rfl 2 2 .i64 keyed64 Tryz.underlying108 Tryz.underlying2 (zero64 _) E.kb n D rfl HOwn.out _ _ rfl HKy.out ?_)
    intro c hat hwc
    clear hat hwc
    go_wp2_with (at_mapUpdate; refine wpList_mapUpdate_own _ rfl _ _ _ 108 rfl 2 2 keyed64 Tryz.underlying108 _ E.kb n D rfl HOwn.out (by unfold maxLen; omega) _ _ _ rfl rfl HKy.out _ [] (plainElem_int Tryz.underlying2 HWv.out) ?_)
    intro w3 hown3 hgrow3
    have hka : KeysAt w3 E.kb (putKey s2.keys kv vv) := by
      have hr := HRep.out.put (v := vv) (HOwn.out.tidy keyed64) HOwn.out.isMap HKk.out
      refine ⟨_, _, own_tight hown3, ?_, hr⟩
      rw [hr.1, putKey_len]
      split <;> omega
    have hres := HUpd.out w2 w3 _ (Kp.refl no w2) hka hgrow3
    have HRes := hide hres
    clear hown3 hgrow3 hka hres
    go_wp2
    go_ret
    exact ⟨rfl, HRes.out.1, K2.out.trans HRes.out.2⟩
  | none =>
    have hm := HM.out
    rw [hlk] at hm hhas
    have hhas' : Maps.has D (.int .i64 kv) = false := hhas
    clear hhas hlk HM
    by_cases h8 : s2.keys.length = 8
    · rw [if_pos ⟨rfl, h8⟩] at hm
      simp only [Option.some.injEq, Prod.mk.injEq] at hm
      obtain ⟨rfl, rfl⟩ := hm
      rw [h8] at hlen
      go_wp2_with (at_lookup; refine wpList_lookup_own_ok_int _ rfl _ _ 108 rfl 2 2 .i64 keyed64 Tryz.underlying108 Tryz.underlying2 (zero64 _) E.kb n D rfl HOwn.out _ _ rfl HKy.out ?_)
      intro c hat hwc
      clear hat hwc
      go_wp2_with fail
      go_ret
      exact ⟨rfl, H2.out, K2.out⟩
    · rw [if_neg (fun h => h8 h.2)] at hm
      simp only [Option.some.injEq, Prod.mk.injEq] at hm
      obtain ⟨rfl, rfl⟩ := hm
      have h8i : ((s2.keys.length : Int) == 8) = false := by simp; omega
      go_wp2_with (at_lookup; refine wpList_lookup_own_ok_int _ rfl _ _ 108 rfl 2 2 .i64 keyed64 Tryz.underlying108 Tryz.underlying2 (zero64 _) E.kb n D rfl HOwn.out _ _ rfl HKy.out ?_)
      intro c hat hwc
      clear hat hwc
      go_wp2_with (at_mapUpdate; refine wpList_mapUpdate_own _ rfl _ _ _ 108 rfl 2 2 keyed64 Tryz.underlying108 _ E.kb n D rfl HOwn.out (by unfold maxLen; omega) _ _ _ rfl rfl HKy.out _ [] (plainElem_int Tryz.underlying2 HWv.out) ?_)
      intro w3 hown3 hgrow3
      have hka : KeysAt w3 E.kb (putKey s2.keys kv vv) := by
        have hr := HRep.out.put (v := vv) (HOwn.out.tidy keyed64) HOwn.out.isMap HKk.out
        refine ⟨_, _, own_tight hown3, ?_, hr⟩
        rw [hr.1, putKey_len]
        split <;> omega
      have hres := HUpd.out w2 w3 _ (Kp.refl no w2) hka hgrow3
      have HRes := hide hres
      clear hown3 hgrow3 hka hres
      go_wp2
      go_ret
      exact ⟨rfl, HRes.out.1, K2.out.trans HRes.out.2⟩
end
def stepR (f : Flat) (s : Mc) (x : Ins) : Option (Nat × Mc) :=
  if x.op.toNat ≤ 16 then controlR f s x
  else if x.op.toNat = 26 then (if s.stack.length = 0 then none else some (0, popR s))
  else if x.op.toNat = 27 then (if s.stack.length < 3 then none else some (0, chooseR s))
  else if x.op.toNat ≤ 36 then (variableR s x).map (fun s' => (0, s'))
  else if x.op.toNat ≤ 64 then memoryR s x
  else if x.op.toNat ≤ 66 then some (0, putR s x.num)
  else if x.op.toNat = 224 then (getKeyR s).map (fun s' => (0, s'))
  else if x.op.toNat = 225 then setKeyR s
  else reckonR s x.op.toNat
section
variable {E : MEnv} {w : World} {s : Mc}
set_option maxRecDepth 100000 in
set_option maxHeartbeats 1000000 in
theorem step_any' (h : MSt E w s) (hc1 : s.calls.length ≤ 16) (hs : s.stack.length ≤ 1000000000) (hgl : s.gl.length ≤ 1000000) (hok : E.f.Ok) {x : Ins} (hnum : x.op = 16 → x.num < 1000000) {t : Nat} {s' : Mc} (hm : stepR E.f s x = some (t, s')) :
    Calls Tryz.prog 103 #[ptrTo E.mb, insAgg x] w fun r w' => r = .returned (.int .i64 t) ∧ MSt E w' s' ∧ Kp (upm E) w w' := by
  have hro := h.roLo
  have hbx := h.box (insObj x)
  have HRo := hide hro
  clear hro
  unfold stepR at hm
  split at hm
  · rename_i hop
    have hc : Calls Tryz.prog 130 #[ptrTo E.mb, insAgg x] (w.alloc (insObj x)) fun r w' => r = .returned (.int .i64 t) ∧ MSt (E.plus (fun b => b = w.heap.size)) w' s' ∧ Kp (upm (E.plus (fun b => b = w.heap.size))) (w.alloc (insObj x)) w' := control_any hbx hc1 hs hok hnum hm
    have HC := hide hc
    obtain ⟨op, num, goal, height, keep⟩ := x
    simp only at HC hop
    have hop' : (op.toNat : Int) ≤ 16 := by omega
    clear h hbx hc hm hnum hop
    go_enter Tryz.func103, Tryz.ntmps103
    go_wp2_with fail
    refine HC.out.mono ?_
    rintro e w1 ⟨rfl, h1, k1⟩
    go_wp2
    go_ret
    exact ⟨rfl, h1.free HRo.out, ((Kp.refl _ _).alloc _).trans (upm_plus k1)⟩
  rename_i g1
  split at hm
  · rename_i hop
    split at hm
    · cases hm
    · rename_i hl
      cases hm
      have hc := take_plus hbx (by omega) hs
      have HC := hide hc
      obtain ⟨op, num, goal, height, keep⟩ := x
      simp only at HC hop
      obtain rfl : op = 26 := UInt8.toNat_inj.1 hop
      clear h hbx hc hnum hop g1
      go_enter Tryz.func103, Tryz.ntmps103
      go_wp2_with fail
      refine HC.out.mono ?_
      rintro e w1 ⟨rfl, h1, k1⟩
      go_wp2
      go_ret
      exact ⟨rfl, h1.free HRo.out, ((Kp.refl _ _).alloc _).trans (upm_plus k1)⟩
  rename_i g2
  split at hm
  · rename_i hop
    split at hm
    · cases hm
    · rename_i hl
      cases hm
      have hc : Calls Tryz.prog 131 #[ptrTo E.mb] (w.alloc (insObj x)) fun r w' => r = .returned (.tuple #[]) ∧ MSt (E.plus (fun b => b = w.heap.size)) w' (chooseR s) ∧ Kp (upm (E.plus (fun b => b = w.heap.size))) (w.alloc (insObj x)) w' := choose_any' hbx (by omega) hs
      have HC := hide hc
      obtain ⟨op, num, goal, height, keep⟩ := x
      simp only at HC hop
      obtain rfl : op = 27 := UInt8.toNat_inj.1 hop
      clear h hbx hc hnum hop g1 g2
      go_enter Tryz.func103, Tryz.ntmps103
      go_wp2_with fail
      refine HC.out.mono ?_
      rintro e w1 ⟨rfl, h1, k1⟩
      go_wp2
      go_ret
      exact ⟨rfl, h1.free HRo.out, ((Kp.refl _ _).alloc _).trans (upm_plus k1)⟩
  rename_i g3
  have n26 : ((x.op.toNat : Int) == 26) = false := by simp only [beq_eq_false_iff_ne]; omega
  have n27 : ((x.op.toNat : Int) == 27) = false := by simp only [beq_eq_false_iff_ne]; omega
  have n16 : ¬ ((x.op.toNat : Int) ≤ 16) := by omega
  clear g2 g3
  split at hm
  · rename_i hop
    cases hv : variableR s x with
    | none => rw [hv] at hm; cases hm
    | some s1 =>
      rw [hv] at hm
      cases hm
      have hc : Calls Tryz.prog 132 #[ptrTo E.mb, insAgg x] (w.alloc (insObj x)) fun r w' => r = .returned (.tuple #[]) ∧ MSt (E.plus (fun b => b = w.heap.size)) w' s' ∧ Kp (upm (E.plus (fun b => b = w.heap.size))) (w.alloc (insObj x)) w' := variable_any hbx hc1 hs hgl hv
      have HC := hide hc
      obtain ⟨op, num, goal, height, keep⟩ := x
      simp only at HC hop n26 n27 n16
      have hop' : (op.toNat : Int) ≤ 36 := by omega
      clear h hbx hc hnum hop g1 hv
      go_enter Tryz.func103, Tryz.ntmps103
      go_wp2_with fail
      refine HC.out.mono ?_
      rintro e w1 ⟨rfl, h1, k1⟩
      go_wp2
      go_ret
      exact ⟨rfl, h1.free HRo.out, ((Kp.refl _ _).alloc _).trans (upm_plus k1)⟩
  rename_i g4
  have n36 : ¬ ((x.op.toNat : Int) ≤ 36) := by omega
  split at hm
  · rename_i hop
    have hc : Calls Tryz.prog 133 #[ptrTo E.mb, insAgg x] (w.alloc (insObj x)) fun r w' => r = .returned (.int .i64 t) ∧ MSt (E.plus (fun b => b = w.heap.size)) w' s' ∧ Kp (upm (E.plus (fun b => b = w.heap.size))) (w.alloc (insObj x)) w' := memory_any hbx hs hm
    have HC := hide hc
    obtain ⟨op, num, goal, height, keep⟩ := x
    simp only at HC hop n26 n27 n16 n36
    have hop' : (op.toNat : Int) ≤ 64 := by omega
    clear h hbx hc hnum hop g1 hm g4
    go_enter Tryz.func103, Tryz.ntmps103
    go_wp2_with fail
    refine HC.out.mono ?_
    rintro e w1 ⟨rfl, h1, k1⟩
    go_wp2
    go_ret
    exact ⟨rfl, h1.free HRo.out, ((Kp.refl _ _).alloc _).trans (upm_plus k1)⟩
  rename_i g5
  have n64 : ¬ ((x.op.toNat : Int) ≤ 64) := by omega
  split at hm
  · rename_i hop
    cases hm
    have hc := put_plus hbx (x.num : Int) hs
    have HC := hide hc
    obtain ⟨op, num, goal, height, keep⟩ := x
    simp only at HC hop n26 n27 n16 n36 n64
    have hop' : (op.toNat : Int) ≤ 66 := by omega
    clear h hbx hc hnum hop g1 g4 g5
    go_enter Tryz.func103, Tryz.ntmps103
    go_wp2_with fail
    refine HC.out.mono ?_
    rintro e w1 ⟨rfl, h1, k1⟩
    go_wp2
    go_ret
    exact ⟨rfl, h1.free HRo.out, ((Kp.refl _ _).alloc _).trans (upm_plus k1)⟩
  rename_i g6
  have n66 : ¬ ((x.op.toNat : Int) ≤ 66) := by omega
  split at hm
  · rename_i hop
    cases hv : getKeyR s with
    | none => rw [hv] at hm; cases hm
    | some s1 =>
      rw [hv] at hm
      cases hm
      have hc : Calls Tryz.prog 135 #[ptrTo E.mb] (w.alloc (insObj x)) fun r w' => r = .returned (.tuple #[]) ∧ MSt (E.plus (fun b => b = w.heap.size)) w' s' ∧ Kp (upm (E.plus (fun b => b = w.heap.size))) (w.alloc (insObj x)) w' := getKey_any hbx hs hv
      have HC := hide hc
      obtain ⟨op, num, goal, height, keep⟩ := x
      simp only at HC hop n26 n27 n16 n36 n64 n66
      obtain rfl : op = 224 := UInt8.toNat_inj.1 hop
      clear h hbx hc hnum hop g1 g4 g5 g6 hv
      go_enter Tryz.func103, Tryz.ntmps103
      go_wp2_with fail
      refine HC.out.mono ?_
      rintro e w1 ⟨rfl, h1, k1⟩
      go_wp2
      go_ret
      exact ⟨rfl, h1.free HRo.out, ((Kp.refl _ _).alloc _).trans (upm_plus k1)⟩
  rename_i g7
  split at hm
  · rename_i hop
    have hc : Calls Tryz.prog 136 #[ptrTo E.mb] (w.alloc (insObj x)) fun r w' => r = .returned (.int .i64 t) ∧ MSt (E.plus (fun b => b = w.heap.size)) w' s' ∧ Kp (upm (E.plus (fun b => b = w.heap.size))) (w.alloc (insObj x)) w' := setKey_any hbx hs hm
    have HC := hide hc
    obtain ⟨op, num, goal, height, keep⟩ := x
    simp only at HC hop n26 n27 n16 n36 n64 n66
    obtain rfl : op = 225 := UInt8.toNat_inj.1 hop
    clear h hbx hc hnum hop g1 g4 g5 g6 g7 hm
    go_enter Tryz.func103, Tryz.ntmps103
    go_wp2_with fail
    refine HC.out.mono ?_
    rintro e w1 ⟨rfl, h1, k1⟩
    go_wp2
    go_ret
    exact ⟨rfl, h1.free HRo.out, ((Kp.refl _ _).alloc _).trans (upm_plus k1)⟩
  · rename_i g8
    have n224 : ((x.op.toNat : Int) == 224) = false := by simp only [beq_eq_false_iff_ne]; omega
    have n225 : ((x.op.toNat : Int) == 225) = false := by simp only [beq_eq_false_iff_ne]; omega
    have hc : Calls Tryz.prog 137 #[ptrTo E.mb, .int .u8 x.op.toNat] (w.alloc (insObj x)) fun r w' => r = .returned (.int .i64 t) ∧ MSt (E.plus (fun b => b = w.heap.size)) w' s' ∧ Kp (upm (E.plus (fun b => b = w.heap.size))) (w.alloc (insObj x)) w' := reckon_any hbx hs hm
    have HC := hide hc
    obtain ⟨op, num, goal, height, keep⟩ := x
    simp only at HC n26 n27 n16 n36 n64 n66 n224 n225
    clear h hbx hc hnum g1 g4 g5 g6 g7 g8 hm
    go_enter Tryz.func103, Tryz.ntmps103
    go_wp2_with fail
    refine HC.out.mono ?_
    rintro e w1 ⟨rfl, h1, k1⟩
    go_wp2
    go_ret
    exact ⟨rfl, h1.free HRo.out, ((Kp.refl _ _).alloc _).trans (upm_plus k1)⟩
end
def burnsR (op : UInt8) : Bool := op != 5 && op != 11
def afterR (m : Option (Nat × Mc)) (next : Mc → Option (Nat × Mc)) : Option (Nat × Mc) :=
  match m with
  | none => none
  | some (t, s) => if t = 0 then next s else some (t, s)
def runR (f : Flat) : Nat → Mc → Option (Nat × Mc)
  | 0, _ => none
  | n + 1, s =>
    if s.calls.length = 0 then some (0, s)
    else if s.pos < f.code.length then
      (if burnsR (f.code.getD s.pos ins0).op then
        (if s.fuel = 0 then some (5, { s with pos := s.pos + 1 })
        else afterR (stepR f { s with pos := s.pos + 1, fuel := s.fuel - 1 } (f.code.getD s.pos ins0)) (runR f n))
      else afterR (stepR f { s with pos := s.pos + 1 } (f.code.getD s.pos ins0)) (runR f n))
    else none
structure Mc.Ok (s : Mc) (N : Nat) : Prop where
  st : s.stack.length ≤ N
  cl : s.calls.length ≤ 16
  gl : s.gl.length ≤ 1000000
  fu : s.fuel ≤ 1000000
theorem Mc.Ok.le {s : Mc} {N M : Nat} (h : s.Ok N) (hm : N ≤ M) : s.Ok M := ⟨Nat.le_trans h.st hm, h.cl, h.gl, h.fu⟩
theorem Mc.Ok.pop {s : Mc} {N : Nat} (h : s.Ok N) : (popR s).Ok N := ⟨Nat.le_trans (pop_len s) h.st, h.cl, h.gl, h.fu⟩
theorem Mc.Ok.put {s : Mc} {N : Nat} (h : s.Ok N) (v : Int) : (putR s v).Ok (N + 1) := ⟨by unfold putR; simp; exact h.st, h.cl, h.gl, h.fu⟩
theorem Mc.Ok.sink {s : Mc} {N : Nat} (h : s.Ok N) {a b : Nat} (hab : a + b ≤ s.stack.length) : (sinkR s a b).Ok N := ⟨by unfold sinkR; simp; have := h.st; omega, h.cl, h.gl, h.fu⟩
theorem Mc.Ok.jump {s : Mc} {N : Nat} (h : s.Ok N) {x : Ins} (hj : jumpOk s x = true) : (jumpR s x).Ok N := by
  have := h.sink (a := (curR s).2.1 + x.height) (b := x.keep) (jumpOk_spec hj).2
  exact ⟨this.st, this.cl, this.gl, this.fu⟩
theorem jumpB_ok {s : Mc} {N : Nat} (h : s.Ok N) {x : Ins} {t : Nat} {s' : Mc} (hm : jumpB s x = some (t, s')) : s'.Ok N := by
  unfold jumpB at hm
  split at hm
  · rename_i hj; cases hm; exact h.jump hj
  · cases hm
theorem control_ok {f : Flat} {s : Mc} {N : Nat} (h : s.Ok N) {x : Ins} {t : Nat} {s' : Mc} (hm : controlR f s x = some (t, s')) : s'.Ok (N + 1000) := by
  unfold controlR at hm
  split at hm
  · cases hm; exact h.le (by omega)
  split at hm
  · cases hm; exact h.le (by omega)
  split at hm
  · split at hm
    · cases hm
    · split at hm
      · exact (jumpB_ok h.pop hm).le (by omega)
      · cases hm; exact h.pop.le (by omega)
  split at hm
  · exact (jumpB_ok h hm).le (by omega)
  split at hm
  · split at hm
    · rename_i hl
      cases hm
      have := h.sink (a := (curR s).1) (b := s.stack.length - (curR s).2.1) (by omega)
      refine ⟨Nat.le_trans this.st (by omega), ?_, this.gl, this.fu⟩
      unfold leaveR; simp; have := h.cl; omega
    · cases hm
  split at hm
  · split at hm
    · cases hm
    · split at hm
      · cases hm; exact h.pop.le (by omega)
      · exact (jumpB_ok h.pop hm).le (by omega)
  split at hm
  · split at hm
    · cases hm
    · split at hm
      · exact (jumpB_ok h.pop hm).le (by omega)
      · cases hm
  split at hm
  · unfold enterB at hm
    split at hm
    · cases hm; exact h.le (by omega)
    · rename_i h16
      split at hm
      · rename_i hc
        cases hm
        refine ⟨?_, ?_, h.gl, h.fu⟩
        · show (s.stack ++ List.replicate _ (0 : Int)).length ≤ _
          rw [List.length_append, List.length_replicate]; have := h.st; omega
        · show (s.calls ++ [_]).length ≤ _
          rw [List.length_append, List.length_singleton]; have := h.cl; omega
      · cases hm
  · cases hm
theorem variable_ok {s : Mc} {N : Nat} (h : s.Ok N) {x : Ins} {s' : Mc} (hm : variableR s x = some s') : s'.Ok (N + 1) := by
  unfold variableR at hm
  have hp := h.pop
  split at hm
  · split at hm
    · cases hm; exact h.put _
    · cases hm
  split at hm
  · split at hm
    · cases hm; exact ⟨by simp; have := hp.st; omega, hp.cl, hp.gl, hp.fu⟩
    · cases hm
  split at hm
  · split at hm
    · cases hm
      have hq : Mc.Ok { popR s with stack := (popR s).stack.set ((curR s).1 + x.num) (topR s) } N := ⟨by rw [List.length_set]; exact hp.st, hp.cl, hp.gl, hp.fu⟩
      exact hq.put _
    · cases hm
  split at hm
  · split at hm
    · cases hm; exact h.put _
    · cases hm
  split at hm
  · split at hm
    · cases hm; exact ⟨Nat.le_trans hp.st (by omega), hp.cl, (by simp; exact h.gl), hp.fu⟩
    · cases hm
  · cases hm
theorem reckon_ok {s : Mc} {N : Nat} (h : s.Ok N) {op t : Nat} {s' : Mc} (hm : reckonR s op = some (t, s')) : s'.Ok (N + 1) := by
  unfold reckonR at hm
  have hp := h.pop
  have hpp := hp.pop
  have hcmp : ∀ {wd : Bool} {k : Nat}, compareB wd k s = some (t, s') → s'.Ok (N + 1) := fun hm => by
    unfold compareB at hm
    split at hm
    · cases hm; exact hpp.put _
    · cases hm
  have hcmb : ∀ {wd : Bool} {k : Nat}, combineB wd k s = some (t, s') → s'.Ok (N + 1) := fun hm => by
    unfold combineB at hm
    split at hm
    · split at hm
      · cases hm
      · split at hm
        · cases hm; exact hpp.put _
        · cases hm; exact hpp.le (by omega)
    · cases hm
  split at hm
  · split at hm
    · cases hm
    · cases hm; exact hp.put _
  split at hm
  · exact hcmp hm
  split at hm
  · exact hcmp hm
  split at hm
  · exact hcmb hm
  split at hm
  · exact hcmb hm
  split at hm
  · split at hm
    · cases hm
    · cases hm; exact hp.put _
  split at hm
  · split at hm
    · cases hm
    · cases hm; exact hp.put _
  split at hm
  · cases hm; exact h.le (by omega)
  · cases hm
theorem step_ok {f : Flat} {s : Mc} {N : Nat} (h : s.Ok N) {x : Ins} {t : Nat} {s' : Mc} (hm : stepR f s x = some (t, s'))
    (hmem : ∀ {t s'}, memoryR s x = some (t, s') → s'.Ok (N + 1000)) (hget : ∀ {s'}, getKeyR s = some s' → s'.Ok (N + 1000)) (hset : ∀ {t s'}, setKeyR s = some (t, s') → s'.Ok (N + 1000)) : s'.Ok (N + 1000) := by
  unfold stepR at hm
  split at hm
  · exact control_ok h hm
  split at hm
  · split at hm
    · cases hm
    · cases hm; exact h.pop.le (by omega)
  split at hm
  · split at hm
    · cases hm
    · cases hm; exact (h.pop.pop.pop.put _).le (by omega)
  split at hm
  · cases hv : variableR s x with
    | none => rw [hv] at hm; cases hm
    | some s1 => rw [hv] at hm; cases hm; exact (variable_ok h hv).le (by omega)
  split at hm
  · exact hmem hm
  split at hm
  · cases hm; exact (h.put _).le (by omega)
  split at hm
  · cases hv : getKeyR s with
    | none => rw [hv] at hm; cases hm
    | some s1 => rw [hv] at hm; cases hm; exact hget hv
  split at hm
  · exact hset hm
  · exact (reckon_ok h hm).le (by omega)
theorem getMem_ok {s : Mc} {N : Nat} (h : s.Ok N) {num z t : Nat} {s' : Mc} (hm : getMemR s num z = some (t, s')) : s'.Ok (N + 1000) := by
  unfold getMemR at hm
  split at hm
  · cases hm
  split at hm
  · cases hm; exact h.pop.le (by omega)
  · cases hm; exact (h.pop.put _).le (by omega)
theorem setMem_ok {s : Mc} {N : Nat} (h : s.Ok N) {num z t : Nat} {s' : Mc} (hm : setMemR s num z = some (t, s')) : s'.Ok (N + 1000) := by
  unfold setMemR at hm
  split at hm
  · cases hm
  split at hm
  · cases hm; exact h.pop.pop.le (by omega)
  · cases hm; exact ⟨Nat.le_trans h.pop.pop.st (by omega), h.pop.pop.cl, h.pop.pop.gl, h.pop.pop.fu⟩
theorem grow_ok {s : Mc} {N : Nat} (h : s.Ok N) {s' : Mc} (hm : growR s = some s') : s'.Ok (N + 1000) := by
  unfold growR at hm
  split at hm
  · cases hm
  split at hm
  · cases hm; exact (h.pop.put _).le (by omega)
  · cases hm
    have h2 : ({ popR s with mem := s.mem ++ List.replicate ((topR s).toNat * 64) 0 } : Mc).Ok N := ⟨h.pop.st, h.pop.cl, h.pop.gl, h.pop.fu⟩
    exact (h2.put _).le (by omega)
theorem memory_ok {s : Mc} {N : Nat} (h : s.Ok N) {x : Ins} {t : Nat} {s' : Mc} (hm : memoryR s x = some (t, s')) : s'.Ok (N + 1000) := by
  unfold memoryR at hm
  split at hm
  · exact getMem_ok h hm
  split at hm
  · exact getMem_ok h hm
  split at hm
  · exact getMem_ok h hm
  split at hm
  · exact setMem_ok h hm
  split at hm
  · exact setMem_ok h hm
  split at hm
  · exact setMem_ok h hm
  split at hm
  · split at hm
    · cases hm; exact (h.put _).le (by omega)
    · cases hm
  split at hm
  · cases hg : growR s with
    | none => rw [hg] at hm; cases hm
    | some s1 => rw [hg] at hm; cases hm; exact grow_ok h hg
  · cases hm
theorem getKey_ok {s : Mc} {N : Nat} (h : s.Ok N) {s' : Mc} (hm : getKeyR s = some s') : s'.Ok (N + 1000) := by
  unfold getKeyR at hm
  split at hm
  · cases hm
  · cases hm; exact (h.pop.put _).le (by omega)
theorem setKey_ok {s : Mc} {N : Nat} (h : s.Ok N) {t : Nat} {s' : Mc} (hm : setKeyR s = some (t, s')) : s'.Ok (N + 1000) := by
  unfold setKeyR at hm
  split at hm
  · cases hm
  split at hm
  · cases hm; exact h.pop.pop.le (by omega)
  · cases hm; exact ⟨Nat.le_trans h.pop.pop.st (by omega), h.pop.pop.cl, h.pop.pop.gl, h.pop.pop.fu⟩
set_option maxHeartbeats 400000 in
theorem burns_any (op : UInt8) (w : World) : Calls Tryz.prog 102 #[.int .u8 op.toNat] w fun r w' => r = .returned (.bool (burnsR op)) ∧ w' = w := by
  by_cases h5 : op = 5
  · subst h5
    rw [show burnsR 5 = false from rfl]
    go_enter Tryz.func102, Tryz.ntmps102
    go_wp2
    go_ret
    exact ⟨rfl, rfl⟩
  by_cases h11 : op = 11
  · subst h11
    rw [show burnsR 11 = false from rfl]
    go_enter Tryz.func102, Tryz.ntmps102
    go_wp2
    go_ret
    exact ⟨rfl, rfl⟩
  · have hb : burnsR op = true := by simp [burnsR, h5, h11]
    have n5 : ((op.toNat : Int) == 5) = false := by
      simp only [beq_eq_false_iff_ne]; exact fun e => h5 (UInt8.toNat_inj.1 (by show op.toNat = 5; omega))
    have n11 : ((op.toNat : Int) == 11) = false := by
      simp only [beq_eq_false_iff_ne]; exact fun e => h11 (UInt8.toNat_inj.1 (by show op.toNat = 11; omega))
    have m5 : ¬ ((op.toNat : Int) = 5) := by simpa using n5
    have m11 : ¬ ((op.toNat : Int) = 11) := by simpa using n11
    rw [hb]
    clear h5 h11 hb
    go_enter Tryz.func102, Tryz.ntmps102
    go_wp2
    go_ret
    refine ⟨?_, rfl⟩
    show Ending.returned (.bool (((op.toNat : Int) != 5) && ((op.toNat : Int) != 11))) = _
    simp [bne, n5, n11]
end Go.Proofs.YtdeplgkhmebalaaGreatDoor
