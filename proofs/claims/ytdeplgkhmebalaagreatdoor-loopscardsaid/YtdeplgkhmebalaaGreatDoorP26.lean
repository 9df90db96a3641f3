/- The run of a module's code: what is reckoned. -/
import Derived.Test.YtdeplgkhmebalaaGreatDoorP09
import Derived.Test.YtdeplgkhmebalaaGreatDoorP25

namespace Go.Proofs.YtdeplgkhmebalaaGreatDoor
open Go.RowKit

def truth (b : Bool) : Int := if b then 1 else 0
def compareB (wd : Bool) (k : Nat) (s : Mc) : Option (Nat × Mc) :=
  if 2 ≤ s.stack.length then some (0, putR (popR (popR s)) (truth (compareR wd k (topR (popR s)) (topR s)))) else none
def combineB (wd : Bool) (k : Nat) (s : Mc) : Option (Nat × Mc) :=
  if 2 ≤ s.stack.length then match combineR wd k (topR (popR s)) (topR s) with
    | none => none
    | some (v, t) => if t = 0 then some (0, putR (popR (popR s)) v) else some (t, popR (popR s))
  else none
def reckonR (s : Mc) (op : Nat) : Option (Nat × Mc) :=
  if op = 69 ∨ op = 80 then (if s.stack.length = 0 then none else some (0, putR (popR s) (truth (topR s == 0))))
  else if 70 ≤ op ∧ op ≤ 79 then compareB false (op - 70) s
  else if 81 ≤ op ∧ op ≤ 90 then compareB true (op - 81) s
  else if 106 ≤ op ∧ op ≤ 120 then combineB false (op - 106) s
  else if 124 ≤ op ∧ op ≤ 138 then combineB true (op - 124) s
  else if op = 167 then (if s.stack.length = 0 then none else some (0, putR (popR s) (cutR false (topR s))))
  else if op = 172 then (if s.stack.length = 0 then none else some (0, putR (popR s) (IntKind.u64.wrap (signR false (topR s)))))
  else if op = 173 then some (0, s)
  else none

section
variable {E : MEnv} {w : World} {s : Mc}

set_option maxRecDepth 100000 in
set_option maxHeartbeats 1000000 in
theorem putTruth_any (h : MSt E w s) (b : Bool) (hs : s.stack.length ≤ 1000000000) :
    Calls Tryz.prog 170 #[ptrTo E.mb, .bool b] w fun r w' => r = .returned (.tuple #[]) ∧ MSt E w' (putR s (truth b)) ∧ Kp (upm E) w w' := by
  have hp := fun v => putR_any h v hs
  have HP := hide hp
  clear h hp
  cases b
  all_goals
    go_enter Tryz.func170, Tryz.ntmps170
    go_wp2_with fail
    refine (HP.out _).mono ?_
    rintro e w1 ⟨rfl, h1, k1⟩
    go_wp2
    go_end0
    exact ⟨rfl, h1, k1⟩

theorem two_len (hs : 2 ≤ s.stack.length) (hb : s.stack.length ≤ 1000000000) : 0 < (popR s).stack.length ∧ (popR s).stack.length ≤ 1000000000 ∧ (popR (popR s)).stack.length ≤ 1000000000 := by
  have e1 : (popR s).stack.length = s.stack.length - 1 := by unfold popR; simp
  have e2 := pop_len (popR s)
  omega

set_option maxRecDepth 100000 in
set_option maxHeartbeats 1000000 in
theorem mcompare_any (h : MSt E w s) (hs0 : 2 ≤ s.stack.length) (hs : s.stack.length ≤ 1000000000) (wd : Bool) (k : Nat) (hk : k < 10) :
    Calls Tryz.prog 171 #[ptrTo E.mb, wV wd, .int .u8 k] w fun r w' => r = .returned (.tuple #[]) ∧ MSt E w' (putR (popR (popR s)) (truth (compareR wd k (topR (popR s)) (topR s)))) ∧ Kp (upm E) w w' := by
  obtain ⟨l1, l2, l3⟩ := two_len hs0 hs
  have t1 := takeR_any h (by omega) hs
  have t2 := fun W (hW : MSt E W (popR s)) => takeR_any hW l1 l2
  have c1 := fun W => wcompare_any wd k hk (topR (popR s)) (topR s) W
  have p1 := fun b W (hW : MSt E W (popR (popR s))) => putTruth_any hW b l3
  generalize compareR wd k (topR (popR s)) (topR s) = R at *
  generalize topR (popR s) = a at *
  generalize topR s = b at *
  generalize wV wd = v at *
  have T1 := hide t1
  have T2 := hide t2
  have C1 := hide c1
  have P1 := hide p1
  clear h t1 t2 c1 p1
  go_enter Tryz.func171, Tryz.ntmps171
  go_wp2_with fail
  refine T1.out.mono ?_
  rintro e w1 ⟨rfl, h1, k1⟩
  go_wp2_with fail
  refine (T2.out _ h1).mono ?_
  rintro e w2 ⟨rfl, h2, k2⟩
  go_wp2_with fail
  refine (C1.out _).mono ?_
  rintro e w3 ⟨rfl, k3⟩
  go_wp2_with fail
  refine (P1.out _ _ (h2.quiet k3)).mono ?_
  rintro e w4 ⟨rfl, h4, k4⟩
  go_wp2
  go_end0
  exact ⟨rfl, h4, ((k1.trans k2).trans k3.any).trans k4⟩

set_option maxRecDepth 100000 in
set_option maxHeartbeats 1000000 in
theorem mcombine_any (h : MSt E w s) (hs : s.stack.length ≤ 1000000000) (wd : Bool) (k : Nat) (hk : k < 15) {t : Nat} {s' : Mc} (hm : combineB wd k s = some (t, s')) :
    Calls Tryz.prog 173 #[ptrTo E.mb, wV wd, .int .u8 k] w fun r w' => r = .returned (.int .i64 t) ∧ MSt E w' s' ∧ Kp (upm E) w w' := by
  unfold combineB at hm
  split at hm
  · rename_i hs0
    obtain ⟨l1, l2, l3⟩ := two_len hs0 hs
    have t1 := takeR_any h (by omega) hs
    have t2 := fun W (hW : MSt E W (popR s)) => takeR_any hW l1 l2
    have p1 := fun b W (hW : MSt E W (popR (popR s))) => putR_any hW b l3
    split at hm
    · cases hm
    · rename_i v t' hc
      have c1 := fun W => wcombine_any wd k hk (topR (popR s)) (topR s) W hc
      generalize topR (popR s) = a at *
      generalize topR s = b at *
      generalize wV wd = wv at *
      have T1 := hide t1
      have T2 := hide t2
      have C1 := hide c1
      have P1 := hide p1
      clear h t1 t2 c1 p1 hc
      split at hm
      · rename_i ht
        cases hm
        subst ht
        go_enter Tryz.func173, Tryz.ntmps173
        go_wp2_with fail
        refine T1.out.mono ?_
        rintro e w1 ⟨rfl, h1, k1⟩
        go_wp2_with fail
        refine (T2.out _ h1).mono ?_
        rintro e w2 ⟨rfl, h2, k2⟩
        go_wp2_with fail
        refine (C1.out _).mono ?_
        rintro e w3 ⟨rfl, k3⟩
        go_wp2_with fail
        refine (P1.out _ _ (h2.quiet k3)).mono ?_
        rintro e w4 ⟨rfl, h4, k4⟩
        go_wp2
        go_ret
        exact ⟨rfl, h4, ((k1.trans k2).trans k3.any).trans k4⟩
      · rename_i ht
        cases hm
        have ht' : ((t : Int) == 0) = false := by simpa using ht
        clear ht
        go_enter Tryz.func173, Tryz.ntmps173
        go_wp2_with fail
        refine T1.out.mono ?_
        rintro e w1 ⟨rfl, h1, k1⟩
        go_wp2_with fail
        refine (T2.out _ h1).mono ?_
        rintro e w2 ⟨rfl, h2, k2⟩
        go_wp2_with fail
        refine (C1.out _).mono ?_
        rintro e w3 ⟨rfl, k3⟩
        go_wp2
        go_ret
        exact ⟨rfl, h2.quiet k3, (k1.trans k2).trans k3.any⟩
  · cases hm

set_option maxRecDepth 100000 in
set_option maxHeartbeats 1000000 in
theorem reckon_zero (h : MSt E w s) (hs0 : 0 < s.stack.length) (hs : s.stack.length ≤ 1000000000) {op : Nat} (hop : op = 69 ∨ op = 80) :
    Calls Tryz.prog 137 #[ptrTo E.mb, .int .u8 op] w fun r w' => r = .returned (.int .i64 0) ∧ MSt E w' (putR (popR s) (truth (topR s == 0))) ∧ Kp (upm E) w w' := by
  have t1 := takeR_any h hs0 hs
  have p1 := fun b W (hW : MSt E W (popR s)) => putTruth_any hW b (Nat.le_trans (pop_len s) hs)
  generalize topR s = a at *
  have T1 := hide t1
  have P1 := hide p1
  clear h t1 p1
  rcases hop with rfl | rfl
  all_goals
    go_enter Tryz.func137, Tryz.ntmps137
    go_wp2_with fail
    refine T1.out.mono ?_
    rintro e w1 ⟨rfl, h1, k1⟩
    go_wp2_with fail
    refine (P1.out _ _ h1).mono ?_
    rintro e w2 ⟨rfl, h2, k2⟩
    go_wp2
    go_ret
    exact ⟨rfl, h2, k1.trans k2⟩

set_option maxRecDepth 100000 in
set_option maxHeartbeats 1000000 in
theorem reckon_compare (h : MSt E w s) (hs0 : 2 ≤ s.stack.length) (hs : s.stack.length ≤ 1000000000) {op : Nat} (wd : Bool) (hop : (wd = false ∧ 70 ≤ op ∧ op ≤ 79) ∨ (wd = true ∧ 81 ≤ op ∧ op ≤ 90)) :
    Calls Tryz.prog 137 #[ptrTo E.mb, .int .u8 op] w fun r w' => r = .returned (.int .i64 0) ∧ MSt E w' (putR (popR (popR s)) (truth (compareR wd (op - (if wd then 81 else 70)) (topR (popR s)) (topR s)))) ∧ Kp (upm E) w w' := by
  have c1 := mcompare_any h hs0 hs wd (op - (if wd then 81 else 70)) (by rcases hop with ⟨rfl, a, b⟩ | ⟨rfl, a, b⟩ <;> simp <;> omega)
  generalize putR (popR (popR s)) (truth (compareR wd (op - (if wd then 81 else 70)) (topR (popR s)) (topR s))) = R at *
  have n1 : ((op : Int) == 69) = false := by simp only [beq_eq_false_iff_ne]; rcases hop with ⟨-, a, b⟩ | ⟨-, a, b⟩ <;> omega
  have n2 : ((op : Int) == 80) = false := by simp only [beq_eq_false_iff_ne]; rcases hop with ⟨-, a, b⟩ | ⟨-, a, b⟩ <;> omega
  rcases hop with ⟨rfl, a, b⟩ | ⟨rfl, a, b⟩
  · have ha : (70 : Int) ≤ op := by omega
    have hb : (op : Int) ≤ 79 := by omega
    have hw : IntKind.u8.wrap ((op : Int) - 70) = ((op - 70 : Nat) : Int) := by rw [IntKind.wrap_u8]; omega
    have c2 : Calls Tryz.prog 171 #[ptrTo E.mb, .int .u64 32, .int .u8 (op - 70 : Nat)] w fun r w' => r = .returned (.tuple #[]) ∧ MSt E w' R ∧ Kp (upm E) w w' := c1
    have C1 := hide c2
    clear h c1 c2 a b
    generalize op - 70 = k at *
    go_enter Tryz.func137, Tryz.ntmps137
    go_wp2_with fail
    refine C1.out.mono ?_
    rintro e w1 ⟨rfl, h1, k1⟩
    go_wp2
    go_ret
    exact ⟨rfl, h1, k1⟩
  · have ha : (81 : Int) ≤ op := by omega
    have hb : (op : Int) ≤ 90 := by omega
    have hw : IntKind.u8.wrap ((op : Int) - 81) = ((op - 81 : Nat) : Int) := by rw [IntKind.wrap_u8]; omega
    have c2 : Calls Tryz.prog 171 #[ptrTo E.mb, .int .u64 64, .int .u8 (op - 81 : Nat)] w fun r w' => r = .returned (.tuple #[]) ∧ MSt E w' R ∧ Kp (upm E) w w' := c1
    have C1 := hide c2
    clear h c1 c2 a b
    generalize op - 81 = k at *
    go_enter Tryz.func137, Tryz.ntmps137
    go_wp2_with fail
    refine C1.out.mono ?_
    rintro e w1 ⟨rfl, h1, k1⟩
    go_wp2
    go_ret
    exact ⟨rfl, h1, k1⟩

set_option maxRecDepth 100000 in
set_option maxHeartbeats 1000000 in
theorem reckon_combine (h : MSt E w s) (hs : s.stack.length ≤ 1000000000) {op : Nat} (wd : Bool) (hop : (wd = false ∧ 106 ≤ op ∧ op ≤ 120) ∨ (wd = true ∧ 124 ≤ op ∧ op ≤ 138)) {t : Nat} {s' : Mc} (hm : combineB wd (op - (if wd then 124 else 106)) s = some (t, s')) :
    Calls Tryz.prog 137 #[ptrTo E.mb, .int .u8 op] w fun r w' => r = .returned (.int .i64 t) ∧ MSt E w' s' ∧ Kp (upm E) w w' := by
  have c1 := mcombine_any h hs wd (op - (if wd then 124 else 106)) (by rcases hop with ⟨rfl, a, b⟩ | ⟨rfl, a, b⟩ <;> simp <;> omega) hm
  have n1 : ((op : Int) == 69) = false := by simp only [beq_eq_false_iff_ne]; rcases hop with ⟨-, a, b⟩ | ⟨-, a, b⟩ <;> omega
  have n2 : ((op : Int) == 80) = false := by simp only [beq_eq_false_iff_ne]; rcases hop with ⟨-, a, b⟩ | ⟨-, a, b⟩ <;> omega
  rcases hop with ⟨rfl, a, b⟩ | ⟨rfl, a, b⟩
  · have ha : (106 : Int) ≤ op := by omega
    have hb : (op : Int) ≤ 120 := by omega
    have hw : IntKind.u8.wrap ((op : Int) - 106) = ((op - 106 : Nat) : Int) := by rw [IntKind.wrap_u8]; omega
    have c2 : Calls Tryz.prog 173 #[ptrTo E.mb, .int .u64 32, .int .u8 (op - 106 : Nat)] w fun r w' => r = .returned (.int .i64 t) ∧ MSt E w' s' ∧ Kp (upm E) w w' := c1
    have C1 := hide c2
    clear h c1 c2 a b hm
    generalize op - 106 = k at *
    go_enter Tryz.func137, Tryz.ntmps137
    go_wp2_with fail
    refine C1.out.mono ?_
    rintro e w1 ⟨rfl, h1, k1⟩
    go_wp2
    go_ret
    exact ⟨rfl, h1, k1⟩
  · have ha : (124 : Int) ≤ op := by omega
    have hb : (op : Int) ≤ 138 := by omega
    have hw : IntKind.u8.wrap ((op : Int) - 124) = ((op - 124 : Nat) : Int) := by rw [IntKind.wrap_u8]; omega
    have c2 : Calls Tryz.prog 173 #[ptrTo E.mb, .int .u64 64, .int .u8 (op - 124 : Nat)] w fun r w' => r = .returned (.int .i64 t) ∧ MSt E w' s' ∧ Kp (upm E) w w' := c1
    have C1 := hide c2
    clear h c1 c2 a b hm
    generalize op - 124 = k at *
    go_enter Tryz.func137, Tryz.ntmps137
    go_wp2_with fail
    refine C1.out.mono ?_
    rintro e w1 ⟨rfl, h1, k1⟩
    go_wp2
    go_ret
    exact ⟨rfl, h1, k1⟩

set_option maxRecDepth 100000 in
set_option maxHeartbeats 1000000 in
theorem reckon_lower (h : MSt E w s) (hs0 : 0 < s.stack.length) (hs : s.stack.length ≤ 1000000000) :
    Calls Tryz.prog 137 #[ptrTo E.mb, .int .u8 167] w fun r w' => r = .returned (.int .i64 0) ∧ MSt E w' (putR (popR s) (cutR false (topR s))) ∧ Kp (upm E) w w' := by
  have t1 := takeR_any h hs0 hs
  have p1 := fun b W (hW : MSt E W (popR s)) => putR_any hW b (Nat.le_trans (pop_len s) hs)
  have c1 : ∀ n W, Calls Tryz.prog 174 #[.int .u64 32, .int .u64 n] W fun r w' => r = .returned (.int .u64 (cutR false n)) ∧ w' = W := fun n W => cut_any false n W
  generalize topR s = a at *
  have T1 := hide t1
  have P1 := hide p1
  have C1 := hide c1
  clear h t1 p1 c1
  go_enter Tryz.func137, Tryz.ntmps137
  go_wp2_with fail
  refine T1.out.mono ?_
  rintro e w1 ⟨rfl, h1, k1⟩
  go_wp2_with fail
  refine (C1.out _ _).mono ?_
  rintro e w2 ⟨rfl, rfl⟩
  go_wp2_with fail
  refine (P1.out _ _ h1).mono ?_
  rintro e w2 ⟨rfl, h2, k2⟩
  go_wp2
  go_ret
  exact ⟨rfl, h2, k1.trans k2⟩

set_option maxRecDepth 100000 in
set_option maxHeartbeats 1000000 in
theorem reckon_widenS (h : MSt E w s) (hs0 : 0 < s.stack.length) (hs : s.stack.length ≤ 1000000000) :
    Calls Tryz.prog 137 #[ptrTo E.mb, .int .u8 172] w fun r w' => r = .returned (.int .i64 0) ∧ MSt E w' (putR (popR s) (IntKind.u64.wrap (signR false (topR s)))) ∧ Kp (upm E) w w' := by
  have t1 := takeR_any h hs0 hs
  have p1 := fun b W (hW : MSt E W (popR s)) => putR_any hW b (Nat.le_trans (pop_len s) hs)
  have c1 : ∀ n W, Calls Tryz.prog 175 #[.int .u64 32, .int .u64 n] W fun r w' => r = .returned (.int .i64 (signR false n)) ∧ w' = W := fun n W => wsigned_any false n W
  generalize topR s = a at *
  have T1 := hide t1
  have P1 := hide p1
  have C1 := hide c1
  clear h t1 p1 c1
  go_enter Tryz.func137, Tryz.ntmps137
  go_wp2_with fail
  refine T1.out.mono ?_
  rintro e w1 ⟨rfl, h1, k1⟩
  go_wp2_with fail
  refine (C1.out _ _).mono ?_
  rintro e w2 ⟨rfl, rfl⟩
  go_wp2_with fail
  refine (P1.out _ _ h1).mono ?_
  rintro e w2 ⟨rfl, h2, k2⟩
  go_wp2
  go_ret
  exact ⟨rfl, h2, k1.trans k2⟩

set_option maxRecDepth 100000 in
set_option maxHeartbeats 1000000 in
theorem reckon_widen (h : MSt E w s) :
    Calls Tryz.prog 137 #[ptrTo E.mb, .int .u8 173] w fun r w' => r = .returned (.int .i64 0) ∧ MSt E w' s ∧ Kp (upm E) w w' := by
  have H := hide h
  clear h
  go_enter Tryz.func137, Tryz.ntmps137
  go_wp2
  go_ret
  exact ⟨rfl, H.out, Kp.refl _ _⟩

theorem reckon_any (h : MSt E w s) (hs : s.stack.length ≤ 1000000000) {op : Nat} {t : Nat} {s' : Mc} (hm : reckonR s op = some (t, s')) :
    Calls Tryz.prog 137 #[ptrTo E.mb, .int .u8 op] w fun r w' => r = .returned (.int .i64 t) ∧ MSt E w' s' ∧ Kp (upm E) w w' := by
  unfold reckonR at hm
  split at hm
  · rename_i hop
    split at hm
    · cases hm
    · cases hm; exact reckon_zero h (by omega) hs hop
  split at hm
  · rename_i hop
    unfold compareB at hm
    split at hm
    · rename_i hl; cases hm; exact reckon_compare h hl hs false (.inl ⟨rfl, hop.1, hop.2⟩)
    · cases hm
  split at hm
  · rename_i hop
    unfold compareB at hm
    split at hm
    · rename_i hl; cases hm; exact reckon_compare h hl hs true (.inr ⟨rfl, hop.1, hop.2⟩)
    · cases hm
  split at hm
  · rename_i hop; exact reckon_combine h hs false (.inl ⟨rfl, hop.1, hop.2⟩) hm
  split at hm
  · rename_i hop; exact reckon_combine h hs true (.inr ⟨rfl, hop.1, hop.2⟩) hm
  split at hm
  · rename_i hop
    split at hm
    · cases hm
    · cases hm; subst hop; exact reckon_lower h (by omega) hs
  split at hm
  · rename_i hop
    split at hm
    · cases hm
    · cases hm; subst hop; exact reckon_widenS h (by omega) hs
  split at hm
  · rename_i hop; cases hm; subst hop; exact reckon_widen h
  · cases hm
end

end Go.Proofs.YtdeplgkhmebalaaGreatDoor

namespace Go.Proofs.YtdeplgkhmebalaaGreatDoor
open Go.RowKit

def memoryR (_ : Mc) (_ : Ins) : Option (Nat × Mc) := none
def getKeyR (_ : Mc) : Option Mc := none
def setKeyR (_ : Mc) : Option (Nat × Mc) := none

section
variable {E : MEnv} {w : World} {s : Mc}
theorem memory_any (_ : MSt E w s) (_ : s.stack.length ≤ 1000000000) {x : Ins} {t : Nat} {s' : Mc} (hm : memoryR s x = some (t, s')) :
    Calls Tryz.prog 133 #[ptrTo E.mb, insAgg x] w fun r w' => r = .returned (.int .i64 t) ∧ MSt E w' s' ∧ Kp (upm E) w w' := by cases hm
theorem getKey_any (_ : MSt E w s) (_ : s.stack.length ≤ 1000000000) {s' : Mc} (hm : getKeyR s = some s') :
    Calls Tryz.prog 135 #[ptrTo E.mb] w fun r w' => r = .returned (.tuple #[]) ∧ MSt E w' s' ∧ Kp (upm E) w w' := by cases hm
theorem setKey_any (_ : MSt E w s) (_ : s.stack.length ≤ 1000000000) {t : Nat} {s' : Mc} (hm : setKeyR s = some (t, s')) :
    Calls Tryz.prog 136 #[ptrTo E.mb] w fun r w' => r = .returned (.int .i64 t) ∧ MSt E w' s' ∧ Kp (upm E) w w' := by cases hm
end

end Go.Proofs.YtdeplgkhmebalaaGreatDoor

namespace Go.Proofs.YtdeplgkhmebalaaGreatDoor
open Go.RowKit

def stepR (f : Flat) (s : Mc) (x : Ins) : Option (Nat × Mc) :=
  if x.op.toNat ≤ 16 then controlR f s x
  else if x.op.toNat = 26 then (if s.stack.length = 0 then none else some (0, popR s))
  else if x.op.toNat = 27 then (if s.stack.length < 3 then none else some (0, chooseR s))
  else if x.op.toNat ≤ 36 then (variableR s x).map (fun s' => (0, s'))
  else if x.op.toNat ≤ 64 then memoryR s x
  else if x.op.toNat ≤ 66 then some (0, putR s x.num)
  else if x.op.toNat = 224 then (getKeyR s).map (fun s' => (0, s'))
  else if x.op.toNat = 225 then setKeyR s
  else reckonR s x.op.toNat

section
variable {E : MEnv} {w : World} {s : Mc}

set_option maxRecDepth 100000 in
set_option maxHeartbeats 1000000 in
theorem step_any' (h : MSt E w s) (hc1 : s.calls.length ≤ 16) (hs : s.stack.length ≤ 1000000000) (hgl : s.gl.length ≤ 1000000) (hok : E.f.Ok) {x : Ins} (hnum : x.op = 16 → x.num < 1000000) {t : Nat} {s' : Mc} (hm : stepR E.f s x = some (t, s')) :
    Calls Tryz.prog 103 #[ptrTo E.mb, insAgg x] w fun r w' => r = .returned (.int .i64 t) ∧ MSt E w' s' ∧ Kp (upm E) w w' := by
  have hro := h.roLo
  have hbx := h.box (insObj x)
  have HRo := hide hro
  clear hro
  unfold stepR at hm
  split at hm
  · rename_i hop
    have hc : Calls Tryz.prog 130 #[ptrTo E.mb, insAgg x] (w.alloc (insObj x)) fun r w' => r = .returned (.int .i64 t) ∧ MSt (E.plus (fun b => b = w.heap.size)) w' s' ∧ Kp (upm (E.plus (fun b => b = w.heap.size))) (w.alloc (insObj x)) w' := control_any hbx hc1 hs hok hnum hm
    have HC := hide hc
    obtain ⟨op, num, goal, height, keep⟩ := x
    simp only at HC hop
    have hop' : (op.toNat : Int) ≤ 16 := by omega
    clear h hbx hc hm hnum hop
    go_enter Tryz.func103, Tryz.ntmps103
    go_wp2_with fail
    refine HC.out.mono ?_
    rintro e w1 ⟨rfl, h1, k1⟩
    go_wp2
    go_ret
    exact ⟨rfl, h1.free HRo.out, ((Kp.refl _ _).alloc _).trans (upm_plus k1)⟩
  rename_i g1
  split at hm
  · rename_i hop
    split at hm
    · cases hm
    · rename_i hl
      cases hm
      have hc := take_plus hbx (by omega) hs
      have HC := hide hc
      obtain ⟨op, num, goal, height, keep⟩ := x
      simp only at HC hop
      obtain rfl : op = 26 := UInt8.toNat_inj.1 hop
      clear h hbx hc hnum hop g1
      go_enter Tryz.func103, Tryz.ntmps103
      go_wp2_with fail
      refine HC.out.mono ?_
      rintro e w1 ⟨rfl, h1, k1⟩
      go_wp2
      go_ret
      exact ⟨rfl, h1.free HRo.out, ((Kp.refl _ _).alloc _).trans (upm_plus k1)⟩
  rename_i g2
  split at hm
  · rename_i hop
    split at hm
    · cases hm
    · rename_i hl
      cases hm
      have hc : Calls Tryz.prog 131 #[ptrTo E.mb] (w.alloc (insObj x)) fun r w' => r = .returned (.tuple #[]) ∧ MSt (E.plus (fun b => b = w.heap.size)) w' (chooseR s) ∧ Kp (upm (E.plus (fun b => b = w.heap.size))) (w.alloc (insObj x)) w' := choose_any' hbx (by omega) hs
      have HC := hide hc
      obtain ⟨op, num, goal, height, keep⟩ := x
      simp only at HC hop
      obtain rfl : op = 27 := UInt8.toNat_inj.1 hop
      clear h hbx hc hnum hop g1 g2
      go_enter Tryz.func103, Tryz.ntmps103
      go_wp2_with fail
      refine HC.out.mono ?_
      rintro e w1 ⟨rfl, h1, k1⟩
      go_wp2
      go_ret
      exact ⟨rfl, h1.free HRo.out, ((Kp.refl _ _).alloc _).trans (upm_plus k1)⟩
  rename_i g3
  have n26 : ((x.op.toNat : Int) == 26) = false := by simp only [beq_eq_false_iff_ne]; omega
  have n27 : ((x.op.toNat : Int) == 27) = false := by simp only [beq_eq_false_iff_ne]; omega
  have n16 : ¬ ((x.op.toNat : Int) ≤ 16) := by omega
  clear g2 g3
  split at hm
  · rename_i hop
    cases hv : variableR s x with
    | none => rw [hv] at hm; cases hm
    | some s1 =>
      rw [hv] at hm
      cases hm
      have hc : Calls Tryz.prog 132 #[ptrTo E.mb, insAgg x] (w.alloc (insObj x)) fun r w' => r = .returned (.tuple #[]) ∧ MSt (E.plus (fun b => b = w.heap.size)) w' s' ∧ Kp (upm (E.plus (fun b => b = w.heap.size))) (w.alloc (insObj x)) w' := variable_any hbx hc1 hs hgl hv
      have HC := hide hc
      obtain ⟨op, num, goal, height, keep⟩ := x
      simp only at HC hop n26 n27 n16
      have hop' : (op.toNat : Int) ≤ 36 := by omega
      clear h hbx hc hnum hop g1 hv
      go_enter Tryz.func103, Tryz.ntmps103
      go_wp2_with fail
      refine HC.out.mono ?_
      rintro e w1 ⟨rfl, h1, k1⟩
      go_wp2
      go_ret
      exact ⟨rfl, h1.free HRo.out, ((Kp.refl _ _).alloc _).trans (upm_plus k1)⟩
  rename_i g4
  have n36 : ¬ ((x.op.toNat : Int) ≤ 36) := by omega
  split at hm
  · rename_i hop
    have hc : Calls Tryz.prog 133 #[ptrTo E.mb, insAgg x] (w.alloc (insObj x)) fun r w' => r = .returned (.int .i64 t) ∧ MSt (E.plus (fun b => b = w.heap.size)) w' s' ∧ Kp (upm (E.plus (fun b => b = w.heap.size))) (w.alloc (insObj x)) w' := memory_any hbx hs hm
    have HC := hide hc
    obtain ⟨op, num, goal, height, keep⟩ := x
    simp only at HC hop n26 n27 n16 n36
    have hop' : (op.toNat : Int) ≤ 64 := by omega
    clear h hbx hc hnum hop g1 hm g4
    go_enter Tryz.func103, Tryz.ntmps103
    go_wp2_with fail
    refine HC.out.mono ?_
    rintro e w1 ⟨rfl, h1, k1⟩
    go_wp2
    go_ret
    exact ⟨rfl, h1.free HRo.out, ((Kp.refl _ _).alloc _).trans (upm_plus k1)⟩
  rename_i g5
  have n64 : ¬ ((x.op.toNat : Int) ≤ 64) := by omega
  split at hm
  · rename_i hop
    cases hm
    have hc := put_plus hbx (x.num : Int) hs
    have HC := hide hc
    obtain ⟨op, num, goal, height, keep⟩ := x
    simp only at HC hop n26 n27 n16 n36 n64
    have hop' : (op.toNat : Int) ≤ 66 := by omega
    clear h hbx hc hnum hop g1 g4 g5
    go_enter Tryz.func103, Tryz.ntmps103
    go_wp2_with fail
    refine HC.out.mono ?_
    rintro e w1 ⟨rfl, h1, k1⟩
    go_wp2
    go_ret
    exact ⟨rfl, h1.free HRo.out, ((Kp.refl _ _).alloc _).trans (upm_plus k1)⟩
  rename_i g6
  have n66 : ¬ ((x.op.toNat : Int) ≤ 66) := by omega
  split at hm
  · rename_i hop
    cases hv : getKeyR s with
    | none => rw [hv] at hm; cases hm
    | some s1 =>
      rw [hv] at hm
      cases hm
      have hc : Calls Tryz.prog 135 #[ptrTo E.mb] (w.alloc (insObj x)) fun r w' => r = .returned (.tuple #[]) ∧ MSt (E.plus (fun b => b = w.heap.size)) w' s' ∧ Kp (upm (E.plus (fun b => b = w.heap.size))) (w.alloc (insObj x)) w' := getKey_any hbx hs hv
      have HC := hide hc
      obtain ⟨op, num, goal, height, keep⟩ := x
      simp only at HC hop n26 n27 n16 n36 n64 n66
      obtain rfl : op = 224 := UInt8.toNat_inj.1 hop
      clear h hbx hc hnum hop g1 g4 g5 g6 hv
      go_enter Tryz.func103, Tryz.ntmps103
      go_wp2_with fail
      refine HC.out.mono ?_
      rintro e w1 ⟨rfl, h1, k1⟩
      go_wp2
      go_ret
      exact ⟨rfl, h1.free HRo.out, ((Kp.refl _ _).alloc _).trans (upm_plus k1)⟩
  rename_i g7
  split at hm
  · rename_i hop
    have hc : Calls Tryz.prog 136 #[ptrTo E.mb] (w.alloc (insObj x)) fun r w' => r = .returned (.int .i64 t) ∧ MSt (E.plus (fun b => b = w.heap.size)) w' s' ∧ Kp (upm (E.plus (fun b => b = w.heap.size))) (w.alloc (insObj x)) w' := setKey_any hbx hs hm
    have HC := hide hc
    obtain ⟨op, num, goal, height, keep⟩ := x
    simp only at HC hop n26 n27 n16 n36 n64 n66
    obtain rfl : op = 225 := UInt8.toNat_inj.1 hop
    clear h hbx hc hnum hop g1 g4 g5 g6 g7 hm
    go_enter Tryz.func103, Tryz.ntmps103
    go_wp2_with fail
    refine HC.out.mono ?_
    rintro e w1 ⟨rfl, h1, k1⟩
    go_wp2
    go_ret
    exact ⟨rfl, h1.free HRo.out, ((Kp.refl _ _).alloc _).trans (upm_plus k1)⟩
  · rename_i g8
    have n224 : ((x.op.toNat : Int) == 224) = false := by simp only [beq_eq_false_iff_ne]; omega
    have n225 : ((x.op.toNat : Int) == 225) = false := by simp only [beq_eq_false_iff_ne]; omega
    have hc : Calls Tryz.prog 137 #[ptrTo E.mb, .int .u8 x.op.toNat] (w.alloc (insObj x)) fun r w' => r = .returned (.int .i64 t) ∧ MSt (E.plus (fun b => b = w.heap.size)) w' s' ∧ Kp (upm (E.plus (fun b => b = w.heap.size))) (w.alloc (insObj x)) w' := reckon_any hbx hs hm
    have HC := hide hc
    obtain ⟨op, num, goal, height, keep⟩ := x
    simp only at HC n26 n27 n16 n36 n64 n66 n224 n225
    clear h hbx hc hnum g1 g4 g5 g6 g7 g8 hm
    go_enter Tryz.func103, Tryz.ntmps103
    go_wp2_with fail
    refine HC.out.mono ?_
    rintro e w1 ⟨rfl, h1, k1⟩
    go_wp2
    go_ret
    exact ⟨rfl, h1.free HRo.out, ((Kp.refl _ _).alloc _).trans (upm_plus k1)⟩
end

end Go.Proofs.YtdeplgkhmebalaaGreatDoor

namespace Go.Proofs.YtdeplgkhmebalaaGreatDoor
open Go.RowKit

def burnsR (op : UInt8) : Bool := op != 5 && op != 11
/-- What comes of a step: on, or the end. -/
def afterR (m : Option (Nat × Mc)) (next : Mc → Option (Nat × Mc)) : Option (Nat × Mc) :=
  match m with
  | none => none
  | some (t, s) => if t = 0 then next s else some (t, s)
def runR (f : Flat) : Nat → Mc → Option (Nat × Mc)
  | 0, _ => none
  | n + 1, s =>
    if s.calls.length = 0 then some (0, s)
    else if s.pos < f.code.length then
      (if burnsR (f.code.getD s.pos ins0).op then
        (if s.fuel = 0 then some (5, { s with pos := s.pos + 1 })
        else afterR (stepR f { s with pos := s.pos + 1, fuel := s.fuel - 1 } (f.code.getD s.pos ins0)) (runR f n))
      else afterR (stepR f { s with pos := s.pos + 1 } (f.code.getD s.pos ins0)) (runR f n))
    else none

/-- How great a state may be. -/
structure Mc.Ok (s : Mc) (N : Nat) : Prop where
  st : s.stack.length ≤ N
  cl : s.calls.length ≤ 16
  gl : s.gl.length ≤ 1000000
  fu : s.fuel ≤ 1000000
theorem Mc.Ok.le {s : Mc} {N M : Nat} (h : s.Ok N) (hm : N ≤ M) : s.Ok M := ⟨Nat.le_trans h.st hm, h.cl, h.gl, h.fu⟩

theorem Mc.Ok.pop {s : Mc} {N : Nat} (h : s.Ok N) : (popR s).Ok N := ⟨Nat.le_trans (pop_len s) h.st, h.cl, h.gl, h.fu⟩
theorem Mc.Ok.put {s : Mc} {N : Nat} (h : s.Ok N) (v : Int) : (putR s v).Ok (N + 1) := ⟨by unfold putR; simp; exact h.st, h.cl, h.gl, h.fu⟩
theorem Mc.Ok.sink {s : Mc} {N : Nat} (h : s.Ok N) {a b : Nat} (hab : a + b ≤ s.stack.length) : (sinkR s a b).Ok N := ⟨by unfold sinkR; simp; have := h.st; omega, h.cl, h.gl, h.fu⟩
theorem Mc.Ok.jump {s : Mc} {N : Nat} (h : s.Ok N) {x : Ins} (hj : jumpOk s x = true) : (jumpR s x).Ok N := by
  have := h.sink (a := (curR s).2.1 + x.height) (b := x.keep) (jumpOk_spec hj).2
  exact ⟨this.st, this.cl, this.gl, this.fu⟩
theorem jumpB_ok {s : Mc} {N : Nat} (h : s.Ok N) {x : Ins} {t : Nat} {s' : Mc} (hm : jumpB s x = some (t, s')) : s'.Ok N := by
  unfold jumpB at hm
  split at hm
  · rename_i hj; cases hm; exact h.jump hj
  · cases hm
theorem control_ok {f : Flat} {s : Mc} {N : Nat} (h : s.Ok N) {x : Ins} {t : Nat} {s' : Mc} (hm : controlR f s x = some (t, s')) : s'.Ok (N + 1000) := by
  unfold controlR at hm
  split at hm
  · cases hm; exact h.le (by omega)
  split at hm
  · cases hm; exact h.le (by omega)
  split at hm
  · split at hm
    · cases hm
    · split at hm
      · exact (jumpB_ok h.pop hm).le (by omega)
      · cases hm; exact h.pop.le (by omega)
  split at hm
  · exact (jumpB_ok h hm).le (by omega)
  split at hm
  · split at hm
    · rename_i hl
      cases hm
      have := h.sink (a := (curR s).1) (b := s.stack.length - (curR s).2.1) (by omega)
      refine ⟨Nat.le_trans this.st (by omega), ?_, this.gl, this.fu⟩
      unfold leaveR; simp; have := h.cl; omega
    · cases hm
  split at hm
  · split at hm
    · cases hm
    · split at hm
      · cases hm; exact h.pop.le (by omega)
      · exact (jumpB_ok h.pop hm).le (by omega)
  split at hm
  · split at hm
    · cases hm
    · split at hm
      · exact (jumpB_ok h.pop hm).le (by omega)
      · cases hm
  split at hm
  · unfold enterB at hm
    split at hm
    · cases hm; exact h.le (by omega)
    · rename_i h16
      split at hm
      · rename_i hc
        cases hm
        refine ⟨?_, ?_, h.gl, h.fu⟩
        · show (s.stack ++ List.replicate _ (0 : Int)).length ≤ _
          rw [List.length_append, List.length_replicate]; have := h.st; omega
        · show (s.calls ++ [_]).length ≤ _
          rw [List.length_append, List.length_singleton]; have := h.cl; omega
      · cases hm
  · cases hm
theorem variable_ok {s : Mc} {N : Nat} (h : s.Ok N) {x : Ins} {s' : Mc} (hm : variableR s x = some s') : s'.Ok (N + 1) := by
  unfold variableR at hm
  have hp := h.pop
  split at hm
  · split at hm
    · cases hm; exact h.put _
    · cases hm
  split at hm
  · split at hm
    · cases hm; exact ⟨by simp; have := hp.st; omega, hp.cl, hp.gl, hp.fu⟩
    · cases hm
  split at hm
  · split at hm
    · cases hm
      have hq : Mc.Ok { popR s with stack := (popR s).stack.set ((curR s).1 + x.num) (topR s) } N := ⟨by rw [List.length_set]; exact hp.st, hp.cl, hp.gl, hp.fu⟩
      exact hq.put _
    · cases hm
  split at hm
  · split at hm
    · cases hm; exact h.put _
    · cases hm
  split at hm
  · split at hm
    · cases hm; exact ⟨Nat.le_trans hp.st (by omega), hp.cl, (by simp; exact h.gl), hp.fu⟩
    · cases hm
  · cases hm
theorem reckon_ok {s : Mc} {N : Nat} (h : s.Ok N) {op t : Nat} {s' : Mc} (hm : reckonR s op = some (t, s')) : s'.Ok (N + 1) := by
  unfold reckonR at hm
  have hp := h.pop
  have hpp := hp.pop
  have hcmp : ∀ {wd : Bool} {k : Nat}, compareB wd k s = some (t, s') → s'.Ok (N + 1) := fun hm => by
    unfold compareB at hm
    split at hm
    · cases hm; exact hpp.put _
    · cases hm
  have hcmb : ∀ {wd : Bool} {k : Nat}, combineB wd k s = some (t, s') → s'.Ok (N + 1) := fun hm => by
    unfold combineB at hm
    split at hm
    · split at hm
      · cases hm
      · split at hm
        · cases hm; exact hpp.put _
        · cases hm; exact hpp.le (by omega)
    · cases hm
  split at hm
  · split at hm
    · cases hm
    · cases hm; exact hp.put _
  split at hm
  · exact hcmp hm
  split at hm
  · exact hcmp hm
  split at hm
  · exact hcmb hm
  split at hm
  · exact hcmb hm
  split at hm
  · split at hm
    · cases hm
    · cases hm; exact hp.put _
  split at hm
  · split at hm
    · cases hm
    · cases hm; exact hp.put _
  split at hm
  · cases hm; exact h.le (by omega)
  · cases hm
theorem step_ok {f : Flat} {s : Mc} {N : Nat} (h : s.Ok N) {x : Ins} {t : Nat} {s' : Mc} (hm : stepR f s x = some (t, s'))
    (hmem : ∀ {t s'}, memoryR s x = some (t, s') → s'.Ok (N + 1000)) (hget : ∀ {s'}, getKeyR s = some s' → s'.Ok (N + 1000)) (hset : ∀ {t s'}, setKeyR s = some (t, s') → s'.Ok (N + 1000)) : s'.Ok (N + 1000) := by
  unfold stepR at hm
  split at hm
  · exact control_ok h hm
  split at hm
  · split at hm
    · cases hm
    · cases hm; exact h.pop.le (by omega)
  split at hm
  · split at hm
    · cases hm
    · cases hm; exact (h.pop.pop.pop.put _).le (by omega)
  split at hm
  · cases hv : variableR s x with
    | none => rw [hv] at hm; cases hm
    | some s1 => rw [hv] at hm; cases hm; exact (variable_ok h hv).le (by omega)
  split at hm
  · exact hmem hm
  split at hm
  · cases hm; exact (h.put _).le (by omega)
  split at hm
  · cases hv : getKeyR s with
    | none => rw [hv] at hm; cases hm
    | some s1 => rw [hv] at hm; cases hm; exact hget hv
  split at hm
  · exact hset hm
  · exact (reckon_ok h hm).le (by omega)

set_option maxHeartbeats 400000 in
theorem burns_any (op : UInt8) (w : World) : Calls Tryz.prog 102 #[.int .u8 op.toNat] w fun r w' => r = .returned (.bool (burnsR op)) ∧ w' = w := by
  by_cases h5 : op = 5
  · subst h5
    rw [show burnsR 5 = false from rfl]
    go_enter Tryz.func102, Tryz.ntmps102
    go_wp2
    go_ret
    exact ⟨rfl, rfl⟩
  by_cases h11 : op = 11
  · subst h11
    rw [show burnsR 11 = false from rfl]
    go_enter Tryz.func102, Tryz.ntmps102
    go_wp2
    go_ret
    exact ⟨rfl, rfl⟩
  · have hb : burnsR op = true := by simp [burnsR, h5, h11]
    have n5 : ((op.toNat : Int) == 5) = false := by
      simp only [beq_eq_false_iff_ne]; exact fun e => h5 (UInt8.toNat_inj.1 (by show op.toNat = 5; omega))
    have n11 : ((op.toNat : Int) == 11) = false := by
      simp only [beq_eq_false_iff_ne]; exact fun e => h11 (UInt8.toNat_inj.1 (by show op.toNat = 11; omega))
    have m5 : ¬ ((op.toNat : Int) = 5) := by simpa using n5
    have m11 : ¬ ((op.toNat : Int) = 11) := by simpa using n11
    rw [hb]
    clear h5 h11 hb
    go_enter Tryz.func102, Tryz.ntmps102
    go_wp2
    go_ret
    refine ⟨?_, rfl⟩
    show Ending.returned (.bool (((op.toNat : Int) != 5) && ((op.toNat : Int) != 11))) = _
    simp [bne, n5, n11]

end Go.Proofs.YtdeplgkhmebalaaGreatDoor
