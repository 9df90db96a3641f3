/- The program's look at a body: instructions of their own kind. -/
import Derived.Test.YtdeplgkhmebalaaGreatDoorP05
import Derived.Test.YtdeplgkhmebalaaGreatDoorP08
import Derived.Test.YtdeplgkhmebalaaGreatDoorP09
import Derived.Test.YtdeplgkhmebalaaGreatDoorP10
import Derived.Test.YtdeplgkhmebalaaGreatDoorP11
import Derived.Test.YtdeplgkhmebalaaGreatDoorP02

namespace Go.Proofs.YtdeplgkhmebalaaGreatDoor
open Go.RowKit

section
variable {E : Env} {g N : Nat} {w : World} {s : Bd}

theorem turn_any (h : BSt E g w s) (z : Sz N s) (hN : N ≤ 400000) (hne : s.blocks ≠ []) : Calls Tryz.prog 256 #[ptrTo E.bb] w fun r w' => Done E w w' (turnM s) r ∧ Kp (nro E.ro) w w' := by
  by_cases h1 : s.top.kind ≠ 3 ∨ fullM s (s.blocks.length - 1) = false
  · have : turnM s = wrongM s := by unfold turnM; rw [if_pos h1]
    rw [this]; exact turn_no h z (by omega) hne h1
  · refine turn_ok h z (by omega) hne ?_ ?_
    · exact Classical.byContradiction (fun e => h1 (.inl e))
    · cases hf : fullM s (s.blocks.length - 1)
      · exact absurd (.inr hf) h1
      · rfl
theorem end_any (h : BSt E g w s) (z : Sz N s) (hN : N ≤ 400000) (hne : s.blocks ≠ []) : Calls Tryz.prog 257 #[ptrTo E.bb] w fun r w' => Done E w w' (endM s) r ∧ Kp (nro E.ro) w w' := by
  by_cases h1 : fullM s (s.blocks.length - 1) = false ∨ (s.top.kind = 3 ∧ s.top.result ≠ [])
  · have : endM s = wrongM s := by unfold endM; rw [if_pos h1]
    rw [this]; exact end_no h z (by omega) hne h1
  · have hf : fullM s (s.blocks.length - 1) = true := by
      cases hf : fullM s (s.blocks.length - 1)
      · exact absurd (.inl hf) h1
      · rfl
    by_cases h3 : s.top.kind = 3
    · exact end_ok_if h z (by omega) hne hf ⟨h3, Classical.byContradiction (fun e => h1 (.inr ⟨h3, e⟩))⟩
    · by_cases h0 : s.top.kind = 0
      · exact end_ok_whole h z (by omega) hne hf h0
      · exact end_ok_other h z (by omega) hne hf ⟨h3, h0⟩
theorem open_any (h : BSt E g w s) (z : Sz N s) (hN : N ≤ 400000) (hne : s.blocks ≠ []) (op : UInt8) : Calls Tryz.prog 255 #[ptrTo E.bb, .int .u8 op.toNat] w fun r w' => Done E w w' (openM E.c op s) r ∧ Kp (nro E.ro) w w' := by
  by_cases h4 : op = 4
  · exact open_b h z (by omega) hne op h4
  · exact open_a h z (by omega) hne op h4

set_option maxRecDepth 100000 in
set_option maxHeartbeats 1000000 in
theorem special_0 (h : BSt E g w s) (z : Sz N s) (hN : N ≤ 400000) (_hne : s.blocks ≠ []) (op : UInt8) (hop : op = 0) : Calls Tryz.prog 212 #[ptrTo E.bb, .int .u8 op.toNat] w fun r w' => Done E w w' (specialM E.c op s) r ∧ Kp (nro E.ro) w w' := by
  have hM : specialM E.c op s = stopM s := by rw [hop]; rfl
  rw [hM]
  have hcon := stop_any h z (by omega)
  have q0 : ((op.toNat : Int) == 0) = true := by rw [hop]; rfl
  have q2 : ((op.toNat : Int) == 2) = false := by rw [hop]; rfl
  have q3 : ((op.toNat : Int) == 3) = false := by rw [hop]; rfl
  have q4 : ((op.toNat : Int) == 4) = false := by rw [hop]; rfl
  have q5 : ((op.toNat : Int) == 5) = false := by rw [hop]; rfl
  have q11 : ((op.toNat : Int) == 11) = false := by rw [hop]; rfl
  have q12 : ((op.toNat : Int) == 12) = false := by rw [hop]; rfl
  have q13 : ((op.toNat : Int) == 13) = false := by rw [hop]; rfl
  have q14 : ((op.toNat : Int) == 14) = false := by rw [hop]; rfl
  have q15 : ((op.toNat : Int) == 15) = false := by rw [hop]; rfl
  have q16 : ((op.toNat : Int) == 16) = false := by rw [hop]; rfl
  have q26 : ((op.toNat : Int) == 26) = false := by rw [hop]; rfl
  have q27 : ((op.toNat : Int) == 27) = false := by rw [hop]; rfl
  have q35 : ((op.toNat : Int) == 35) = false := by rw [hop]; rfl
  have q36 : ((op.toNat : Int) == 36) = false := by rw [hop]; rfl
  generalize stopM s = R at *
  have HC := hide hcon
  clear h hcon hM hop
  cases R with
  | ok s1 =>
    go_enter Tryz.func212, Tryz.ntmps212
    go_wp2_with fail
    refine HC.out.mono ?_
    rintro r w1 ⟨⟨rfl, g1, h1⟩, k1⟩
    have H1 := hide h1
    clear h1
    go_wp2
    go_ret
    exact ⟨⟨rfl, g1, H1.out⟩, k1⟩
  | error e =>
    go_enter Tryz.func212, Tryz.ntmps212
    go_wp2_with fail
    refine HC.out.mono ?_
    rintro r w1 ⟨⟨fv, rfl, hf⟩, k1⟩
    have HF := hide hf
    clear hf
    go_wp2
    go_ret
    exact ⟨⟨fv, rfl, HF.out⟩, k1⟩

set_option maxRecDepth 100000 in
set_option maxHeartbeats 1000000 in
theorem special_2 (h : BSt E g w s) (z : Sz N s) (hN : N ≤ 400000) (hne : s.blocks ≠ []) (op : UInt8) (hop : op = 2) : Calls Tryz.prog 212 #[ptrTo E.bb, .int .u8 op.toNat] w fun r w' => Done E w w' (specialM E.c op s) r ∧ Kp (nro E.ro) w w' := by
  have hM : specialM E.c op s = openM E.c op s := by rw [hop]; rfl
  rw [hM]
  have hcon := open_any h z hN hne op
  have q0 : ((op.toNat : Int) == 0) = false := by rw [hop]; rfl
  have q2 : ((op.toNat : Int) == 2) = true := by rw [hop]; rfl
  have q3 : ((op.toNat : Int) == 3) = false := by rw [hop]; rfl
  have q4 : ((op.toNat : Int) == 4) = false := by rw [hop]; rfl
  have q5 : ((op.toNat : Int) == 5) = false := by rw [hop]; rfl
  have q11 : ((op.toNat : Int) == 11) = false := by rw [hop]; rfl
  have q12 : ((op.toNat : Int) == 12) = false := by rw [hop]; rfl
  have q13 : ((op.toNat : Int) == 13) = false := by rw [hop]; rfl
  have q14 : ((op.toNat : Int) == 14) = false := by rw [hop]; rfl
  have q15 : ((op.toNat : Int) == 15) = false := by rw [hop]; rfl
  have q16 : ((op.toNat : Int) == 16) = false := by rw [hop]; rfl
  have q26 : ((op.toNat : Int) == 26) = false := by rw [hop]; rfl
  have q27 : ((op.toNat : Int) == 27) = false := by rw [hop]; rfl
  have q35 : ((op.toNat : Int) == 35) = false := by rw [hop]; rfl
  have q36 : ((op.toNat : Int) == 36) = false := by rw [hop]; rfl
  generalize openM E.c op s = R at *
  have HC := hide hcon
  clear h hcon hM hop
  cases R with
  | ok s1 =>
    go_enter Tryz.func212, Tryz.ntmps212
    go_wp2_with fail
    refine HC.out.mono ?_
    rintro r w1 ⟨⟨rfl, g1, h1⟩, k1⟩
    have H1 := hide h1
    clear h1
    go_wp2
    go_ret
    exact ⟨⟨rfl, g1, H1.out⟩, k1⟩
  | error e =>
    go_enter Tryz.func212, Tryz.ntmps212
    go_wp2_with fail
    refine HC.out.mono ?_
    rintro r w1 ⟨⟨fv, rfl, hf⟩, k1⟩
    have HF := hide hf
    clear hf
    go_wp2
    go_ret
    exact ⟨⟨fv, rfl, HF.out⟩, k1⟩

set_option maxRecDepth 100000 in
set_option maxHeartbeats 1000000 in
theorem special_3 (h : BSt E g w s) (z : Sz N s) (hN : N ≤ 400000) (hne : s.blocks ≠ []) (op : UInt8) (hop : op = 3) : Calls Tryz.prog 212 #[ptrTo E.bb, .int .u8 op.toNat] w fun r w' => Done E w w' (specialM E.c op s) r ∧ Kp (nro E.ro) w w' := by
  have hM : specialM E.c op s = openM E.c op s := by rw [hop]; rfl
  rw [hM]
  have hcon := open_any h z hN hne op
  have q0 : ((op.toNat : Int) == 0) = false := by rw [hop]; rfl
  have q2 : ((op.toNat : Int) == 2) = false := by rw [hop]; rfl
  have q3 : ((op.toNat : Int) == 3) = true := by rw [hop]; rfl
  have q4 : ((op.toNat : Int) == 4) = false := by rw [hop]; rfl
  have q5 : ((op.toNat : Int) == 5) = false := by rw [hop]; rfl
  have q11 : ((op.toNat : Int) == 11) = false := by rw [hop]; rfl
  have q12 : ((op.toNat : Int) == 12) = false := by rw [hop]; rfl
  have q13 : ((op.toNat : Int) == 13) = false := by rw [hop]; rfl
  have q14 : ((op.toNat : Int) == 14) = false := by rw [hop]; rfl
  have q15 : ((op.toNat : Int) == 15) = false := by rw [hop]; rfl
  have q16 : ((op.toNat : Int) == 16) = false := by rw [hop]; rfl
  have q26 : ((op.toNat : Int) == 26) = false := by rw [hop]; rfl
  have q27 : ((op.toNat : Int) == 27) = false := by rw [hop]; rfl
  have q35 : ((op.toNat : Int) == 35) = false := by rw [hop]; rfl
  have q36 : ((op.toNat : Int) == 36) = false := by rw [hop]; rfl
  generalize openM E.c op s = R at *
  have HC := hide hcon
  clear h hcon hM hop
  cases R with
  | ok s1 =>
    go_enter Tryz.func212, Tryz.ntmps212
    go_wp2_with fail
    refine HC.out.mono ?_
    rintro r w1 ⟨⟨rfl, g1, h1⟩, k1⟩
    have H1 := hide h1
    clear h1
    go_wp2
    go_ret
    exact ⟨⟨rfl, g1, H1.out⟩, k1⟩
  | error e =>
    go_enter Tryz.func212, Tryz.ntmps212
    go_wp2_with fail
    refine HC.out.mono ?_
    rintro r w1 ⟨⟨fv, rfl, hf⟩, k1⟩
    have HF := hide hf
    clear hf
    go_wp2
    go_ret
    exact ⟨⟨fv, rfl, HF.out⟩, k1⟩

set_option maxRecDepth 100000 in
set_option maxHeartbeats 1000000 in
theorem special_4 (h : BSt E g w s) (z : Sz N s) (hN : N ≤ 400000) (hne : s.blocks ≠ []) (op : UInt8) (hop : op = 4) : Calls Tryz.prog 212 #[ptrTo E.bb, .int .u8 op.toNat] w fun r w' => Done E w w' (specialM E.c op s) r ∧ Kp (nro E.ro) w w' := by
  have hM : specialM E.c op s = openM E.c op s := by rw [hop]; rfl
  rw [hM]
  have hcon := open_any h z hN hne op
  have q0 : ((op.toNat : Int) == 0) = false := by rw [hop]; rfl
  have q2 : ((op.toNat : Int) == 2) = false := by rw [hop]; rfl
  have q3 : ((op.toNat : Int) == 3) = false := by rw [hop]; rfl
  have q4 : ((op.toNat : Int) == 4) = true := by rw [hop]; rfl
  have q5 : ((op.toNat : Int) == 5) = false := by rw [hop]; rfl
  have q11 : ((op.toNat : Int) == 11) = false := by rw [hop]; rfl
  have q12 : ((op.toNat : Int) == 12) = false := by rw [hop]; rfl
  have q13 : ((op.toNat : Int) == 13) = false := by rw [hop]; rfl
  have q14 : ((op.toNat : Int) == 14) = false := by rw [hop]; rfl
  have q15 : ((op.toNat : Int) == 15) = false := by rw [hop]; rfl
  have q16 : ((op.toNat : Int) == 16) = false := by rw [hop]; rfl
  have q26 : ((op.toNat : Int) == 26) = false := by rw [hop]; rfl
  have q27 : ((op.toNat : Int) == 27) = false := by rw [hop]; rfl
  have q35 : ((op.toNat : Int) == 35) = false := by rw [hop]; rfl
  have q36 : ((op.toNat : Int) == 36) = false := by rw [hop]; rfl
  generalize openM E.c op s = R at *
  have HC := hide hcon
  clear h hcon hM hop
  cases R with
  | ok s1 =>
    go_enter Tryz.func212, Tryz.ntmps212
    go_wp2_with fail
    refine HC.out.mono ?_
    rintro r w1 ⟨⟨rfl, g1, h1⟩, k1⟩
    have H1 := hide h1
    clear h1
    go_wp2
    go_ret
    exact ⟨⟨rfl, g1, H1.out⟩, k1⟩
  | error e =>
    go_enter Tryz.func212, Tryz.ntmps212
    go_wp2_with fail
    refine HC.out.mono ?_
    rintro r w1 ⟨⟨fv, rfl, hf⟩, k1⟩
    have HF := hide hf
    clear hf
    go_wp2
    go_ret
    exact ⟨⟨fv, rfl, HF.out⟩, k1⟩

set_option maxRecDepth 100000 in
set_option maxHeartbeats 1000000 in
theorem special_5 (h : BSt E g w s) (z : Sz N s) (hN : N ≤ 400000) (hne : s.blocks ≠ []) (op : UInt8) (hop : op = 5) : Calls Tryz.prog 212 #[ptrTo E.bb, .int .u8 op.toNat] w fun r w' => Done E w w' (specialM E.c op s) r ∧ Kp (nro E.ro) w w' := by
  have hM : specialM E.c op s = turnM s := by rw [hop]; rfl
  rw [hM]
  have hcon := turn_any h z hN hne
  have q0 : ((op.toNat : Int) == 0) = false := by rw [hop]; rfl
  have q2 : ((op.toNat : Int) == 2) = false := by rw [hop]; rfl
  have q3 : ((op.toNat : Int) == 3) = false := by rw [hop]; rfl
  have q4 : ((op.toNat : Int) == 4) = false := by rw [hop]; rfl
  have q5 : ((op.toNat : Int) == 5) = true := by rw [hop]; rfl
  have q11 : ((op.toNat : Int) == 11) = false := by rw [hop]; rfl
  have q12 : ((op.toNat : Int) == 12) = false := by rw [hop]; rfl
  have q13 : ((op.toNat : Int) == 13) = false := by rw [hop]; rfl
  have q14 : ((op.toNat : Int) == 14) = false := by rw [hop]; rfl
  have q15 : ((op.toNat : Int) == 15) = false := by rw [hop]; rfl
  have q16 : ((op.toNat : Int) == 16) = false := by rw [hop]; rfl
  have q26 : ((op.toNat : Int) == 26) = false := by rw [hop]; rfl
  have q27 : ((op.toNat : Int) == 27) = false := by rw [hop]; rfl
  have q35 : ((op.toNat : Int) == 35) = false := by rw [hop]; rfl
  have q36 : ((op.toNat : Int) == 36) = false := by rw [hop]; rfl
  generalize turnM s = R at *
  have HC := hide hcon
  clear h hcon hM hop
  cases R with
  | ok s1 =>
    go_enter Tryz.func212, Tryz.ntmps212
    go_wp2_with fail
    refine HC.out.mono ?_
    rintro r w1 ⟨⟨rfl, g1, h1⟩, k1⟩
    have H1 := hide h1
    clear h1
    go_wp2
    go_ret
    exact ⟨⟨rfl, g1, H1.out⟩, k1⟩
  | error e =>
    go_enter Tryz.func212, Tryz.ntmps212
    go_wp2_with fail
    refine HC.out.mono ?_
    rintro r w1 ⟨⟨fv, rfl, hf⟩, k1⟩
    have HF := hide hf
    clear hf
    go_wp2
    go_ret
    exact ⟨⟨fv, rfl, HF.out⟩, k1⟩

set_option maxRecDepth 100000 in
set_option maxHeartbeats 1000000 in
theorem special_11 (h : BSt E g w s) (z : Sz N s) (hN : N ≤ 400000) (hne : s.blocks ≠ []) (op : UInt8) (hop : op = 11) : Calls Tryz.prog 212 #[ptrTo E.bb, .int .u8 op.toNat] w fun r w' => Done E w w' (specialM E.c op s) r ∧ Kp (nro E.ro) w w' := by
  have hM : specialM E.c op s = endM s := by rw [hop]; rfl
  rw [hM]
  have hcon := end_any h z hN hne
  have q0 : ((op.toNat : Int) == 0) = false := by rw [hop]; rfl
  have q2 : ((op.toNat : Int) == 2) = false := by rw [hop]; rfl
  have q3 : ((op.toNat : Int) == 3) = false := by rw [hop]; rfl
  have q4 : ((op.toNat : Int) == 4) = false := by rw [hop]; rfl
  have q5 : ((op.toNat : Int) == 5) = false := by rw [hop]; rfl
  have q11 : ((op.toNat : Int) == 11) = true := by rw [hop]; rfl
  have q12 : ((op.toNat : Int) == 12) = false := by rw [hop]; rfl
  have q13 : ((op.toNat : Int) == 13) = false := by rw [hop]; rfl
  have q14 : ((op.toNat : Int) == 14) = false := by rw [hop]; rfl
  have q15 : ((op.toNat : Int) == 15) = false := by rw [hop]; rfl
  have q16 : ((op.toNat : Int) == 16) = false := by rw [hop]; rfl
  have q26 : ((op.toNat : Int) == 26) = false := by rw [hop]; rfl
  have q27 : ((op.toNat : Int) == 27) = false := by rw [hop]; rfl
  have q35 : ((op.toNat : Int) == 35) = false := by rw [hop]; rfl
  have q36 : ((op.toNat : Int) == 36) = false := by rw [hop]; rfl
  generalize endM s = R at *
  have HC := hide hcon
  clear h hcon hM hop
  cases R with
  | ok s1 =>
    go_enter Tryz.func212, Tryz.ntmps212
    go_wp2_with fail
    refine HC.out.mono ?_
    rintro r w1 ⟨⟨rfl, g1, h1⟩, k1⟩
    have H1 := hide h1
    clear h1
    go_wp2
    go_ret
    exact ⟨⟨rfl, g1, H1.out⟩, k1⟩
  | error e =>
    go_enter Tryz.func212, Tryz.ntmps212
    go_wp2_with fail
    refine HC.out.mono ?_
    rintro r w1 ⟨⟨fv, rfl, hf⟩, k1⟩
    have HF := hide hf
    clear hf
    go_wp2
    go_ret
    exact ⟨⟨fv, rfl, HF.out⟩, k1⟩

set_option maxRecDepth 100000 in
set_option maxHeartbeats 1000000 in
theorem special_12 (h : BSt E g w s) (z : Sz N s) (hN : N ≤ 400000) (hne : s.blocks ≠ []) (op : UInt8) (hop : op = 12) : Calls Tryz.prog 212 #[ptrTo E.bb, .int .u8 op.toNat] w fun r w' => Done E w w' (specialM E.c op s) r ∧ Kp (nro E.ro) w w' := by
  have hM : specialM E.c op s = branchM E.c op s := by rw [hop]; rfl
  rw [hM]
  have hcon := branch_any h z (by omega) hne op (.inl hop)
  have q0 : ((op.toNat : Int) == 0) = false := by rw [hop]; rfl
  have q2 : ((op.toNat : Int) == 2) = false := by rw [hop]; rfl
  have q3 : ((op.toNat : Int) == 3) = false := by rw [hop]; rfl
  have q4 : ((op.toNat : Int) == 4) = false := by rw [hop]; rfl
  have q5 : ((op.toNat : Int) == 5) = false := by rw [hop]; rfl
  have q11 : ((op.toNat : Int) == 11) = false := by rw [hop]; rfl
  have q12 : ((op.toNat : Int) == 12) = true := by rw [hop]; rfl
  have q13 : ((op.toNat : Int) == 13) = false := by rw [hop]; rfl
  have q14 : ((op.toNat : Int) == 14) = false := by rw [hop]; rfl
  have q15 : ((op.toNat : Int) == 15) = false := by rw [hop]; rfl
  have q16 : ((op.toNat : Int) == 16) = false := by rw [hop]; rfl
  have q26 : ((op.toNat : Int) == 26) = false := by rw [hop]; rfl
  have q27 : ((op.toNat : Int) == 27) = false := by rw [hop]; rfl
  have q35 : ((op.toNat : Int) == 35) = false := by rw [hop]; rfl
  have q36 : ((op.toNat : Int) == 36) = false := by rw [hop]; rfl
  generalize branchM E.c op s = R at *
  have HC := hide hcon
  clear h hcon hM hop
  cases R with
  | ok s1 =>
    go_enter Tryz.func212, Tryz.ntmps212
    go_wp2_with fail
    refine HC.out.mono ?_
    rintro r w1 ⟨⟨rfl, g1, h1⟩, k1⟩
    have H1 := hide h1
    clear h1
    go_wp2
    go_ret
    exact ⟨⟨rfl, g1, H1.out⟩, k1⟩
  | error e =>
    go_enter Tryz.func212, Tryz.ntmps212
    go_wp2_with fail
    refine HC.out.mono ?_
    rintro r w1 ⟨⟨fv, rfl, hf⟩, k1⟩
    have HF := hide hf
    clear hf
    go_wp2
    go_ret
    exact ⟨⟨fv, rfl, HF.out⟩, k1⟩

set_option maxRecDepth 100000 in
set_option maxHeartbeats 1000000 in
theorem special_13 (h : BSt E g w s) (z : Sz N s) (hN : N ≤ 400000) (hne : s.blocks ≠ []) (op : UInt8) (hop : op = 13) : Calls Tryz.prog 212 #[ptrTo E.bb, .int .u8 op.toNat] w fun r w' => Done E w w' (specialM E.c op s) r ∧ Kp (nro E.ro) w w' := by
  have hM : specialM E.c op s = branchM E.c op s := by rw [hop]; rfl
  rw [hM]
  have hcon := branch_any h z (by omega) hne op (.inr hop)
  have q0 : ((op.toNat : Int) == 0) = false := by rw [hop]; rfl
  have q2 : ((op.toNat : Int) == 2) = false := by rw [hop]; rfl
  have q3 : ((op.toNat : Int) == 3) = false := by rw [hop]; rfl
  have q4 : ((op.toNat : Int) == 4) = false := by rw [hop]; rfl
  have q5 : ((op.toNat : Int) == 5) = false := by rw [hop]; rfl
  have q11 : ((op.toNat : Int) == 11) = false := by rw [hop]; rfl
  have q12 : ((op.toNat : Int) == 12) = false := by rw [hop]; rfl
  have q13 : ((op.toNat : Int) == 13) = true := by rw [hop]; rfl
  have q14 : ((op.toNat : Int) == 14) = false := by rw [hop]; rfl
  have q15 : ((op.toNat : Int) == 15) = false := by rw [hop]; rfl
  have q16 : ((op.toNat : Int) == 16) = false := by rw [hop]; rfl
  have q26 : ((op.toNat : Int) == 26) = false := by rw [hop]; rfl
  have q27 : ((op.toNat : Int) == 27) = false := by rw [hop]; rfl
  have q35 : ((op.toNat : Int) == 35) = false := by rw [hop]; rfl
  have q36 : ((op.toNat : Int) == 36) = false := by rw [hop]; rfl
  generalize branchM E.c op s = R at *
  have HC := hide hcon
  clear h hcon hM hop
  cases R with
  | ok s1 =>
    go_enter Tryz.func212, Tryz.ntmps212
    go_wp2_with fail
    refine HC.out.mono ?_
    rintro r w1 ⟨⟨rfl, g1, h1⟩, k1⟩
    have H1 := hide h1
    clear h1
    go_wp2
    go_ret
    exact ⟨⟨rfl, g1, H1.out⟩, k1⟩
  | error e =>
    go_enter Tryz.func212, Tryz.ntmps212
    go_wp2_with fail
    refine HC.out.mono ?_
    rintro r w1 ⟨⟨fv, rfl, hf⟩, k1⟩
    have HF := hide hf
    clear hf
    go_wp2
    go_ret
    exact ⟨⟨fv, rfl, HF.out⟩, k1⟩

set_option maxRecDepth 100000 in
set_option maxHeartbeats 1000000 in
theorem special_14 (h : BSt E g w s) (z : Sz N s) (hN : N ≤ 400000) (hne : s.blocks ≠ []) (op : UInt8) (hop : op = 14) : Calls Tryz.prog 212 #[ptrTo E.bb, .int .u8 op.toNat] w fun r w' => Done E w w' (specialM E.c op s) r ∧ Kp (nro E.ro) w w' := by
  have hM : specialM E.c op s = tableM E.c s := by rw [hop]; rfl
  rw [hM]
  have hcon := table_any h z hN hne
  have q0 : ((op.toNat : Int) == 0) = false := by rw [hop]; rfl
  have q2 : ((op.toNat : Int) == 2) = false := by rw [hop]; rfl
  have q3 : ((op.toNat : Int) == 3) = false := by rw [hop]; rfl
  have q4 : ((op.toNat : Int) == 4) = false := by rw [hop]; rfl
  have q5 : ((op.toNat : Int) == 5) = false := by rw [hop]; rfl
  have q11 : ((op.toNat : Int) == 11) = false := by rw [hop]; rfl
  have q12 : ((op.toNat : Int) == 12) = false := by rw [hop]; rfl
  have q13 : ((op.toNat : Int) == 13) = false := by rw [hop]; rfl
  have q14 : ((op.toNat : Int) == 14) = true := by rw [hop]; rfl
  have q15 : ((op.toNat : Int) == 15) = false := by rw [hop]; rfl
  have q16 : ((op.toNat : Int) == 16) = false := by rw [hop]; rfl
  have q26 : ((op.toNat : Int) == 26) = false := by rw [hop]; rfl
  have q27 : ((op.toNat : Int) == 27) = false := by rw [hop]; rfl
  have q35 : ((op.toNat : Int) == 35) = false := by rw [hop]; rfl
  have q36 : ((op.toNat : Int) == 36) = false := by rw [hop]; rfl
  generalize tableM E.c s = R at *
  have HC := hide hcon
  clear h hcon hM hop
  cases R with
  | ok s1 =>
    go_enter Tryz.func212, Tryz.ntmps212
    go_wp2_with fail
    refine HC.out.mono ?_
    rintro r w1 ⟨⟨rfl, g1, h1⟩, k1⟩
    have H1 := hide h1
    clear h1
    go_wp2
    go_ret
    exact ⟨⟨rfl, g1, H1.out⟩, k1⟩
  | error e =>
    go_enter Tryz.func212, Tryz.ntmps212
    go_wp2_with fail
    refine HC.out.mono ?_
    rintro r w1 ⟨⟨fv, rfl, hf⟩, k1⟩
    have HF := hide hf
    clear hf
    go_wp2
    go_ret
    exact ⟨⟨fv, rfl, HF.out⟩, k1⟩

set_option maxRecDepth 100000 in
set_option maxHeartbeats 1000000 in
theorem special_15 (h : BSt E g w s) (z : Sz N s) (hN : N ≤ 400000) (hne : s.blocks ≠ []) (op : UInt8) (hop : op = 15) : Calls Tryz.prog 212 #[ptrTo E.bb, .int .u8 op.toNat] w fun r w' => Done E w w' (specialM E.c op s) r ∧ Kp (nro E.ro) w w' := by
  have hM : specialM E.c op s = leaveM s := by rw [hop]; rfl
  rw [hM]
  have hcon := leave_any h z (by omega) hne
  have q0 : ((op.toNat : Int) == 0) = false := by rw [hop]; rfl
  have q2 : ((op.toNat : Int) == 2) = false := by rw [hop]; rfl
  have q3 : ((op.toNat : Int) == 3) = false := by rw [hop]; rfl
  have q4 : ((op.toNat : Int) == 4) = false := by rw [hop]; rfl
  have q5 : ((op.toNat : Int) == 5) = false := by rw [hop]; rfl
  have q11 : ((op.toNat : Int) == 11) = false := by rw [hop]; rfl
  have q12 : ((op.toNat : Int) == 12) = false := by rw [hop]; rfl
  have q13 : ((op.toNat : Int) == 13) = false := by rw [hop]; rfl
  have q14 : ((op.toNat : Int) == 14) = false := by rw [hop]; rfl
  have q15 : ((op.toNat : Int) == 15) = true := by rw [hop]; rfl
  have q16 : ((op.toNat : Int) == 16) = false := by rw [hop]; rfl
  have q26 : ((op.toNat : Int) == 26) = false := by rw [hop]; rfl
  have q27 : ((op.toNat : Int) == 27) = false := by rw [hop]; rfl
  have q35 : ((op.toNat : Int) == 35) = false := by rw [hop]; rfl
  have q36 : ((op.toNat : Int) == 36) = false := by rw [hop]; rfl
  generalize leaveM s = R at *
  have HC := hide hcon
  clear h hcon hM hop
  cases R with
  | ok s1 =>
    go_enter Tryz.func212, Tryz.ntmps212
    go_wp2_with fail
    refine HC.out.mono ?_
    rintro r w1 ⟨⟨rfl, g1, h1⟩, k1⟩
    have H1 := hide h1
    clear h1
    go_wp2
    go_ret
    exact ⟨⟨rfl, g1, H1.out⟩, k1⟩
  | error e =>
    go_enter Tryz.func212, Tryz.ntmps212
    go_wp2_with fail
    refine HC.out.mono ?_
    rintro r w1 ⟨⟨fv, rfl, hf⟩, k1⟩
    have HF := hide hf
    clear hf
    go_wp2
    go_ret
    exact ⟨⟨fv, rfl, HF.out⟩, k1⟩

set_option maxRecDepth 100000 in
set_option maxHeartbeats 1000000 in
theorem special_16 (h : BSt E g w s) (z : Sz N s) (hN : N ≤ 400000) (hne : s.blocks ≠ []) (op : UInt8) (hop : op = 16) : Calls Tryz.prog 212 #[ptrTo E.bb, .int .u8 op.toNat] w fun r w' => Done E w w' (specialM E.c op s) r ∧ Kp (nro E.ro) w w' := by
  have hM : specialM E.c op s = callM E.c s := by rw [hop]; rfl
  rw [hM]
  have hcon := call_any h z (by omega) hne
  have q0 : ((op.toNat : Int) == 0) = false := by rw [hop]; rfl
  have q2 : ((op.toNat : Int) == 2) = false := by rw [hop]; rfl
  have q3 : ((op.toNat : Int) == 3) = false := by rw [hop]; rfl
  have q4 : ((op.toNat : Int) == 4) = false := by rw [hop]; rfl
  have q5 : ((op.toNat : Int) == 5) = false := by rw [hop]; rfl
  have q11 : ((op.toNat : Int) == 11) = false := by rw [hop]; rfl
  have q12 : ((op.toNat : Int) == 12) = false := by rw [hop]; rfl
  have q13 : ((op.toNat : Int) == 13) = false := by rw [hop]; rfl
  have q14 : ((op.toNat : Int) == 14) = false := by rw [hop]; rfl
  have q15 : ((op.toNat : Int) == 15) = false := by rw [hop]; rfl
  have q16 : ((op.toNat : Int) == 16) = true := by rw [hop]; rfl
  have q26 : ((op.toNat : Int) == 26) = false := by rw [hop]; rfl
  have q27 : ((op.toNat : Int) == 27) = false := by rw [hop]; rfl
  have q35 : ((op.toNat : Int) == 35) = false := by rw [hop]; rfl
  have q36 : ((op.toNat : Int) == 36) = false := by rw [hop]; rfl
  generalize callM E.c s = R at *
  have HC := hide hcon
  clear h hcon hM hop
  cases R with
  | ok s1 =>
    go_enter Tryz.func212, Tryz.ntmps212
    go_wp2_with fail
    refine HC.out.mono ?_
    rintro r w1 ⟨⟨rfl, g1, h1⟩, k1⟩
    have H1 := hide h1
    clear h1
    go_wp2
    go_ret
    exact ⟨⟨rfl, g1, H1.out⟩, k1⟩
  | error e =>
    go_enter Tryz.func212, Tryz.ntmps212
    go_wp2_with fail
    refine HC.out.mono ?_
    rintro r w1 ⟨⟨fv, rfl, hf⟩, k1⟩
    have HF := hide hf
    clear hf
    go_wp2
    go_ret
    exact ⟨⟨fv, rfl, HF.out⟩, k1⟩

set_option maxRecDepth 100000 in
set_option maxHeartbeats 1000000 in
theorem special_26 (h : BSt E g w s) (z : Sz N s) (hN : N ≤ 400000) (hne : s.blocks ≠ []) (op : UInt8) (hop : op = 26) : Calls Tryz.prog 212 #[ptrTo E.bb, .int .u8 op.toNat] w fun r w' => Done E w w' (specialM E.c op s) r ∧ Kp (nro E.ro) w w' := by
  have hM : specialM E.c op s = dropM s := by rw [hop]; rfl
  rw [hM]
  have hcon := drop_any h z (by omega) hne
  have q0 : ((op.toNat : Int) == 0) = false := by rw [hop]; rfl
  have q2 : ((op.toNat : Int) == 2) = false := by rw [hop]; rfl
  have q3 : ((op.toNat : Int) == 3) = false := by rw [hop]; rfl
  have q4 : ((op.toNat : Int) == 4) = false := by rw [hop]; rfl
  have q5 : ((op.toNat : Int) == 5) = false := by rw [hop]; rfl
  have q11 : ((op.toNat : Int) == 11) = false := by rw [hop]; rfl
  have q12 : ((op.toNat : Int) == 12) = false := by rw [hop]; rfl
  have q13 : ((op.toNat : Int) == 13) = false := by rw [hop]; rfl
  have q14 : ((op.toNat : Int) == 14) = false := by rw [hop]; rfl
  have q15 : ((op.toNat : Int) == 15) = false := by rw [hop]; rfl
  have q16 : ((op.toNat : Int) == 16) = false := by rw [hop]; rfl
  have q26 : ((op.toNat : Int) == 26) = true := by rw [hop]; rfl
  have q27 : ((op.toNat : Int) == 27) = false := by rw [hop]; rfl
  have q35 : ((op.toNat : Int) == 35) = false := by rw [hop]; rfl
  have q36 : ((op.toNat : Int) == 36) = false := by rw [hop]; rfl
  generalize dropM s = R at *
  have HC := hide hcon
  clear h hcon hM hop
  cases R with
  | ok s1 =>
    go_enter Tryz.func212, Tryz.ntmps212
    go_wp2_with fail
    refine HC.out.mono ?_
    rintro r w1 ⟨⟨rfl, g1, h1⟩, k1⟩
    have H1 := hide h1
    clear h1
    go_wp2
    go_ret
    exact ⟨⟨rfl, g1, H1.out⟩, k1⟩
  | error e =>
    go_enter Tryz.func212, Tryz.ntmps212
    go_wp2_with fail
    refine HC.out.mono ?_
    rintro r w1 ⟨⟨fv, rfl, hf⟩, k1⟩
    have HF := hide hf
    clear hf
    go_wp2
    go_ret
    exact ⟨⟨fv, rfl, HF.out⟩, k1⟩

set_option maxRecDepth 100000 in
set_option maxHeartbeats 1000000 in
theorem special_27 (h : BSt E g w s) (z : Sz N s) (hN : N ≤ 400000) (hne : s.blocks ≠ []) (op : UInt8) (hop : op = 27) : Calls Tryz.prog 212 #[ptrTo E.bb, .int .u8 op.toNat] w fun r w' => Done E w w' (specialM E.c op s) r ∧ Kp (nro E.ro) w w' := by
  have hM : specialM E.c op s = chooseM s := by rw [hop]; rfl
  rw [hM]
  have hcon := choose_any h z (by omega) hne
  have q0 : ((op.toNat : Int) == 0) = false := by rw [hop]; rfl
  have q2 : ((op.toNat : Int) == 2) = false := by rw [hop]; rfl
  have q3 : ((op.toNat : Int) == 3) = false := by rw [hop]; rfl
  have q4 : ((op.toNat : Int) == 4) = false := by rw [hop]; rfl
  have q5 : ((op.toNat : Int) == 5) = false := by rw [hop]; rfl
  have q11 : ((op.toNat : Int) == 11) = false := by rw [hop]; rfl
  have q12 : ((op.toNat : Int) == 12) = false := by rw [hop]; rfl
  have q13 : ((op.toNat : Int) == 13) = false := by rw [hop]; rfl
  have q14 : ((op.toNat : Int) == 14) = false := by rw [hop]; rfl
  have q15 : ((op.toNat : Int) == 15) = false := by rw [hop]; rfl
  have q16 : ((op.toNat : Int) == 16) = false := by rw [hop]; rfl
  have q26 : ((op.toNat : Int) == 26) = false := by rw [hop]; rfl
  have q27 : ((op.toNat : Int) == 27) = true := by rw [hop]; rfl
  have q35 : ((op.toNat : Int) == 35) = false := by rw [hop]; rfl
  have q36 : ((op.toNat : Int) == 36) = false := by rw [hop]; rfl
  generalize chooseM s = R at *
  have HC := hide hcon
  clear h hcon hM hop
  cases R with
  | ok s1 =>
    go_enter Tryz.func212, Tryz.ntmps212
    go_wp2_with fail
    refine HC.out.mono ?_
    rintro r w1 ⟨⟨rfl, g1, h1⟩, k1⟩
    have H1 := hide h1
    clear h1
    go_wp2
    go_ret
    exact ⟨⟨rfl, g1, H1.out⟩, k1⟩
  | error e =>
    go_enter Tryz.func212, Tryz.ntmps212
    go_wp2_with fail
    refine HC.out.mono ?_
    rintro r w1 ⟨⟨fv, rfl, hf⟩, k1⟩
    have HF := hide hf
    clear hf
    go_wp2
    go_ret
    exact ⟨⟨fv, rfl, HF.out⟩, k1⟩

set_option maxRecDepth 100000 in
set_option maxHeartbeats 1000000 in
theorem special_35 (h : BSt E g w s) (z : Sz N s) (hN : N ≤ 400000) (hne : s.blocks ≠ []) (op : UInt8) (hop : op = 35) : Calls Tryz.prog 212 #[ptrTo E.bb, .int .u8 op.toNat] w fun r w' => Done E w w' (specialM E.c op s) r ∧ Kp (nro E.ro) w w' := by
  have hM : specialM E.c op s = globalM E.c op s := by rw [hop]; rfl
  rw [hM]
  have hcon := global_any h z (by omega) hne op (.inl hop)
  have q0 : ((op.toNat : Int) == 0) = false := by rw [hop]; rfl
  have q2 : ((op.toNat : Int) == 2) = false := by rw [hop]; rfl
  have q3 : ((op.toNat : Int) == 3) = false := by rw [hop]; rfl
  have q4 : ((op.toNat : Int) == 4) = false := by rw [hop]; rfl
  have q5 : ((op.toNat : Int) == 5) = false := by rw [hop]; rfl
  have q11 : ((op.toNat : Int) == 11) = false := by rw [hop]; rfl
  have q12 : ((op.toNat : Int) == 12) = false := by rw [hop]; rfl
  have q13 : ((op.toNat : Int) == 13) = false := by rw [hop]; rfl
  have q14 : ((op.toNat : Int) == 14) = false := by rw [hop]; rfl
  have q15 : ((op.toNat : Int) == 15) = false := by rw [hop]; rfl
  have q16 : ((op.toNat : Int) == 16) = false := by rw [hop]; rfl
  have q26 : ((op.toNat : Int) == 26) = false := by rw [hop]; rfl
  have q27 : ((op.toNat : Int) == 27) = false := by rw [hop]; rfl
  have q35 : ((op.toNat : Int) == 35) = true := by rw [hop]; rfl
  have q36 : ((op.toNat : Int) == 36) = false := by rw [hop]; rfl
  generalize globalM E.c op s = R at *
  have HC := hide hcon
  clear h hcon hM hop
  cases R with
  | ok s1 =>
    go_enter Tryz.func212, Tryz.ntmps212
    go_wp2_with fail
    refine HC.out.mono ?_
    rintro r w1 ⟨⟨rfl, g1, h1⟩, k1⟩
    have H1 := hide h1
    clear h1
    go_wp2
    go_ret
    exact ⟨⟨rfl, g1, H1.out⟩, k1⟩
  | error e =>
    go_enter Tryz.func212, Tryz.ntmps212
    go_wp2_with fail
    refine HC.out.mono ?_
    rintro r w1 ⟨⟨fv, rfl, hf⟩, k1⟩
    have HF := hide hf
    clear hf
    go_wp2
    go_ret
    exact ⟨⟨fv, rfl, HF.out⟩, k1⟩

set_option maxRecDepth 100000 in
set_option maxHeartbeats 1000000 in
theorem special_36 (h : BSt E g w s) (z : Sz N s) (hN : N ≤ 400000) (hne : s.blocks ≠ []) (op : UInt8) (hop : op = 36) : Calls Tryz.prog 212 #[ptrTo E.bb, .int .u8 op.toNat] w fun r w' => Done E w w' (specialM E.c op s) r ∧ Kp (nro E.ro) w w' := by
  have hM : specialM E.c op s = globalM E.c op s := by rw [hop]; rfl
  rw [hM]
  have hcon := global_any h z (by omega) hne op (.inr hop)
  have q0 : ((op.toNat : Int) == 0) = false := by rw [hop]; rfl
  have q2 : ((op.toNat : Int) == 2) = false := by rw [hop]; rfl
  have q3 : ((op.toNat : Int) == 3) = false := by rw [hop]; rfl
  have q4 : ((op.toNat : Int) == 4) = false := by rw [hop]; rfl
  have q5 : ((op.toNat : Int) == 5) = false := by rw [hop]; rfl
  have q11 : ((op.toNat : Int) == 11) = false := by rw [hop]; rfl
  have q12 : ((op.toNat : Int) == 12) = false := by rw [hop]; rfl
  have q13 : ((op.toNat : Int) == 13) = false := by rw [hop]; rfl
  have q14 : ((op.toNat : Int) == 14) = false := by rw [hop]; rfl
  have q15 : ((op.toNat : Int) == 15) = false := by rw [hop]; rfl
  have q16 : ((op.toNat : Int) == 16) = false := by rw [hop]; rfl
  have q26 : ((op.toNat : Int) == 26) = false := by rw [hop]; rfl
  have q27 : ((op.toNat : Int) == 27) = false := by rw [hop]; rfl
  have q35 : ((op.toNat : Int) == 35) = false := by rw [hop]; rfl
  have q36 : ((op.toNat : Int) == 36) = true := by rw [hop]; rfl
  generalize globalM E.c op s = R at *
  have HC := hide hcon
  clear h hcon hM hop
  cases R with
  | ok s1 =>
    go_enter Tryz.func212, Tryz.ntmps212
    go_wp2_with fail
    refine HC.out.mono ?_
    rintro r w1 ⟨⟨rfl, g1, h1⟩, k1⟩
    have H1 := hide h1
    clear h1
    go_wp2
    go_ret
    exact ⟨⟨rfl, g1, H1.out⟩, k1⟩
  | error e =>
    go_enter Tryz.func212, Tryz.ntmps212
    go_wp2_with fail
    refine HC.out.mono ?_
    rintro r w1 ⟨⟨fv, rfl, hf⟩, k1⟩
    have HF := hide hf
    clear hf
    go_wp2
    go_ret
    exact ⟨⟨fv, rfl, HF.out⟩, k1⟩

set_option maxRecDepth 100000 in
set_option maxHeartbeats 1000000 in
theorem special_32 (h : BSt E g w s) (z : Sz N s) (hN : N ≤ 400000) (hne : s.blocks ≠ []) (op : UInt8) (hop : op = 32) : Calls Tryz.prog 212 #[ptrTo E.bb, .int .u8 op.toNat] w fun r w' => Done E w w' (specialM E.c op s) r ∧ Kp (nro E.ro) w w' := by
  have hM : specialM E.c op s = localM E.c op s := by rw [hop]; rfl
  rw [hM]
  have hcon := local_any h z (by omega) hne op
  have q0 : ((op.toNat : Int) == 0) = false := by rw [hop]; rfl
  have q2 : ((op.toNat : Int) == 2) = false := by rw [hop]; rfl
  have q3 : ((op.toNat : Int) == 3) = false := by rw [hop]; rfl
  have q4 : ((op.toNat : Int) == 4) = false := by rw [hop]; rfl
  have q5 : ((op.toNat : Int) == 5) = false := by rw [hop]; rfl
  have q11 : ((op.toNat : Int) == 11) = false := by rw [hop]; rfl
  have q12 : ((op.toNat : Int) == 12) = false := by rw [hop]; rfl
  have q13 : ((op.toNat : Int) == 13) = false := by rw [hop]; rfl
  have q14 : ((op.toNat : Int) == 14) = false := by rw [hop]; rfl
  have q15 : ((op.toNat : Int) == 15) = false := by rw [hop]; rfl
  have q16 : ((op.toNat : Int) == 16) = false := by rw [hop]; rfl
  have q26 : ((op.toNat : Int) == 26) = false := by rw [hop]; rfl
  have q27 : ((op.toNat : Int) == 27) = false := by rw [hop]; rfl
  have q35 : ((op.toNat : Int) == 35) = false := by rw [hop]; rfl
  have q36 : ((op.toNat : Int) == 36) = false := by rw [hop]; rfl
  generalize localM E.c op s = R at *
  have HC := hide hcon
  clear h hcon hM hop
  cases R with
  | ok s1 =>
    go_enter Tryz.func212, Tryz.ntmps212
    go_wp2_with fail
    refine HC.out.mono ?_
    rintro r w1 ⟨⟨rfl, g1, h1⟩, k1⟩
    have H1 := hide h1
    clear h1
    go_wp2
    go_ret
    exact ⟨⟨rfl, g1, H1.out⟩, k1⟩
  | error e =>
    go_enter Tryz.func212, Tryz.ntmps212
    go_wp2_with fail
    refine HC.out.mono ?_
    rintro r w1 ⟨⟨fv, rfl, hf⟩, k1⟩
    have HF := hide hf
    clear hf
    go_wp2
    go_ret
    exact ⟨⟨fv, rfl, HF.out⟩, k1⟩

set_option maxRecDepth 100000 in
set_option maxHeartbeats 1000000 in
theorem special_33 (h : BSt E g w s) (z : Sz N s) (hN : N ≤ 400000) (hne : s.blocks ≠ []) (op : UInt8) (hop : op = 33) : Calls Tryz.prog 212 #[ptrTo E.bb, .int .u8 op.toNat] w fun r w' => Done E w w' (specialM E.c op s) r ∧ Kp (nro E.ro) w w' := by
  have hM : specialM E.c op s = localM E.c op s := by rw [hop]; rfl
  rw [hM]
  have hcon := local_any h z (by omega) hne op
  have q0 : ((op.toNat : Int) == 0) = false := by rw [hop]; rfl
  have q2 : ((op.toNat : Int) == 2) = false := by rw [hop]; rfl
  have q3 : ((op.toNat : Int) == 3) = false := by rw [hop]; rfl
  have q4 : ((op.toNat : Int) == 4) = false := by rw [hop]; rfl
  have q5 : ((op.toNat : Int) == 5) = false := by rw [hop]; rfl
  have q11 : ((op.toNat : Int) == 11) = false := by rw [hop]; rfl
  have q12 : ((op.toNat : Int) == 12) = false := by rw [hop]; rfl
  have q13 : ((op.toNat : Int) == 13) = false := by rw [hop]; rfl
  have q14 : ((op.toNat : Int) == 14) = false := by rw [hop]; rfl
  have q15 : ((op.toNat : Int) == 15) = false := by rw [hop]; rfl
  have q16 : ((op.toNat : Int) == 16) = false := by rw [hop]; rfl
  have q26 : ((op.toNat : Int) == 26) = false := by rw [hop]; rfl
  have q27 : ((op.toNat : Int) == 27) = false := by rw [hop]; rfl
  have q35 : ((op.toNat : Int) == 35) = false := by rw [hop]; rfl
  have q36 : ((op.toNat : Int) == 36) = false := by rw [hop]; rfl
  generalize localM E.c op s = R at *
  have HC := hide hcon
  clear h hcon hM hop
  cases R with
  | ok s1 =>
    go_enter Tryz.func212, Tryz.ntmps212
    go_wp2_with fail
    refine HC.out.mono ?_
    rintro r w1 ⟨⟨rfl, g1, h1⟩, k1⟩
    have H1 := hide h1
    clear h1
    go_wp2
    go_ret
    exact ⟨⟨rfl, g1, H1.out⟩, k1⟩
  | error e =>
    go_enter Tryz.func212, Tryz.ntmps212
    go_wp2_with fail
    refine HC.out.mono ?_
    rintro r w1 ⟨⟨fv, rfl, hf⟩, k1⟩
    have HF := hide hf
    clear hf
    go_wp2
    go_ret
    exact ⟨⟨fv, rfl, HF.out⟩, k1⟩

set_option maxRecDepth 100000 in
set_option maxHeartbeats 1000000 in
theorem special_34 (h : BSt E g w s) (z : Sz N s) (hN : N ≤ 400000) (hne : s.blocks ≠ []) (op : UInt8) (hop : op = 34) : Calls Tryz.prog 212 #[ptrTo E.bb, .int .u8 op.toNat] w fun r w' => Done E w w' (specialM E.c op s) r ∧ Kp (nro E.ro) w w' := by
  have hM : specialM E.c op s = localM E.c op s := by rw [hop]; rfl
  rw [hM]
  have hcon := local_any h z (by omega) hne op
  have q0 : ((op.toNat : Int) == 0) = false := by rw [hop]; rfl
  have q2 : ((op.toNat : Int) == 2) = false := by rw [hop]; rfl
  have q3 : ((op.toNat : Int) == 3) = false := by rw [hop]; rfl
  have q4 : ((op.toNat : Int) == 4) = false := by rw [hop]; rfl
  have q5 : ((op.toNat : Int) == 5) = false := by rw [hop]; rfl
  have q11 : ((op.toNat : Int) == 11) = false := by rw [hop]; rfl
  have q12 : ((op.toNat : Int) == 12) = false := by rw [hop]; rfl
  have q13 : ((op.toNat : Int) == 13) = false := by rw [hop]; rfl
  have q14 : ((op.toNat : Int) == 14) = false := by rw [hop]; rfl
  have q15 : ((op.toNat : Int) == 15) = false := by rw [hop]; rfl
  have q16 : ((op.toNat : Int) == 16) = false := by rw [hop]; rfl
  have q26 : ((op.toNat : Int) == 26) = false := by rw [hop]; rfl
  have q27 : ((op.toNat : Int) == 27) = false := by rw [hop]; rfl
  have q35 : ((op.toNat : Int) == 35) = false := by rw [hop]; rfl
  have q36 : ((op.toNat : Int) == 36) = false := by rw [hop]; rfl
  generalize localM E.c op s = R at *
  have HC := hide hcon
  clear h hcon hM hop
  cases R with
  | ok s1 =>
    go_enter Tryz.func212, Tryz.ntmps212
    go_wp2_with fail
    refine HC.out.mono ?_
    rintro r w1 ⟨⟨rfl, g1, h1⟩, k1⟩
    have H1 := hide h1
    clear h1
    go_wp2
    go_ret
    exact ⟨⟨rfl, g1, H1.out⟩, k1⟩
  | error e =>
    go_enter Tryz.func212, Tryz.ntmps212
    go_wp2_with fail
    refine HC.out.mono ?_
    rintro r w1 ⟨⟨fv, rfl, hf⟩, k1⟩
    have HF := hide hf
    clear hf
    go_wp2
    go_ret
    exact ⟨⟨fv, rfl, HF.out⟩, k1⟩

theorem special_any (h : BSt E g w s) (z : Sz N s) (hN : N ≤ 400000) (hne : s.blocks ≠ []) (op : UInt8) (hop : op ∈ ([0, 2, 3, 4, 5, 11, 12, 13, 14, 15, 16, 26, 27, 32, 33, 34, 35, 36] : List UInt8)) : Calls Tryz.prog 212 #[ptrTo E.bb, .int .u8 op.toNat] w fun r w' => Done E w w' (specialM E.c op s) r ∧ Kp (nro E.ro) w w' := by
  simp only [List.mem_cons, List.not_mem_nil, or_false] at hop
  rcases hop with e | e | e | e | e | e | e | e | e | e | e | e | e | e | e | e | e | e
  · exact special_0 h z hN hne op e
  · exact special_2 h z hN hne op e
  · exact special_3 h z hN hne op e
  · exact special_4 h z hN hne op e
  · exact special_5 h z hN hne op e
  · exact special_11 h z hN hne op e
  · exact special_12 h z hN hne op e
  · exact special_13 h z hN hne op e
  · exact special_14 h z hN hne op e
  · exact special_15 h z hN hne op e
  · exact special_16 h z hN hne op e
  · exact special_26 h z hN hne op e
  · exact special_27 h z hN hne op e
  · exact special_32 h z hN hne op e
  · exact special_33 h z hN hne op e
  · exact special_34 h z hN hne op e
  · exact special_35 h z hN hne op e
  · exact special_36 h z hN hne op e
end

end Go.Proofs.YtdeplgkhmebalaaGreatDoor

namespace Go.Proofs.YtdeplgkhmebalaaGreatDoor
open Go.RowKit

def rowFit (op : UInt8) : Option RowT → Bool
  | none => true
  | some r => if r.behind = 4 then ([0, 2, 3, 4, 5, 11, 12, 13, 14, 15, 16, 26, 27, 32, 33, 34, 35, 36] : List UInt8).contains op
      else decide (r.behind ≤ 3) && decide (r.takes.length ≤ 2) && decide (r.gives.length ≤ 1)
theorem rowFit_all : ∀ x : Fin 256, rowFit (UInt8.ofNat x.val) (findM (UInt8.ofNat x.val)) = true := by decide +kernel
theorem rowFit_at (op : UInt8) : rowFit op (findM op) = true := by
  have := rowFit_all ⟨op.toNat, op.toNat_lt⟩
  simpa using this

theorem heap_alloc_new2 (w : World) (X Y : Obj) : ((w.alloc X).alloc Y).heap[w.heap.size + 1]? = some Y := by
  have := heap_alloc_new (w.alloc X) Y
  simpa using this

section
variable {E : Env} {g N : Nat} {w : World} {s : Bd}

set_option maxRecDepth 100000 in
set_option maxHeartbeats 4000000 in
theorem step_any (h : BSt E g w s) (hR : RowsAt w E.ro) (z : Sz N s) (hN : N ≤ 400000) (hne : s.blocks ≠ []) : Calls Tryz.prog 179 #[ptrTo E.bb] w fun r w' => Done E w w' (stepM E.c s) r ∧ Kp (nro E.ro) w w' := by
  have hM : stepM E.c s = (match byteM E.c.D s.i with
    | .error e => .error e
    | .ok (op, j) =>
      match findM op with
      | none => .error (2, s.i)
      | some r =>
        if s.closed = true ∧ op ≠ 5 ∧ op ≠ 11 then .error (3, s.i)
        else if r.behind = 4 then specialM E.c op { s with pos := s.i, i := j }
        else plainB E.c op r { s with pos := s.i, i := j }) := rfl
  generalize stepM E.c s = R at *
  obtain ⟨h0, k0⟩ := pos_end h s.i
  have hat := at_any h.rd
  have hby := byte_any h0.rd
  simp only at hby
  generalize byteM E.c.D s.i = Q at *
  obtain ⟨sv, kc, hbo, -⟩ := h.bodyAt
  obtain ⟨hc, hf⟩ := cells_of hbo
  obtain ⟨sv0, kc0, hbo0, -⟩ := h0.bodyAt
  obtain ⟨hc0, hf0⟩ := cells_of hbo0
  have HBo0 := hide hbo0
  obtain ⟨-, -, hnb, -, -⟩ := h.modAt
  have H := hide h
  have H0 := hide h0
  have HK0 := hide (h.nroBb k0)
  have HR0 := hide (hR.kp (h.nroBb k0))
  have HA := hide hat
  have HB := hide hby
  have HM := hide hM
  clear h h0 k0 hat hby hM hbo hbo0 hR
  match Q, HM, HB with
  | .error e, HM, HB =>
    go_enter Tryz.func179, Tryz.ntmps179
    go_wp2_with fail
    refine HA.out.mono ?_
    rintro r w1 ⟨rfl, rfl⟩
    go_wp2_with fail
    generalize World.setCell w1 ⟨E.bb, 6, none⟩ (.int .i64 s.i) = w2 at *
    refine HB.out.mono ?_
    rintro r w3 ⟨⟨fv, j, rfl, ⟨fb, rfl, hfb, hfo⟩, h1⟩, k1⟩
    have HF := hide hfo
    clear hfo h1
    go_wp2
    go_ret
    rw [HM.out]
    exact ⟨⟨ptrTo fb, rfl, fb, rfl, by have := HK0.out.size; omega, HF.out⟩, HK0.out.trans (H0.out.nroRb k1)⟩
  | .ok (op, j), HM, HB =>
    have hfit := rowFit_at op
    have hfi := fun W (hW : RowsAt W E.ro) => find_any hW op
    have hM := HM.out
    simp only at hM
    generalize findM op = Qf at *
    have HFi := hide hfi
    have HMq := hide hM
    clear hfi hM HM
    cases Qf with
    | none =>
      go_enter Tryz.func179, Tryz.ntmps179
      go_wp2_with fail
      refine HA.out.mono ?_
      rintro r w1 ⟨rfl, rfl⟩
      go_wp2_with fail
      generalize World.setCell w1 ⟨E.bb, 6, none⟩ (.int .i64 s.i) = w2 at *
      refine HB.out.mono ?_
      rintro r w3 ⟨⟨v, rfl, rfl, h3⟩, k3⟩
      have HFi3 := hide (HFi.out w3 (HR0.out.kp (H0.out.nroRb k3)))
      have HBo3 := hide (k3.blk HBo0.out hnb)
      have HK3 := hide (HK0.out.trans (H0.out.nroRb k3))
      clear h3 k3 hc hf hc0 hf0
      go_wp2_with fail
      refine HFi3.out.mono ?_
      rintro r w4 ⟨rfl, k4⟩
      obtain ⟨hc4, hf4⟩ := cells_of (k4.blk HBo3.out (fun h => h))
      have hlb4 := lt_of_blk (k4.blk HBo3.out (fun h => h))
      have HK4 := hide (HK3.out.trans k4.any)
      simp only [rowAgg, rowCells, noRow]
      clear k4
      go_wp2_with fail
      refine (form_any _ _).mono ?_
      rintro r w5 ⟨rfl, rfl⟩
      go_wp2
      go_ret
      rw [HMq.out]
      exact ⟨⟨_, rfl, ⟨_, rfl, by have := HK4.out.size; simp; omega, heap_alloc_new2 _ _ _⟩⟩, (HK4.out.alloc _).alloc _⟩
    | some rr =>
      obtain ⟨fr, up, bh, tk, gv⟩ := rr
      have z1 : Sz N { s with pos := s.i, i := j } := z.read j s.i s.closed
      have q5 : ((op.toNat : Int) != 5) = !(op == 5) := u8_ne op 5
      have q11 : ((op.toNat : Int) != 11) = !(op == 11) := u8_ne op 11
      have hM := HMq.out
      simp only at hM
      cases hcl : s.closed with
      | false =>
        rw [if_neg (by simp [hcl])] at hM
        by_cases hb4 : bh = 4
        · have qb : ((bh : Int) == 4) = true := by rw [hb4]; rfl
          have hmem : op ∈ ([0, 2, 3, 4, 5, 11, 12, 13, 14, 15, 16, 26, 27, 32, 33, 34, 35, 36] : List UInt8) := by simpa [rowFit, hb4] using hfit
          rw [if_pos hb4] at hM
          clear hb4
          clear HMq
          have hcon := fun W (hW : BSt E g W { s with pos := s.i, i := j }) => special_any hW z1 hN hne op hmem
          generalize specialM E.c op { s with pos := s.i, i := j } = T at *
          have HCn := hide hcon
          clear hcon
          subst hM
          cases R with
          | ok s1 =>
            go_enter Tryz.func179, Tryz.ntmps179
            go_wp2_with fail
            refine HA.out.mono ?_
            rintro r w1 ⟨rfl, rfl⟩
            go_wp2_with fail
            generalize World.setCell w1 ⟨E.bb, 6, none⟩ (.int .i64 s.i) = w2 at *
            refine HB.out.mono ?_
            rintro r w3 ⟨⟨v, rfl, rfl, h3⟩, k3⟩
            have HFi3 := hide (HFi.out w3 (HR0.out.kp (H0.out.nroRb k3)))
            have HBo3 := hide (k3.blk HBo0.out hnb)
            have H3 := hide (H0.out.read k3 h3)
            have HK3 := hide (HK0.out.trans (H0.out.nroRb k3))
            clear h3 k3 hc hf hc0 hf0
            go_wp2_with fail
            refine HFi3.out.mono ?_
            rintro r w4 ⟨rfl, k4⟩
            obtain ⟨hc4, hf4⟩ := cells_of (k4.blk HBo3.out (fun h => h))
            have hlb4 := lt_of_blk (k4.blk HBo3.out (fun h => h))
            have HK4 := hide (HK3.out.trans k4.any)
            have H4 := hide ((H3.out.quiet k4).quiet ((Kp.refl no w4).alloc (.cells #[.int .u8 fr.toNat, .int .u8 up.toNat, .int .i64 bh, .string ⟨tk.toArray⟩, .string ⟨gv.toArray⟩] 329)))
            simp only [rowAgg, rowCells]
            clear k4
            have HC := hide (HCn.out _ H4.out)
            clear H4
            go_wp2_with fail
            refine HC.out.mono ?_
            rintro r w5 ⟨⟨rfl, g1, h5⟩, k5⟩
            have H5 := hide h5
            have HK5 := hide ((HK4.out.alloc _).trans k5)
            clear h5 k5
            go_wp2
            go_ret
            exact ⟨⟨rfl, g1, H5.out⟩, HK5.out⟩
          | error e =>
            go_enter Tryz.func179, Tryz.ntmps179
            go_wp2_with fail
            refine HA.out.mono ?_
            rintro r w1 ⟨rfl, rfl⟩
            go_wp2_with fail
            generalize World.setCell w1 ⟨E.bb, 6, none⟩ (.int .i64 s.i) = w2 at *
            refine HB.out.mono ?_
            rintro r w3 ⟨⟨v, rfl, rfl, h3⟩, k3⟩
            have HFi3 := hide (HFi.out w3 (HR0.out.kp (H0.out.nroRb k3)))
            have HBo3 := hide (k3.blk HBo0.out hnb)
            have H3 := hide (H0.out.read k3 h3)
            have HK3 := hide (HK0.out.trans (H0.out.nroRb k3))
            clear h3 k3 hc hf hc0 hf0
            go_wp2_with fail
            refine HFi3.out.mono ?_
            rintro r w4 ⟨rfl, k4⟩
            obtain ⟨hc4, hf4⟩ := cells_of (k4.blk HBo3.out (fun h => h))
            have hlb4 := lt_of_blk (k4.blk HBo3.out (fun h => h))
            have HK4 := hide (HK3.out.trans k4.any)
            have H4 := hide ((H3.out.quiet k4).quiet ((Kp.refl no w4).alloc (.cells #[.int .u8 fr.toNat, .int .u8 up.toNat, .int .i64 bh, .string ⟨tk.toArray⟩, .string ⟨gv.toArray⟩] 329)))
            simp only [rowAgg, rowCells]
            clear k4
            have HC := hide (HCn.out _ H4.out)
            clear H4
            go_wp2_with fail
            refine HC.out.mono ?_
            rintro r w5 ⟨⟨fv, rfl, fb, rfl, hfb, hfo⟩, k5⟩
            have HF := hide hfo
            have HK5 := hide ((HK4.out.alloc _).trans k5)
            clear hfo k5
            go_wp2
            go_ret
            exact ⟨⟨ptrTo fb, rfl, fb, rfl, by have := HK4.out.size; simp at hfb; omega, HF.out⟩, HK5.out⟩
        · have hfit2 : bh ≤ 3 ∧ tk.length ≤ 2 ∧ gv.length ≤ 1 := by simpa [rowFit, hb4, and_assoc] using hfit
          have hbb : bh = 0 ∨ bh = 1 ∨ bh = 2 ∨ bh = 3 := by omega
          have htk2 := hfit2.2.1
          have hgv2 := hfit2.2.2
          have qb : ((bh : Int) == 4) = false := by simp; omega
          rw [if_neg hb4] at hM
          clear HMq
          have hcon := fun W (hW : BSt E g W { s with pos := s.i, i := j }) => plain_any' hW z1 (by omega) hne op ⟨fr, up, bh, tk, gv⟩ hbb htk2 hgv2
          generalize plainB E.c op ⟨fr, up, bh, tk, gv⟩ { s with pos := s.i, i := j } = T at *
          have HCn := hide hcon
          clear hcon
          subst hM
          cases R with
          | ok s1 =>
            go_enter Tryz.func179, Tryz.ntmps179
            go_wp2_with fail
            refine HA.out.mono ?_
            rintro r w1 ⟨rfl, rfl⟩
            go_wp2_with fail
            generalize World.setCell w1 ⟨E.bb, 6, none⟩ (.int .i64 s.i) = w2 at *
            refine HB.out.mono ?_
            rintro r w3 ⟨⟨v, rfl, rfl, h3⟩, k3⟩
            have HFi3 := hide (HFi.out w3 (HR0.out.kp (H0.out.nroRb k3)))
            have HBo3 := hide (k3.blk HBo0.out hnb)
            have H3 := hide (H0.out.read k3 h3)
            have HK3 := hide (HK0.out.trans (H0.out.nroRb k3))
            clear h3 k3 hc hf hc0 hf0
            go_wp2_with fail
            refine HFi3.out.mono ?_
            rintro r w4 ⟨rfl, k4⟩
            obtain ⟨hc4, hf4⟩ := cells_of (k4.blk HBo3.out (fun h => h))
            have hlb4 := lt_of_blk (k4.blk HBo3.out (fun h => h))
            have HK4 := hide (HK3.out.trans k4.any)
            have H4 := hide ((H3.out.quiet k4).quiet ((Kp.refl no w4).alloc (.cells #[.int .u8 fr.toNat, .int .u8 up.toNat, .int .i64 bh, .string ⟨tk.toArray⟩, .string ⟨gv.toArray⟩] 329)))
            simp only [rowAgg, rowCells]
            clear k4
            have HC := hide (HCn.out _ H4.out)
            clear H4
            go_wp2_with fail
            refine HC.out.mono ?_
            rintro r w5 ⟨⟨rfl, g1, h5⟩, k5⟩
            have H5 := hide h5
            have HK5 := hide ((HK4.out.alloc _).trans k5)
            clear h5 k5
            go_wp2
            go_ret
            exact ⟨⟨rfl, g1, H5.out⟩, HK5.out⟩
          | error e =>
            go_enter Tryz.func179, Tryz.ntmps179
            go_wp2_with fail
            refine HA.out.mono ?_
            rintro r w1 ⟨rfl, rfl⟩
            go_wp2_with fail
            generalize World.setCell w1 ⟨E.bb, 6, none⟩ (.int .i64 s.i) = w2 at *
            refine HB.out.mono ?_
            rintro r w3 ⟨⟨v, rfl, rfl, h3⟩, k3⟩
            have HFi3 := hide (HFi.out w3 (HR0.out.kp (H0.out.nroRb k3)))
            have HBo3 := hide (k3.blk HBo0.out hnb)
            have H3 := hide (H0.out.read k3 h3)
            have HK3 := hide (HK0.out.trans (H0.out.nroRb k3))
            clear h3 k3 hc hf hc0 hf0
            go_wp2_with fail
            refine HFi3.out.mono ?_
            rintro r w4 ⟨rfl, k4⟩
            obtain ⟨hc4, hf4⟩ := cells_of (k4.blk HBo3.out (fun h => h))
            have hlb4 := lt_of_blk (k4.blk HBo3.out (fun h => h))
            have HK4 := hide (HK3.out.trans k4.any)
            have H4 := hide ((H3.out.quiet k4).quiet ((Kp.refl no w4).alloc (.cells #[.int .u8 fr.toNat, .int .u8 up.toNat, .int .i64 bh, .string ⟨tk.toArray⟩, .string ⟨gv.toArray⟩] 329)))
            simp only [rowAgg, rowCells]
            clear k4
            have HC := hide (HCn.out _ H4.out)
            clear H4
            go_wp2_with fail
            refine HC.out.mono ?_
            rintro r w5 ⟨⟨fv, rfl, fb, rfl, hfb, hfo⟩, k5⟩
            have HF := hide hfo
            have HK5 := hide ((HK4.out.alloc _).trans k5)
            clear hfo k5
            go_wp2
            go_ret
            exact ⟨⟨ptrTo fb, rfl, fb, rfl, by have := HK4.out.size; simp at hfb; omega, HF.out⟩, HK5.out⟩
      | true =>
        by_cases h5 : op = 5
        · have b5 : (op == 5) = true := by simpa using h5
          rw [b5] at q5
          simp only [Bool.not_true] at q5
          rw [if_neg (by simp [h5])] at hM
          have b11 : (op == 11) = false := by rw [h5]; rfl
          rw [b11] at q11
          clear h5 b5 b11
          by_cases hb4 : bh = 4
          · have qb : ((bh : Int) == 4) = true := by rw [hb4]; rfl
            have hmem : op ∈ ([0, 2, 3, 4, 5, 11, 12, 13, 14, 15, 16, 26, 27, 32, 33, 34, 35, 36] : List UInt8) := by simpa [rowFit, hb4] using hfit
            rw [if_pos hb4] at hM
            clear hb4
            clear HMq
            have hcon := fun W (hW : BSt E g W { s with pos := s.i, i := j }) => special_any hW z1 hN hne op hmem
            generalize specialM E.c op { s with pos := s.i, i := j } = T at *
            have HCn := hide hcon
            clear hcon
            subst hM
            cases R with
            | ok s1 =>
              go_enter Tryz.func179, Tryz.ntmps179
              go_wp2_with fail
              refine HA.out.mono ?_
              rintro r w1 ⟨rfl, rfl⟩
              go_wp2_with fail
              generalize World.setCell w1 ⟨E.bb, 6, none⟩ (.int .i64 s.i) = w2 at *
              refine HB.out.mono ?_
              rintro r w3 ⟨⟨v, rfl, rfl, h3⟩, k3⟩
              have HFi3 := hide (HFi.out w3 (HR0.out.kp (H0.out.nroRb k3)))
              have HBo3 := hide (k3.blk HBo0.out hnb)
              have H3 := hide (H0.out.read k3 h3)
              have HK3 := hide (HK0.out.trans (H0.out.nroRb k3))
              clear h3 k3 hc hf hc0 hf0
              go_wp2_with fail
              refine HFi3.out.mono ?_
              rintro r w4 ⟨rfl, k4⟩
              obtain ⟨hc4, hf4⟩ := cells_of (k4.blk HBo3.out (fun h => h))
              have hlb4 := lt_of_blk (k4.blk HBo3.out (fun h => h))
              have HK4 := hide (HK3.out.trans k4.any)
              have H4 := hide ((H3.out.quiet k4).quiet ((Kp.refl no w4).alloc (.cells #[.int .u8 fr.toNat, .int .u8 up.toNat, .int .i64 bh, .string ⟨tk.toArray⟩, .string ⟨gv.toArray⟩] 329)))
              simp only [rowAgg, rowCells]
              clear k4
              have HC := hide (HCn.out _ H4.out)
              clear H4
              go_wp2_with fail
              refine HC.out.mono ?_
              rintro r w5 ⟨⟨rfl, g1, h5⟩, k5⟩
              have H5 := hide h5
              have HK5 := hide ((HK4.out.alloc _).trans k5)
              clear h5 k5
              go_wp2
              go_ret
              exact ⟨⟨rfl, g1, H5.out⟩, HK5.out⟩
            | error e =>
              go_enter Tryz.func179, Tryz.ntmps179
              go_wp2_with fail
              refine HA.out.mono ?_
              rintro r w1 ⟨rfl, rfl⟩
              go_wp2_with fail
              generalize World.setCell w1 ⟨E.bb, 6, none⟩ (.int .i64 s.i) = w2 at *
              refine HB.out.mono ?_
              rintro r w3 ⟨⟨v, rfl, rfl, h3⟩, k3⟩
              have HFi3 := hide (HFi.out w3 (HR0.out.kp (H0.out.nroRb k3)))
              have HBo3 := hide (k3.blk HBo0.out hnb)
              have H3 := hide (H0.out.read k3 h3)
              have HK3 := hide (HK0.out.trans (H0.out.nroRb k3))
              clear h3 k3 hc hf hc0 hf0
              go_wp2_with fail
              refine HFi3.out.mono ?_
              rintro r w4 ⟨rfl, k4⟩
              obtain ⟨hc4, hf4⟩ := cells_of (k4.blk HBo3.out (fun h => h))
              have hlb4 := lt_of_blk (k4.blk HBo3.out (fun h => h))
              have HK4 := hide (HK3.out.trans k4.any)
              have H4 := hide ((H3.out.quiet k4).quiet ((Kp.refl no w4).alloc (.cells #[.int .u8 fr.toNat, .int .u8 up.toNat, .int .i64 bh, .string ⟨tk.toArray⟩, .string ⟨gv.toArray⟩] 329)))
              simp only [rowAgg, rowCells]
              clear k4
              have HC := hide (HCn.out _ H4.out)
              clear H4
              go_wp2_with fail
              refine HC.out.mono ?_
              rintro r w5 ⟨⟨fv, rfl, fb, rfl, hfb, hfo⟩, k5⟩
              have HF := hide hfo
              have HK5 := hide ((HK4.out.alloc _).trans k5)
              clear hfo k5
              go_wp2
              go_ret
              exact ⟨⟨ptrTo fb, rfl, fb, rfl, by have := HK4.out.size; simp at hfb; omega, HF.out⟩, HK5.out⟩
          · have hfit2 : bh ≤ 3 ∧ tk.length ≤ 2 ∧ gv.length ≤ 1 := by simpa [rowFit, hb4, and_assoc] using hfit
            have hbb : bh = 0 ∨ bh = 1 ∨ bh = 2 ∨ bh = 3 := by omega
            have htk2 := hfit2.2.1
            have hgv2 := hfit2.2.2
            have qb : ((bh : Int) == 4) = false := by simp; omega
            rw [if_neg hb4] at hM
            clear HMq
            have hcon := fun W (hW : BSt E g W { s with pos := s.i, i := j }) => plain_any' hW z1 (by omega) hne op ⟨fr, up, bh, tk, gv⟩ hbb htk2 hgv2
            generalize plainB E.c op ⟨fr, up, bh, tk, gv⟩ { s with pos := s.i, i := j } = T at *
            have HCn := hide hcon
            clear hcon
            subst hM
            cases R with
            | ok s1 =>
              go_enter Tryz.func179, Tryz.ntmps179
              go_wp2_with fail
              refine HA.out.mono ?_
              rintro r w1 ⟨rfl, rfl⟩
              go_wp2_with fail
              generalize World.setCell w1 ⟨E.bb, 6, none⟩ (.int .i64 s.i) = w2 at *
              refine HB.out.mono ?_
              rintro r w3 ⟨⟨v, rfl, rfl, h3⟩, k3⟩
              have HFi3 := hide (HFi.out w3 (HR0.out.kp (H0.out.nroRb k3)))
              have HBo3 := hide (k3.blk HBo0.out hnb)
              have H3 := hide (H0.out.read k3 h3)
              have HK3 := hide (HK0.out.trans (H0.out.nroRb k3))
              clear h3 k3 hc hf hc0 hf0
              go_wp2_with fail
              refine HFi3.out.mono ?_
              rintro r w4 ⟨rfl, k4⟩
              obtain ⟨hc4, hf4⟩ := cells_of (k4.blk HBo3.out (fun h => h))
              have hlb4 := lt_of_blk (k4.blk HBo3.out (fun h => h))
              have HK4 := hide (HK3.out.trans k4.any)
              have H4 := hide ((H3.out.quiet k4).quiet ((Kp.refl no w4).alloc (.cells #[.int .u8 fr.toNat, .int .u8 up.toNat, .int .i64 bh, .string ⟨tk.toArray⟩, .string ⟨gv.toArray⟩] 329)))
              simp only [rowAgg, rowCells]
              clear k4
              have HC := hide (HCn.out _ H4.out)
              clear H4
              go_wp2_with fail
              refine HC.out.mono ?_
              rintro r w5 ⟨⟨rfl, g1, h5⟩, k5⟩
              have H5 := hide h5
              have HK5 := hide ((HK4.out.alloc _).trans k5)
              clear h5 k5
              go_wp2
              go_ret
              exact ⟨⟨rfl, g1, H5.out⟩, HK5.out⟩
            | error e =>
              go_enter Tryz.func179, Tryz.ntmps179
              go_wp2_with fail
              refine HA.out.mono ?_
              rintro r w1 ⟨rfl, rfl⟩
              go_wp2_with fail
              generalize World.setCell w1 ⟨E.bb, 6, none⟩ (.int .i64 s.i) = w2 at *
              refine HB.out.mono ?_
              rintro r w3 ⟨⟨v, rfl, rfl, h3⟩, k3⟩
              have HFi3 := hide (HFi.out w3 (HR0.out.kp (H0.out.nroRb k3)))
              have HBo3 := hide (k3.blk HBo0.out hnb)
              have H3 := hide (H0.out.read k3 h3)
              have HK3 := hide (HK0.out.trans (H0.out.nroRb k3))
              clear h3 k3 hc hf hc0 hf0
              go_wp2_with fail
              refine HFi3.out.mono ?_
              rintro r w4 ⟨rfl, k4⟩
              obtain ⟨hc4, hf4⟩ := cells_of (k4.blk HBo3.out (fun h => h))
              have hlb4 := lt_of_blk (k4.blk HBo3.out (fun h => h))
              have HK4 := hide (HK3.out.trans k4.any)
              have H4 := hide ((H3.out.quiet k4).quiet ((Kp.refl no w4).alloc (.cells #[.int .u8 fr.toNat, .int .u8 up.toNat, .int .i64 bh, .string ⟨tk.toArray⟩, .string ⟨gv.toArray⟩] 329)))
              simp only [rowAgg, rowCells]
              clear k4
              have HC := hide (HCn.out _ H4.out)
              clear H4
              go_wp2_with fail
              refine HC.out.mono ?_
              rintro r w5 ⟨⟨fv, rfl, fb, rfl, hfb, hfo⟩, k5⟩
              have HF := hide hfo
              have HK5 := hide ((HK4.out.alloc _).trans k5)
              clear hfo k5
              go_wp2
              go_ret
              exact ⟨⟨ptrTo fb, rfl, fb, rfl, by have := HK4.out.size; simp at hfb; omega, HF.out⟩, HK5.out⟩
        · have b5 : (op == 5) = false := by simpa using h5
          rw [b5] at q5
          simp only [Bool.not_false] at q5
          by_cases h11 : op = 11
          · have b11 : (op == 11) = true := by simpa using h11
            rw [b11] at q11
            simp only [Bool.not_true] at q11
            rw [if_neg (by simp [h11])] at hM
            clear h11 b11 h5 b5
            by_cases hb4 : bh = 4
            · have qb : ((bh : Int) == 4) = true := by rw [hb4]; rfl
              have hmem : op ∈ ([0, 2, 3, 4, 5, 11, 12, 13, 14, 15, 16, 26, 27, 32, 33, 34, 35, 36] : List UInt8) := by simpa [rowFit, hb4] using hfit
              rw [if_pos hb4] at hM
              clear hb4
              clear HMq
              have hcon := fun W (hW : BSt E g W { s with pos := s.i, i := j }) => special_any hW z1 hN hne op hmem
              generalize specialM E.c op { s with pos := s.i, i := j } = T at *
              have HCn := hide hcon
              clear hcon
              subst hM
              cases R with
              | ok s1 =>
                go_enter Tryz.func179, Tryz.ntmps179
                go_wp2_with fail
                refine HA.out.mono ?_
                rintro r w1 ⟨rfl, rfl⟩
                go_wp2_with fail
                generalize World.setCell w1 ⟨E.bb, 6, none⟩ (.int .i64 s.i) = w2 at *
                refine HB.out.mono ?_
                rintro r w3 ⟨⟨v, rfl, rfl, h3⟩, k3⟩
                have HFi3 := hide (HFi.out w3 (HR0.out.kp (H0.out.nroRb k3)))
                have HBo3 := hide (k3.blk HBo0.out hnb)
                have H3 := hide (H0.out.read k3 h3)
                have HK3 := hide (HK0.out.trans (H0.out.nroRb k3))
                clear h3 k3 hc hf hc0 hf0
                go_wp2_with fail
                refine HFi3.out.mono ?_
                rintro r w4 ⟨rfl, k4⟩
                obtain ⟨hc4, hf4⟩ := cells_of (k4.blk HBo3.out (fun h => h))
                have hlb4 := lt_of_blk (k4.blk HBo3.out (fun h => h))
                have HK4 := hide (HK3.out.trans k4.any)
                have H4 := hide ((H3.out.quiet k4).quiet ((Kp.refl no w4).alloc (.cells #[.int .u8 fr.toNat, .int .u8 up.toNat, .int .i64 bh, .string ⟨tk.toArray⟩, .string ⟨gv.toArray⟩] 329)))
                simp only [rowAgg, rowCells]
                clear k4
                have HC := hide (HCn.out _ H4.out)
                clear H4
                go_wp2_with fail
                refine HC.out.mono ?_
                rintro r w5 ⟨⟨rfl, g1, h5⟩, k5⟩
                have H5 := hide h5
                have HK5 := hide ((HK4.out.alloc _).trans k5)
                clear h5 k5
                go_wp2
                go_ret
                exact ⟨⟨rfl, g1, H5.out⟩, HK5.out⟩
              | error e =>
                go_enter Tryz.func179, Tryz.ntmps179
                go_wp2_with fail
                refine HA.out.mono ?_
                rintro r w1 ⟨rfl, rfl⟩
                go_wp2_with fail
                generalize World.setCell w1 ⟨E.bb, 6, none⟩ (.int .i64 s.i) = w2 at *
                refine HB.out.mono ?_
                rintro r w3 ⟨⟨v, rfl, rfl, h3⟩, k3⟩
                have HFi3 := hide (HFi.out w3 (HR0.out.kp (H0.out.nroRb k3)))
                have HBo3 := hide (k3.blk HBo0.out hnb)
                have H3 := hide (H0.out.read k3 h3)
                have HK3 := hide (HK0.out.trans (H0.out.nroRb k3))
                clear h3 k3 hc hf hc0 hf0
                go_wp2_with fail
                refine HFi3.out.mono ?_
                rintro r w4 ⟨rfl, k4⟩
                obtain ⟨hc4, hf4⟩ := cells_of (k4.blk HBo3.out (fun h => h))
                have hlb4 := lt_of_blk (k4.blk HBo3.out (fun h => h))
                have HK4 := hide (HK3.out.trans k4.any)
                have H4 := hide ((H3.out.quiet k4).quiet ((Kp.refl no w4).alloc (.cells #[.int .u8 fr.toNat, .int .u8 up.toNat, .int .i64 bh, .string ⟨tk.toArray⟩, .string ⟨gv.toArray⟩] 329)))
                simp only [rowAgg, rowCells]
                clear k4
                have HC := hide (HCn.out _ H4.out)
                clear H4
                go_wp2_with fail
                refine HC.out.mono ?_
                rintro r w5 ⟨⟨fv, rfl, fb, rfl, hfb, hfo⟩, k5⟩
                have HF := hide hfo
                have HK5 := hide ((HK4.out.alloc _).trans k5)
                clear hfo k5
                go_wp2
                go_ret
                exact ⟨⟨ptrTo fb, rfl, fb, rfl, by have := HK4.out.size; simp at hfb; omega, HF.out⟩, HK5.out⟩
            · have hfit2 : bh ≤ 3 ∧ tk.length ≤ 2 ∧ gv.length ≤ 1 := by simpa [rowFit, hb4, and_assoc] using hfit
              have hbb : bh = 0 ∨ bh = 1 ∨ bh = 2 ∨ bh = 3 := by omega
              have htk2 := hfit2.2.1
              have hgv2 := hfit2.2.2
              have qb : ((bh : Int) == 4) = false := by simp; omega
              rw [if_neg hb4] at hM
              clear HMq
              have hcon := fun W (hW : BSt E g W { s with pos := s.i, i := j }) => plain_any' hW z1 (by omega) hne op ⟨fr, up, bh, tk, gv⟩ hbb htk2 hgv2
              generalize plainB E.c op ⟨fr, up, bh, tk, gv⟩ { s with pos := s.i, i := j } = T at *
              have HCn := hide hcon
              clear hcon
              subst hM
              cases R with
              | ok s1 =>
                go_enter Tryz.func179, Tryz.ntmps179
                go_wp2_with fail
                refine HA.out.mono ?_
                rintro r w1 ⟨rfl, rfl⟩
                go_wp2_with fail
                generalize World.setCell w1 ⟨E.bb, 6, none⟩ (.int .i64 s.i) = w2 at *
                refine HB.out.mono ?_
                rintro r w3 ⟨⟨v, rfl, rfl, h3⟩, k3⟩
                have HFi3 := hide (HFi.out w3 (HR0.out.kp (H0.out.nroRb k3)))
                have HBo3 := hide (k3.blk HBo0.out hnb)
                have H3 := hide (H0.out.read k3 h3)
                have HK3 := hide (HK0.out.trans (H0.out.nroRb k3))
                clear h3 k3 hc hf hc0 hf0
                go_wp2_with fail
                refine HFi3.out.mono ?_
                rintro r w4 ⟨rfl, k4⟩
                obtain ⟨hc4, hf4⟩ := cells_of (k4.blk HBo3.out (fun h => h))
                have hlb4 := lt_of_blk (k4.blk HBo3.out (fun h => h))
                have HK4 := hide (HK3.out.trans k4.any)
                have H4 := hide ((H3.out.quiet k4).quiet ((Kp.refl no w4).alloc (.cells #[.int .u8 fr.toNat, .int .u8 up.toNat, .int .i64 bh, .string ⟨tk.toArray⟩, .string ⟨gv.toArray⟩] 329)))
                simp only [rowAgg, rowCells]
                clear k4
                have HC := hide (HCn.out _ H4.out)
                clear H4
                go_wp2_with fail
                refine HC.out.mono ?_
                rintro r w5 ⟨⟨rfl, g1, h5⟩, k5⟩
                have H5 := hide h5
                have HK5 := hide ((HK4.out.alloc _).trans k5)
                clear h5 k5
                go_wp2
                go_ret
                exact ⟨⟨rfl, g1, H5.out⟩, HK5.out⟩
              | error e =>
                go_enter Tryz.func179, Tryz.ntmps179
                go_wp2_with fail
                refine HA.out.mono ?_
                rintro r w1 ⟨rfl, rfl⟩
                go_wp2_with fail
                generalize World.setCell w1 ⟨E.bb, 6, none⟩ (.int .i64 s.i) = w2 at *
                refine HB.out.mono ?_
                rintro r w3 ⟨⟨v, rfl, rfl, h3⟩, k3⟩
                have HFi3 := hide (HFi.out w3 (HR0.out.kp (H0.out.nroRb k3)))
                have HBo3 := hide (k3.blk HBo0.out hnb)
                have H3 := hide (H0.out.read k3 h3)
                have HK3 := hide (HK0.out.trans (H0.out.nroRb k3))
                clear h3 k3 hc hf hc0 hf0
                go_wp2_with fail
                refine HFi3.out.mono ?_
                rintro r w4 ⟨rfl, k4⟩
                obtain ⟨hc4, hf4⟩ := cells_of (k4.blk HBo3.out (fun h => h))
                have hlb4 := lt_of_blk (k4.blk HBo3.out (fun h => h))
                have HK4 := hide (HK3.out.trans k4.any)
                have H4 := hide ((H3.out.quiet k4).quiet ((Kp.refl no w4).alloc (.cells #[.int .u8 fr.toNat, .int .u8 up.toNat, .int .i64 bh, .string ⟨tk.toArray⟩, .string ⟨gv.toArray⟩] 329)))
                simp only [rowAgg, rowCells]
                clear k4
                have HC := hide (HCn.out _ H4.out)
                clear H4
                go_wp2_with fail
                refine HC.out.mono ?_
                rintro r w5 ⟨⟨fv, rfl, fb, rfl, hfb, hfo⟩, k5⟩
                have HF := hide hfo
                have HK5 := hide ((HK4.out.alloc _).trans k5)
                clear hfo k5
                go_wp2
                go_ret
                exact ⟨⟨ptrTo fb, rfl, fb, rfl, by have := HK4.out.size; simp at hfb; omega, HF.out⟩, HK5.out⟩
          · have b11 : (op == 11) = false := by simpa using h11
            rw [b11] at q11
            simp only [Bool.not_false] at q11
            rw [if_pos ⟨hcl, h5, h11⟩] at hM
            have HMr := hide hM
            clear hM h5 h11 b5 b11 HMq
            go_enter Tryz.func179, Tryz.ntmps179
            go_wp2_with fail
            refine HA.out.mono ?_
            rintro r w1 ⟨rfl, rfl⟩
            go_wp2_with fail
            generalize World.setCell w1 ⟨E.bb, 6, none⟩ (.int .i64 s.i) = w2 at *
            refine HB.out.mono ?_
            rintro r w3 ⟨⟨v, rfl, rfl, h3⟩, k3⟩
            have HFi3 := hide (HFi.out w3 (HR0.out.kp (H0.out.nroRb k3)))
            have HBo3 := hide (k3.blk HBo0.out hnb)
            have H3 := hide (H0.out.read k3 h3)
            have HK3 := hide (HK0.out.trans (H0.out.nroRb k3))
            clear h3 k3 hc hf hc0 hf0
            go_wp2_with fail
            refine HFi3.out.mono ?_
            rintro r w4 ⟨rfl, k4⟩
            obtain ⟨hc4, hf4⟩ := cells_of (k4.blk HBo3.out (fun h => h))
            have hlb4 := lt_of_blk (k4.blk HBo3.out (fun h => h))
            have HK4 := hide (HK3.out.trans k4.any)
            have H4 := hide ((H3.out.quiet k4).quiet ((Kp.refl no w4).alloc (.cells #[.int .u8 fr.toNat, .int .u8 up.toNat, .int .i64 bh, .string ⟨tk.toArray⟩, .string ⟨gv.toArray⟩] 329)))
            simp only [rowAgg, rowCells]
            clear k4
            have HW := hide (wrong_any H4.out)
            go_wp2_with fail
            refine HW.out.mono ?_
            rintro e w8 ⟨⟨fv, rfl, fb, rfl, hfb, hfo⟩, k8⟩
            have HF := hide hfo
            clear hfo
            go_wp2
            go_ret
            rw [HMr.out]
            exact ⟨⟨ptrTo fb, rfl, fb, rfl, by have := HK4.out.size; simp at hfb; omega, HF.out⟩, (HK4.out.alloc _).trans k8.any⟩
end

end Go.Proofs.YtdeplgkhmebalaaGreatDoor

namespace Go.Proofs.YtdeplgkhmebalaaGreatDoor
open Go.RowKit

section
variable {N : Nat} {s s1 : Bd} {c : Ctx}

theorem sunk_i {s s' : Bd} (h : Sunk s s') : s'.i = s.i ∧ s'.blocks = s.blocks ∧ s'.code = s.code := by
  obtain ⟨l, rfl, -⟩ := h; exact ⟨rfl, rfl, rfl⟩
theorem jump_i (op : UInt8) (k : Nat) : (jumpM s op k).i = s.i := by unfold jumpM; split <;> rfl
theorem aim_same (n : Nat) : (aimM s n).i = s.i ∧ (aimM s n).stack = s.stack ∧ (aimM s n).blocks = s.blocks ∧ (aimM s n).code.length = s.code.length := ⟨rfl, rfl, rfl, by simp [aimM]⟩
theorem aimAll_sz (l : List Nat) : ∀ {s : Bd}, Sz N s → Sz N (aimAll l s) := by
  induction l with
  | nil => intro s z; exact z
  | cons a l ih => intro s z; exact ih (aim_sz z a)

theorem stop_keep (z : Sz N s) (h : stopM s = .ok s1) : Sz (N + 1) s1 ∧ s.i ≤ s1.i := by
  cases h
  exact ⟨(emit_sz z _).read s.i s.pos true, Nat.le_refl _⟩
theorem oneOf_range {D al : List UInt8} {i : Nat} {t : UInt8} {j : Nat} (h : oneOfM D al i = .ok (t, j)) : j = i + 1 ∧ t ∈ al := by
  unfold oneOfM byteM at h
  split at h
  · rename_i h1
    cases h
  · rename_i t' j' h1
    split at h1
    · cases h1
      split at h
      · rename_i hm; cases h; exact ⟨rfl, hm⟩
      · cases h
    · cases h1
theorem push_sz (z : Sz N s) (b : Bk) (x : Ins) (hl : s.blocks.length ≤ 16) (hh : b.height = s.stack.length) (hs : b.start = s.code.length + 1) (hr : b.result.length ≤ 1) (hw : b.waits = []) :
    Sz (N + 1) { emitM s x with blocks := s.blocks ++ [b] } := by
  have hb : ∀ j, Bd.bk { emitM s x with blocks := s.blocks ++ [b] } j = if j < s.blocks.length then s.bk j else if j = s.blocks.length then b else noBk := by
    intro j
    show (s.blocks ++ [b]).getD j noBk = _
    rw [List.getD]
    split
    · rename_i h; rw [List.getElem?_append_left h]; rfl
    · rename_i h
      rw [List.getElem?_append_right (by omega)]
      split
      · rename_i h2; subst h2; simp
      · rw [List.getElem?_eq_none (by simp; omega)]; rfl
  have hcl : (emitM s x).code.length = s.code.length + 1 := by simp [emitM]
  have hst := z.st
  have hcd := z.cd
  refine ⟨by simp; omega, by show s.stack.length ≤ N + 1; omega, by show (emitM s x).code.length ≤ N + 1; omega, ?_, ?_, ?_⟩
  · unfold Bd.top
    rw [hb]
    simp only [List.length_append, List.length_cons, List.length_nil]
    rw [if_neg (by omega), if_pos (by omega), hh]
    exact Nat.le_refl _
  · intro j k hjk hk
    simp only [List.length_append, List.length_cons, List.length_nil] at hk
    rw [hb, hb]
    by_cases h1 : k < s.blocks.length
    · rw [if_pos h1, if_pos (by omega)]; exact z.mono j k hjk h1
    · rw [if_neg h1, if_pos (show k = s.blocks.length by omega)]
      by_cases h2 : j < s.blocks.length
      · rw [if_pos h2, hh]; exact z.height h2
      · rw [if_neg h2, if_pos (by omega)]; exact Nat.le_refl _
  · intro k hk
    simp only [List.length_append, List.length_cons, List.length_nil] at hk
    rw [hb]
    show _ ∧ _ ∧ _ ∧ (∀ n ∈ _, n < (emitM s x).code.length) ∧ (_ → _ ∧ _ ≤ (emitM s x).code.length)
    rw [hcl]
    by_cases h1 : k < s.blocks.length
    · rw [if_pos h1]
      have := z.wt k h1
      exact ⟨by omega, by omega, this.2.2.1, fun n hn => by have := this.2.2.2.1 n hn; omega, fun h3 => by have := this.2.2.2.2 h3; omega⟩
    · rw [if_neg h1, if_pos (show k = s.blocks.length by omega), hw, hs]
      exact ⟨by simp, by omega, hr, fun n hn => by simp at hn, fun _ => by omega⟩
theorem open_keep (z : Sz N s) (op : UInt8) (h : openM c op s = .ok s1) : Sz (N + 1) s1 ∧ s.i ≤ s1.i := by
  unfold openM at h
  split at h
  · cases h
  · rename_i t j ho
    have hj := oneOf_range ho
    split at h
    · cases h
    · rename_i s2 hs2
      have hz : Sz N s2 ∧ s2.i = j := by
        split at hs2
        · exact ⟨take_sz (z.read j s.pos s.closed) hs2, (sunk_i (take_sunk hs2)).1⟩
        · cases hs2; exact ⟨z.read j s.pos s.closed, rfl⟩
      split at h
      · cases h
      · rename_i h16
        cases h
        have hb := hz.1.bl
        refine ⟨push_sz hz.1 _ _ (by omega) rfl rfl ?_ rfl, ?_⟩
        · simp only; split <;> simp
        · show s.i ≤ s2.i
          omega
theorem kind_sz (z : Sz N s) (hl : 0 < s.blocks.length) (cl : Bool) : Sz N { s with blocks := s.blocks.set (s.blocks.length - 1) { s.top with kind := 4 }, stack := s.stack.take s.top.height, closed := cl } := by
  have hkl : s.blocks.length - 1 < s.blocks.length := by omega
  have hb : ∀ j, Bd.bk { s with blocks := s.blocks.set (s.blocks.length - 1) { s.top with kind := 4 }, stack := s.stack.take s.top.height, closed := cl } j = if s.blocks.length - 1 = j then { s.top with kind := 4 } else s.bk j := fun j => bk_set hkl _ j
  have hh : ∀ j, (Bd.bk { s with blocks := s.blocks.set (s.blocks.length - 1) { s.top with kind := 4 }, stack := s.stack.take s.top.height, closed := cl } j).height = (s.bk j).height := by
    intro j; rw [hb]; split
    · rename_i e; rw [← e]; rfl
    · rfl
  have ht := z.top
  have hst := z.st
  refine ⟨by simpa using z.bl, by simp; omega, z.cd, ?_, ?_, ?_⟩
  · refine Nat.le_trans (Nat.le_of_eq (hh _)) ?_
    simp only [List.length_set, List.length_take]
    show s.top.height ≤ _
    omega
  · intro j k hjk hk
    rw [hh, hh]; exact z.mono j k hjk (by simpa using hk)
  · intro j hj
    have hj' : j < s.blocks.length := by simpa using hj
    rw [hb]
    split
    · rename_i e
      subst e
      have := z.wt _ hj'
      exact ⟨this.1, this.2.1, this.2.2.1, this.2.2.2.1, fun h => by cases h⟩
    · exact z.wt j hj'
theorem turn_keep (hne : s.blocks ≠ []) (z : Sz N s) (h : turnM s = .ok s1) : Sz (N + 1) s1 ∧ s.i ≤ s1.i := by
  have hl : 0 < s.blocks.length := List.length_pos_iff.2 hne
  have hkl : s.blocks.length - 1 < s.blocks.length := by omega
  unfold turnM at h
  split at h
  · cases h
  · cases h
    have zj := jump_sz z 5 hkl
    have za := aim_sz zj (s.top.start - 1)
    have hji : (jumpM s 5 (s.blocks.length - 1)).i = s.i := jump_i 5 _
    have hai : (aimM (jumpM s 5 (s.blocks.length - 1)) (s.top.start - 1)).i = s.i := hji
    have hal : (aimM (jumpM s 5 (s.blocks.length - 1)) (s.top.start - 1)).blocks.length = s.blocks.length := (jump_same 5 hkl).2.1
    generalize aimM (jumpM s 5 (s.blocks.length - 1)) (s.top.start - 1) = sa at *
    exact ⟨kind_sz za (by omega) false, by show s.i ≤ sa.i; omega⟩
theorem pop_sz (z : Sz N s) (hl : 0 < s.blocks.length) (res : List UInt8) (hr : res.length ≤ 1) (cl : Bool) : Sz (N + 1) { s with stack := s.stack.take s.top.height ++ res, blocks := s.blocks.take (s.blocks.length - 1), closed := cl } := by
  have hb : ∀ j, j < s.blocks.length - 1 → Bd.bk { s with stack := s.stack.take s.top.height ++ res, blocks := s.blocks.take (s.blocks.length - 1), closed := cl } j = s.bk j := by
    intro j hj
    show (s.blocks.take (s.blocks.length - 1)).getD j noBk = s.blocks.getD j noBk
    rw [List.getD, List.getElem?_take, if_pos hj]; rfl
  have hlen : (s.blocks.take (s.blocks.length - 1)).length = s.blocks.length - 1 := by simp
  have ht := z.top
  have hst := z.st
  refine ⟨by have := z.bl; simp only [hlen]; omega, by simp; omega, Nat.le_succ_of_le z.cd, ?_, ?_, ?_⟩
  · by_cases h1 : s.blocks.length - 1 = 0
    · show ((s.blocks.take (s.blocks.length - 1)).getD ((s.blocks.take (s.blocks.length - 1)).length - 1) noBk).height ≤ _
      rw [h1]; simp [noBk]
    · refine Nat.le_trans (Nat.le_of_eq (congrArg Bk.height (hb _ (by simp only [hlen]; omega)))) ?_
      simp only [hlen]
      have := z.mono (s.blocks.length - 1 - 1) (s.blocks.length - 1) (by omega) (by omega)
      have h2 : (s.bk (s.blocks.length - 1)).height = s.top.height := rfl
      simp; omega
  · intro j k hjk hk
    simp only [hlen] at hk
    rw [hb j (by omega), hb k hk]; exact z.mono j k hjk (by omega)
  · intro k hk
    simp only [hlen] at hk
    rw [hb k hk]
    have := z.wt k (by omega)
    exact ⟨by omega, by omega, this.2.2⟩
theorem end_keep (hne : s.blocks ≠ []) (z : Sz N s) (h : endM s = .ok s1) : Sz (N + 2) s1 ∧ s.i ≤ s1.i := by
  have hl : 0 < s.blocks.length := List.length_pos_iff.2 hne
  have hkl : s.blocks.length - 1 < s.blocks.length := by omega
  have hres := (z.wt _ hkl).2.2.1
  change s.top.result.length ≤ 1 at hres
  unfold endM at h
  split at h
  · cases h
  · simp only at h
    have z1 : Sz N (if s.top.kind = 3 then aimM s (s.top.start - 1) else s) := by
      split
      · exact aim_sz z _
      · exact z
    have e1 : (if s.top.kind = 3 then aimM s (s.top.start - 1) else s).stack = s.stack ∧ (if s.top.kind = 3 then aimM s (s.top.start - 1) else s).blocks = s.blocks ∧ (if s.top.kind = 3 then aimM s (s.top.start - 1) else s).i = s.i := by
      split
      · exact ⟨rfl, rfl, rfl⟩
      · exact ⟨rfl, rfl, rfl⟩
    generalize (if s.top.kind = 3 then aimM s (s.top.start - 1) else s) = sa at *
    have z2 := aimAll_sz s.top.waits z1
    obtain ⟨a1, a2, -, a4, -, -⟩ := aimAll_same s.top.waits sa
    rw [e1.1] at a1
    rw [e1.2.1] at a2
    rw [e1.2.2] at a4
    generalize aimAll s.top.waits sa = sb at *
    have z3 : Sz (N + 1) (if s.top.kind = 0 then emitM sb ⟨11, 0, 0, 0, 0⟩ else sb) := by
      split
      · exact emit_sz z2 _
      · exact z2.le (by omega)
    have e3 : (if s.top.kind = 0 then emitM sb ⟨11, 0, 0, 0, 0⟩ else sb).stack = s.stack ∧ (if s.top.kind = 0 then emitM sb ⟨11, 0, 0, 0, 0⟩ else sb).blocks = s.blocks ∧ (if s.top.kind = 0 then emitM sb ⟨11, 0, 0, 0, 0⟩ else sb).i = s.i := by
      split
      · exact ⟨a1, a2, a4⟩
      · exact ⟨a1, a2, a4⟩
    generalize (if s.top.kind = 0 then emitM sb ⟨11, 0, 0, 0, 0⟩ else sb) = sc at *
    have ht : sc.top = s.top := by show sc.blocks.getD (sc.blocks.length - 1) noBk = s.blocks.getD (s.blocks.length - 1) noBk; rw [e3.2.1]
    have hp := pop_sz z3 (by rw [e3.2.1]; exact hl) s.top.result hres false
    rw [ht] at hp
    cases h
    exact ⟨hp, by show s.i ≤ sc.i; omega⟩
end

end Go.Proofs.YtdeplgkhmebalaaGreatDoor

namespace Go.Proofs.YtdeplgkhmebalaaGreatDoor
open Go.RowKit

section
variable {N : Nat} {s s1 : Bd} {c : Ctx}

theorem label_keep {k : Nat} (hne : s.blocks ≠ []) (z : Sz N s) (h : labelM c s = .ok (k, s1)) : Sz N s1 ∧ s.i ≤ s1.i ∧ k < s1.blocks.length ∧ s1.blocks = s.blocks := by
  have hl : 0 < s.blocks.length := List.length_pos_iff.2 hne
  unfold labelM at h
  split at h
  · cases h
  · rename_i n j hb
    cases h
    have := below_lt hb
    exact ⟨z.read j s.pos s.closed, by show s.i ≤ j; omega, by show s.blocks.length - 1 - n < s.blocks.length; omega, rfl⟩
theorem branch_keep (hne : s.blocks ≠ []) (z : Sz N s) (op : UInt8) (h : branchM c op s = .ok s1) : Sz (N + 1) s1 ∧ s.i ≤ s1.i := by
  unfold branchM at h
  split at h
  · cases h
  · rename_i k s2 hl
    obtain ⟨z2, hi2, hk2, hb2⟩ := label_keep hne z hl
    split at h
    · cases h
    · rename_i s3 h3
      have hz3 : Sz N s3 ∧ s3.i = s2.i ∧ s3.blocks = s2.blocks := by
        split at h3
        · exact ⟨take_sz z2 h3, (sunk_i (take_sunk h3)).1, (sunk_i (take_sunk h3)).2.1⟩
        · cases h3; exact ⟨z2, rfl, rfl⟩
      split at h
      · cases h
      · rename_i s4 h4
        obtain ⟨z4, k4⟩ := carries_sz hz3.1 h4
        have hk4 : k < s4.blocks.length := by rw [(sunk_i k4).2.1, hz3.2.2]; exact hk2
        cases h
        refine ⟨(jump_sz z4 op hk4).read (jumpM s4 op k).i (jumpM s4 op k).pos _, ?_⟩
        show s.i ≤ (jumpM s4 op k).i
        rw [jump_i, (sunk_i k4).1, hz3.2.1]; exact hi2
theorem leave_keep (hne : s.blocks ≠ []) (z : Sz N s) (h : leaveM s = .ok s1) : Sz (N + 1) s1 ∧ s.i ≤ s1.i := by
  unfold leaveM at h
  split at h
  · cases h
  · rename_i s4 h4
    obtain ⟨z4, k4⟩ := carries_sz z h4
    have hk4 : 0 < s4.blocks.length := by rw [(sunk_i k4).2.1]; exact List.length_pos_iff.2 hne
    cases h
    refine ⟨(jump_sz z4 12 hk4).read (jumpM s4 12 0).i (jumpM s4 12 0).pos _, ?_⟩
    show s.i ≤ (jumpM s4 12 0).i
    rw [jump_i, (sunk_i k4).1]; exact Nat.le_refl _
theorem labels_keep (n : Nat) : ∀ {s s1 : Bd} {l : List Nat}, s.blocks ≠ [] → Sz N s → labelsM c n s = .ok (l, s1) → Sz N s1 ∧ s.i ≤ s1.i ∧ s1.blocks = s.blocks ∧ l.length = n ∧ ∀ k ∈ l, k < s.blocks.length := by
  induction n with
  | zero => intro s s1 l hne z h; cases h; exact ⟨z, Nat.le_refl _, rfl, rfl, fun k hk => by cases hk⟩
  | succ n ih =>
    intro s s1 l hne z h
    rw [labelsM] at h
    split at h
    · cases h
    · rename_i k s2 h2
      obtain ⟨z2, hi2, hk2, hb2⟩ := label_keep hne z h2
      split at h
      · cases h
      · rename_i l' s3 h3
        obtain ⟨z3, hi3, hb3, hl3, hm3⟩ := ih (by rw [hb2]; exact hne) z2 h3
        cases h
        refine ⟨z3, Nat.le_trans hi2 hi3, hb3.trans hb2, by simp [hl3], fun q hq => ?_⟩
        rcases List.mem_cons.1 hq with e | e
        · rw [e, ← hb2]; exact hk2
        · rw [← hb2]; exact hm3 q e
theorem jumpAll_keep (l : List Nat) : ∀ {N : Nat} {s : Bd}, Sz N s → (∀ k ∈ l, k < s.blocks.length) → Sz (N + l.length) (jumpAll l s) ∧ (jumpAll l s).i = s.i := by
  induction l with
  | nil => intro N s z _; exact ⟨z, rfl⟩
  | cons a l ih =>
    intro N s z h
    have ha := h a (List.mem_cons_self ..)
    obtain ⟨h1, h2⟩ := ih (jump_sz z 12 ha) (fun k hk => by rw [(jump_same 12 ha).2.1]; exact h k (List.mem_cons_of_mem _ hk))
    refine ⟨h1.le (by simp; omega), ?_⟩
    show (jumpAll l (jumpM s 12 a)).i = s.i
    rw [h2, jump_i]
theorem table_keep (hne : s.blocks ≠ []) (z : Sz N s) (h : tableM c s = .ok s1) : Sz (N + 18) s1 ∧ s.i ≤ s1.i := by
  unfold tableM at h
  split at h
  · cases h
  · rename_i n j hb
    have hlt := below_lt hb
    split at h
    · cases h
    · rename_i l s2 h2
      obtain ⟨z2, hi2, hb2, hl2, hm2⟩ := labels_keep (n + 1) (s := { s with i := j }) hne (z.read j s.pos s.closed) h2
      split at h
      · cases h
      · rename_i s3 h3
        have z3 := take_sz z2 h3
        have k3 := sunk_i (take_sunk h3)
        split at h
        · cases h
        · rename_i s4 h4
          obtain ⟨z4, k4⟩ := carries_sz z3 h4
          have k4' := sunk_i k4
          split at h
          · cases h
            obtain ⟨a, b⟩ := jumpAll_keep l (emit_sz z4 ⟨14, n, 0, 0, 0⟩) (fun k hk => by show k < s4.blocks.length; rw [k4'.2.1, k3.2.1, hb2]; exact hm2 k hk)
            refine ⟨((a.le (by omega)).read _ _ _ : Sz (N + 18) _), ?_⟩
            show s.i ≤ (jumpAll l (emitM s4 ⟨14, n, 0, 0, 0⟩)).i
            rw [b]
            show s.i ≤ s4.i
            rw [k4'.1, k3.1]
            have : j ≤ s2.i := hi2
            omega
          · cases h
theorem call_keep (z : Sz N s) (hres : ∀ k, k < c.funcs.length → (c.funcs.getD k ([], [])).1.length ≤ 8 ∧ (c.funcs.getD k ([], [])).2.length ≤ 1) (h : callM c s = .ok s1) : Sz (N + 2) s1 ∧ s.i ≤ s1.i := by
  unfold callM at h
  split at h
  · cases h
  · rename_i n j hb
    have hlt := below_lt hb
    have hr := hres n (by omega)
    split at h
    · cases h
    · rename_i s2 h2
      have z2 := takeAll_sz (z.read j s.pos s.closed) h2
      have k2 := sunk_i (takeN_sunk _ h2)
      cases h
      refine ⟨(put_sz (emit_sz z2 _) _).le (by omega), ?_⟩
      show s.i ≤ s2.i
      rw [k2.1]; show s.i ≤ j; omega
theorem drop_keep (z : Sz N s) (h : dropM s = .ok s1) : Sz (N + 1) s1 ∧ s.i ≤ s1.i := by
  unfold dropM at h
  split at h
  · cases h
  · rename_i u s2 h2
    cases h
    exact ⟨emit_sz (takeAny_sz z h2) _, by show s.i ≤ s2.i; rw [(sunk_i (takeAny_sunk h2)).1]; exact Nat.le_refl _⟩
theorem choose_keep (z : Sz N s) (h : chooseM s = .ok s1) : Sz (N + 2) s1 ∧ s.i ≤ s1.i := by
  unfold chooseM at h
  split at h
  · cases h
  · rename_i s2 h2
    split at h
    · cases h
    · rename_i u s3 h3
      split at h
      · cases h
      · rename_i s4 h4
        cases h
        refine ⟨put_sz (emit_sz (take_sz (takeAny_sz (take_sz z h2) h3) h4) _) [u], ?_⟩
        show s.i ≤ s4.i
        rw [(sunk_i (take_sunk h4)).1, (sunk_i (takeAny_sunk h3)).1, (sunk_i (take_sunk h2)).1]; exact Nat.le_refl _
theorem local_keep (z : Sz N s) (op : UInt8) (h : localM c op s = .ok s1) : Sz (N + 2) s1 ∧ s.i ≤ s1.i := by
  unfold localM at h
  split at h
  · cases h
  · rename_i n j hb
    have hlt := below_lt hb
    split at h
    · cases h
    · rename_i s2 h2
      have hz : Sz N s2 ∧ s2.i = j := by
        split at h2
        · cases h2; exact ⟨z.read j s.pos s.closed, rfl⟩
        · exact ⟨take_sz (z.read j s.pos s.closed) h2, (sunk_i (take_sunk h2)).1⟩
      cases h
      split
      · exact ⟨(emit_sz hz.1 _).le (by omega), by show s.i ≤ s2.i; omega⟩
      · exact ⟨put_sz (emit_sz hz.1 _) [_], by show s.i ≤ s2.i; omega⟩
theorem global_keep (z : Sz N s) (op : UInt8) (h : globalM c op s = .ok s1) : Sz (N + 2) s1 ∧ s.i ≤ s1.i := by
  unfold globalM at h
  split at h
  · cases h
  · rename_i n j hb
    have hlt := below_lt hb
    split at h
    · split at h
      · split at h
        · cases h
        · rename_i s2 h2
          cases h
          exact ⟨(emit_sz (take_sz (z.read j s.pos s.closed) h2) _).le (by omega), by show s.i ≤ s2.i; rw [(sunk_i (take_sunk h2)).1]; show s.i ≤ j; omega⟩
      · cases h
    · cases h
      exact ⟨put_sz (emit_sz (z.read j s.pos s.closed) _) [_], by show s.i ≤ j; omega⟩
theorem behind_le {D : List UInt8} {b i n j : Nat} (h : behindM D b i = .ok (n, j)) : i ≤ j := by
  unfold behindM at h
  split at h
  · have := UM_le h; omega
  · split at h
    · split at h
      · cases h
      · rename_i h1; cases h; have := S32_range h1; omega
    · split at h
      · split at h
        · cases h
        · rename_i h1; cases h; have := S64_range h1; omega
      · cases h; exact Nat.le_refl _
theorem plain_keep (z : Sz N s) (op : UInt8) (r : RowT) (hg : r.gives.length ≤ 1) (h : plainB c op r s = .ok s1) : Sz (N + 2) s1 ∧ s.i ≤ s1.i := by
  unfold plainB at h
  split at h
  · cases h
  · rename_i n j hb
    have hle := behind_le hb
    split at h
    · cases h
    · rename_i s2 h2
      cases h
      refine ⟨(put_sz (emit_sz (takeAll_sz (z.read j s.pos s.closed) h2) _) _).le (by omega), ?_⟩
      show s.i ≤ s2.i
      rw [(sunk_i (takeN_sunk _ h2)).1]; exact hle
theorem special_keep (hne : s.blocks ≠ []) (z : Sz N s) (hres : ∀ k, k < c.funcs.length → (c.funcs.getD k ([], [])).1.length ≤ 8 ∧ (c.funcs.getD k ([], [])).2.length ≤ 1) (op : UInt8) (h : specialM c op s = .ok s1) : Sz (N + 18) s1 ∧ s.i ≤ s1.i := by
  have up : ∀ {M : Nat}, M ≤ N + 18 → Sz M s1 ∧ s.i ≤ s1.i → Sz (N + 18) s1 ∧ s.i ≤ s1.i := fun hM hh => ⟨hh.1.le hM, hh.2⟩
  unfold specialM at h
  split at h
  · exact up (by omega) (stop_keep z h)
  split at h
  · exact up (by omega) (open_keep z op h)
  split at h
  · exact up (by omega) (turn_keep hne z h)
  split at h
  · exact up (by omega) (end_keep hne z h)
  split at h
  · exact up (by omega) (branch_keep hne z op h)
  split at h
  · exact table_keep hne z h
  split at h
  · exact up (by omega) (leave_keep hne z h)
  split at h
  · exact up (by omega) (call_keep z hres h)
  split at h
  · exact up (by omega) (drop_keep z h)
  split at h
  · exact up (by omega) (choose_keep z h)
  split at h
  · exact up (by omega) (global_keep z op h)
  · exact up (by omega) (local_keep z op h)
theorem step_keep (hne : s.blocks ≠ []) (z : Sz N s) (hres : ∀ k, k < c.funcs.length → (c.funcs.getD k ([], [])).1.length ≤ 8 ∧ (c.funcs.getD k ([], [])).2.length ≤ 1) (h : stepM c s = .ok s1) : Sz (N + 18) s1 ∧ s.i < s1.i := by
  unfold stepM at h
  split at h
  · cases h
  · rename_i op j hb
    have hj : j = s.i + 1 := by
      unfold byteM at hb
      split at hb
      · cases hb; rfl
      · cases hb
    have hfit := rowFit_at op
    split at h
    · cases h
    · rename_i r hr
      rw [hr] at hfit
      split at h
      · cases h
      · split at h
        · obtain ⟨a, b⟩ := special_keep (s := { s with pos := s.i, i := j }) hne (z.read j s.i s.closed) hres op h
          exact ⟨a, by have : j ≤ s1.i := b; omega⟩
        · rename_i h4
          have hg : r.gives.length ≤ 1 := by
            simp only [rowFit, if_neg h4, Bool.and_eq_true, decide_eq_true_eq] at hfit
            exact hfit.2
          obtain ⟨a, b⟩ := plain_keep (s := { s with pos := s.i, i := j }) (z.read j s.i s.closed) op r hg h
          exact ⟨a.le (by omega), by have : j ≤ s1.i := b; omega⟩
end

end Go.Proofs.YtdeplgkhmebalaaGreatDoor

namespace Go.Proofs.YtdeplgkhmebalaaGreatDoor
open Go.RowKit

section
variable {E : Env} {g N : Nat} {w : World} {s : Bd}

set_option maxRecDepth 100000 in
set_option maxHeartbeats 4000000 in
theorem look_any (h : BSt E g w s) (hR : RowsAt w E.ro) (z : Sz N s) (hN : N + 18 * (E.c.D.length - s.i) ≤ 400000) (F : Nat) (hF : E.c.D.length - s.i < F) : Calls Tryz.prog 145 #[ptrTo E.bb] w fun r w' => Done E w w' (lookM E.c F s) r ∧ Kp (nro E.ro) w w' := by
  have hres := h.env.res
  generalize hRR : lookM E.c F s = R at *
  have HRR := hide hRR
  have H := hide h
  have HR := hide hR
  have HRes := hide hres
  clear h hR hRR hres
  go_enter Tryz.func145, Tryz.ntmps145
  go_wp2
  go_loopg [] F (fun k wr => ∃ g' sk M, BSt E g' wr sk ∧ Sz M sk ∧ M + 18 * (E.c.D.length - sk.i) ≤ 400000 ∧ E.c.D.length - sk.i < k ∧ Kp (nro E.ro) w wr ∧ lookM E.c k sk = R)
  case atStart => exact ⟨g, s, N, H.out, z, hN, hF, Kp.refl _ _, HRR.out⟩
  case round =>
    obtain ⟨g', sk, M, hst, hz, hM, hfu, hkp, hlk⟩ := hrel
    obtain ⟨f, rfl⟩ : ∃ f, gk = f + 1 := ⟨gk - 1, by omega⟩
    rw [lookM] at hlk
    have HRw := hide (HR.out.kp hkp)
    obtain ⟨sv, kc, hbo, -⟩ := hst.bodyAt
    obtain ⟨hc, hf⟩ := cells_of hbo
    have hle := hst.rd.le
    have hlen := hst.rd.len
    have HS := hide hst
    have HK := hide hkp
    have HZ := hide hz
    clear hst hkp hz hbo
    by_cases hb : sk.blocks = []
    · rw [if_pos hb] at hlk
      have hbl : ¬ ((0 : Int) < (sk.blocks.length : Int)) := by rw [hb]; simp
      have HL := hide hlk
      have hleft := left_any HS.out.rd
      have HLe := hide hleft
      have hat := fun W (k : Kp no wr W) => at_any (HS.out.quiet k).rd
      have HAt := hide hat
      have HBo := hide (show ∃ sv kc, wr.heap[E.bb]? = some (bodyObj E g' sk sv kc) from by obtain ⟨sv, kc, h, -⟩ := HS.out.bodyAt; exact ⟨sv, kc, h⟩)
      clear hlk hleft hat hb
      by_cases hi : sk.i < E.c.D.length
      · have hL := HL.out
        rw [if_pos hi] at hL
        have HL1 := hide hL
        clear hL HL
        go_wp2_with fail
        refine HLe.out.mono ?_
        rintro r w1 ⟨rfl, k1⟩
        obtain ⟨sv1, kc1, hbo1⟩ := HBo.out
        obtain ⟨hc1, hf1⟩ := cells_of (k1.blk hbo1 (fun h => h))
        have HAt1 := hide (HAt.out w1 k1)
        clear hbo1
        go_wp2_with fail
        refine HAt1.out.mono ?_
        rintro r w2 ⟨rfl, rfl⟩
        go_wp2_with fail
        refine (form_any _ _).mono ?_
        rintro r w3 ⟨rfl, rfl⟩
        go_wp2
        go_ret
        rw [← HL1.out]
        exact ⟨⟨ptrTo w2.heap.size, rfl, w2.heap.size, rfl, by have := HK.out.size; have := k1.size; omega, heap_alloc_new _ _⟩, (HK.out.trans k1.any).alloc _⟩
      · have hL := HL.out
        rw [if_neg hi] at hL
        have HL1 := hide hL
        clear hL HL
        go_wp2_with fail
        refine HLe.out.mono ?_
        rintro r w1 ⟨rfl, k1⟩
        go_wp2
        go_ret
        rw [← HL1.out]
        exact ⟨⟨rfl, g', HS.out.quiet k1⟩, HK.out.trans k1.any⟩
    · rw [if_neg hb] at hlk
      have hbl : (0 : Int) < (sk.blocks.length : Int) := by have := List.length_pos_iff.2 hb; omega
      have hst := step_any HS.out HRw.out HZ.out (by omega) hb
      have hkeep := fun s1 => step_keep (s1 := s1) hb HZ.out HRes.out
      generalize stepM E.c sk = Q at *
      have HSt := hide hst
      have HL := hide hlk
      clear hst hlk hb
      cases Q with
      | error e =>
        go_wp2_with fail
        refine HSt.out.mono ?_
        rintro r w1 ⟨⟨fv, rfl, fb, rfl, hfb, hfo⟩, k1⟩
        have HF := hide hfo
        clear hfo
        go_wp2
        go_ret
        rw [← HL.out]
        exact ⟨⟨ptrTo fb, rfl, fb, rfl, by have := HK.out.size; omega, HF.out⟩, HK.out.trans k1⟩
      | ok s1 =>
        obtain ⟨z1, hi1⟩ := hkeep s1 rfl
        have HZ1 := hide z1
        clear hkeep z1
        go_wp2_with fail
        refine HSt.out.mono ?_
        rintro r w1 ⟨⟨rfl, g1, h1⟩, k1⟩
        have hle1 := h1.rd.le
        have H1 := hide h1
        clear h1
        go_wp2
        go_roundg f
        case measure => omega
        case rel => exact ⟨g1, s1, M + 18, H1.out, HZ1.out, by omega, by omega, HK.out.trans k1, HL.out⟩
end

end Go.Proofs.YtdeplgkhmebalaaGreatDoor

namespace Go.Proofs.YtdeplgkhmebalaaGreatDoor
open Go.RowKit

def preR {α : Type} (l : List α) (m : Rd (List α)) : Rd (List α) :=
  match m with
  | .error e => .error e
  | .ok (l', j) => .ok (l ++ l', j)
theorem preR_nil {α : Type} (m : Rd (List α)) : preR [] m = m := by
  cases m with
  | error e => rfl
  | ok x => rfl
theorem preR_step {α : Type} (one : Nat → Rd α) (l : List α) (r i : Nat) : preR l (manyM one (r + 1) i) = (match one i with
    | .error e => .error e
    | .ok (x, j) => preR (l ++ [x]) (manyM one r j)) := by
  rw [manyM]
  cases one i with
  | error e => rfl
  | ok x =>
    obtain ⟨x, j⟩ := x
    simp only
    cases manyM one r j with
    | error e => rfl
    | ok y => obtain ⟨l', k⟩ := y; simp [preR]

/-- What reading a list of types gives. -/
def GotList (w w' : World) (rb : Nat) (dv : Value) (D : List UInt8) (m : Rd (List UInt8)) (r : Ending) : Prop :=
  match m with
  | .ok (l, j) => ∃ v, r = .returned (.tuple #[v, .pointer none]) ∧ BytesAt w' v l ∧ (∀ b, v.ownBlock = some b → w.heap.size ≤ b ∧ b < w'.heap.size) ∧ RSt w' rb dv D j
  | .error e => ∃ fv, r = .returned (.tuple #[.slice none 0 0, fv]) ∧ FaultAt w w' fv e

set_option maxRecDepth 100000 in
set_option maxHeartbeats 4000000 in
theorem readList_any {w : World} {rb : Nat} {dv : Value} {D : List UInt8} {i : Nat} (h : RSt w rb dv D i) (hdv : ∀ b, dv.ownBlock = some b → b < w.heap.size) (most : Nat) (hm : most ≤ 40) :
    Calls Tryz.prog 106 #[ptrTo rb, .int .i64 most] w fun r w' => GotList w w' rb dv D (listM D most i) r ∧ Kp (one rb) w w' := by
  have hM : listM D most i = (match belowM D (most + 1) i with
    | .error e => .error e
    | .ok (n, j) => manyM (oneOfM D [127, 126]) n j) := rfl
  generalize listM D most i = R at *
  have hbe := below_any h ((most : Int) + 1) (by omega) (by omega)
  have hlt := fun n j => below_lt (D := D) (lim := (most : Int) + 1) (i := i) (n := n) (j := j)
  generalize belowM D ((most : Int) + 1) i = Q at *
  obtain ⟨i0, hi0, hz0, hz1, hz2⟩ := info_parts info_u8
  have hlr : rb < w.heap.size := lt_of_blk h.blk
  have HBe := hide hbe
  have HDv := hide hdv
  have HMq := hide hM
  clear h hbe hdv hM
  match Q, HMq, HBe, hlt with
  | .error e, HMq, HBe, _ =>
    go_enter Tryz.func106, Tryz.ntmps106
    go_wp2_with fail
    refine HBe.out.mono ?_
    rintro r w1 ⟨⟨fv, j, rfl, ⟨fb, rfl, hfb, hfo⟩, h1⟩, k1⟩
    have HF := hide hfo
    clear hfo h1
    go_wp2
    go_ret2
    rw [HMq.out]
    exact ⟨⟨ptrTo fb, rfl, fb, rfl, hfb, HF.out⟩, k1⟩
  | .ok (n, j), HMq, HBe, hlt =>
    have hn := (hlt n j rfl).1
    clear hlt
    go_enter Tryz.func106, Tryz.ntmps106
    go_wp2_with fail
    refine HBe.out.mono ?_
    rintro r w1 ⟨⟨v, rfl, rfl, h1⟩, k1⟩
    have H1 := hide h1
    have HK1 := hide k1
    have hsz1 := k1.size
    clear h1 k1
    go_wp2
    go_loopw [8, 23] (fun gv kv wr => ∃ (k jj : Nat) (l : List UInt8), k ≤ n ∧ kv = .int .i64 k ∧ l.length = k ∧ wr.ownsRow w.heap.size 5 1 gv k (l.map fun c => .int .u8 c.toNat) ∧ Kp (one rb) w wr ∧ RSt wr rb dv D jj ∧ manyM (oneOfM D [127, 126]) n j = preR l (manyM (oneOfM D [127, 126]) (n - k) jj)) (fun _ kv _ => n - (intOf kv).toNat)
    case atStart =>
      exact ⟨0, j, [], by omega, rfl, rfl, ⟨rfl, .inr ⟨w1.heap.size, 0, #[], rfl, by omega, heap_alloc_new _ _, Nat.le_refl _, by simp [maxLen], rfl, rfl⟩⟩, HK1.out.alloc _, H1.out.kp ((Kp.refl no w1).alloc _) (fun h => h) (fun _ _ _ h => h), by rw [preR_nil]; rfl⟩
    case round =>
      obtain ⟨k, jj, l, hk, rfl, hlk, hown, hkp, hrd, hlab⟩ := hrel
      obtain ⟨adg, capg, rfl⟩ := own_shape hown
      have HO := hide hown
      have HK := hide hkp
      have HR := hide hrd
      have HLa := hide hlab
      have HLk := hide hlk
      have hszr := hkp.size
      clear hown hkp hrd hlab hlk
      by_cases hkn : k < n
      · have hone := oneOf_any HR.out ⟨#[127, 126]⟩ [127, 126] rfl
        have hL := HLa.out
        rw [show n - k = (n - k - 1) + 1 by omega, preR_step] at hL
        generalize oneOfM D [127, 126] jj = Q2 at *
        have HOn := hide hone
        have HL := hide hL
        clear hone hL
        match Q2, HL, HOn with
        | .error e, HL, HOn =>
          go_wp2_with fail
          refine HOn.out.mono ?_
          rintro r w2 ⟨⟨fv, j2, rfl, ⟨fb, rfl, hfb, hfo⟩, h2⟩, k2⟩
          have HF := hide hfo
          clear hfo h2
          go_wp2
          go_ret2
          rw [HMq.out]
          show GotList _ _ _ _ _ (manyM (oneOfM D [127, 126]) n j) _ ∧ _
          rw [HL.out]
          exact ⟨⟨ptrTo fb, rfl, fb, rfl, by omega, HF.out⟩, HK.out.trans k2⟩
        | .ok (t, j2), HL, HOn =>
          go_wp2_with fail
          refine HOn.out.mono ?_
          rintro r w2 ⟨⟨v, rfl, rfl, h2⟩, k2⟩
          have HR2 := hide h2
          have ho2 := k2.own HO.out (fun b hb (e : b = rb) => by have := own_new HO.out b hb; omega)
          have HO2 := hide ho2
          have HK2 := hide (HK.out.trans k2)
          have hsz2 := k2.size
          clear h2 k2 ho2
          go_wp2_with (at_builtin; refine wpList_append_at _ rfl _ _ 25 rfl w.heap.size 5 i0 (.int .u8 0) 1 1 Tryz.underlying25 hi0 hz0 hz1 hz2 rfl (by decide) _ _ _ rfl (HO2.out.alloc _) _ 1 [.int .u8 t.toNat] rfl (RowAt.new _ _ _) (one_oneCell rfl) ?c3 ?c4 ?c5 ?_)
          case c3 => unfold maxLen; omega
          case c4 => omega
          case c5 => simp; omega
          intro v3 w3 hown3 hgrow3 hat3
          obtain ⟨ad3, cap3, rfl⟩ := own_shape hown3
          have HO3 := hide hown3
          have HK3 := hide ((HK2.out.alloc _).grown hgrow3 (fun b hb => .inr (own_new HO2.out b hb)))
          have HR3 := hide (HR2.out.kp (((Kp.refl (fun b => w.heap.size ≤ b) w2).alloc _).grown hgrow3 (fun b hb => .inl (own_new HO2.out b hb))) (fun (e : w.heap.size ≤ rb) => by omega) (fun b hb hlt2 (e : w.heap.size ≤ b) => by have := HDv.out b hb; omega))
          clear hown3 hgrow3 hat3
          go_wp2
          go_roundw
          case rel => exact ⟨k + 1, j2, l ++ [t], by omega, by go_num, by simp [HLk.out], by simpa using HO3.out, HK3.out, HR3.out, by rw [HL.out, show n - (k + 1) = n - k - 1 by omega]⟩
          case measure => simp [intOf]; omega
      · obtain rfl : k = n := by omega
        go_wp2
        go_ret2
        rw [HMq.out]
        show GotList _ _ _ _ _ (manyM (oneOfM D [127, 126]) k j) _ ∧ _
        rw [HLa.out, Nat.sub_self, manyM, preR, List.append_nil]
        have hb := RowAt.own HO.out
        rw [← HLk.out] at hb
        exact ⟨⟨_, rfl, by rw [← HLk.out]; exact hb, fun b hb => ⟨own_new HO.out b hb, own_lt HO.out hb⟩, HR.out⟩, HK.out⟩

end Go.Proofs.YtdeplgkhmebalaaGreatDoor

namespace Go.Proofs.YtdeplgkhmebalaaGreatDoor
open Go.RowKit

abbrev TyV := Ty × Value × Value
abbrev FnV := FnM × Value × Value
def tyCells (x : TyV) : List Value := [x.2.1, x.2.2]
theorem tyLen (x : TyV) : (tyCells x).length = 2 := rfl
def glCells (x : UInt8 × Bool) : List Value := [.int .u8 x.1.toNat, .bool x.2]
theorem glLen (x : UInt8 × Bool) : (glCells x).length = 2 := rfl
def fnCells (x : FnV) : List Value := [x.2.1, x.2.2, .int .i64 x.1.locals, .int .i64 x.1.entry]
theorem fnLen (x : FnV) : (fnCells x).length = 4 := rfl

/-- The look at a module. -/
structure Lkr where
  i : Nat
  types : List Ty
  fns : List FnM
  gl : List (UInt8 × Bool)
  vals : List Nat
  pages : Nat
  code : List Ins

structure LIds where
  B : Nat
  C : Nat
  lo : Nat → Prop
  hlo : ∀ b, lo b → b < C
  hBC : B ≤ C
  rb : Nat
  kb : Nat
  mb : Nat
  dv : Value
  D : List UInt8

structure LStG (I : LIds) (w : World) (s : Lkr) (role : Nat → Nat) (tv gv fv glv cv : Value) (tys : List TyV) (fs : List FnV) : Prop where
  base : I.C ≤ w.heap.size
  rd : RSt w I.rb I.dv I.D s.i
  look : w.heap[I.kb]? = some (.cells #[ptrTo I.rb, tv, gv, ptrTo I.mb] 182)
  mod : w.heap[I.mb]? = some (.cells #[fv, glv, .int .i64 s.pages, cv] 121)
  types : w.ownsRow I.B 138 2 tv s.types.length (tys.flatMap tyCells)
  globs : w.ownsRow I.B 256 2 gv s.gl.length (s.gl.flatMap glCells)
  funcs : w.ownsRow I.B 140 4 fv s.fns.length (fs.flatMap fnCells)
  vals : w.ownsRow I.B 38 1 glv s.vals.length (s.vals.map fun n => .int .u64 (n : Nat))
  code : w.ownsRow I.B 214 5 cv s.code.length (s.code.flatMap Ins.cells)
  eqT : s.types = tys.map (·.1)
  eqF : s.fns = fs.map (·.1)
  tyB : ∀ x ∈ tys, BytesAt w x.2.1 x.1.1 ∧ BytesAt w x.2.2 x.1.2
  fnB : ∀ x ∈ fs, BytesAt w x.2.1 x.1.typ.1 ∧ BytesAt w x.2.2 x.1.typ.2
  r1 : role I.rb = 1
  r2 : role I.mb = 2
  r3 : role I.kb = 3
  r4 : ∀ b, tv.ownBlock = some b → role b = 4
  r5 : ∀ b, gv.ownBlock = some b → role b = 5
  r6 : ∀ b, fv.ownBlock = some b → role b = 6
  r7 : ∀ b, glv.ownBlock = some b → role b = 7
  r8 : ∀ b, cv.ownBlock = some b → role b = 8
  tyR : ∀ x ∈ tys, RoV (fun b => role b = 0 ∧ b < w.heap.size) x.2.1 ∧ RoV (fun b => role b = 0 ∧ b < w.heap.size) x.2.2
  fnR : ∀ x ∈ fs, RoV (fun b => role b = 0 ∧ b < w.heap.size) x.2.1 ∧ RoV (fun b => role b = 0 ∧ b < w.heap.size) x.2.2
  low : ∀ b, I.lo b → role b = 0
  dvB : ∀ b, I.dv.ownBlock = some b → I.lo b
  tyN : ∀ x ∈ tys, (∀ b, x.2.1.ownBlock = some b → I.B ≤ b) ∧ (∀ b, x.2.2.ownBlock = some b → I.B ≤ b)
  fnN : ∀ x ∈ fs, (∀ b, x.2.1.ownBlock = some b → I.B ≤ b) ∧ (∀ b, x.2.2.ownBlock = some b → I.B ≤ b)

def LSt (I : LIds) (w : World) (s : Lkr) : Prop := ∃ role tv gv fv glv cv tys fs, LStG I w s role tv gv fv glv cv tys fs

section
variable {I : LIds} {w w' : World} {s : Lkr} {role : Nat → Nat} {tv gv fv glv cv : Value} {tys : List TyV} {fs : List FnV} {X : Nat → Prop}
theorem LStG.kRd (h : LStG I w s role tv gv fv glv cv tys fs) (k : Kp (fun b => X (role b)) w w') (h0 : ¬ X 0) (h1 : ¬ X 1) : RSt w' I.rb I.dv I.D s.i :=
  h.rd.kp k (fun hx => h1 (by rw [← h.r1]; exact hx)) (fun b hb _ hx => h0 (by rw [← h.low b (h.dvB b hb)]; exact hx))
theorem LStG.kLook (h : LStG I w s role tv gv fv glv cv tys fs) (k : Kp (fun b => X (role b)) w w') (h1 : ¬ X 3) : w'.heap[I.kb]? = some (.cells #[ptrTo I.rb, tv, gv, ptrTo I.mb] 182) := k.blk h.look (fun hx => h1 (by rw [← h.r3]; exact hx))
theorem LStG.kMod (h : LStG I w s role tv gv fv glv cv tys fs) (k : Kp (fun b => X (role b)) w w') (h1 : ¬ X 2) : w'.heap[I.mb]? = some (.cells #[fv, glv, .int .i64 s.pages, cv] 121) := k.blk h.mod (fun hx => h1 (by rw [← h.r2]; exact hx))
theorem LStG.kTypes (h : LStG I w s role tv gv fv glv cv tys fs) (k : Kp (fun b => X (role b)) w w') (h1 : ¬ X 4) : w'.ownsRow I.B 138 2 tv s.types.length (tys.flatMap tyCells) := k.own h.types (fun b hb hx => h1 (by rw [← h.r4 b hb]; exact hx))
theorem LStG.kGlobs (h : LStG I w s role tv gv fv glv cv tys fs) (k : Kp (fun b => X (role b)) w w') (h1 : ¬ X 5) : w'.ownsRow I.B 256 2 gv s.gl.length (s.gl.flatMap glCells) := k.own h.globs (fun b hb hx => h1 (by rw [← h.r5 b hb]; exact hx))
theorem LStG.kFuncs (h : LStG I w s role tv gv fv glv cv tys fs) (k : Kp (fun b => X (role b)) w w') (h1 : ¬ X 6) : w'.ownsRow I.B 140 4 fv s.fns.length (fs.flatMap fnCells) := k.own h.funcs (fun b hb hx => h1 (by rw [← h.r6 b hb]; exact hx))
theorem LStG.kVals (h : LStG I w s role tv gv fv glv cv tys fs) (k : Kp (fun b => X (role b)) w w') (h1 : ¬ X 7) : w'.ownsRow I.B 38 1 glv s.vals.length (s.vals.map fun n => .int .u64 (n : Nat)) := k.own h.vals (fun b hb hx => h1 (by rw [← h.r7 b hb]; exact hx))
theorem LStG.kCode (h : LStG I w s role tv gv fv glv cv tys fs) (k : Kp (fun b => X (role b)) w w') (h1 : ¬ X 8) : w'.ownsRow I.B 214 5 cv s.code.length (s.code.flatMap Ins.cells) := k.own h.code (fun b hb hx => h1 (by rw [← h.r8 b hb]; exact hx))
theorem LStG.kTyB (h : LStG I w s role tv gv fv glv cv tys fs) (k : Kp (fun b => X (role b)) w w') (h0 : ¬ X 0) : ∀ x ∈ tys, BytesAt w' x.2.1 x.1.1 ∧ BytesAt w' x.2.2 x.1.2 := fun x hx => ⟨RowAt.kpR (h.tyB x hx).1 k h0 (h.tyR x hx).1, RowAt.kpR (h.tyB x hx).2 k h0 (h.tyR x hx).2⟩
theorem LStG.kFnB (h : LStG I w s role tv gv fv glv cv tys fs) (k : Kp (fun b => X (role b)) w w') (h0 : ¬ X 0) : ∀ x ∈ fs, BytesAt w' x.2.1 x.1.typ.1 ∧ BytesAt w' x.2.2 x.1.typ.2 := fun x hx => ⟨RowAt.kpR (h.fnB x hx).1 k h0 (h.fnR x hx).1, RowAt.kpR (h.fnB x hx).2 k h0 (h.fnR x hx).2⟩
theorem RoV.up {ρ : Nat → Nat} {a b : Nat} (hab : a ≤ b) {v : Value} (h : RoV (fun c => ρ c = 0 ∧ c < a) v) : RoV (fun c => ρ c = 0 ∧ c < b) v := fun c hc => ⟨(h c hc).1, Nat.lt_of_lt_of_le (h c hc).2 hab⟩
theorem LStG.kTyR (h : LStG I w s role tv gv fv glv cv tys fs) (k : Kp (fun b => X (role b)) w w') : ∀ x ∈ tys, RoV (fun b => role b = 0 ∧ b < w'.heap.size) x.2.1 ∧ RoV (fun b => role b = 0 ∧ b < w'.heap.size) x.2.2 := fun x hx => ⟨(h.tyR x hx).1.up k.size, (h.tyR x hx).2.up k.size⟩
theorem LStG.kFnR (h : LStG I w s role tv gv fv glv cv tys fs) (k : Kp (fun b => X (role b)) w w') : ∀ x ∈ fs, RoV (fun b => role b = 0 ∧ b < w'.heap.size) x.2.1 ∧ RoV (fun b => role b = 0 ∧ b < w'.heap.size) x.2.2 := fun x hx => ⟨(h.fnR x hx).1.up k.size, (h.fnR x hx).2.up k.size⟩
theorem LStG.low' (h : LStG I w s role tv gv fv glv cv tys fs) (k : Kp (fun b => X (role b)) w w') (h0 : ¬ X 0) : Kp (fun b => ¬ I.lo b) w w' := k.mono (fun b _ hx hlt => h0 (by rw [← h.low b hlt]; exact hx))
theorem LStG.rerole (h : LStG I w s role tv gv fv glv cv tys fs) {role' : Nat → Nat} (hr : ∀ k, k < w.heap.size → role' k = role k) : LStG I w s role' tv gv fv glv cv tys fs :=
  ⟨h.base, h.rd, h.look, h.mod, h.types, h.globs, h.funcs, h.vals, h.code, h.eqT, h.eqF, h.tyB, h.fnB, (hr _ (lt_of_blk h.rd.blk)).trans h.r1, (hr _ (lt_of_blk h.mod)).trans h.r2, (hr _ (lt_of_blk h.look)).trans h.r3,
    fun b hb => (hr b (own_lt h.types hb)).trans (h.r4 b hb), fun b hb => (hr b (own_lt h.globs hb)).trans (h.r5 b hb), fun b hb => (hr b (own_lt h.funcs hb)).trans (h.r6 b hb), fun b hb => (hr b (own_lt h.vals hb)).trans (h.r7 b hb), fun b hb => (hr b (own_lt h.code hb)).trans (h.r8 b hb),
    fun x hx => ⟨fun b hb => ⟨(hr b ((h.tyR x hx).1 b hb).2).trans ((h.tyR x hx).1 b hb).1, ((h.tyR x hx).1 b hb).2⟩, fun b hb => ⟨(hr b ((h.tyR x hx).2 b hb).2).trans ((h.tyR x hx).2 b hb).1, ((h.tyR x hx).2 b hb).2⟩⟩,
    fun x hx => ⟨fun b hb => ⟨(hr b ((h.fnR x hx).1 b hb).2).trans ((h.fnR x hx).1 b hb).1, ((h.fnR x hx).1 b hb).2⟩, fun b hb => ⟨(hr b ((h.fnR x hx).2 b hb).2).trans ((h.fnR x hx).2 b hb).1, ((h.fnR x hx).2 b hb).2⟩⟩,
    fun b hb => (hr b (Nat.lt_of_lt_of_le (I.hlo b hb) h.base)).trans (h.low b hb), h.dvB, h.tyN, h.fnN⟩

theorem LStG.setRd (h : LStG I w s role tv gv fv glv cv tys fs) (k : Kp (one I.rb) w w') {j : Nat} (hr : RSt w' I.rb I.dv I.D j) : LStG I w' { s with i := j } role tv gv fv glv cv tys fs := by
  have k' : Kp (fun b => (fun r => r = 1) (role b)) w w' := k.mono (fun b _ (hb : b = I.rb) => by rw [hb]; exact h.r1)
  exact ⟨Nat.le_trans h.base k.size, hr, (h.kLook (X := fun r => r = 1) k' (by decide) :), (h.kMod (X := fun r => r = 1) k' (by decide) :), (h.kTypes (X := fun r => r = 1) k' (by decide) :), (h.kGlobs (X := fun r => r = 1) k' (by decide) :), (h.kFuncs (X := fun r => r = 1) k' (by decide) :), (h.kVals (X := fun r => r = 1) k' (by decide) :), (h.kCode (X := fun r => r = 1) k' (by decide) :), h.eqT, h.eqF,
    h.kTyB (X := fun r => r = 1) k' (by decide), h.kFnB (X := fun r => r = 1) k' (by decide), h.r1, h.r2, h.r3, h.r4, h.r5, h.r6, h.r7, h.r8, h.kTyR (X := fun r => r = 1) k', h.kFnR (X := fun r => r = 1) k', h.low, h.dvB, h.tyN, h.fnN⟩
theorem LStG.quiet (h : LStG I w s role tv gv fv glv cv tys fs) (k : Kp no w w') : LStG I w' s role tv gv fv glv cv tys fs := by
  have k' : Kp (fun b => (fun _ => False) (role b)) w w' := k
  exact ⟨Nat.le_trans h.base k.size, (h.kRd (X := fun _ => False) k' (fun h => h) (fun h => h) :), (h.kLook (X := fun _ => False) k' (fun h => h) :), (h.kMod (X := fun _ => False) k' (fun h => h) :), (h.kTypes (X := fun _ => False) k' (fun h => h) :), (h.kGlobs (X := fun _ => False) k' (fun h => h) :), (h.kFuncs (X := fun _ => False) k' (fun h => h) :), (h.kVals (X := fun _ => False) k' (fun h => h) :), (h.kCode (X := fun _ => False) k' (fun h => h) :), h.eqT, h.eqF,
    h.kTyB (X := fun _ => False) k' (fun h => h), h.kFnB (X := fun _ => False) k' (fun h => h), h.r1, h.r2, h.r3, h.r4, h.r5, h.r6, h.r7, h.r8, h.kTyR (X := fun _ => False) k', h.kFnR (X := fun _ => False) k', h.low, h.dvB, h.tyN, h.fnN⟩
end

section
variable {I : LIds} {w w' : World} {s : Lkr}
theorem LSt.read (h : LSt I w s) {j : Nat} (k : Kp (one I.rb) w w') (hr : RSt w' I.rb I.dv I.D j) : LSt I w' { s with i := j } := by
  obtain ⟨role, tv, gv, fv, glv, cv, tys, fs, h⟩ := h
  exact ⟨role, tv, gv, fv, glv, cv, tys, fs, h.setRd k hr⟩
theorem LSt.quiet (h : LSt I w s) (k : Kp no w w') : LSt I w' s := by
  obtain ⟨role, tv, gv, fv, glv, cv, tys, fs, h⟩ := h
  exact ⟨role, tv, gv, fv, glv, cv, tys, fs, h.quiet k⟩
theorem LSt.rd (h : LSt I w s) : RSt w I.rb I.dv I.D s.i := by
  obtain ⟨role, tv, gv, fv, glv, cv, tys, fs, h⟩ := h
  exact h.rd
theorem LSt.lowRd (h : LSt I w s) (k : Kp (one I.rb) w w') : Kp (fun b => ¬ I.lo b) w w' := by
  obtain ⟨role, tv, gv, fv, glv, cv, tys, fs, h⟩ := h
  exact k.mono (fun b _ (e : b = I.rb) hlt => by have := h.low b hlt; rw [e, h.r1] at this; cases this)
theorem LSt.lookAt (h : LSt I w s) : ∃ tv gv, w.heap[I.kb]? = some (.cells #[ptrTo I.rb, tv, gv, ptrTo I.mb] 182) ∧ I.kb ≠ I.rb ∧ I.kb ≠ I.mb ∧ I.mb ≠ I.rb ∧ (∃ ad cap, tv = .slice ad s.types.length cap) ∧ (∃ ad cap, gv = .slice ad s.gl.length cap) := by
  obtain ⟨role, tv, gv, fv, glv, cv, tys, fs, h⟩ := h
  refine ⟨tv, gv, h.look, fun e => ?_, fun e => ?_, fun e => ?_, own_shape h.types, own_shape h.globs⟩
  · have := h.r3; rw [e, h.r1] at this; cases this
  · have := h.r3; rw [e, h.r2] at this; cases this
  · have := h.r2; rw [e, h.r1] at this; cases this
end

end Go.Proofs.YtdeplgkhmebalaaGreatDoor
