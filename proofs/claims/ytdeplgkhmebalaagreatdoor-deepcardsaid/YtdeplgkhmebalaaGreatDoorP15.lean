/- Load, and what is told of a module. -/
import Derived.Test.YtdeplgkhmebalaaGreatDoorP14
import Derived.Test.YtdeplgkhmebalaaGreatDoorP02
import Derived.Test.YtdeplgkhmebalaaGreatDoorP01

namespace Go.Proofs.YtdeplgkhmebalaaGreatDoor
open Go.RowKit

/-- Where a module's memory lies: made between these two worlds. -/
abbrev made (w w' : World) : Nat → Prop := fun b => w.heap.size ≤ b ∧ b < w'.heap.size

def LoadDone (w w' : World) (m : Except (Int × Int) Flat) (r : Ending) : Prop :=
  match m with
  | .ok f => ∃ mb, r = .returned (.tuple #[ptrTo mb, .int .i64 0, .int .i64 0]) ∧ ModAt w' (made w w') mb 123 f
  | .error e => r = .returned (.tuple #[.pointer none, .int .i64 e.1, .int .i64 e.2])

theorem RoV.le {ro ro' : Nat → Prop} {v : Value} (h : RoV ro v) (hr : ∀ b, ro b → ro' b) : RoV ro' v := fun b hb => hr b (h b hb)
theorem FuncsAt.le {w : World} {ro ro' : Nat → Prop} {v : Value} {fs : List FnM} (h : FuncsAt w ro v fs) (hr : ∀ b, ro b → ro' b) : FuncsAt w ro' v fs := by
  obtain ⟨ad, cap, hv, hc, hk⟩ := h
  refine ⟨ad, cap, hv, hc, fun j hj => ?_⟩
  obtain ⟨a, o, pv, rv, had, hro, h1, h2, h3, h4, h5, h6, h7, h8⟩ := hk j hj
  exact ⟨a, o, pv, rv, had, hr _ hro, h1, h2, h3, h4, h5, h6.le hr, h7, h8.le hr⟩
theorem CodeAt.le {w : World} {ro ro' : Nat → Prop} {v : Value} {cs : List Ins} (h : CodeAt w ro v cs) (hr : ∀ b, ro b → ro' b) : CodeAt w ro' v cs := by
  obtain ⟨ad, cap, hv, hc, hk⟩ := h
  refine ⟨ad, cap, hv, hc, fun j hj => ?_⟩
  obtain ⟨a, o, had, hro, h1⟩ := hk j hj
  exact ⟨a, o, had, hr _ hro, h1⟩

set_option maxRecDepth 100000 in
set_option maxHeartbeats 2000000 in
theorem load_any {w : World} {dv : Value} {D : List UInt8} (hb : BytesAt w dv D) (hd : ∀ b, dv.ownBlock = some b → b < w.heap.size) (hR : RowsAt w (fun b => b < w.heap.size)) (hl : D.length ≤ 1000000) :
    Calls Tryz.prog 35 #[dv] w fun r w' => LoadDone w w' (loadM D) r ∧ Kp no w w' := by
  have hm := module_any hb hd hR hl
  obtain ⟨ad, cap, rfl, hcap⟩ := hb.shape
  generalize loadM D = Q at *
  have HM := hide hm
  clear hm hb hd hR
  match Q, HM with
  | .error e, HM =>
    go_enter Tryz.func35, Tryz.ntmps35
    go_wp2_with fail
    refine HM.out.mono ?_
    rintro r w1 ⟨⟨fv, rfl, fb, rfl, hfb, hfo⟩, k1⟩
    obtain ⟨hfc, -⟩ := cells_of hfo
    have K1 := hide k1
    clear k1 hfo
    go_wp2_with fail
    refine wp_region_S 11 (fun w' => ∀ o, w'.cell? ⟨fb, o, none⟩ = #[.int .i64 e.1, .int .i64 e.2][o]?) (by kernel_rfl) (n := 11) (listed := #[false, false, false, false, false, false, false, false, false, false, false]) rfl (by kernel_rfl) ?hS (fun hS => ?_)
    case hS => exact fun o => hfc o
    refine wpAnyS_take 0 [] (v := ?v1) (listed' := #[true, false, false, false, false, false, false, false, false, false, false]) rfl (by kernel_rfl) (by kernel_rfl) rfl (fun _ _ _ h => h) hS (fun _ hSw => ?hy1) ?rest1
    case hy1 => (try dsimp only at hSw); go_simp; all_goals (with_reducible rfl)
    simp only [Act.put, List.setIfInBounds_toArray, List.set_cons_zero, List.set_cons_succ]
    refine wpAnyS_take 1 [] (v := ?v2) (listed' := #[true, true, false, false, false, false, false, false, false, false, false]) rfl (by kernel_rfl) (by kernel_rfl) rfl (fun _ _ _ h => h) hS (fun _ hSw => ?hy2) ?rest2
    case hy2 => (try dsimp only at hSw); go_simp; all_goals (with_reducible rfl)
    simp only [Act.put, List.setIfInBounds_toArray, List.set_cons_zero, List.set_cons_succ]
    refine wpAnyS_take 2 [] (v := ?v3) (listed' := #[true, true, true, false, false, false, false, false, false, false, false]) rfl (by kernel_rfl) (by kernel_rfl) rfl (fun _ _ _ h => h) hS (fun _ hSw => ?hy3) ?rest3
    case hy3 => (try dsimp only at hSw); go_simp; all_goals (with_reducible rfl)
    simp only [Act.put, List.setIfInBounds_toArray, List.set_cons_zero, List.set_cons_succ]
    refine wpAnyS_take 3 [] (v := ?v4) (listed' := #[true, true, true, true, false, false, false, false, false, false, false]) rfl (by kernel_rfl) (by kernel_rfl) rfl (fun _ _ _ h => h) hS (fun _ hSw => ?hy4) ?rest4
    case hy4 => (try dsimp only at hSw); go_simp; all_goals (with_reducible rfl)
    simp only [Act.put, List.setIfInBounds_toArray, List.set_cons_zero, List.set_cons_succ]
    refine wpAnyS_take 4 [] (v := ?v5) (listed' := #[true, true, true, true, true, false, false, false, false, false, false]) rfl (by kernel_rfl) (by kernel_rfl) rfl (fun _ _ _ h => h) hS (fun _ hSw => ?hy5) ?rest5
    case hy5 => (try dsimp only at hSw); go_simp; all_goals (with_reducible rfl)
    simp only [Act.put, List.setIfInBounds_toArray, List.set_cons_zero, List.set_cons_succ]
    refine wpAnyS_take 5 [] (v := ?v6) (listed' := #[true, true, true, true, true, true, false, false, false, false, false]) rfl (by kernel_rfl) (by kernel_rfl) rfl (fun _ _ _ h => h) hS (fun _ hSw => ?hy6) ?rest6
    case hy6 => (try dsimp only at hSw); go_simp; all_goals (with_reducible rfl)
    simp only [Act.put, List.setIfInBounds_toArray, List.set_cons_zero, List.set_cons_succ]
    refine wpAnyS_take 6 [] (v := ?v7) (listed' := #[true, true, true, true, true, true, true, false, false, false, false]) rfl (by kernel_rfl) (by kernel_rfl) rfl (fun _ _ _ h => h) hS (fun _ hSw => ?hy7) ?rest7
    case hy7 => (try dsimp only at hSw); go_simp; all_goals (with_reducible rfl)
    simp only [Act.put, List.setIfInBounds_toArray, List.set_cons_zero, List.set_cons_succ]
    refine wpAnyS_take 7 [] (v := ?v8) (listed' := #[true, true, true, true, true, true, true, true, false, false, false]) rfl (by kernel_rfl) (by kernel_rfl) rfl (fun _ _ _ h => h) hS (fun _ hSw => ?hy8) ?rest8
    case hy8 => (try dsimp only at hSw); go_simp; all_goals (with_reducible rfl)
    simp only [Act.put, List.setIfInBounds_toArray, List.set_cons_zero, List.set_cons_succ]
    refine wpAnyS_take 8 [] (v := ?v9) (listed' := #[true, true, true, true, true, true, true, true, true, false, false]) rfl (by kernel_rfl) (by kernel_rfl) rfl (fun _ _ _ h => h) hS (fun _ hSw => ?hy9) ?rest9
    case hy9 => (try dsimp only at hSw); go_simp; all_goals (with_reducible rfl)
    simp only [Act.put, List.setIfInBounds_toArray, List.set_cons_zero, List.set_cons_succ]
    refine wpAnyS_take 9 [] (v := ?v10) (listed' := #[true, true, true, true, true, true, true, true, true, true, false]) rfl (by kernel_rfl) (by kernel_rfl) rfl (fun _ _ _ h => h) hS (fun _ hSw => ?hy10) ?rest10
    case hy10 => (try dsimp only at hSw); go_simp; all_goals (with_reducible rfl)
    simp only [Act.put, List.setIfInBounds_toArray, List.set_cons_zero, List.set_cons_succ]
    refine wpAnyS_take 10 [] (v := ?v11) (listed' := #[true, true, true, true, true, true, true, true, true, true, true]) rfl (by kernel_rfl) (by kernel_rfl) rfl (fun _ _ _ h => h) hS (fun _ hSw => ?hy11) ?rest11
    case hy11 => (try dsimp only at hSw); go_simp; all_goals (with_reducible rfl)
    simp only [Act.put, List.setIfInBounds_toArray, List.set_cons_zero, List.set_cons_succ]
    refine wpAnyS_done (by kernel_rfl) ?_ _
    clear hS
    go_wp2
    go_ret3
    exact ⟨rfl, K1.out.drew⟩
  | .ok f, HM =>
    go_enter Tryz.func35, Tryz.ntmps35
    go_wp2_with fail
    refine HM.out.mono ?_
    rintro r w1 ⟨⟨mb, fv, gv, cv, rfl, hmod, ⟨a1, n1, c1, rfl⟩, ⟨a2, n2, c2, rfl⟩, ⟨a3, n3, c3, rfl⟩⟩, k1⟩
    obtain ⟨hmc, -⟩ := cells_of hmod.blk
    have K1 := hide k1
    have HMod := hide hmod
    have hsz := k1.size
    clear k1 hmod
    go_wp2
    go_ret3
    have kF : Kp no w1 (w1.alloc (.cells #[.slice a1 n1 c1, .slice a2 n2 c2, .int .i64 f.pages, .slice a3 n3 c3] 123)) := (Kp.refl _ _).alloc _
    refine ⟨⟨w1.heap.size, rfl, .slice a1 n1 c1, .slice a2 n2 c2, .slice a3 n3 c3, heap_alloc_new _ _, ⟨hsz, by simp⟩, ?_, ?_, ?_, ?_⟩, K1.out.alloc _⟩
    · exact (HMod.out.funcs.kp kF.any).le (fun b hb => ⟨hb.1, by have := hb.2; simp; omega⟩)
    · exact RowAt.kp HMod.out.vals kF (fun _ _ h => h)
    · exact HMod.out.valsR.le (fun b hb => ⟨hb.1, by have := hb.2; simp; omega⟩)
    · exact (HMod.out.code.kp kF.any).le (fun b hb => ⟨hb.1, by have := hb.2; simp; omega⟩)

end Go.Proofs.YtdeplgkhmebalaaGreatDoor

namespace Go.Proofs.YtdeplgkhmebalaaGreatDoor
open Go.RowKit

def wV (wd : Bool) : Value := .int .u64 (if wd then 64 else 32)
def cutR (wd : Bool) (n : Int) : Int := if wd then IntKind.u64.wrap n else IntKind.u64.wrap (n * 4294967296) / 4294967296
def signR (wd : Bool) (n : Int) : Int := if wd then wrap64 (IntKind.u64.wrap n) else wrap64 (IntKind.u64.wrap (n * 4294967296)) / 4294967296

set_option maxHeartbeats 400000 in
theorem cut_any (wd : Bool) (n : Int) (w0 : World) : Calls Tryz.prog 174 #[wV wd, .int .u64 n] w0 fun r w' => r = .returned (.int .u64 (cutR wd n)) ∧ w' = w0 := by
  cases wd
  all_goals
    simp only [wV, Bool.false_eq_true, if_false, if_true]
    go_enter Tryz.func174, Tryz.ntmps174
    go_wp2
    go_ret
    exact ⟨rfl, rfl⟩
set_option maxHeartbeats 400000 in
theorem wsigned_any (wd : Bool) (n : Int) (w0 : World) : Calls Tryz.prog 175 #[wV wd, .int .u64 n] w0 fun r w' => r = .returned (.int .i64 (signR wd n)) ∧ w' = w0 := by
  cases wd
  all_goals
    simp only [wV, Bool.false_eq_true, if_false, if_true]
    go_enter Tryz.func175, Tryz.ntmps175
    go_wp2
    go_ret
    exact ⟨rfl, rfl⟩

set_option maxHeartbeats 400000 in
theorem wsame_any (v : Value) (a b : Int) (w0 : World) : Calls Tryz.prog 226 #[v, .int .u64 a, .int .u64 b] w0 fun r w' => r = .returned (.bool (a == b)) ∧ w' = w0 := by
  go_enter Tryz.func226, Tryz.ntmps226
  go_wp2
  go_ret
  exact ⟨rfl, rfl⟩

set_option maxHeartbeats 400000 in
theorem wother_any (v : Value) (a b : Int) (w0 : World) : Calls Tryz.prog 227 #[v, .int .u64 a, .int .u64 b] w0 fun r w' => r = .returned (.bool (a != b)) ∧ w' = w0 := by
  go_enter Tryz.func227, Tryz.ntmps227
  go_wp2
  go_ret
  exact ⟨rfl, rfl⟩

set_option maxHeartbeats 400000 in
theorem wless_any (v : Value) (a b : Int) (w0 : World) : Calls Tryz.prog 229 #[v, .int .u64 a, .int .u64 b] w0 fun r w' => r = .returned (.bool (decide (a < b))) ∧ w' = w0 := by
  go_enter Tryz.func229, Tryz.ntmps229
  go_wp2
  go_ret
  exact ⟨rfl, rfl⟩

set_option maxHeartbeats 400000 in
theorem wgreater_any (v : Value) (a b : Int) (w0 : World) : Calls Tryz.prog 231 #[v, .int .u64 a, .int .u64 b] w0 fun r w' => r = .returned (.bool (decide (b < a))) ∧ w' = w0 := by
  go_enter Tryz.func231, Tryz.ntmps231
  go_wp2
  go_ret
  exact ⟨rfl, rfl⟩

set_option maxHeartbeats 400000 in
theorem watMost_any (v : Value) (a b : Int) (w0 : World) : Calls Tryz.prog 233 #[v, .int .u64 a, .int .u64 b] w0 fun r w' => r = .returned (.bool (decide (a ≤ b))) ∧ w' = w0 := by
  go_enter Tryz.func233, Tryz.ntmps233
  go_wp2
  go_ret
  exact ⟨rfl, rfl⟩

set_option maxHeartbeats 400000 in
theorem watLeast_any (v : Value) (a b : Int) (w0 : World) : Calls Tryz.prog 235 #[v, .int .u64 a, .int .u64 b] w0 fun r w' => r = .returned (.bool (decide (b ≤ a))) ∧ w' = w0 := by
  go_enter Tryz.func235, Tryz.ntmps235
  go_wp2
  go_ret
  exact ⟨rfl, rfl⟩

set_option maxHeartbeats 400000 in
theorem wlessSigned_any (wd : Bool) (a b : Int) (w0 : World) : Calls Tryz.prog 228 #[wV wd, .int .u64 a, .int .u64 b] w0 fun r w' => r = .returned (.bool (decide (signR wd a < signR wd b))) ∧ w' = w0 := by
  have h1 := fun W => wsigned_any wd a W
  have h2 := fun W => wsigned_any wd b W
  generalize signR wd a = x at *
  generalize signR wd b = y at *
  have H1 := hide h1
  have H2 := hide h2
  clear h1 h2
  generalize wV wd = v at *
  go_enter Tryz.func228, Tryz.ntmps228
  go_wp2_with fail
  refine (H1.out _).mono ?_
  rintro e w1 ⟨rfl, rfl⟩
  go_wp2_with fail
  refine (H2.out _).mono ?_
  rintro e w1 ⟨rfl, rfl⟩
  go_wp2
  go_ret
  exact ⟨rfl, rfl⟩

set_option maxHeartbeats 400000 in
theorem wgreaterSigned_any (wd : Bool) (a b : Int) (w0 : World) : Calls Tryz.prog 230 #[wV wd, .int .u64 a, .int .u64 b] w0 fun r w' => r = .returned (.bool (decide (signR wd b < signR wd a))) ∧ w' = w0 := by
  have h1 := fun W => wsigned_any wd a W
  have h2 := fun W => wsigned_any wd b W
  generalize signR wd a = x at *
  generalize signR wd b = y at *
  have H1 := hide h1
  have H2 := hide h2
  clear h1 h2
  generalize wV wd = v at *
  go_enter Tryz.func230, Tryz.ntmps230
  go_wp2_with fail
  refine (H1.out _).mono ?_
  rintro e w1 ⟨rfl, rfl⟩
  go_wp2_with fail
  refine (H2.out _).mono ?_
  rintro e w1 ⟨rfl, rfl⟩
  go_wp2
  go_ret
  exact ⟨rfl, rfl⟩

set_option maxHeartbeats 400000 in
theorem watMostSigned_any (wd : Bool) (a b : Int) (w0 : World) : Calls Tryz.prog 232 #[wV wd, .int .u64 a, .int .u64 b] w0 fun r w' => r = .returned (.bool (decide (signR wd a ≤ signR wd b))) ∧ w' = w0 := by
  have h1 := fun W => wsigned_any wd a W
  have h2 := fun W => wsigned_any wd b W
  generalize signR wd a = x at *
  generalize signR wd b = y at *
  have H1 := hide h1
  have H2 := hide h2
  clear h1 h2
  generalize wV wd = v at *
  go_enter Tryz.func232, Tryz.ntmps232
  go_wp2_with fail
  refine (H1.out _).mono ?_
  rintro e w1 ⟨rfl, rfl⟩
  go_wp2_with fail
  refine (H2.out _).mono ?_
  rintro e w1 ⟨rfl, rfl⟩
  go_wp2
  go_ret
  exact ⟨rfl, rfl⟩

set_option maxHeartbeats 400000 in
theorem watLeastSigned_any (wd : Bool) (a b : Int) (w0 : World) : Calls Tryz.prog 234 #[wV wd, .int .u64 a, .int .u64 b] w0 fun r w' => r = .returned (.bool (decide (signR wd b ≤ signR wd a))) ∧ w' = w0 := by
  have h1 := fun W => wsigned_any wd a W
  have h2 := fun W => wsigned_any wd b W
  generalize signR wd a = x at *
  generalize signR wd b = y at *
  have H1 := hide h1
  have H2 := hide h2
  clear h1 h2
  generalize wV wd = v at *
  go_enter Tryz.func234, Tryz.ntmps234
  go_wp2_with fail
  refine (H1.out _).mono ?_
  rintro e w1 ⟨rfl, rfl⟩
  go_wp2_with fail
  refine (H2.out _).mono ?_
  rintro e w1 ⟨rfl, rfl⟩
  go_wp2
  go_ret
  exact ⟨rfl, rfl⟩

set_option maxHeartbeats 400000 in
theorem wsum_any (wd : Bool) (a b : Int) (w0 : World) : Calls Tryz.prog 239 #[wV wd, .int .u64 a, .int .u64 b] w0 fun r w' => r = .returned (.tuple #[.int .u64 (cutR wd (IntKind.u64.wrap (a + b))), .int .i64 0]) ∧ w' = w0 := by
  have h1 := fun n W => cut_any wd n W
  have H1 := hide h1
  clear h1
  generalize hv : wV wd = v at *
  clear hv
  go_enter Tryz.func239, Tryz.ntmps239
  go_wp2_with fail
  refine (H1.out _ _).mono ?_
  rintro e w1 ⟨rfl, rfl⟩
  go_wp2
  go_ret2
  exact ⟨rfl, rfl⟩

set_option maxHeartbeats 400000 in
theorem wdifference_any (wd : Bool) (a b : Int) (w0 : World) : Calls Tryz.prog 240 #[wV wd, .int .u64 a, .int .u64 b] w0 fun r w' => r = .returned (.tuple #[.int .u64 (cutR wd (IntKind.u64.wrap (a - b))), .int .i64 0]) ∧ w' = w0 := by
  have h1 := fun n W => cut_any wd n W
  have H1 := hide h1
  clear h1
  generalize hv : wV wd = v at *
  clear hv
  go_enter Tryz.func240, Tryz.ntmps240
  go_wp2_with fail
  refine (H1.out _ _).mono ?_
  rintro e w1 ⟨rfl, rfl⟩
  go_wp2
  go_ret2
  exact ⟨rfl, rfl⟩

set_option maxHeartbeats 400000 in
theorem wproduct_any (wd : Bool) (a b : Int) (w0 : World) : Calls Tryz.prog 241 #[wV wd, .int .u64 a, .int .u64 b] w0 fun r w' => r = .returned (.tuple #[.int .u64 (cutR wd (IntKind.u64.wrap (a * b))), .int .i64 0]) ∧ w' = w0 := by
  have h1 := fun n W => cut_any wd n W
  have H1 := hide h1
  clear h1
  generalize hv : wV wd = v at *
  clear hv
  go_enter Tryz.func241, Tryz.ntmps241
  go_wp2_with fail
  refine (H1.out _ _).mono ?_
  rintro e w1 ⟨rfl, rfl⟩
  go_wp2
  go_ret2
  exact ⟨rfl, rfl⟩

set_option maxHeartbeats 400000 in
theorem wand_any (v : Value) (a b : Int) (w0 : World) : Calls Tryz.prog 246 #[v, .int .u64 a, .int .u64 b] w0 fun r w' => r = .returned (.tuple #[.int .u64 (bits BinOp.and IntKind.u64 a b), .int .i64 0]) ∧ w' = w0 := by
  go_enter Tryz.func246, Tryz.ntmps246
  go_wp2
  go_ret2
  exact ⟨rfl, rfl⟩

set_option maxHeartbeats 400000 in
theorem wor_any (v : Value) (a b : Int) (w0 : World) : Calls Tryz.prog 247 #[v, .int .u64 a, .int .u64 b] w0 fun r w' => r = .returned (.tuple #[.int .u64 (bits BinOp.or IntKind.u64 a b), .int .i64 0]) ∧ w' = w0 := by
  go_enter Tryz.func247, Tryz.ntmps247
  go_wp2
  go_ret2
  exact ⟨rfl, rfl⟩

set_option maxHeartbeats 400000 in
theorem wxor_any (v : Value) (a b : Int) (w0 : World) : Calls Tryz.prog 248 #[v, .int .u64 a, .int .u64 b] w0 fun r w' => r = .returned (.tuple #[.int .u64 (bits BinOp.xor IntKind.u64 a b), .int .i64 0]) ∧ w' = w0 := by
  go_enter Tryz.func248, Tryz.ntmps248
  go_wp2
  go_ret2
  exact ⟨rfl, rfl⟩


end Go.Proofs.YtdeplgkhmebalaaGreatDoor

namespace Go.Proofs.YtdeplgkhmebalaaGreatDoor
open Go.RowKit

def leastR (wd : Bool) : Int := if wd then 9223372036854775808 else 2147483648
set_option maxHeartbeats 400000 in
theorem wleast_any (wd : Bool) (w0 : World) : Calls Tryz.prog 273 #[wV wd] w0 fun r w' => r = .returned (.int .u64 (leastR wd)) ∧ w' = w0 := by
  cases wd
  all_goals
    simp only [wV, leastR, Bool.false_eq_true, if_false, if_true]
    go_enter Tryz.func273, Tryz.ntmps273
    go_wp2
    go_ret
    exact ⟨rfl, rfl⟩
def byR (wd : Bool) (b : Int) : Int := b.tmod (if wd then 64 else 32)
set_option maxHeartbeats 400000 in
theorem wby_any (wd : Bool) (b : Int) (w0 : World) : Calls Tryz.prog 274 #[wV wd, .int .u64 b] w0 fun r w' => r = .returned (.int .u64 (byR wd b)) ∧ w' = w0 := by
  cases wd
  all_goals
    simp only [wV, byR, Bool.false_eq_true, if_false, if_true]
    go_enter Tryz.func274, Tryz.ntmps274
    go_wp2
    go_ret
    exact ⟨rfl, rfl⟩

set_option maxHeartbeats 400000 in
theorem wquotient_zero (v : Value) (a : Int) (w0 : World) : Calls Tryz.prog 243 #[v, .int .u64 a, .int .u64 0] w0 fun r w' => r = .returned (.tuple #[.int .u64 0, .int .i64 2]) ∧ w' = w0 := by
  go_enter Tryz.func243, Tryz.ntmps243
  go_wp2
  go_ret2
  exact ⟨rfl, rfl⟩
set_option maxHeartbeats 400000 in
theorem wquotient_any (v : Value) (a b : Int) (hb : b ≠ 0) (w0 : World) : Calls Tryz.prog 243 #[v, .int .u64 a, .int .u64 b] w0 fun r w' => r = .returned (.tuple #[.int .u64 (IntKind.u64.wrap (a.tdiv b)), .int .i64 0]) ∧ w' = w0 := by
  have hb' : (b == 0) = false := by simpa using hb
  go_enter Tryz.func243, Tryz.ntmps243
  go_wp2
  go_ret2
  exact ⟨rfl, rfl⟩
set_option maxHeartbeats 400000 in
theorem wrest_zero (v : Value) (a : Int) (w0 : World) : Calls Tryz.prog 245 #[v, .int .u64 a, .int .u64 0] w0 fun r w' => r = .returned (.tuple #[.int .u64 0, .int .i64 2]) ∧ w' = w0 := by
  go_enter Tryz.func245, Tryz.ntmps245
  go_wp2
  go_ret2
  exact ⟨rfl, rfl⟩
set_option maxHeartbeats 400000 in
theorem wrest_any (v : Value) (a b : Int) (hb : b ≠ 0) (w0 : World) : Calls Tryz.prog 245 #[v, .int .u64 a, .int .u64 b] w0 fun r w' => r = .returned (.tuple #[.int .u64 (a.tmod b), .int .i64 0]) ∧ w' = w0 := by
  have hb' : (b == 0) = false := by simpa using hb
  go_enter Tryz.func245, Tryz.ntmps245
  go_wp2
  go_ret2
  exact ⟨rfl, rfl⟩
set_option maxHeartbeats 400000 in
theorem wrestS_zero (v : Value) (a : Int) (w0 : World) : Calls Tryz.prog 244 #[v, .int .u64 a, .int .u64 0] w0 fun r w' => r = .returned (.tuple #[.int .u64 0, .int .i64 2]) ∧ w' = w0 := by
  go_enter Tryz.func244, Tryz.ntmps244
  go_wp2
  go_ret2
  exact ⟨rfl, rfl⟩
set_option maxHeartbeats 800000 in
theorem wrestS_any (wd : Bool) (a b : Int) (hb : b ≠ 0) (hs : signR wd b ≠ 0) (w0 : World) : Calls Tryz.prog 244 #[wV wd, .int .u64 a, .int .u64 b] w0 fun r w' => r = .returned (.tuple #[.int .u64 (cutR wd (IntKind.u64.wrap ((signR wd a).tmod (signR wd b)))), .int .i64 0]) ∧ w' = w0 := by
  have hb' : (b == 0) = false := by simpa using hb
  have h1 := fun W => wsigned_any wd a W
  have h2 := fun W => wsigned_any wd b W
  have h3 := fun n W => cut_any wd n W
  generalize signR wd a = x at *
  generalize signR wd b = y at *
  generalize wV wd = v at *
  have H1 := hide h1
  have H2 := hide h2
  have H3 := hide h3
  have hy : (y == 0) = false := by simpa using hs
  clear h1 h2 h3
  go_enter Tryz.func244, Tryz.ntmps244
  go_wp2_with fail
  refine (H1.out _).mono ?_
  rintro e w1 ⟨rfl, rfl⟩
  go_wp2_with fail
  refine (H2.out _).mono ?_
  rintro e w1 ⟨rfl, rfl⟩
  go_wp2_with fail
  refine (H3.out _ _).mono ?_
  rintro e w1 ⟨rfl, rfl⟩
  go_wp2
  go_ret2
  exact ⟨rfl, rfl⟩
set_option maxHeartbeats 400000 in
theorem wquotientS_zero (v : Value) (a : Int) (w0 : World) : Calls Tryz.prog 242 #[v, .int .u64 a, .int .u64 0] w0 fun r w' => r = .returned (.tuple #[.int .u64 0, .int .i64 2]) ∧ w' = w0 := by
  go_enter Tryz.func242, Tryz.ntmps242
  go_wp2
  go_ret2
  exact ⟨rfl, rfl⟩

set_option maxHeartbeats 800000 in
theorem wquotientS_any (wd : Bool) (a b : Int) (hb : b ≠ 0) (hs : signR wd b ≠ 0) (hn : ¬ (a = leastR wd ∧ signR wd b = -1)) (w0 : World) : Calls Tryz.prog 242 #[wV wd, .int .u64 a, .int .u64 b] w0 fun r w' => r = .returned (.tuple #[.int .u64 (cutR wd (IntKind.u64.wrap (wrap64 ((signR wd a).tdiv (signR wd b))))), .int .i64 0]) ∧ w' = w0 := by
  have hb' : (b == 0) = false := by simpa using hb
  have h0 := fun W => wleast_any wd W
  have h1 := fun W => wsigned_any wd a W
  have h2 := fun W => wsigned_any wd b W
  have h3 := fun n W => cut_any wd n W
  generalize signR wd a = x at *
  generalize signR wd b = y at *
  generalize leastR wd = z at *
  generalize wV wd = v at *
  have H0 := hide h0
  have H1 := hide h1
  have H2 := hide h2
  have H3 := hide h3
  have hy : (y == 0) = false := by simpa using hs
  clear h0 h1 h2 h3
  by_cases hz : a = z
  · have hy1 : (y == -1) = false := by
      simp only [beq_eq_false_iff_ne]; exact fun e => hn ⟨hz, e⟩
    have hz' : (a == z) = true := by simpa using hz
    clear hn hz
    go_enter Tryz.func242, Tryz.ntmps242
    go_wp2_with fail
    refine (H0.out _).mono ?_
    rintro e w1 ⟨rfl, rfl⟩
    go_wp2_with fail
    refine (H2.out _).mono ?_
    rintro e w1 ⟨rfl, rfl⟩
    go_wp2_with fail
    refine (H1.out _).mono ?_
    rintro e w1 ⟨rfl, rfl⟩
    go_wp2_with fail
    refine (H2.out _).mono ?_
    rintro e w1 ⟨rfl, rfl⟩
    go_wp2_with fail
    refine (H3.out _ _).mono ?_
    rintro e w1 ⟨rfl, rfl⟩
    go_wp2
    go_ret2
    exact ⟨rfl, rfl⟩
  · have hz' : (a == z) = false := by simpa using hz
    clear hn hz
    go_enter Tryz.func242, Tryz.ntmps242
    go_wp2_with fail
    refine (H0.out _).mono ?_
    rintro e w1 ⟨rfl, rfl⟩
    go_wp2_with fail
    refine (H1.out _).mono ?_
    rintro e w1 ⟨rfl, rfl⟩
    go_wp2_with fail
    refine (H2.out _).mono ?_
    rintro e w1 ⟨rfl, rfl⟩
    go_wp2_with fail
    refine (H3.out _ _).mono ?_
    rintro e w1 ⟨rfl, rfl⟩
    go_wp2
    go_ret2
    exact ⟨rfl, rfl⟩
set_option maxHeartbeats 800000 in
theorem wquotientS_over (wd : Bool) (b : Int) (hb : b ≠ 0) (hn : signR wd b = -1) (w0 : World) : Calls Tryz.prog 242 #[wV wd, .int .u64 (leastR wd), .int .u64 b] w0 fun r w' => r = .returned (.tuple #[.int .u64 0, .int .i64 3]) ∧ w' = w0 := by
  have hb' : (b == 0) = false := by simpa using hb
  have h0 := fun W => wleast_any wd W
  have h2 := fun W => wsigned_any wd b W
  rw [hn] at h2
  generalize leastR wd = z at *
  generalize wV wd = v at *
  have H0 := hide h0
  have H2 := hide h2
  clear h0 h2 hn
  go_enter Tryz.func242, Tryz.ntmps242
  go_wp2_with fail
  refine (H0.out _).mono ?_
  rintro e w1 ⟨rfl, rfl⟩
  go_wp2_with fail
  refine (H2.out _).mono ?_
  rintro e w1 ⟨rfl, rfl⟩
  go_wp2
  go_ret2
  exact ⟨rfl, rfl⟩

set_option maxHeartbeats 800000 in
theorem wleft_any (wd : Bool) (a b : Int) (c : Nat) (hc : byR wd b = c) (hc64 : c < 64) (w0 : World) : Calls Tryz.prog 249 #[wV wd, .int .u64 a, .int .u64 b] w0 fun r w' => r = .returned (.tuple #[.int .u64 (cutR wd (IntKind.u64.wrap (a * 2 ^ c))), .int .i64 0]) ∧ w' = w0 := by
  have h0 := fun W => wby_any wd b W
  rw [hc] at h0
  have h3 := fun n W => cut_any wd n W
  generalize wV wd = v at *
  have H0 := hide h0
  have H3 := hide h3
  clear h0 h3 hc
  go_enter Tryz.func249, Tryz.ntmps249
  go_wp2_with fail
  refine (H0.out _).mono ?_
  rintro e w1 ⟨rfl, rfl⟩
  go_wp2_with fail
  refine (H3.out _ _).mono ?_
  rintro e w1 ⟨rfl, rfl⟩
  go_wp2
  go_ret2
  exact ⟨rfl, rfl⟩
set_option maxHeartbeats 800000 in
theorem wright_any (wd : Bool) (a b : Int) (c : Nat) (hc : byR wd b = c) (hc64 : c < 64) (w0 : World) : Calls Tryz.prog 251 #[wV wd, .int .u64 a, .int .u64 b] w0 fun r w' => r = .returned (.tuple #[.int .u64 (a / 2 ^ c), .int .i64 0]) ∧ w' = w0 := by
  have h0 := fun W => wby_any wd b W
  rw [hc] at h0
  generalize wV wd = v at *
  have H0 := hide h0
  clear h0 hc
  go_enter Tryz.func251, Tryz.ntmps251
  go_wp2_with fail
  refine (H0.out _).mono ?_
  rintro e w1 ⟨rfl, rfl⟩
  go_wp2
  go_ret2
  exact ⟨rfl, rfl⟩
set_option maxHeartbeats 800000 in
theorem wrightS_any (wd : Bool) (a b : Int) (c : Nat) (hc : byR wd b = c) (hc64 : c < 64) (w0 : World) : Calls Tryz.prog 250 #[wV wd, .int .u64 a, .int .u64 b] w0 fun r w' => r = .returned (.tuple #[.int .u64 (cutR wd (IntKind.u64.wrap (signR wd a / 2 ^ c))), .int .i64 0]) ∧ w' = w0 := by
  have h0 := fun W => wby_any wd b W
  rw [hc] at h0
  have h1 := fun W => wsigned_any wd a W
  have h3 := fun n W => cut_any wd n W
  generalize signR wd a = x at *
  generalize wV wd = v at *
  have H0 := hide h0
  have H1 := hide h1
  have H3 := hide h3
  clear h0 h1 h3 hc
  go_enter Tryz.func250, Tryz.ntmps250
  go_wp2_with fail
  refine (H1.out _).mono ?_
  rintro e w1 ⟨rfl, rfl⟩
  go_wp2_with fail
  refine (H0.out _).mono ?_
  rintro e w1 ⟨rfl, rfl⟩
  go_wp2_with fail
  refine (H3.out _ _).mono ?_
  rintro e w1 ⟨rfl, rfl⟩
  go_wp2
  go_ret2
  exact ⟨rfl, rfl⟩

def wN (wd : Bool) : Nat := if wd then 64 else 32
def roundR (wd : Bool) (a : Int) (c : Nat) : Int := cutR wd (bits BinOp.or IntKind.u64 (IntKind.u64.wrap (a * 2 ^ c)) (a / 2 ^ (wN wd - c)))
set_option maxHeartbeats 800000 in
theorem wround_any (wd : Bool) (a : Int) (c : Nat) (hc : c ≤ wN wd) (w0 : World) : Calls Tryz.prog 275 #[wV wd, .int .u64 a, .int .u64 c] w0 fun r w' => r = .returned (.int .u64 (roundR wd a c)) ∧ w' = w0 := by
  have h3 := fun n W => cut_any wd n W
  have hR : roundR wd a c = cutR wd (bits BinOp.or IntKind.u64 (IntKind.u64.wrap (a * 2 ^ c)) (a / 2 ^ (wN wd - c))) := rfl
  generalize roundR wd a c = R at *
  have H3 := hide h3
  have HR := hide hR
  clear h3 hR
  have hw : wV wd = .int .u64 (wN wd) := by cases wd <;> rfl
  rw [hw] at H3 ⊢
  have hd : ((wN wd : Nat) : Int) - (c : Int) = ((wN wd - c : Nat) : Int) := by omega
  have hwr : IntKind.u64.wrap (((wN wd : Nat) : Int) - (c : Int)) = ((wN wd - c : Nat) : Int) := by
    rw [hd]; have : wN wd ≤ 64 := by cases wd <;> decide
    rw [IntKind.wrap_u64]; omega
  have h64 : wN wd ≤ 64 := by cases wd <;> decide
  obtain ⟨d, hdd⟩ : ∃ d, d = wN wd - c := ⟨_, rfl⟩
  rw [← hdd] at hwr HR
  have hd64 : d ≤ 64 := by omega
  have hc64 : c ≤ 64 := by omega
  clear hd hdd hw
  generalize wN wd = n at *
  go_enter Tryz.func275, Tryz.ntmps275
  go_wp2_with fail
  refine (H3.out _ _).mono ?_
  rintro e w1 ⟨rfl, rfl⟩
  go_wp2
  go_ret
  rw [HR.out]
  exact ⟨rfl, rfl⟩
end Go.Proofs.YtdeplgkhmebalaaGreatDoor
