/- A module cut off: one byte that is a number. -/
import Derived.Test.YtdeplgkhmebalaaGreatDoorCutA
import Derived.Test.YtdeplgkhmebalaaGreatDoorP12
import Derived.Test.YtdeplgkhmebalaaGreatDoorP32
import Derived.Test.YtdeplgkhmebalaaGreatDoorKeepA

namespace Go.Proofs.YtdeplgkhmebalaaGreatDoor
open Go.RowKit

theorem UM_one {D : List UInt8} {i : Nat} {x : UInt8} (hx : x.toNat < 128) (hd : D[i]? = some x) : UM D i = .ok (x.toNat, i + 1) := by
  have hi : i < D.length := (List.getElem?_eq_some_iff.1 hd).1
  have hg : D.getD i 0 = x := by rw [List.getD_eq_getElem?_getD, hd]; rfl
  have e : (D.take (i + 1)).drop i = [x] := by
    rw [List.drop_take, show i + 1 - i = 1 by omega, List.take_one, List.head?_drop, hd]
    rfl
  have hj : joinTo [x] 1 = x.toNat := by
    show 0 ||| (x.toNat % 128) * 2 ^ 0 % 18446744073709551616 = x.toNat
    rw [Nat.zero_or]
    omega
  unfold UM groupsM
  rw [grpGo, if_pos hi, hg, if_pos hx]
  simp only [e]
  rw [show ([x] : List UInt8).length = 1 from rfl, hj, if_neg (by
    rintro (h | h)
    · omega
    · simp [paddedM] at h)]
theorem list_none {D : List UInt8} {i most : Nat} (hd : D[i]? = some 0) : listM D most i = .ok ([], i + 1) := by
  unfold listM belowM
  rw [UM_one (by decide) hd]
  simp only
  rw [if_neg (by show ¬ ((most : Int) + 1 ≤ (0 : Int)); omega)]
  rfl
/-- The last body's two steps. -/
theorem look_two {pre : List UInt8} {n : Int} {ts : List Ty} {gl : List (UInt8 × Bool)} {loc : List UInt8} {code : List Ins} (h1 : -9223372036854775808 ≤ n) (h2 : n < 9223372036854775808) (m : Nat) :
    lookM ⟨pre ++ (66 :: (sB n ++ [11])), ts, gl, loc⟩ (m + 3) ⟨pre.length, code, [], [⟨0, [126], 0, 0, []⟩], 0, false⟩ = .ok ⟨pre.length + 1 + (sB n).length + 1, code ++ [⟨66, (n % 18446744073709551616).toNat, 0, 0, 0⟩] ++ [⟨11, 0, 0, 0, 0⟩], [126], [], pre.length + 1 + (sB n).length, false⟩ := by
  have e1 : byteM (pre ++ (66 :: (sB n ++ [11]))) pre.length = .ok (66, pre.length + 1) := by
    unfold byteM
    rw [if_pos (by simp)]
    simp [List.getD_eq_getElem?_getD]
  have e2 : S64M (pre ++ (66 :: (sB n ++ [11]))) (pre.length + 1) = .ok (n, pre.length + 1 + (sB n).length) := by
    have := S64_at (pre ++ [66]) [11] h1 h2
    simpa using this
  have e3 : byteM (pre ++ (66 :: (sB n ++ [11]))) (pre.length + 1 + (sB n).length) = .ok (11, pre.length + 1 + (sB n).length + 1) := by
    unfold byteM
    rw [if_pos (by simp; omega)]
    congr 2
    rw [show pre ++ (66 :: (sB n ++ [11])) = (pre ++ [66] ++ sB n) ++ [11] by simp, List.getD_eq_getElem?_getD, List.getElem?_append_right (by simp; omega)]
    have hz : pre.length + 1 + (sB n).length - (pre ++ ([66] : List UInt8) ++ sB n).length = 0 := by simp; omega
    rw [hz]
    rfl
  have f1 : findM 66 = some ⟨66, 66, 3, [], [126]⟩ := by kernel_rfl
  have g1 : stepM ⟨pre ++ (66 :: (sB n ++ [11])), ts, gl, loc⟩ ⟨pre.length, code, [], [⟨0, [126], 0, 0, []⟩], 0, false⟩ = .ok ⟨pre.length + 1 + (sB n).length, code ++ [⟨66, (n % 18446744073709551616).toNat, 0, 0, 0⟩], [126], [⟨0, [126], 0, 0, []⟩], pre.length, false⟩ := by
    unfold stepM
    simp only [e1, f1]
    rw [if_neg (by simp), if_neg (by decide)]
    unfold plainB behindM
    simp only
    rw [if_neg (by decide), if_neg (by decide), if_pos trivial, e2]
    rfl
  have g2 : stepM ⟨pre ++ (66 :: (sB n ++ [11])), ts, gl, loc⟩ ⟨pre.length + 1 + (sB n).length, code ++ [⟨66, (n % 18446744073709551616).toNat, 0, 0, 0⟩], [126], [⟨0, [126], 0, 0, []⟩], pre.length, false⟩ = .ok ⟨pre.length + 1 + (sB n).length + 1, code ++ [⟨66, (n % 18446744073709551616).toNat, 0, 0, 0⟩] ++ [⟨11, 0, 0, 0, 0⟩], [126], [], pre.length + 1 + (sB n).length, false⟩ := by
    unfold stepM
    simp only [e3]
    rfl
  have hl : (pre ++ (66 :: (sB n ++ [11]))).length = pre.length + 1 + (sB n).length + 1 := by simp; omega
  rw [lookM, if_neg (by simp), g1]
  simp only
  rw [lookM, if_neg (by simp), g2]
  simp only
  rw [lookM, if_pos rfl, if_neg (by simp only [hl]; omega)]
end Go.Proofs.YtdeplgkhmebalaaGreatDoor

namespace Go.Proofs.YtdeplgkhmebalaaGreatDoor
open Go.RowKit

theorem body_two {pre tail : List UInt8} {n : Int} {ts : List Ty} {gl : List (UInt8 × Bool)} {code : List Ins} (h1 : -9223372036854775808 ≤ n) (h2 : n < 9223372036854775808) :
    bodyM (pre ++ (UInt8.ofNat ((sB n).length + 3) :: 0 :: 66 :: (sB n ++ (11 :: tail)))) ts gl ([], [126]) code pre.length = .ok ((⟨([], [126]), 0, code.length⟩, code ++ [⟨66, (n % 18446744073709551616).toNat, 0, 0, 0⟩] ++ [⟨11, 0, 0, 0, 0⟩]), pre.length + 1 + ((sB n).length + 3)) := by
  obtain ⟨-, hl⟩ := sof_B n h1 h2
  have hx : (UInt8.ofNat ((sB n).length + 3)).toNat = (sB n).length + 3 := by rw [UInt8.toNat_ofNat']; omega
  have hU : UM (pre ++ (UInt8.ofNat ((sB n).length + 3) :: 0 :: 66 :: (sB n ++ (11 :: tail)))) pre.length = .ok ((sB n).length + 3, pre.length + 1) := by
    have := UM_one (D := pre ++ (UInt8.ofNat ((sB n).length + 3) :: 0 :: 66 :: (sB n ++ (11 :: tail)))) (i := pre.length) (x := UInt8.ofNat ((sB n).length + 3)) (by omega) (by simp)
    rwa [hx] at this
  have hP : (pre ++ (UInt8.ofNat ((sB n).length + 3) :: 0 :: 66 :: (sB n ++ (11 :: tail)))).take (pre.length + 1 + ((sB n).length + 3)) = (pre ++ [UInt8.ofNat ((sB n).length + 3), 0]) ++ (66 :: (sB n ++ [11])) := by
    have e : pre ++ (UInt8.ofNat ((sB n).length + 3) :: 0 :: 66 :: (sB n ++ (11 :: tail))) = ((pre ++ [UInt8.ofNat ((sB n).length + 3), 0]) ++ (66 :: (sB n ++ [11]))) ++ tail := by simp
    rw [e]
    exact List.take_left' (by simp; omega)
  have hL : listM ((pre ++ [UInt8.ofNat ((sB n).length + 3), 0]) ++ (66 :: (sB n ++ [11]))) 32 (pre.length + 1) = .ok ([], pre.length + 1 + 1) := list_none (by
    rw [List.append_assoc, List.getElem?_append_right (by omega), show pre.length + 1 - pre.length = 1 by omega]
    rfl)
  have hlk := look_two (pre := pre ++ [UInt8.ofNat ((sB n).length + 3), 0]) (n := n) (ts := ts) (gl := gl) (loc := []) (code := code) h1 h2 1998
  rw [show (pre ++ [UInt8.ofNat ((sB n).length + 3), (0 : UInt8)]).length = pre.length + 1 + 1 by simp] at hlk
  unfold bodyM
  rw [hU]
  simp only
  rw [if_neg (by simp; omega), hP]
  simp only [List.length_nil, Nat.sub_zero, hL, List.append_nil]
  rw [hlk]
end Go.Proofs.YtdeplgkhmebalaaGreatDoor

namespace Go.Proofs.YtdeplgkhmebalaaGreatDoor
open Go.RowKit

def cutHead : List UInt8 := [83, 84, 75, 1, 2, 1, 127, 1, 127, 0, 1, 126, 2, 0, 1, 1, 126, 1, 5, 2, 39, 1, 127, 0x23, 0, 0x42, 1, 0x7c, 0x24, 0, 0x02, 0x40, 0x03, 0x40, 0x20, 0, 0x45, 0x0d, 1, 0x20, 1, 0x20, 0, 0x6a, 0x21, 1, 0x20, 0, 0x41, 1, 0x6b, 0x21, 0, 0x0c, 0, 0x0b, 0x0b, 0x20, 1, 11]
def cutTs : List Ty := [([127], [127]), ([], [126])]
def cutFn (n : Int) : FnS := ⟨[], [126], [], 66 :: sB n⟩
def cutC : List Ins := match bodyM cutHead cutTs [(126, true)] ([127], [127]) [] 20 with
  | .ok ((_, c), _) => c
  | .error _ => []
theorem cut_len : cutHead.length = 60 := rfl
section
variable (R : List UInt8)
set_option maxRecDepth 100000 in
theorem cut_magic : magicM (cutHead ++ R) 0 = .ok ((), 4) := by kernel_rfl
set_option maxRecDepth 100000 in
theorem cut_types : typesM (cutHead ++ R) 4 = .ok (cutTs, 12) := by kernel_rfl
set_option maxRecDepth 100000 in
theorem cut_funcs : funcsM (cutHead ++ R) cutTs 12 = .ok (cutTs, 15) := by kernel_rfl
set_option maxRecDepth 100000 in
theorem cut_globs : globsM (cutHead ++ R) 15 = .ok ([((126, true), 5)], 19) := by kernel_rfl
set_option maxRecDepth 100000 in
theorem cut_pages : belowM (cutHead ++ R) 5 19 = .ok (2, 20) := by kernel_rfl
set_option maxRecDepth 100000 in
theorem cut_first : bodyM (cutHead ++ R) cutTs [(126, true)] ([127], [127]) [] 20 = .ok ((⟨([127], [127]), 2, 0⟩, cutC), 60) := by kernel_rfl
end
/-- The bytes of the last body, and what may come behind. -/
def cutRest (n : Int) (tail : List UInt8) : List UInt8 := UInt8.ofNat ((sB n).length + 3) :: 0 :: 66 :: (sB n ++ (11 :: tail))
def cutF (n : Int) : Flat := ⟨[⟨([127], [127]), 2, 0⟩, ⟨([], [126]), 0, cutC.length⟩], [5], 2, cutC ++ [⟨66, (n % 18446744073709551616).toNat, 0, 0, 0⟩] ++ [⟨11, 0, 0, 0, 0⟩]⟩
section
variable {n : Int} (h1 : -9223372036854775808 ≤ n) (h2 : n < 9223372036854775808)
include h1 h2
theorem cut_bodies (tail : List UInt8) : bodiesM (cutHead ++ cutRest n tail) cutTs [(126, true)] cutTs [] 20 = .ok (([⟨([127], [127]), 2, 0⟩, ⟨([], [126]), 0, cutC.length⟩], cutC ++ [⟨66, (n % 18446744073709551616).toNat, 0, 0, 0⟩] ++ [⟨11, 0, 0, 0, 0⟩]), 64 + (sB n).length) := by
  have hb := body_two (pre := cutHead) (tail := tail) (ts := cutTs) (gl := [(126, true)]) (code := cutC) h1 h2
  rw [cut_len] at hb
  unfold cutTs at hb ⊢
  rw [bodiesM, show ([([127], [127]), ([], [126])] : List Ty) = cutTs from rfl, cut_first]
  simp only
  rw [bodiesM]
  unfold cutRest
  rw [show cutTs = [([127], [127]), ([], [126])] from rfl, hb]
  simp only
  rw [bodiesM]
  simp only
  congr 2
  omega
theorem cut_load (tail : List UInt8) (ht : tail.length ≤ 1) : loadM (cutHead ++ cutRest n tail) = if tail = [] then .ok (cutF n) else .error (2, ((64 + (sB n).length : Nat) : Int)) := by
  have hl : (cutHead ++ cutRest n tail).length = 64 + (sB n).length + tail.length := by
    rw [List.length_append, cut_len]
    simp [cutRest]
    omega
  obtain ⟨-, hL⟩ := sof_B n h1 h2
  unfold loadM
  rw [if_neg (by omega), cut_magic]
  simp only
  rw [cut_types]
  simp only
  rw [cut_funcs]
  simp only
  rw [cut_globs]
  simp only
  rw [cut_pages]
  simp only [List.map_cons, List.map_nil]
  rw [cut_bodies h1 h2]
  simp only
  by_cases h : tail = []
  · subst h
    rw [if_neg (by rw [hl]; simp), if_pos rfl]
    rfl
  · have : 0 < tail.length := List.length_pos_iff.2 h
    rw [if_pos (by omega), if_neg h]
end
end Go.Proofs.YtdeplgkhmebalaaGreatDoor

namespace Go.Proofs.YtdeplgkhmebalaaGreatDoor
open Go.RowKit

def cutPlace (k : Nat) : Nat := if 60 < k then 60 else if 20 < k ∧ k < 60 then 20 else k
def errIs (r : Except (Int × Int) Flat) (p : Nat) : Bool := match r with
  | .ok _ => false
  | .error e => e.1 == 2 && e.2 == (p : Int)
theorem errIs_eq {r : Except (Int × Int) Flat} {p : Nat} (h : errIs r p = true) : r = .error (2, (p : Int)) := by
  cases r with
  | ok f => cases h
  | error e =>
    obtain ⟨e1, e2⟩ := e
    simp only [errIs, Bool.and_eq_true, beq_iff_eq] at h
    rw [h.1, h.2]
set_option maxRecDepth 100000 in
theorem cut_heads : ((List.range 61).all fun k => errIs (loadM (cutHead.take k)) (cutPlace k)) = true := by kernel_rfl
theorem cut_short {L : Nat} {x : UInt8} {r : List UInt8} (hx : x.toNat = L + 3) (hL : L ≤ 10) (hr : r.length < L + 3) : loadM (cutHead ++ (x :: r)) = .error (2, 60) := by
  have hl : (cutHead ++ (x :: r)).length = 61 + r.length := by
    rw [List.length_append, cut_len]
    simp
    omega
  have hU : UM (cutHead ++ (x :: r)) 60 = .ok (L + 3, 61) := by
    have := UM_one (D := cutHead ++ (x :: r)) (i := 60) (x := x) (by omega) (by
      rw [List.getElem?_append_right (by rw [cut_len]; omega), cut_len]
      rfl)
    rwa [hx] at this
  have hb : bodyM (cutHead ++ (x :: r)) cutTs [(126, true)] ([], [126]) cutC 60 = .error (2, 60) := by
    unfold bodyM
    rw [hU]
    simp only
    rw [if_pos (by omega)]
    rfl
  have hbs : bodiesM (cutHead ++ (x :: r)) cutTs [(126, true)] cutTs [] 20 = .error (2, 60) := by
    rw [show bodiesM (cutHead ++ (x :: r)) cutTs [(126, true)] cutTs [] 20 = bodiesM (cutHead ++ (x :: r)) cutTs [(126, true)] [([127], [127]), ([], [126])] [] 20 from rfl, bodiesM, cut_first]
    simp only
    rw [bodiesM, hb]
  unfold loadM
  rw [if_neg (by omega), cut_magic]
  simp only
  rw [cut_types]
  simp only
  rw [cut_funcs]
  simp only
  rw [cut_globs]
  simp only
  rw [cut_pages]
  simp only [List.map_cons, List.map_nil]
  rw [hbs]
section
variable {n : Int} (h1 : -9223372036854775808 ≤ n) (h2 : n < 9223372036854775808)
include h1 h2
theorem cut_prefix {k : Nat} (hk : k < 64 + (sB n).length) : loadM ((cutHead ++ cutRest n []).take k) = .error (2, (cutPlace k : Int)) := by
  obtain ⟨-, hL⟩ := sof_B n h1 h2
  by_cases hk60 : k ≤ 60
  · rw [List.take_append_of_le_length (by rw [cut_len]; exact hk60)]
    exact errIs_eq (List.all_eq_true.1 cut_heads k (List.mem_range.2 (by omega)))
  · have hx : (UInt8.ofNat ((sB n).length + 3)).toNat = (sB n).length + 3 := by rw [UInt8.toNat_ofNat']; omega
    obtain ⟨d, rfl⟩ : ∃ d, k = 60 + (d + 1) := ⟨k - 61, by omega⟩
    rw [show 60 + (d + 1) = cutHead.length + (d + 1) by rw [cut_len], List.take_length_add_append]
    unfold cutRest
    rw [List.take_succ_cons, cut_short hx hL (by rw [List.length_take]; simp; omega), cut_len]
    unfold cutPlace
    rw [if_pos (by omega)]
    rfl
end
theorem cut_flat {n : Int} (_h1 : -9223372036854775808 ≤ n) (_h2 : n < 9223372036854775808) : FlatOk (cutF n) := flatOk_of (by kernel_rfl)
set_option maxRecDepth 100000 in
theorem cut_two (X : List UInt8) (hX : X.length ≤ 1900) : loadM ([83, 84, 75, 2] ++ X) = .error (2, 3) := by
  have hm : magicM ([83, 84, 75, 2] ++ X) 0 = .error (2, 3) := by kernel_rfl
  unfold loadM
  rw [if_neg (by simp; omega), hm]
end Go.Proofs.YtdeplgkhmebalaaGreatDoor

namespace Go.Proofs.YtdeplgkhmebalaaGreatDoor
open Go.RowKit

set_option maxRecDepth 100000 in
theorem cut_mod0 (n : Int) : moduleB 2 [loFn, cutFn n] = cutHead ++ (bodyB (cutFn n) ++ []) := by kernel_rfl
section
variable {n : Int} (h1 : -9223372036854775808 ≤ n) (h2 : n < 9223372036854775808)
include h1 h2
theorem cut_mod : moduleB 2 [loFn, cutFn n] = cutHead ++ cutRest n [] := by
  obtain ⟨-, hL⟩ := sof_B n h1 h2
  rw [cut_mod0, List.append_nil]
  congr 1
  have hb : bodyIn (cutFn n) = 0 :: 66 :: (sB n ++ [11]) := rfl
  have hl : (bodyIn (cutFn n)).length = (sB n).length + 3 := by rw [hb]; simp
  unfold bodyB
  rw [hl, hb]
  have hu : uB ((sB n).length + 3) = [UInt8.ofNat ((sB n).length + 3)] := by
    unfold uB
    rw [uF, if_pos (by omega)]
  rw [hu]
  rfl
end
def cutG (q : Nat) : Flat := ⟨[⟨([127], [127]), 2, 0⟩, ⟨([], [126]), 0, cutC.length⟩], [5], 2, cutC ++ [⟨66, q, 0, 0, 0⟩] ++ [⟨11, 0, 0, 0, 0⟩]⟩
set_option maxRecDepth 100000 in
theorem cutG_run (q : Nat) (mem : List UInt8) (gl : List Int) (keys : List (Int × Int)) : callR (cutG q) 1 [] 100000 mem gl keys 8 = some (0, (q : Int), 1, ⟨[(q : Int)], [], 0, 99999, mem, gl, keys⟩) := by kernel_rfl
set_option maxRecDepth 100000 in
theorem cut_ref (n : Int) : refusesM (cutF n) ((1 : Nat) : Int) [] ((100000 : Nat) : Int) = 0 := by kernel_rfl
theorem cutF_run (n : Int) (mem : List UInt8) (gl : List Int) (keys : List (Int × Int)) : callR (cutF n) 1 [] 100000 mem gl keys 8 = some (0, (((n % 18446744073709551616).toNat : Nat) : Int), 1, ⟨[(((n % 18446744073709551616).toNat : Nat) : Int)], [], 0, 99999, mem, gl, keys⟩) := cutG_run (n % 18446744073709551616).toNat mem gl keys
theorem cut_sizes (n : Int) : (List.replicate ((cutF n).pages * 64) (0 : UInt8)).length ≤ 1000000 ∧ ((cutF n).globals.map fun (k : Nat) => ((k : Nat) : Int)).length ≤ 1000000 := by
  rw [List.length_replicate, List.length_map]
  exact ⟨(by show 2 * 64 ≤ 1000000; decide), (by show 1 ≤ 1000000; decide)⟩
theorem cut_gives {w w' : World} {ib tb : Nat} {n : Int} (h1 : -9223372036854775808 ≤ n) (h2 : n < 9223372036854775808) (hI : Inst w w' ib tb (cutF n) (List.replicate ((cutF n).pages * 64) 0) ((cutF n).globals.map fun (k : Nat) => ((k : Nat) : Int)) []) :
    Calls Tryz.prog 22 #[ptrTo ib, .int .i64 1, .slice none 0 0, .int .u64 (((n % 18446744073709551616).toNat : Nat) : Int), .int .i64 1] w' fun r w'' => r = .returned (.bool true) ∧ Kp (ibtb ib tb) w' w'' := by
  have h := gives_keep (n := 1) (K := 8) (u := 1) hI (cut_flat h1 h2) (av := .slice none 0 0) (args := []) (RowAt.nil _ 1) (by simp) (fun y hy => by cases hy) (cut_ref n) (by omega) (cutF_run n _ _ _) ⟨(cut_sizes n).1, (cut_sizes n).2, by simp⟩
  exact h.mono fun r w'' ⟨a, _, c⟩ => ⟨a, c⟩
theorem cut_started {w : World} {dv : Value} {n : Int} (h1 : -9223372036854775808 ≤ n) (h2 : n < 9223372036854775808) (hb : BytesAt w dv (cutHead ++ cutRest n [])) (hd : ∀ b, dv.ownBlock = some b → b < w.heap.size) (hR : RowsOk w) :
    Calls Tryz.prog 21 #[dv] w fun r w' => (∃ ib tb, r = .returned (.tuple #[ptrTo ib, ptrTo tb, .bool true]) ∧ Inst w w' ib tb (cutF n) (List.replicate ((cutF n).pages * 64) 0) ((cutF n).globals.map fun (k : Nat) => ((k : Nat) : Int)) []) ∧ Kp no w w' := by
  obtain ⟨-, hLl⟩ := sof_B n h1 h2
  refine started_keep hb hd hR ?_ (by rw [cut_load h1 h2 [] (by simp), if_pos rfl]) (cut_flat h1 h2).pg (cut_flat h1 h2).gl
  rw [List.length_append, cut_len]
  simp [cutRest]
  omega
end Go.Proofs.YtdeplgkhmebalaaGreatDoor
