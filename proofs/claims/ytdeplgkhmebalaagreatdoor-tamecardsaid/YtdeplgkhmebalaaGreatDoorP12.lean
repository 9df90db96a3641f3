/- The program's reader of bytes: one byte of several, a part; two rows of bytes held against one another. -/
import Derived.Test.YtdeplgkhmebalaaGreatDoorP04
import Derived.Test.YtdeplgkhmebalaaGreatDoorP05
import Derived.Lib.Bytealg
import Derived.Lib.Walk
import Derived.Lib.Slices
import Derived.Laws.BytesArg
import Derived.Shelf.Bytes.SlSmallAll
import Derived.Test.YtdeplgkhmebalaaGreatDoorP07

namespace Go.Proofs.YtdeplgkhmebalaaGreatDoor
open Go.RowKit
set_option maxRecDepth 100000 in
set_option maxHeartbeats 400000 in
theorem slite_any (s : ByteArray) (c : Int) (w : World) : Calls Tryz.prog 176 #[.string s, .int .u8 c] w fun e w' => e = .returned (.int .i64 (Lib.indexByte s.data.toList c.toNat.toUInt8)) ∧ w' = w := by
  go_enter Tryz.func176, Tryz.ntmps176
  go_wp2
  rw [run_callFunc_extern Tryz.func206 (by kernel_rfl) (by kernel_rfl) (by kernel_rfl) (e := Extern.BytealgIndexByte.indexByte) (by kernel_rfl), Lib.run_indexByteString]
  simp only [Result.andThen]
  rw [Oper.upon_value]
  go_wp2
  go_ret
  exact ⟨rfl, rfl⟩
set_option maxHeartbeats 400000 in
theorem index_any (s : ByteArray) (c : Int) (w : World) : Calls Tryz.prog 139 #[.string s, .int .u8 c] w fun e w' => e = .returned (.int .i64 (Lib.indexByte s.data.toList c.toNat.toUInt8)) ∧ w' = w := by
  have h := slite_any s c w
  generalize Lib.indexByte s.data.toList c.toNat.toUInt8 = n at *
  have H := hide h
  clear h
  go_enter Tryz.func139, Tryz.ntmps139
  go_wp2_with fail
  refine H.out.mono ?_
  rintro e w' ⟨rfl, rfl⟩
  go_wp2
  go_ret
  exact ⟨rfl, rfl⟩
theorem indexByte_mem (l : List UInt8) (c : UInt8) : (if c ∈ l then (0 ≤ Lib.indexByte l c) else Lib.indexByte l c = -1) := by
  induction l with
  | nil => rfl
  | cons b l ih =>
    unfold Lib.indexByte
    by_cases hb : b = c
    · subst hb; simp
    · have h1 : (b == c) = false := by simpa using hb
      by_cases hm : c ∈ l
      · rw [if_pos hm] at ih
        rw [if_pos (List.mem_cons_of_mem _ hm), if_neg (by simp [h1]), if_neg (by simp; omega)]
        omega
      · rw [if_neg hm] at ih
        rw [if_neg (by simp [hm]; exact fun e => hb e.symm), if_neg (by simp [h1]), if_pos (by simp [ih])]
def oneOfM (D : List UInt8) (allowed : List UInt8) (i : Nat) : Except (Int × Int) (UInt8 × Nat) :=
  match byteM D i with
  | .error e => .error e
  | .ok (c, j) => if c ∈ allowed then .ok (c, j) else .error (2, i)
set_option maxRecDepth 100000 in
set_option maxHeartbeats 1000000 in
theorem oneOf_any {w : World} {rb : Nat} {dv : Value} {D : List UInt8} {i : Nat} (h : RSt w rb dv D i) (s : ByteArray) (al : List UInt8) (hal : s.data.toList = al) :
    Calls Tryz.prog 104 #[ptrTo rb, .string s] w fun r w' => Gives w w' rb dv D (fun c v => v = .int .u8 (UInt8.toNat c)) (.int .u8 0) (oneOfM D al i) r ∧ Kp (one rb) w w' := by
  have hM : oneOfM D al i = (match byteM D i with | .error e => .error e | .ok (c, j) => if c ∈ al then .ok (c, j) else .error (2, i)) := rfl
  generalize oneOfM D al i = R at *
  have hg := byte_any h
  obtain ⟨hc, -⟩ := cells_of h.blk
  generalize byteM D i = Q at *
  have Hg := hide hg
  have HA := hide hal
  clear hg h hal
  match Q, hM, Hg with
  | .error e, hM, Hg =>
    have HM := hide hM
    clear hM
    go_enter Tryz.func104, Tryz.ntmps104
    go_wp2_with fail
    refine Hg.out.mono ?_
    rintro r w1 ⟨⟨fv, j, rfl, ⟨fb, rfl, hfb, hfo⟩, h1⟩, k1⟩
    have H1 := hide h1
    have HF := hide hfo
    clear h1 hfo
    go_wp2
    go_ret2
    rw [HM.out]
    exact ⟨⟨ptrTo fb, j, rfl, ⟨fb, rfl, hfb, HF.out⟩, H1.out⟩, k1⟩
  | .ok (c, j), hM, Hg =>
    have hix := index_any s (c.toNat : Int)
    have hmem := indexByte_mem al c
    rw [HA.out, show ((c.toNat : Int).toNat.toUInt8) = c by simp] at hix
    generalize Lib.indexByte al c = n at *
    have HX := hide hix
    clear hix
    by_cases hcm : c ∈ al
    · simp only [if_pos hcm] at hM hmem
      have HM := hide hM
      clear hM hcm
      go_enter Tryz.func104, Tryz.ntmps104
      go_wp2_with fail
      refine Hg.out.mono ?_
      rintro r w1 ⟨⟨v, rfl, rfl, h1⟩, k1⟩
      have H1 := hide h1
      clear h1
      go_wp2_with fail
      refine (HX.out _).mono ?_
      rintro r w2 ⟨rfl, rfl⟩
      go_wp2
      go_ret2
      rw [HM.out]
      exact ⟨⟨_, rfl, rfl, H1.out⟩, k1⟩
    · simp only [if_neg hcm] at hM hmem
      have HM1 := hide hM
      clear hM hcm
      go_enter Tryz.func104, Tryz.ntmps104
      go_wp2_with fail
      refine Hg.out.mono ?_
      rintro r w1 ⟨⟨v, rfl, rfl, h1⟩, k1⟩
      have H1 := hide h1
      clear h1
      go_wp2_with fail
      refine (HX.out _).mono ?_
      rintro r w2 ⟨rfl, rfl⟩
      subst hmem
      go_wp2_with fail
      refine (form_any _ _).mono ?_
      rintro r w9 ⟨rfl, rfl⟩
      go_wp2
      go_ret2
      rw [HM1.out]
      exact ⟨⟨ptrTo w2.heap.size, j, rfl, ⟨w2.heap.size, rfl, k1.size, heap_alloc_new _ _⟩, H1.out.kp ((Kp.refl no w2).alloc _) (fun h => h) (fun _ _ _ h => h)⟩, k1.alloc _⟩
theorem BytesAt.take {w : World} {a o cap : Nat} {l : List UInt8} (h : BytesAt w (.slice (some ⟨a, o, none⟩) l.length cap) l) (n : Nat) (hn : n ≤ l.length) : BytesAt w (.slice (some ⟨a, o, none⟩) n cap) (l.take n) := by
  rcases h.cases with ⟨hv, -⟩ | ⟨a', o', cap', hv, hc, hcell⟩
  · cases hv
  · cases hv
    have hl : (l.take n).length = n := by simp; omega
    have := BytesAt.mk (w := w) (a := a) (o := o) (cap := cap) (l := l.take n) (by omega) (fun k hk => by
      rw [hcell k (by omega)]
      simp only [List.getD, List.getElem?_take, if_pos (show k < n by omega)])
    rwa [hl] at this
theorem size_setCell (w : World) (p : Addr) (v : Value) : (w.setCell p v).heap.size = w.heap.size := by simp [World.setCell]
theorem wrap_small (n : Nat) (h : n < 9223372036854775808) : IntKind.i64.wrap (n : Int) = (n : Int) := by
  simp only [IntKind.wrap, IntKind.signed, IntKind.bits]
  simp
  split <;> omega
set_option maxRecDepth 100000 in
set_option maxHeartbeats 1000000 in
theorem part_any {w : World} {rb : Nat} {dv : Value} {D : List UInt8} {i : Nat} (h : RSt w rb dv D i) (n : Nat) (hn : i + n ≤ D.length) (hpos : 0 < D.length) :
    Calls Tryz.prog 113 #[ptrTo rb, .int .i64 n] w fun r w' => (∃ pb dv', r = .returned (ptrTo pb) ∧ w.heap.size ≤ pb ∧ RSt w' pb dv' (D.take (i + n)) i ∧ (∀ b, dv'.ownBlock = some b → dv.ownBlock = some b) ∧ RSt w' rb dv D (i + n)) ∧ Kp (one rb) w w' := by
  obtain ⟨hc, hf⟩ := cells_of h.blk
  have hl := h.len
  have hlt := lt_of_blk h.blk
  have HB := hide h
  rcases h.bytes.cases with ⟨rfl, hD⟩ | ⟨a, o, cap, rfl, hcap, -⟩
  · subst hD; simp at hpos
  · have hi0 : (0 : Int) ≤ (i : Int) + n := by omega
    have hi1 : (i : Int) + n ≤ cap := by omega
    have hw : IntKind.i64.wrap ((i : Int) + n) = (i : Int) + n := by rw [show (i : Int) + n = ((i + n : Nat) : Int) by simp]; exact wrap_small _ (by omega)
    clear h
    go_enter Tryz.func113, Tryz.ntmps113
    go_wp2_with fail
    go_region_held3 (fun w' => w'.cell? ⟨rb, 0, none⟩ = some (.slice (some ⟨a, o, none⟩) D.length cap) ∧ w'.cell? ⟨rb, 1, none⟩ = some (.int .i64 i)) (go_keep) (fail)
    go_wp2
    go_ret
    have ha : a < w.heap.size := by
      rcases HB.out.bytes.cases with ⟨hv, -⟩ | ⟨a', o', cap', hv, -, hcell⟩
      · cases hv
      · cases hv
        have hx := hcell 0 hpos
        rcases Nat.lt_or_ge a w.heap.size with h1 | h1
        · exact h1
        · rw [World.cell?, Array.getElem?_eq_none h1] at hx; cases hx
    have hlen : (D.take (i + n)).length = i + n := by simp; omega
    have k2 : Kp (one rb) w ((w.setCell ⟨rb, 1, none⟩ (.int .i64 ((i : Int) + n))).alloc (rdObj (.slice (some ⟨a, o, none⟩) (i + n) cap) i)).drew := (((Kp.refl (one rb) w).set1 1 (.int .i64 ((i : Int) + n))).alloc _).drew
    refine ⟨⟨w.heap.size, .slice (some ⟨a, o, none⟩) (i + n) cap, rfl, Nat.le_refl _, ⟨?_, ?_, ?_, by omega, by omega⟩, fun b hb => hb, HB.out.step k2 ?_ hn⟩, k2⟩
    · have := heap_alloc_new (w.setCell ⟨rb, 1, none⟩ (.int .i64 ((i : Int) + n))) (rdObj (.slice (some ⟨a, o, none⟩) (i + n) cap) i)
      rw [size_setCell] at this
      exact this
    · exact (HB.out.bytes.kp k2 (fun b hb e => HB.out.sep b hb e)).take (i + n) hn
    · intro b hb; cases hb; exact Nat.ne_of_lt ha
    · exact heap_alloc_old (heap_setCell HB.out.blk _)
set_option maxHeartbeats 400000 in
theorem equal_any {w : World} {v1 v2 : Value} {l1 l2 : List UInt8} (h1 : BytesAt w v1 l1) (h2 : BytesAt w v2 l2) :
    Calls Tryz.prog 287 #[v1, v2] w fun r w' => r = .returned (.bool (l1 == l2)) ∧ w' = w := by
  have key : ∀ {v : Value} {l : List UInt8}, BytesAt w v l → (convert 25 9 v).run Tryz.prog w = .ok (.string ⟨l.toArray⟩) w := by
    intro v l h
    have e : ∀ l : List UInt8, strOfNums (l.map fun c => (c.toNat : Int)) = ⟨l.toArray⟩ := by
      intro l
      simp [strOfNums]
      exact List.map_id'' (fun c => by simp) l
    rcases h.cases with ⟨rfl, rfl⟩ | ⟨a, o, cap, rfl, hc, hcell⟩
    · exact run_convert_bytes_zero w 25 5 Tryz.underlying25 Tryz.underlying5 none 0 9 Tryz.underlying9
    · rw [run_convert_bytes_arg w 25 5 Tryz.underlying25 Tryz.underlying5 a o l.length cap (l.map fun c => (c.toNat : Int)) (by simp) (fun i hi => by rw [hcell i hi]; simp [List.getD, List.getElem?_eq_getElem hi]) 9 Tryz.underlying9, e]
  have k1 := key h1
  have k2 := key h2
  have q : ((⟨l1.toArray⟩ : ByteArray) == ⟨l2.toArray⟩) = (l1 == l2) := by
    show (l1.toArray == l2.toArray) = _
    simp
  clear key h1 h2
  go_enter Tryz.func287, Tryz.ntmps287
  go_wp2
  go_ret
  exact ⟨rfl, rfl⟩
def noBk : Bk := ⟨0, [], 0, 0, []⟩
def Bd.bk (s : Bd) (k : Nat) : Bk := s.blocks.getD k noBk
def Bd.top (s : Bd) : Bk := s.bk (s.blocks.length - 1)
def takeAnyM (s : Bd) : Option (UInt8 × Bd) :=
  if s.stack.length ≤ s.top.height then none else some (s.stack.getD (s.stack.length - 1) 0, { s with stack := s.stack.take (s.stack.length - 1) })
def takeM (s : Bd) (t : UInt8) : Option Bd :=
  match takeAnyM s with
  | none => none
  | some (u, s') => if u = t then some s' else none
def takeN (ts : List UInt8) : Nat → Bd → Option Bd
  | 0, s => some s
  | k + 1, s => match takeM s (ts.getD k 0) with
    | none => none
    | some s' => takeN ts k s'
def takeAllM (s : Bd) (ts : List UInt8) : Option Bd := takeN ts ts.length s
def putM (s : Bd) (ts : List UInt8) : Bd := { s with stack := s.stack ++ ts }
def emitM (s : Bd) (x : Ins) : Bd := { s with code := s.code ++ [x] }
def valueM (b : Bk) : List UInt8 := if b.kind = 2 then [] else b.result
def carriesM (s : Bd) (k : Nat) : Option Bd := (takeAllM s (valueM (s.bk k))).map fun s' => putM s' (valueM (s.bk k))
def jumpM (s : Bd) (op : UInt8) (k : Nat) : Bd :=
  if (s.bk k).kind = 2 then emitM s ⟨op, 0, (s.bk k).start, (s.bk k).height, (valueM (s.bk k)).length⟩
  else emitM { s with blocks := s.blocks.set k { s.bk k with waits := (s.bk k).waits ++ [s.code.length] } } ⟨op, 0, 0, (s.bk k).height, (valueM (s.bk k)).length⟩
def aimM (s : Bd) (n : Nat) : Bd := { s with code := s.code.set n { s.code.getD n ⟨0, 0, 0, 0, 0⟩ with goal := s.code.length } }
def fullM (s : Bd) (k : Nat) : Bool := s.closed || s.stack.drop (s.bk k).height == (s.bk k).result
abbrev Res := Except (Int × Int) Bd
def wrongM (s : Bd) : Res := .error (3, s.pos)
def labelM (c : Ctx) (s : Bd) : Except (Int × Int) (Nat × Bd) :=
  match belowM c.D s.blocks.length s.i with
  | .error e => .error e
  | .ok (n, j) => .ok (s.blocks.length - 1 - n, { s with i := j })
def stopM (s : Bd) : Res := .ok { emitM s ⟨0, 0, 0, 0, 0⟩ with closed := true }
def openM (c : Ctx) (op : UInt8) (s : Bd) : Res :=
  match oneOfM c.D [127, 126, 64] s.i with
  | .error e => .error e
  | .ok (t, j) =>
    match (if op = 4 then takeM { s with i := j } 127 else some { s with i := j }) with
    | none => wrongM s
    | some s1 =>
      if s1.blocks.length - 1 = 16 then wrongM s
      else .ok { emitM s1 ⟨op, 0, 0, if op = 4 then s1.stack.length else 0, 0⟩ with blocks := s1.blocks ++ [⟨if op = 3 then 2 else if op = 4 then 3 else 1, if t = 64 then [] else [t], s1.stack.length, s1.code.length + 1, []⟩] }
def turnM (s : Bd) : Res :=
  if s.top.kind ≠ 3 ∨ fullM s (s.blocks.length - 1) = false then wrongM s
  else
    let s1 := aimM (jumpM s 5 (s.blocks.length - 1)) (s.top.start - 1)
    .ok { s1 with blocks := s1.blocks.set (s1.blocks.length - 1) { s1.top with kind := 4 }, stack := s1.stack.take s1.top.height, closed := false }
def aimAll (l : List Nat) (s : Bd) : Bd := l.foldl aimM s
def endM (s : Bd) : Res :=
  if fullM s (s.blocks.length - 1) = false ∨ (s.top.kind = 3 ∧ s.top.result ≠ []) then wrongM s
  else
    let s1 := if s.top.kind = 3 then aimM s (s.top.start - 1) else s
    let s2 := aimAll s.top.waits s1
    let s3 := if s.top.kind = 0 then emitM s2 ⟨11, 0, 0, 0, 0⟩ else s2
    .ok { s3 with stack := s3.stack.take s.top.height ++ s.top.result, blocks := s3.blocks.take (s3.blocks.length - 1), closed := false }
def branchM (c : Ctx) (op : UInt8) (s : Bd) : Res :=
  match labelM c s with
  | .error e => .error e
  | .ok (k, s1) =>
    match (if op = 13 then takeM s1 127 else some s1) with
    | none => wrongM s
    | some s2 =>
      match carriesM s2 k with
      | none => wrongM s
      | some s3 => .ok { jumpM s3 op k with closed := op == 12 }
def leaveM (s : Bd) : Res :=
  match carriesM s 0 with
  | none => wrongM s
  | some s1 => .ok { jumpM s1 12 0 with closed := true }
def labelsM (c : Ctx) : Nat → Bd → Except (Int × Int) (List Nat × Bd)
  | 0, s => .ok ([], s)
  | n + 1, s => match labelM c s with
    | .error e => .error e
    | .ok (k, s1) => match labelsM c n s1 with
      | .error e => .error e
      | .ok (l, s2) => .ok (k :: l, s2)
def alikeM (s : Bd) (l : List Nat) : Bool := l.all fun k => valueM (s.bk k) == valueM (s.bk (l.getD 0 0))
def jumpAll (l : List Nat) (s : Bd) : Bd := l.foldl (fun s k => jumpM s 12 k) s
def tableM (c : Ctx) (s : Bd) : Res :=
  match belowM c.D 17 s.i with
  | .error e => .error e
  | .ok (n, j) =>
    match labelsM c (n + 1) { s with i := j } with
    | .error e => .error e
    | .ok (l, s1) =>
      match takeM s1 127 with
      | none => wrongM s
      | some s2 =>
        match carriesM s2 (l.getD n 0) with
        | none => wrongM s
        | some s3 => if alikeM s3 l then .ok { jumpAll l (emitM s3 ⟨14, n, 0, 0, 0⟩) with closed := true } else wrongM s
def callM (c : Ctx) (s : Bd) : Res :=
  match belowM c.D c.funcs.length s.i with
  | .error e => .error e
  | .ok (n, j) =>
    match takeAllM { s with i := j } (c.funcs.getD n ([], [])).1 with
    | none => wrongM s
    | some s1 => .ok (putM (emitM s1 ⟨16, n, 0, 0, 0⟩) (c.funcs.getD n ([], [])).2)
def dropM (s : Bd) : Res :=
  match takeAnyM s with
  | none => wrongM s
  | some (_, s1) => .ok (emitM s1 ⟨26, 0, 0, 0, 0⟩)
def chooseM (s : Bd) : Res :=
  match takeM s 127 with
  | none => wrongM s
  | some s1 =>
    match takeAnyM s1 with
    | none => wrongM s
    | some (t, s2) =>
      match takeM s2 t with
      | none => wrongM s
      | some s3 => .ok (putM (emitM s3 ⟨27, 0, 0, 0, 0⟩) [t])
def localM (c : Ctx) (op : UInt8) (s : Bd) : Res :=
  match belowM c.D c.locals.length s.i with
  | .error e => .error e
  | .ok (n, j) =>
    match (if op = 32 then some { s with i := j } else takeM { s with i := j } (c.locals.getD n 0)) with
    | none => wrongM s
    | some s1 => .ok (if op = 33 then emitM s1 ⟨op, n, 0, 0, 0⟩ else putM (emitM s1 ⟨op, n, 0, 0, 0⟩) [c.locals.getD n 0])
def globalM (c : Ctx) (op : UInt8) (s : Bd) : Res :=
  match belowM c.D c.gl.length s.i with
  | .error e => .error e
  | .ok (n, j) =>
    if op = 36 then
      if (c.gl.getD n (0, false)).2 then
        match takeM { s with i := j } (c.gl.getD n (0, false)).1 with
        | none => wrongM s
        | some s1 => .ok (emitM s1 ⟨op, n, 0, 0, 0⟩)
      else wrongM s
    else .ok (putM (emitM { s with i := j } ⟨op, n, 0, 0, 0⟩) [(c.gl.getD n (0, false)).1])
structure RowT where
  fr : UInt8
  upto : UInt8
  behind : Nat
  takes : List UInt8
  gives : List UInt8
def rowsM : List RowT := [⟨0x00, 0x00, 4, [], []⟩, ⟨0x01, 0x01, 0, [], []⟩, ⟨0x02, 0x05, 4, [], []⟩, ⟨0x0b, 0x10, 4, [], []⟩, ⟨0x1a, 0x1b, 4, [], []⟩, ⟨0x20, 0x24, 4, [], []⟩,
  ⟨0x28, 0x28, 1, [127], [127]⟩, ⟨0x29, 0x29, 1, [127], [126]⟩, ⟨0x2c, 0x2d, 1, [127], [127]⟩, ⟨0x36, 0x36, 1, [127, 127], []⟩, ⟨0x37, 0x37, 1, [127, 126], []⟩, ⟨0x3a, 0x3a, 1, [127, 127], []⟩,
  ⟨0x3f, 0x3f, 0, [], [127]⟩, ⟨0x40, 0x40, 0, [127], [127]⟩, ⟨0x41, 0x41, 2, [], [127]⟩, ⟨0x42, 0x42, 3, [], [126]⟩, ⟨0x45, 0x45, 0, [127], [127]⟩, ⟨0x46, 0x4f, 0, [127, 127], [127]⟩,
  ⟨0x50, 0x50, 0, [126], [127]⟩, ⟨0x51, 0x5a, 0, [126, 126], [127]⟩, ⟨0x67, 0x69, 0, [127], [127]⟩, ⟨0x6a, 0x78, 0, [127, 127], [127]⟩, ⟨0x79, 0x7b, 0, [126], [126]⟩, ⟨0x7c, 0x8a, 0, [126, 126], [126]⟩,
  ⟨0xa7, 0xa7, 0, [126], [127]⟩, ⟨0xac, 0xad, 0, [127], [126]⟩, ⟨0xe0, 0xe0, 0, [126], [126]⟩, ⟨0xe1, 0xe1, 0, [126, 126], []⟩]
def findM (op : UInt8) : Option RowT := rowsM.find? fun r => decide (r.fr ≤ op) && decide (op ≤ r.upto)
def behindM (D : List UInt8) (b : Nat) (i : Nat) : Except (Int × Int) (Nat × Nat) :=
  if b = 1 then UM D i
  else if b = 2 then match S32M D i with
    | .error e => .error e
    | .ok (n, j) => .ok ((n % 4294967296).toNat, j)
  else if b = 3 then match S64M D i with
    | .error e => .error e
    | .ok (n, j) => .ok ((n % 18446744073709551616).toNat, j)
  else .ok (0, i)
def plainB (c : Ctx) (op : UInt8) (r : RowT) (s : Bd) : Res :=
  match behindM c.D r.behind s.i with
  | .error e => .error e
  | .ok (n, j) =>
    match takeAllM { s with i := j } r.takes with
    | none => wrongM s
    | some s1 => .ok (putM (emitM s1 ⟨op, n, 0, 0, 0⟩) r.gives)
def specialM (c : Ctx) (op : UInt8) (s : Bd) : Res :=
  if op = 0 then stopM s
  else if op = 2 ∨ op = 3 ∨ op = 4 then openM c op s
  else if op = 5 then turnM s
  else if op = 11 then endM s
  else if op = 12 ∨ op = 13 then branchM c op s
  else if op = 14 then tableM c s
  else if op = 15 then leaveM s
  else if op = 16 then callM c s
  else if op = 26 then dropM s
  else if op = 27 then chooseM s
  else if op = 35 ∨ op = 36 then globalM c op s
  else localM c op s
def stepM (c : Ctx) (s : Bd) : Res :=
  match byteM c.D s.i with
  | .error e => .error e
  | .ok (op, j) =>
    match findM op with
    | none => .error (2, s.i)
    | some r =>
      if s.closed = true ∧ op ≠ 5 ∧ op ≠ 11 then .error (3, s.i)
      else if r.behind = 4 then specialM c op { s with pos := s.i, i := j }
      else plainB c op r { s with pos := s.i, i := j }
def lookM (c : Ctx) : Nat → Bd → Res
  | 0, s => .ok s
  | n + 1, s =>
    if s.blocks = [] then (if s.i < c.D.length then .error (2, s.i) else .ok s)
    else match stepM c s with
      | .error e => .error e
      | .ok s1 => lookM c n s1
abbrev Rd (α : Type) := Except (Int × Int) (α × Nat)
def manyM {α : Type} (one : Nat → Rd α) : Nat → Nat → Rd (List α)
  | 0, i => .ok ([], i)
  | n + 1, i => match one i with
    | .error e => .error e
    | .ok (x, j) => match manyM one n j with
      | .error e => .error e
      | .ok (l, k) => .ok (x :: l, k)
def listM (D : List UInt8) (most : Nat) (i : Nat) : Rd (List UInt8) :=
  match belowM D (most + 1) i with
  | .error e => .error e
  | .ok (n, j) => manyM (oneOfM D [127, 126]) n j
def typeM (D : List UInt8) (i : Nat) : Rd Ty :=
  match listM D 8 i with
  | .error e => .error e
  | .ok (p, j) => match listM D 1 j with
    | .error e => .error e
    | .ok (r, k) => .ok ((p, r), k)
def typesM (D : List UInt8) (i : Nat) : Rd (List Ty) :=
  match belowM D 17 i with
  | .error e => .error e
  | .ok (n, j) => manyM (typeM D) n j
def funcsM (D : List UInt8) (ts : List Ty) (i : Nat) : Rd (List Ty) :=
  match belowM D 17 i with
  | .error e => .error e
  | .ok (n, j) => manyM (fun i => match belowM D ts.length i with
      | .error e => .error e
      | .ok (k, j) => .ok (ts.getD k ([], []), j)) n j
def valueAtM (D : List UInt8) (t : UInt8) (i : Nat) : Rd Nat := behindM D (if t = 127 then 2 else 3) i
def globM (D : List UInt8) (i : Nat) : Rd ((UInt8 × Bool) × Nat) :=
  match oneOfM D [127, 126] i with
  | .error e => .error e
  | .ok (t, j) => match oneOfM D [0, 1] j with
    | .error e => .error e
    | .ok (f, k) => match valueAtM D t k with
      | .error e => .error e
      | .ok (v, m) => .ok (((t, f == 1), v), m)
def globsM (D : List UInt8) (i : Nat) : Rd (List ((UInt8 × Bool) × Nat)) :=
  match belowM D 9 i with
  | .error e => .error e
  | .ok (n, j) => manyM (globM D) n j
def magicM (D : List UInt8) (i : Nat) : Rd Unit :=
  match oneOfM D [83] i with
  | .error e => .error e
  | .ok (_, j) => match oneOfM D [84] j with
    | .error e => .error e
    | .ok (_, k) => match oneOfM D [75] k with
      | .error e => .error e
      | .ok (_, l) => match oneOfM D [1] l with
        | .error e => .error e
        | .ok (_, m) => .ok ((), m)
structure FnM where
  typ : Ty
  locals : Nat
  entry : Nat
structure Flat where
  funcs : List FnM
  globals : List Nat
  pages : Nat
  code : List Ins
def bodyM (D : List UInt8) (ts : List Ty) (gl : List (UInt8 × Bool)) (typ : Ty) (code : List Ins) (i : Nat) : Rd (FnM × List Ins) :=
  match UM D i with
  | .error e => .error e
  | .ok (size, j) =>
    if D.length - j < size then .error (2, i)
    else
      let P := D.take (j + size)
      match listM P (32 - typ.1.length) j with
      | .error e => .error e
      | .ok (more, k) =>
        match lookM ⟨P, ts, gl, typ.1 ++ more⟩ 2001 ⟨k, code, [], [⟨0, typ.2, 0, 0, []⟩], 0, false⟩ with
        | .error e => .error e
        | .ok s => .ok ((⟨typ, typ.1.length + more.length, code.length⟩, s.code), j + size)
def bodiesM (D : List UInt8) (ts : List Ty) (gl : List (UInt8 × Bool)) : List Ty → List Ins → Nat → Rd (List FnM × List Ins)
  | [], code, i => .ok (([], code), i)
  | t :: rest, code, i => match bodyM D ts gl t code i with
    | .error e => .error e
    | .ok ((f, code1), j) => match bodiesM D ts gl rest code1 j with
      | .error e => .error e
      | .ok ((fs, code2), k) => .ok ((f :: fs, code2), k)
def loadM (D : List UInt8) : Except (Int × Int) Flat :=
  if 2000 < D.length then .error (1, 0)
  else match magicM D 0 with
  | .error e => .error e
  | .ok (_, i1) => match typesM D i1 with
    | .error e => .error e
    | .ok (ts, i2) => match funcsM D ts i2 with
      | .error e => .error e
      | .ok (fs, i3) => match globsM D i3 with
        | .error e => .error e
        | .ok (gs, i4) => match belowM D 5 i4 with
          | .error e => .error e
          | .ok (pages, i5) => match bodiesM D fs (gs.map (·.1)) fs [] i5 with
            | .error e => .error e
            | .ok ((fns, code), i6) => if i6 < D.length then .error (2, i6) else .ok ⟨fns, gs.map (·.2), pages, code⟩
end Go.Proofs.YtdeplgkhmebalaaGreatDoor
