/- Whatever is accepted is tame: with more fuel it does the same. -/
import Derived.Test.YtdeplgkhmebalaaGreatDoorTameF
import Derived.Test.YtdeplgkhmebalaaGreatDoorTameG

namespace Go.Proofs.YtdeplgkhmebalaaGreatDoor
open Go.RowKit
def sf (s : Mc) (b : Nat) : Mc := { s with fuel := b }
def OM (b : Nat) (y : Nat × Mc) : Nat × Mc := (y.1, sf y.2 b)
section
variable {f : Flat} {s : Mc} {x : Ins} (b : Nat)
theorem jumpB_f : jumpB (sf s b) x = (jumpB s x).map (OM b) := by unfold jumpB; rw [apply_ite (Option.map (OM b))]; rfl
theorem enterB_f (n : Nat) : enterB f (sf s b) n = (enterB f s n).map (OM b) := by unfold enterB; rw [apply_ite (Option.map (OM b)), apply_ite (Option.map (OM b))]; rfl
theorem controlR_f : controlR f (sf s b) x = (controlR f s x).map (OM b) := by
  unfold controlR
  split
  · rfl
  split
  · rfl
  split
  · show (if s.stack.length = 0 then none else if topR s = 0 then jumpB (sf (popR s) b) x else some (0, sf (popR s) b)) = _
    rw [jumpB_f, apply_ite (Option.map (OM b)), apply_ite (Option.map (OM b))]
    rfl
  split
  · exact jumpB_f b
  split
  · rw [apply_ite (Option.map (OM b))]; rfl
  split
  · show (if s.stack.length = 0 then none else if topR s = 0 then some (0, sf (popR s) b) else jumpB (sf (popR s) b) x) = _
    rw [jumpB_f, apply_ite (Option.map (OM b)), apply_ite (Option.map (OM b))]
    rfl
  split
  · show (if s.stack.length = 0 ∨ topR s < 0 then none else if s.pos + (min (topR s) x.num).toNat < f.code.length then jumpB (sf (popR s) b) (f.code.getD (s.pos + (min (topR s) x.num).toNat) ins0) else none) = _
    rw [jumpB_f, apply_ite (Option.map (OM b)), apply_ite (Option.map (OM b))]
    rfl
  split
  · exact enterB_f b _
  · rfl
theorem variableR_f : variableR (sf s b) x = (variableR s x).map (fun y => sf y b) := by
  unfold variableR
  split
  · rw [apply_ite (Option.map fun y => sf y b)]; rfl
  split
  · rw [apply_ite (Option.map fun y => sf y b)]; rfl
  split
  · rw [apply_ite (Option.map fun y => sf y b)]; rfl
  split
  · rw [apply_ite (Option.map fun y => sf y b)]; rfl
  split
  · rw [apply_ite (Option.map fun y => sf y b)]; rfl
  · rfl
theorem leTo_f (p k : Nat) : leTo (sf s b) p k = leTo s p k := by
  induction k with
  | zero => rfl
  | succ k ih => rw [leTo, leTo, ih]; rfl
theorem getMemR_f (n z : Nat) : getMemR (sf s b) n z = (getMemR s n z).map (OM b) := by
  unfold getMemR
  rw [apply_ite (Option.map (OM b)), apply_ite (Option.map (OM b)), leTo_f]; rfl
theorem setMemR_f (n z : Nat) : setMemR (sf s b) n z = (setMemR s n z).map (OM b) := by
  unfold setMemR
  rw [apply_ite (Option.map (OM b)), apply_ite (Option.map (OM b))]; rfl
theorem growR_f : growR (sf s b) = (growR s).map (fun y => sf y b) := by
  unfold growR
  rw [apply_ite (Option.map fun y => sf y b), apply_ite (Option.map fun y => sf y b)]; rfl
theorem map_om (m : Option Mc) : (m.map (fun y => sf y b)).map (fun y => (0, y)) = (m.map (fun y => ((0 : Nat), y))).map (OM b) := by cases m <;> rfl
theorem memoryR_f : memoryR (sf s b) x = (memoryR s x).map (OM b) := by
  unfold memoryR
  split
  · exact getMemR_f b _ _
  split
  · exact getMemR_f b _ _
  split
  · exact getMemR_f b _ _
  split
  · exact setMemR_f b _ _
  split
  · exact setMemR_f b _ _
  split
  · exact setMemR_f b _ _
  split
  · rw [apply_ite (Option.map (OM b))]; rfl
  split
  · rw [growR_f]; exact map_om b _
  · rfl
theorem getKeyR_f : getKeyR (sf s b) = (getKeyR s).map (fun y => sf y b) := by
  unfold getKeyR
  rw [apply_ite (Option.map fun y => sf y b)]; rfl
theorem setKeyR_f : setKeyR (sf s b) = (setKeyR s).map (OM b) := by
  unfold setKeyR
  rw [apply_ite (Option.map (OM b)), apply_ite (Option.map (OM b))]; rfl
theorem compareB_f (wd : Bool) (k : Nat) : compareB wd k (sf s b) = (compareB wd k s).map (OM b) := by
  unfold compareB
  rw [apply_ite (Option.map (OM b))]; rfl
theorem combineB_f (wd : Bool) (k : Nat) : combineB wd k (sf s b) = (combineB wd k s).map (OM b) := by
  unfold combineB
  rw [apply_ite (Option.map (OM b))]
  show (if 2 ≤ s.stack.length then (match combineR wd k (topR (popR s)) (topR s) with | none => none | some (v, t) => if t = 0 then some (0, sf (putR (popR (popR s)) v) b) else some (t, sf (popR (popR s)) b)) else none) = _
  cases combineR wd k (topR (popR s)) (topR s) with
  | none => rfl
  | some y =>
    obtain ⟨v, t⟩ := y
    simp only
    rw [apply_ite (Option.map (OM b))]
    rfl
theorem reckonR_f (op : Nat) : reckonR (sf s b) op = (reckonR s op).map (OM b) := by
  unfold reckonR
  split
  · rw [apply_ite (Option.map (OM b))]; rfl
  split
  · exact compareB_f b _ _
  split
  · exact compareB_f b _ _
  split
  · exact combineB_f b _ _
  split
  · exact combineB_f b _ _
  split
  · rw [apply_ite (Option.map (OM b))]; rfl
  split
  · rw [apply_ite (Option.map (OM b))]; rfl
  split
  · rfl
  · rfl
theorem stepR_f : stepR f (sf s b) x = (stepR f s x).map (OM b) := by
  unfold stepR
  split
  · exact controlR_f b
  split
  · rw [apply_ite (Option.map (OM b))]; rfl
  split
  · rw [apply_ite (Option.map (OM b))]; rfl
  split
  · rw [variableR_f]; exact map_om b _
  split
  · exact memoryR_f b
  split
  · rfl
  split
  · rw [getKeyR_f]; exact map_om b _
  split
  · exact setKeyR_f b
  · exact reckonR_f b _
theorem getSgnR_f (n : Nat) : getSgnR (sf s b) n = (getSgnR s n).map (OM b) := by
  unfold getSgnR
  rw [apply_ite (Option.map (OM b)), apply_ite (Option.map (OM b)), leTo_f]; rfl
theorem countB_f (wd : Bool) (k : Nat) : countB wd k (sf s b) = (countB wd k s).map (OM b) := by
  unfold countB
  rw [apply_ite (Option.map (OM b))]; rfl
theorem stepT_f : stepT f (sf s b) x = (stepT f s x).map (OM b) := by
  unfold stepT
  split
  · exact getSgnR_f b _
  split
  · exact countB_f b _ _
  split
  · exact countB_f b _ _
  · exact stepR_f b
end
theorem stepT_fuel {f : Flat} {s : Mc} {x : Ins} {t : Nat} {s' : Mc} (h : stepT f s x = some (t, s')) : s'.fuel = s.fuel := by
  have := stepT_f (f := f) (s := s) (x := x) s.fuel
  rw [show sf s s.fuel = s from rfl, h] at this
  have e : s' = sf s' s.fuel := by
    have h2 : some (t, s') = some (t, sf s' s.fuel) := this
    simp only [Option.some.injEq, Prod.mk.injEq, true_and] at h2
    exact h2
  rw [e]; rfl
theorem runT_more {f : Flat} (d : Nat) : ∀ (K : Nat) (s : Mc) (t : Nat) (s' : Mc), runT f K s = some (t, s') → t ≠ 5 → runT f K (sf s (s.fuel + d)) = some (t, sf s' (s'.fuel + d)) := by
  intro K
  induction K with
  | zero => intro s t s' h; cases h
  | succ K ih =>
    intro s t s' h h5
    have hstep : ∀ (x : Ins) (g : Nat), afterR (stepT f (sf { s with pos := s.pos + 1 } g) x) (runT f K) = some (t, s') → afterR (stepT f (sf { s with pos := s.pos + 1 } (g + d)) x) (runT f K) = some (t, sf s' (s'.fuel + d)) := by
      intro x g ha
      cases hm : stepT f (sf { s with pos := s.pos + 1 } g) x with
      | none => rw [hm] at ha; cases ha
      | some y =>
        obtain ⟨t1, s1⟩ := y
        have hf := stepT_fuel hm
        have hm2 := stepT_f (f := f) (s := sf { s with pos := s.pos + 1 } g) (x := x) (g + d)
        rw [hm] at hm2
        rw [show sf { s with pos := s.pos + 1 } (g + d) = sf (sf { s with pos := s.pos + 1 } g) (g + d) from rfl, hm2]
        rw [hm] at ha
        unfold afterR at ha ⊢
        simp only [Option.map_some, OM] at ha ⊢
        have hf' : s1.fuel = g := hf
        split
        · rename_i h0
          rw [if_pos h0] at ha
          have := ih s1 t s' ha h5
          rwa [hf'] at this
        · rename_i h0
          rw [if_neg h0] at ha
          cases ha
          rw [hf']
    rw [runT] at h ⊢
    show (if s.calls.length = 0 then some (0, sf s (s.fuel + d)) else if s.pos < f.code.length then (if burnsR (f.code.getD s.pos ins0).op = true then (if s.fuel + d = 0 then some (5, _) else afterR (stepT f (sf { s with pos := s.pos + 1 } (s.fuel + d - 1)) (f.code.getD s.pos ins0)) (runT f K)) else afterR (stepT f (sf { s with pos := s.pos + 1 } (s.fuel + d)) (f.code.getD s.pos ins0)) (runT f K)) else none) = _
    split at h
    · rename_i hc
      rw [if_pos hc]
      cases h
      rfl
    · rename_i hc
      rw [if_neg hc]
      split at h
      · rename_i hp
        rw [if_pos hp]
        split at h
        · rename_i hb
          rw [if_pos hb]
          split at h
          · cases h; exact absurd rfl h5
          · rename_i hf
            rw [if_neg (by omega), show s.fuel + d - 1 = s.fuel - 1 + d by omega]
            exact hstep _ _ h
        · rename_i hb
          rw [if_neg hb]
          exact hstep _ _ h
      · cases h
theorem callT_more {f : Flat} {n fuel K t u : Nat} {args gl : List Int} {mem : List UInt8} {keys : List (Int × Int)} {v : Int} {s' : Mc} (d : Nat) (h : callT f n args fuel mem gl keys K = some (t, v, u, s')) (h5 : t ≠ 5) :
    callT f n args (fuel + d) mem gl keys K = some (t, v, u, sf s' (s'.fuel + d)) := by
  unfold callT at h ⊢
  cases hr : runT f K (enterR f ⟨args, [], 0, fuel, mem, gl, keys⟩ n) with
  | none => rw [hr] at h; cases h
  | some y =>
    obtain ⟨t1, s1⟩ := y
    rw [hr] at h
    simp only at h
    split at h
    · rename_i hc
      simp only [Option.some.injEq, Prod.mk.injEq] at h
      obtain ⟨rfl, hv, hu, rfl⟩ := h
      have := runT_more (f := f) d K _ _ _ hr h5
      rw [show enterR f ⟨args, [], 0, fuel + d, mem, gl, keys⟩ n = sf (enterR f ⟨args, [], 0, fuel, mem, gl, keys⟩ n) ((enterR f ⟨args, [], 0, fuel, mem, gl, keys⟩ n).fuel + d) from rfl, this]
      simp only
      rw [if_pos ⟨by show s1.fuel + d ≤ fuel + d; omega, hc.2⟩]
      simp only [Option.some.injEq, Prod.mk.injEq, true_and]
      exact ⟨hv, by show fuel + d - (s1.fuel + d) = u; omega, trivial⟩
    · cases h
structure Tells (f : Flat) (gl : List (UInt8 × Bool)) (n fuel t u : Nat) (v : Int) (s' : Mc) : Prop where
  used : u ≤ fuel
  f5 : t = 5 → u = fuel
  val : 0 ≤ v ∧ v < 18446744073709551616
  zero : (t ≠ 0 ∨ (f.funcs.getD n fn0).typ.2 = []) → v = 0
  nar : (f.funcs.getD n fn0).typ.2 = [127] → v < 4294967296
  mem : s'.mem.length ≤ 256
  glo : s'.gl.length = gl.length
  keys : s'.keys.length ≤ 8
  st : t = 0 → StT gl ⟨[], [], 0, 0, s'.mem, s'.gl, s'.keys⟩
theorem call_typed {f : Flat} {gl : List (UInt8 × Bool)} {T : Typing} (hF : FlatT f gl T) {n : Nat} (hn : n < f.funcs.length) {args glv : List Int} (ha : Seg args (f.funcs.getD n fn0).typ.1) {fuel : Nat} (hfu : fuel ≤ 3020) {mem : List UInt8} {keys : List (Int × Int)} (hS : StT gl ⟨[], [], 0, 0, mem, glv, keys⟩) :
    ∃ t v u s', callT f n args fuel mem glv keys 130000 = some (t, v, u, s') ∧ Tells f gl n fuel t u v s' := by
  have hmem : f.funcs.getD n fn0 ∈ f.funcs := by rw [List.getD_eq_getElem?_getD, List.getElem?_eq_getElem hn]; exact List.getElem_mem hn
  obtain ⟨⟨h32, more, d, hT, hlo⟩, -, hres⟩ := hF.fns _ hmem
  have hal := ha.len
  have hdp := (hF.all.bd _ _ hT).2.1
  have hG : Good gl T (f.funcs.getD n fn0).typ.2 (enterR f ⟨args, [], 0, fuel, mem, glv, keys⟩ n) := by
    refine ⟨⟨_, hT, (args.length - (f.funcs.getD n fn0).typ.1.length, args.length + ((f.funcs.getD n fn0).locals - (f.funcs.getD n fn0).typ.1.length), 0), [], [], args ++ List.replicate ((f.funcs.getD n fn0).locals - (f.funcs.getD n fn0).typ.1.length) 0, [], ?_, ?_, ?_, ?_, ?_, trivial, ⟨rfl, rfl⟩⟩, hS.same rfl rfl rfl, by show ([] ++ [_] : List (Nat × Nat × Nat)).length ≤ 16; simp⟩
    · rfl
    · show args ++ _ = _; simp
    · show 0 = args.length - _; omega
    · show args.length + _ = args.length - _ + _; rw [List.length_append, List.length_replicate]; omega
    · refine ha.app ?_
      rw [show (f.funcs.getD n fn0).locals - (f.funcs.getD n fn0).typ.1.length = more.length by omega]
      exact Seg.zeros more
  obtain ⟨t, s', hr, hE⟩ := run_typed hF hres 130000 _ _ hG hT (by show fuel * 40 + ([] ++ [_] : List (Nat × Nat × Nat)).length * 18 + d < 130000; have hd : d ≤ 17 := hdp; simp; omega)
  have hfu' : s'.fuel ≤ fuel := hE.fu
  refine ⟨t, if t = 0 ∧ 0 < s'.stack.length then topR s' else 0, fuel - s'.fuel, s', ?_, ?_⟩
  · unfold callT
    rw [hr]
    simp only
    rw [if_pos ⟨hfu', hE.st⟩]
  · have hv : (t = 0 ∧ 0 < s'.stack.length) → ∃ y, (f.funcs.getD n fn0).typ.2 = [y] ∧ InTy y (topR s') := by
      rintro ⟨h0, hl⟩
      obtain ⟨-, hs, -⟩ := hE.ok h0
      have hsl := hs.len
      generalize (f.funcs.getD n fn0).typ.2 = R at hs hsl hres
      match R, hs, hres with
      | [], hs, _ => simp at hsl; rw [hsl] at hl; cases hl
      | [y], hs, _ =>
        obtain ⟨m, hm, hty⟩ := hs.one
        refine ⟨y, rfl, ?_⟩
        have : s'.stack = [] ++ [m] := hm
        rw [(top_of this).1]; exact hty
    refine ⟨by omega, fun h => by rw [hE.f5 h]; omega, ?_, ?_, ?_, hE.mem, hE.glo, hE.keys, fun h0 => ?_⟩
    · split
      · rename_i h; obtain ⟨y, -, hy⟩ := hv h; exact hy.any
      · exact ⟨by decide, by decide⟩
    · rintro (h | h)
      · rw [if_neg (fun e => h e.1)]
      · split
        · rename_i h'; obtain ⟨y, hy, -⟩ := hv h'; rw [h] at hy; cases hy
        · rfl
    · intro h
      split
      · rename_i h'; obtain ⟨y, hy, hty⟩ := hv h'; rw [h] at hy; cases hy; exact hty.nar.2
      · decide
    · obtain ⟨-, -, h3⟩ := hE.ok h0
      exact h3.same rfl rfl rfl
end Go.Proofs.YtdeplgkhmebalaaGreatDoor
