/- The run of a module's code: the loop. -/
import Derived.Test.YtdeplgkhmebalaaGreatDoorP26

namespace Go.Proofs.YtdeplgkhmebalaaGreatDoor
open Go.RowKit
section
variable {E : MEnv} {w : World} {s : Mc}
structure At (E : MEnv) (w : World) (s : Mc) (x : Ins) (sv cv fv gv : Value) (a o cap : Nat) : Prop where
  mach : w.heap[E.mb]? = some (.cells #[ptrTo E.fb, ptrTo E.sb, sv, cv, .int .i64 s.pos, .int .i64 s.fuel] 172)
  mod : w.heap[E.fb]? = some (.cells #[fv, gv, .int .i64 E.f.pages, .slice (some ⟨a, o, none⟩) E.f.code.length cap] E.ft)
  cap : E.f.code.length ≤ cap
  c0 : w.cell? ⟨a, o + s.pos * 5, none⟩ = some (.int .u8 x.op.toNat)
  c1 : w.cell? ⟨a, o + s.pos * 5 + 1, none⟩ = some (.int .u64 x.num)
  c2 : w.cell? ⟨a, o + s.pos * 5 + 2, none⟩ = some (.int .i64 x.goal)
  c3 : w.cell? ⟨a, o + s.pos * 5 + 3, none⟩ = some (.int .i64 x.height)
  c4 : w.cell? ⟨a, o + s.pos * 5 + 4, none⟩ = some (.int .i64 x.keep)
theorem MSt.at' (h : MSt E w s) (hp : s.pos < E.f.code.length) {x : Ins} (hx : E.f.code.getD s.pos ins0 = x) : ∃ sv cv fv gv a o cap, At E w s x sv cv fv gv a o cap := by
  subst hx
  obtain ⟨sv, cv, hmo, -⟩ := h.open
  obtain ⟨fv, gv, cdv, a, o, cap, hfb, rfl, hcap, -, -, c0, c1, c2, c3, c4⟩ := h.ins hp
  exact ⟨sv, cv, fv, gv, a, o, cap, hmo, hfb, hcap, c0, c1, c2, c3, c4⟩
end
end Go.Proofs.YtdeplgkhmebalaaGreatDoor
