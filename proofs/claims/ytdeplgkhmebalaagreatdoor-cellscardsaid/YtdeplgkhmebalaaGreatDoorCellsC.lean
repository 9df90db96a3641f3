/- What is stored is there: the modules, each looked at (far). -/
import Derived.Test.YtdeplgkhmebalaaGreatDoorCellsA

namespace Go.Proofs.YtdeplgkhmebalaaGreatDoor
open Go.RowKit
set_option maxRecDepth 100000 in
theorem cl_F0 (x : UInt8) : cellsAre x 0 60 true = true := by kernel_rfl
set_option maxRecDepth 100000 in
theorem cl_F60 (x : UInt8) : cellsAre x 60 60 true = true := by kernel_rfl
set_option maxRecDepth 100000 in
theorem cl_F120 (x : UInt8) : cellsAre x 120 60 true = true := by kernel_rfl
set_option maxRecDepth 100000 in
theorem cl_F180 (x : UInt8) : cellsAre x 180 60 true = true := by kernel_rfl
set_option maxRecDepth 100000 in
theorem cl_F240 (x : UInt8) : cellsAre x 240 60 true = true := by kernel_rfl
theorem cl_allF {o : Nat} (h : o < 300) (x : UInt8) : cellIs x (4294967295 - o) = true := by
  rcases Nat.lt_or_ge o 60 with h1 | h1
  · simpa using cellsAre_spec (cl_F0 x) (Nat.zero_le o) (by omega)
  rcases Nat.lt_or_ge o 120 with h2 | h2
  · simpa using cellsAre_spec (cl_F60 x) h1 (by omega)
  rcases Nat.lt_or_ge o 180 with h3 | h3
  · simpa using cellsAre_spec (cl_F120 x) h2 (by omega)
  rcases Nat.lt_or_ge o 240 with h4 | h4
  · simpa using cellsAre_spec (cl_F180 x) h3 (by omega)
  · simpa using cellsAre_spec (cl_F240 x) h4 (by omega)
end Go.Proofs.YtdeplgkhmebalaaGreatDoor
