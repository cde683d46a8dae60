/- The least grades of bounds, levels and counts, by reckoning. Nothing of a program stands here. -/
import Derived.Test.YtkokmpdmmfghhaaZ2KSysDec
set_option linter.unusedVariables false
set_option linter.unusedSimpArgs false
namespace Go.Proofs.Ytkokmpdmmfghhaa
open Go.RowKit
theorem num8_small (F : Int → Nat → Nat → Bool) (m : Nat) (h8 : m ≤ 8) : Small (numS F m) := by
  have h := Nat.mul_le_mul (show m + 2 ≤ 10 by omega) (show m + 2 ≤ 10 by omega)
  refine ⟨?_, ?_, ?_⟩ <;> (rw [grid_len]; omega)
theorem lev8_small (m : Nat) (h8 : m ≤ 8) : Small (levS m) := by
  have h := Nat.mul_le_mul (show m + 1 ≤ 9 by omega) (show m + 1 ≤ 9 by omega)
  refine ⟨?_, ?_, ?_⟩ <;> (rw [grid_len]; omega)

end Go.Proofs.Ytkokmpdmmfghhaa
