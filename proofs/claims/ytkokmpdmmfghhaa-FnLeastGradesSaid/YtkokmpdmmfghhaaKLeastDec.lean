
/- The least grades of bounds, levels and counts, by reckoning. Nothing of a program stands here. -/
import Derived.Test.YtkokmpdmmfghhaaKSysDec
namespace Go.Proofs.Ytkokmpdmmfghhaa
open Go.RowKit

def zeroB (s : Sys) : Bool := decide (0 < s.n) && (upN s.n.toNat).all fun h => s.le 0 h
theorem least_zero {s : Sys} (h : zeroB s = true) : s.least = 0 := by
  unfold zeroB at h
  simp only [Bool.and_eq_true, decide_eq_true_eq, List.all_eq_true] at h
  refine (firstI_eq (.inl ⟨Int.le_refl _, h.1, fun g hg => h.2 g (upN_mem hg.1 (by have := hg.2; omega)), fun i h0 h1 _ => by omega⟩)).symm
def noneB (s : Sys) : Bool := (upN s.n.toNat).all fun g => (upN s.n.toNat).any fun h => !s.le g h
theorem least_none {s : Sys} (h : noneB s = true) : s.least = -1 := by
  unfold noneB at h
  simp only [List.all_eq_true, List.any_eq_true, Bool.not_eq_true'] at h
  refine (firstI_eq (.inr ⟨rfl, fun i h0 h1 hl => ?_⟩)).symm
  obtain ⟨g, hg, q⟩ := h i (upN_mem h0 (by omega))
  have := upN_in hg
  have := hl g ⟨this.1, by omega⟩
  rw [q] at this; cases this
theorem eight {m : Nat} (h1 : 1 ≤ m) (h8 : m ≤ 8) : m = 1 ∨ m = 2 ∨ m = 3 ∨ m = 4 ∨ m = 5 ∨ m = 6 ∨ m = 7 ∨ m = 8 := by omega
theorem lev8_sys (m : Nat) (h1 : 1 ≤ m) (h8 : m ≤ 8) : IsSys (levS m) := by
  rcases eight h1 h8 with rfl | rfl | rfl | rfl | rfl | rfl | rfl | rfl <;> exact isSys_of (by decide +kernel)
theorem count8_sys (m : Nat) (h1 : 1 ≤ m) (h8 : m ≤ 8) : IsSys (numS countF m) := by
  rcases eight h1 h8 with rfl | rfl | rfl | rfl | rfl | rfl | rfl | rfl <;> exact isSys_of (by decide +kernel)
theorem lev8_least (m : Nat) (h1 : 1 ≤ m) (h8 : m ≤ 8) : (levS m).least = 0 := by
  rcases eight h1 h8 with rfl | rfl | rfl | rfl | rfl | rfl | rfl | rfl <;> exact least_zero (by decide +kernel)
theorem bound8_least (m : Nat) (h1 : 1 ≤ m) (h8 : m ≤ 8) : (numS (fun _ => boundF) m).least = 0 := by
  rcases eight h1 h8 with rfl | rfl | rfl | rfl | rfl | rfl | rfl | rfl <;> exact least_zero (by decide +kernel)
theorem count8_least (m : Nat) (h1 : 1 ≤ m) (h8 : m ≤ 8) : (numS countF m).least = -1 := by
  rcases eight h1 h8 with rfl | rfl | rfl | rfl | rfl | rfl | rfl | rfl <;> exact least_none (by decide +kernel)
theorem num8_small (F : Int → Nat → Nat → Bool) (m : Nat) (h8 : m ≤ 8) : Small (numS F m) := by
  have h := Nat.mul_le_mul (show m + 2 ≤ 10 by omega) (show m + 2 ≤ 10 by omega)
  refine ⟨?_, ?_, ?_⟩ <;> (rw [grid_len]; omega)
theorem lev8_small (m : Nat) (h8 : m ≤ 8) : Small (levS m) := by
  have h := Nat.mul_le_mul (show m + 1 ≤ 9 by omega) (show m + 1 ≤ 9 by omega)
  refine ⟨?_, ?_, ?_⟩ <;> (rw [grid_len]; omega)

end Go.Proofs.Ytkokmpdmmfghhaa
