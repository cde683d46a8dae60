/- The closures of the systems of numbers. -/
import Derived.Test.YtkokmpdmmfghhaaZ2KBuildS
set_option linter.unusedVariables false
set_option linter.unusedSimpArgs false
namespace Go.Proofs.Ytkokmpdmmfghhaa
open Go.RowKit

theorem plusClo {W : World} {mc : Nat} {m : Int} (hm : ∀ y : Ext W, y.w.cell? ⟨mc, 0, none⟩ = some (.int .i64 m)) (a b : Nat) (ha : a ≤ 16) (hb : b ≤ 16) (y : Ext W) :
    Calls Try.prog 137 #[.int .i64 a, .int .i64 b, .pointer (some ⟨mc, 0, none⟩)] y.w (fun e w' => e = .returned (.int .i64 (min ((a : Int) + b) m)) ∧ w' = y.w) := by
  by_cases h : (a : Int) + b ≤ m
  · rw [Int.min_eq_left h]
    go_enter Try.func137, Try.ntmps137
    go_wp2
    go_ret
    exact ⟨rfl, rfl⟩
  · have h2 : m < (a : Int) + b := by omega
    rw [Int.min_eq_right (by omega)]
    go_enter Try.func137, Try.ntmps137
    go_wp2
    go_ret
    exact ⟨rfl, rfl⟩

theorem timesClo {W : World} {mc : Nat} {m : Int} (hm : ∀ y : Ext W, y.w.cell? ⟨mc, 0, none⟩ = some (.int .i64 m)) (a b : Nat) (ha : a ≤ 16) (hb : b ≤ 16) (y : Ext W) :
    Calls Try.prog 138 #[.int .i64 a, .int .i64 b, .pointer (some ⟨mc, 0, none⟩)] y.w (fun e w' => e = .returned (.int .i64 (min ((a : Int) * b) m)) ∧ w' = y.w) := by
  have hp : a * b ≤ 256 := Nat.mul_le_mul ha hb
  obtain ⟨P, hP⟩ : ∃ P : Int, (a : Int) * (b : Int) = P := ⟨_, rfl⟩
  have hPb : 0 ≤ P ∧ P ≤ 256 := by
    rw [← hP, ← Int.natCast_mul]
    omega
  have w1 : IntKind.i64.wrap ((a : Int) * (b : Int)) = P := by rw [hP]; exact IntWalk.i64_in _ (by omega)
  have w2 : wrap64 ((a : Int) * (b : Int)) = P := by rw [← IntWalk.i64_left]; exact w1
  rw [hP]
  by_cases h : P ≤ m
  · rw [Int.min_eq_left h]
    clear hP hp ha hb hPb
    go_enter Try.func138, Try.ntmps138
    go_wp2
    go_ret
    exact ⟨rfl, rfl⟩
  · have h2 : m < P := Int.not_le.1 h
    rw [Int.min_eq_right (Int.le_of_lt h2)]
    clear hP hp ha hb hPb
    go_enter Try.func138, Try.ntmps138
    go_wp2
    go_ret
    exact ⟨rfl, rfl⟩

theorem countClo {W : World} {mb : Nat} {m : Int} (hm : ∀ y : Ext W, y.w.cell? ⟨mb, 0, none⟩ = some (.int .i64 m)) (a b : Nat) (_ : a ≤ 16) (_ : b ≤ 16) (y : Ext W) :
    Calls Try.prog 96 #[.int .i64 a, .int .i64 b, .pointer (some ⟨mb, 0, none⟩)] y.w (fun e w' => e = .returned (.bool (decide (a = b) || decide ((b : Int) = m))) ∧ w' = y.w) := by
  by_cases h : a = b
  · have f : ((a : Int) == (b : Int)) = true := beq_iff_eq.2 (by omega)
    rw [decide_eq_true h, Bool.true_or]
    clear h
    go_enter Try.func96, Try.ntmps96
    go_wp2
    go_ret
    exact ⟨rfl, rfl⟩
  · have f : ((a : Int) == (b : Int)) = false := beq_eq_false_iff_ne.2 (by omega)
    rw [decide_eq_false h, Bool.false_or]
    clear h
    by_cases g : (b : Int) = m
    · have f2 : ((b : Int) == m) = true := by simpa using g
      rw [decide_eq_true g]
      clear g
      go_enter Try.func96, Try.ntmps96
      go_wp2
      go_ret
      exact ⟨rfl, rfl⟩
    · have f2 : ((b : Int) == m) = false := by simpa using g
      rw [decide_eq_false g]
      clear g
      go_enter Try.func96, Try.ntmps96
      go_wp2
      go_ret
      exact ⟨rfl, rfl⟩

end Go.Proofs.Ytkokmpdmmfghhaa
