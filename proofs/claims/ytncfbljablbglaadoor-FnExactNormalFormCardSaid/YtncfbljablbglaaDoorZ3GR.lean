/- Texts of one claim, laid together: Tree, RowCut, PlaceSpec. -/
import Derived.Test.YtncfbljablbglaaDoorZ3GA
set_option linter.unusedVariables false
set_option linter.unusedSimpArgs false
/- Types as trees, plainly: every written type is the list of one tree. Nothing of a program stands here. -/
namespace Go.Proofs.YtncfbljablbglaaDoor
open Go.RowKit

inductive Ty where
  | leaf
  | two (c : Int) (a b : Ty)
  | one (c : Int) (a : Ty)
namespace Ty
/-- Its codes. -/
def enc : Ty → List Int | leaf => [0] | two c a b => c :: (a.enc ++ b.enc) | one c a => c :: a.enc
/-- Each code has its parts. -/
def Ok : Ty → Prop | leaf => True | two c a b => kidsOf c = 2 ∧ a.Ok ∧ b.Ok | one c a => kidsOf c = 1 ∧ a.Ok
def encs : List Ty → List Int | [] => [] | t :: l => t.enc ++ encs l
/-- How many leaves. -/
def leaves : Ty → Nat | leaf => 1 | two _ a b => a.leaves + b.leaves | one _ a => a.leaves
theorem leaves_pos (t : Ty) : 1 ≤ t.leaves := by
  induction t with
  | leaf => simp [leaves]
  | two c a b iha ihb => simp [leaves]; omega
  | one c a ih => simpa [leaves] using ih
theorem leaves_le (t : Ty) : 2 * t.leaves ≤ t.enc.length + 1 := by
  induction t with
  | leaf => simp [leaves, enc]
  | two c a b iha ihb => simp [leaves, enc]; omega
  | one c a ih => simp [leaves, enc]; omega
/-- How many values. -/
def cnt : Ty → Nat | leaf => 3 | two c a b => if c = 1 then a.cnt * b.cnt else a.cnt + b.cnt | one _ a => a.cnt
theorem cnt_le_pow (t : Ty) : t.cnt ≤ 3 ^ t.leaves := by
  induction t with
  | leaf => simp [cnt, leaves]
  | two c a b iha ihb =>
    have ha := a.leaves_pos
    have hb := b.leaves_pos
    simp only [cnt, leaves, Nat.pow_add]
    have h1 : 3 ≤ 3 ^ a.leaves := by simpa using Nat.pow_le_pow_right (n := 3) (by omega) ha
    have h2 : 3 ≤ 3 ^ b.leaves := by simpa using Nat.pow_le_pow_right (n := 3) (by omega) hb
    split
    · exact Nat.mul_le_mul iha ihb
    · have h3 : 3 ^ a.leaves * 2 ≤ 3 ^ a.leaves * 3 ^ b.leaves := Nat.mul_le_mul_left _ (by omega)
      have h4 : 3 ^ b.leaves * 2 ≤ 3 ^ b.leaves * 3 ^ a.leaves := Nat.mul_le_mul_left _ (by omega)
      rw [Nat.mul_comm (3 ^ b.leaves) (3 ^ a.leaves)] at h4
      omega
  | one c a ih => simpa [cnt, leaves] using ih
theorem cnt_le {t : Ty} (h : t.enc.length ≤ 40) : t.cnt ≤ 3486784401 := by
  have h1 := t.leaves_le
  have h2 := t.cnt_le_pow
  have h3 : 3 ^ t.leaves ≤ 3 ^ 20 := Nat.pow_le_pow_right (by omega) (by omega)
  have h4 : (3 : Nat) ^ 20 = 3486784401 := by decide
  omega
/-- How many values, but no more than 301. -/
def cap (t : Ty) : Nat := min t.cnt 301
end Ty
end Go.Proofs.YtncfbljablbglaaDoor
/- Parts of rows, plainly. Nothing of a program stands here. -/
namespace Go.Proofs.YtncfbljablbglaaDoor
open Go.RowKit

theorem Row.place {α : Type} {w : World} {mk : α → Value} {a : Option Addr} {l : List α} (h : Row w mk a l) (hl : l ≠ []) : ∃ b o, a = some ⟨b, o, none⟩ := by
  rcases h with h | ⟨b, o, e, _⟩
  · exact absurd h hl
  · exact ⟨b, o, e⟩
end Go.Proofs.YtncfbljablbglaaDoor
/- Places of values, plainly. Nothing of a program stands here. -/
namespace Go.Proofs.YtncfbljablbglaaDoor
open Go.RowKit

namespace Ty
/-- The place of a value; none: it is no value. -/
def place : Ty → Tm → Option Nat
  | leaf, v => if v.op = 1 then some v.n.toNat else none
  | two c a b, v =>
    if c = 1 then (if v.op = 4 then match v.kids with | [x, y] => (a.place x).bind fun p => (b.place y).map fun q => p * b.cnt + q | _ => none else none)
    else if v.op = 6 ∧ v.ty = b.enc then match v.kids with | [x] => a.place x | _ => none
    else if v.op = 7 ∧ v.ty = a.enc then match v.kids with | [x] => (b.place x).map (a.cnt + ·) | _ => none
    else none
  | one c a, v => if v.op = 11 ∧ v.n = gradeOf c then match v.kids with | [x] => a.place x | _ => none else none
end Ty
end Go.Proofs.YtncfbljablbglaaDoor
