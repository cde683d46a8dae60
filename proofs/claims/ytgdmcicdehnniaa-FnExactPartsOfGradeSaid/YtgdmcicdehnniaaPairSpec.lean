/- Pairs of grades, plainly. -/
import Derived.Test.YtgdmcicdehnniaaSpec
namespace Go.Proofs.Ytgdmcicdehnniaa
open Go.RowKit

/-- The place of a pair among the pairs in lexicographic order, and its number. -/
def placeN (n g : Int) : Int := if g = 1 then n + 1 else if 1 < g ∧ g ≤ n + 1 then g - 1 else g
def pairN (n x y : Int) : Int := if x * n + y = n + 1 then 1 else if 0 < x * n + y ∧ x * n + y < n + 1 then x * n + y + 1 else x * n + y
def firstN (n g : Int) : Int := placeN n g / n
def secondN (n g : Int) : Int := placeN n g % n
theorem mul_bounds {x n : Int} (hx0 : 0 ≤ x) (hx : x < 16) (hn0 : 0 ≤ n) (hn : n ≤ 16) : 0 ≤ x * n ∧ x * n ≤ 240 := by
  have h1 : 0 ≤ x * n := Int.mul_nonneg hx0 hn0
  have h2 : x * n ≤ 15 * n := Int.mul_le_mul_of_nonneg_right (by omega) hn0
  omega
def HasProduct (A B : Sys) : Prop := IsSys A ∧ IsSys B ∧ A.n * B.n ≤ 16

end Go.Proofs.Ytgdmcicdehnniaa
