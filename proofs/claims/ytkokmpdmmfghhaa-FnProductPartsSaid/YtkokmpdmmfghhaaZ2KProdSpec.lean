/- Products of systems, plainly. -/
import Derived.Test.YtkokmpdmmfghhaaZ2HA
import Derived.Test.YtkokmpdmmfghhaaZ2KNumModel
set_option linter.unusedVariables false
set_option linter.unusedSimpArgs false
namespace Go.Proofs.Ytkokmpdmmfghhaa
open Go.RowKit

theorem placeN_in {n N g : Int} (hn : 2 ≤ n) (hN : n + n ≤ N) (h0 : 0 ≤ g) (h1 : g < N) : 0 ≤ placeN n g ∧ placeN n g < N := by
  unfold placeN
  split
  · omega
  · split <;> omega
theorem firstN_in {m n g : Int} (hm : 2 ≤ m) (hn : 2 ≤ n) (h0 : 0 ≤ g) (h1 : g < m * n) : 0 ≤ firstN n g ∧ firstN n g < m := by
  have h2 : 2 * n ≤ m * n := Int.mul_le_mul_of_nonneg_right hm (by omega)
  obtain ⟨p0, p1⟩ := placeN_in hn (N := m * n) (by omega) h0 h1
  unfold firstN
  exact ⟨Int.ediv_nonneg p0 (by omega), Int.ediv_lt_of_lt_mul (by omega) p1⟩
theorem secondN_in {n g : Int} (hn : 2 ≤ n) : 0 ≤ secondN n g ∧ secondN n g < n := by
  unfold secondN
  exact ⟨Int.emod_nonneg _ (by omega), Int.emod_lt_of_pos _ (by omega)⟩
def pAddF (A B : Sys) (g h : Nat) : Int := pairN B.n (A.add (firstN B.n g) (firstN B.n h)) (B.add (secondN B.n g) (secondN B.n h))
def pMulF (A B : Sys) (g h : Nat) : Int := pairN B.n (A.mul (firstN B.n g) (firstN B.n h)) (B.mul (secondN B.n g) (secondN B.n h))
def pBothF (A B : Sys) (g h : Nat) : Bool := A.le (firstN B.n g) (firstN B.n h) && B.le (secondN B.n g) (secondN B.n h)
/-- The product of two systems. -/
def prodS (A B : Sys) : Sys := ⟨((A.n * B.n).toNat : Nat), grid (A.n * B.n).toNat (pAddF A B), grid (A.n * B.n).toNat (pMulF A B), grid (A.n * B.n).toNat (pBothF A B)⟩
def ProdV (A B : Sys) (s : Sys) (b : Bool) : Prop := (HasProduct A B ∧ s = prodS A B ∧ b = true) ∨ (¬ HasProduct A B ∧ s = ⟨0, [], [], []⟩ ∧ b = false)
theorem prod_le {A B : Sys} (h : HasProduct A B) : (A.n * B.n).toNat ≤ 16 ∧ (((A.n * B.n).toNat : Nat) : Int) = A.n * B.n := by
  have h1 := h.1.tab.lo
  have h2 := h.2.1.tab.lo
  have h3 := h.2.2
  have h4 : 0 ≤ A.n * B.n := Int.mul_nonneg (by omega) (by omega)
  omega
theorem prodV_small {A B s : Sys} {b : Bool} (h : ProdV A B s b) : s.plus.length ≤ 256 ∧ s.times.length ≤ 256 ∧ s.below.length ≤ 256 := by
  rcases h with ⟨hp, rfl, _⟩ | ⟨_, rfl, _⟩
  · have h1 := (prod_le hp).1
    have := Nat.mul_le_mul h1 h1
    simp only [prodS, grid_len]
    omega
  · simp
theorem AccS.ext {Y w : World} {R C : Nat} {N : Int} {v1 v2 v3 : Value} {p1 p2 : List Int} {p3 : List Bool} (h : AccS Y w R C N v1 v2 v3 p1 p2 p3) (y : Ext w) : AccS Y y.w R C N v1 v2 v3 p1 p2 p3 :=
  ⟨y.blk h.blk, owns_ext h.o1 y, owns_ext h.o2 y, owns_ext h.o3 y, h.d12, h.lo, h.bel.trans (y.below.mono h.bel.size), y.blk h.res, h.hRC⟩

end Go.Proofs.Ytkokmpdmmfghhaa
