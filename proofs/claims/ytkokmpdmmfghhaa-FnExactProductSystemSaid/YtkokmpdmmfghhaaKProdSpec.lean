
/- Products of systems, plainly. -/
import Derived.Test.YtkokmpdmmfghhaaHA
import Derived.Test.YtkokmpdmmfghhaaKNumModel
namespace Go.Proofs.Ytkokmpdmmfghhaa
open Go.RowKit

theorem placeN_in {n N g : Int} (hn : 2 ≤ n) (hN : n + n ≤ N) (h0 : 0 ≤ g) (h1 : g < N) : 0 ≤ placeN n g ∧ placeN n g < N := by
  unfold placeN
  split
  · omega
  · split <;> omega
theorem firstN_in {m n g : Int} (hm : 2 ≤ m) (hn : 2 ≤ n) (h0 : 0 ≤ g) (h1 : g < m * n) : 0 ≤ firstN n g ∧ firstN n g < m := by
  have h2 : 2 * n ≤ m * n := Int.mul_le_mul_of_nonneg_right hm (by omega)
  obtain ⟨p0, p1⟩ := placeN_in hn (N := m * n) (by omega) h0 h1
  unfold firstN
  exact ⟨Int.ediv_nonneg p0 (by omega), Int.ediv_lt_of_lt_mul (by omega) p1⟩
theorem secondN_in {n g : Int} (hn : 2 ≤ n) : 0 ≤ secondN n g ∧ secondN n g < n := by
  unfold secondN
  exact ⟨Int.emod_nonneg _ (by omega), Int.emod_lt_of_pos _ (by omega)⟩
theorem pairN_in {m n x y : Int} (hm : 2 ≤ m) (hn : 2 ≤ n) (hx : 0 ≤ x ∧ x < m) (hy : 0 ≤ y ∧ y < n) : 0 ≤ pairN n x y ∧ pairN n x y < m * n := by
  have h0 : 0 ≤ x * n := Int.mul_nonneg hx.1 (by omega)
  have h1 : x * n ≤ (m - 1) * n := Int.mul_le_mul_of_nonneg_right (by omega) (by omega)
  have h2 : (m - 1) * n = m * n - n := by rw [Int.sub_mul]; omega
  have h3 : 2 * n ≤ m * n := Int.mul_le_mul_of_nonneg_right hm (by omega)
  unfold pairN
  generalize x * n = q at *
  generalize m * n = N at *
  split
  · omega
  · split <;> omega
def pAddF (A B : Sys) (g h : Nat) : Int := pairN B.n (A.add (firstN B.n g) (firstN B.n h)) (B.add (secondN B.n g) (secondN B.n h))
def pMulF (A B : Sys) (g h : Nat) : Int := pairN B.n (A.mul (firstN B.n g) (firstN B.n h)) (B.mul (secondN B.n g) (secondN B.n h))
def pBothF (A B : Sys) (g h : Nat) : Bool := A.le (firstN B.n g) (firstN B.n h) && B.le (secondN B.n g) (secondN B.n h)
/-- The product of two systems. -/
def prodS (A B : Sys) : Sys := ⟨((A.n * B.n).toNat : Nat), grid (A.n * B.n).toNat (pAddF A B), grid (A.n * B.n).toNat (pMulF A B), grid (A.n * B.n).toNat (pBothF A B)⟩
def ProdV (A B : Sys) (s : Sys) (b : Bool) : Prop := (HasProduct A B ∧ s = prodS A B ∧ b = true) ∨ (¬ HasProduct A B ∧ s = ⟨0, [], [], []⟩ ∧ b = false)
theorem prodV_ex (A B : Sys) : ∃ s b, ProdV A B s b := by
  by_cases h : HasProduct A B
  · exact ⟨_, _, .inl ⟨h, rfl, rfl⟩⟩
  · exact ⟨_, _, .inr ⟨h, rfl, rfl⟩⟩
theorem prod_le {A B : Sys} (h : HasProduct A B) : (A.n * B.n).toNat ≤ 16 ∧ (((A.n * B.n).toNat : Nat) : Int) = A.n * B.n := by
  have h1 := h.1.tab.lo
  have h2 := h.2.1.tab.lo
  have h3 := h.2.2
  have h4 : 0 ≤ A.n * B.n := Int.mul_nonneg (by omega) (by omega)
  omega
theorem prodV_small {A B s : Sys} {b : Bool} (h : ProdV A B s b) : s.plus.length ≤ 256 ∧ s.times.length ≤ 256 ∧ s.below.length ≤ 256 := by
  rcases h with ⟨hp, rfl, _⟩ | ⟨_, rfl, _⟩
  · have h1 := (prod_le hp).1
    have := Nat.mul_le_mul h1 h1
    simp only [prodS, grid_len]
    omega
  · simp
theorem AccS.ext {Y w : World} {R C : Nat} {N : Int} {v1 v2 v3 : Value} {p1 p2 : List Int} {p3 : List Bool} (h : AccS Y w R C N v1 v2 v3 p1 p2 p3) (y : Ext w) : AccS Y y.w R C N v1 v2 v3 p1 p2 p3 :=
  ⟨y.blk h.blk, owns_ext h.o1 y, owns_ext h.o2 y, owns_ext h.o3 y, h.d12, h.lo, h.bel.trans (y.below.mono h.bel.size), y.blk h.res, h.hRC⟩
theorem belx_refl {w : World} : Below w.heap.size w w := Below.refl _ _
theorem belx_ext {a w : World} (h : Below a.heap.size a w) (y : Ext w) : Below a.heap.size a y.w := h.trans (y.below.mono h.size)
theorem belx_drew {a w : World} (h : Below a.heap.size a w) : Below a.heap.size a w.drew := h.drew
theorem belx_alloc {a w : World} (h : Below a.heap.size a w) (o : Obj) : Below a.heap.size a (w.alloc o) := h.alloc h.size o

/-- A new system, in new blocks, and a Bool. -/
def NewSysB (W : World) (s : Sys) (b : Bool) : Ending → World → Prop := fun e w' => ∃ (r : Ref) (y : Ext W), e = .returned (.tuple #[r.val s, .bool b]) ∧ w' = y.w ∧ (∀ p, r.pa = some p ∨ r.ta = some p ∨ r.ba = some p → W.heap.size ≤ p.block ∧ PlainB y.w p.block) ∧ SysIn y.w r s

end Go.Proofs.Ytkokmpdmmfghhaa
