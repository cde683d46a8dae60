/- Maps of systems, plainly. -/
import Derived.Test.YtkokmpdmmfghhaaZ2HA
set_option linter.unusedVariables false
set_option linter.unusedSimpArgs false
namespace Go.Proofs.Ytkokmpdmmfghhaa
open Go.RowKit

def fI (f : List Int) (g : Int) : Int := f.getD g.toNat 0
def MapAt1 (A B : Sys) (f : List Int) (x y : Int) : Prop :=
  fI f (A.add x y) = B.add (fI f x) (fI f y) ∧ fI f (A.mul x y) = B.mul (fI f x) (fI f y) ∧ (A.le x y = true → B.le (fI f x) (fI f y) = true)
def MapAt (A B : Sys) (f : List Int) (x : Int) : Prop := ∀ y, G A y → MapAt1 A B f x y
structure IsMapP (A B : Sys) (f : List Int) : Prop where
  a : IsSys A
  b : IsSys B
  len : (f.length : Int) = A.n
  rng : ∀ g ∈ f, 0 ≤ g ∧ g < B.n
  z : fI f 0 = 0
  o : fI f 1 = 1
  all : ∀ x, G A x → MapAt A B f x
theorem fI_G {A B : Sys} {f : List Int} (hl : (f.length : Int) = A.n) (hr : ∀ g ∈ f, 0 ≤ g ∧ g < B.n) {x : Int} (hx : G A x) : G B (fI f x) := by
  have h1 := hx.1
  have h2 := hx.2
  unfold fI
  rw [List.getD_eq_getElem?_getD, List.getElem?_eq_getElem (by omega)]
  exact hr _ (List.getElem_mem (by omega))

end Go.Proofs.Ytkokmpdmmfghhaa
