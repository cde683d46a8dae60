
/- The value at a place, plainly. Nothing is walked here. -/
import Derived.Test.YtoefeijnnnioeaaDoorKDefS
import Derived.Test.YtoefeijnnnioeaaDoorGR
set_option linter.unusedVariables false
set_option linter.unusedSimpArgs false
namespace Go.Proofs.YtoefeijnnnioeaaDoor
open Go.RowKit

namespace Ty
/-- The value at a place (of a type without functions). -/
def at_ : Ty → Nat → Tm
  | leaf, k => .mk 1 k [] []
  | two c a b, k => if c = 1 then .mk 4 0 [] [a.at_ (k / b.cnt), b.at_ (k % b.cnt)] else if k < a.cnt then .mk 6 0 b.enc [a.at_ k] else .mk 7 0 a.enc [b.at_ (k - a.cnt)]
  | one c a, k => .mk 11 (gradeOf c) [] [a.at_ k]
theorem at_wt (T : Ty) : ∀ k, T.enc.length ≤ 40 → (T.at_ k).wt ≤ 41 * T.enc.length := by
  induction T with
  | leaf => intro k _; simp [at_, Tm.wt, Tm.wtL, Ty.enc]
  | two c a b iha ihb =>
    intro k h
    simp [Ty.enc] at h ⊢
    simp only [at_]
    split
    · have ha := iha (k / b.cnt) (by omega)
      have hb := ihb (k % b.cnt) (by omega)
      rw [Tm.wt_eq]; simp [Tm.ty, Tm.kids, Tm.wtL]; omega
    · split
      · have ha := iha k (by omega)
        rw [Tm.wt_eq]; simp [Tm.ty, Tm.kids, Tm.wtL]; omega
      · have hb := ihb (k - a.cnt) (by omega)
        rw [Tm.wt_eq]; simp [Tm.ty, Tm.kids, Tm.wtL]; omega
  | one c a ih =>
    intro k h
    simp [Ty.enc] at h ⊢
    have ha := ih k (by omega)
    simp only [at_]
    rw [Tm.wt_eq]; simp [Tm.ty, Tm.kids, Tm.wtL]; omega
theorem pair_lt {a b : Ty} {k : Nat} (h : k < (two 1 a b).cnt) : k / b.cnt < a.cnt ∧ k % b.cnt < b.cnt := by
  have hb := b.cnt_pos
  simp only [cnt, if_true] at h
  exact ⟨Nat.div_lt_of_lt_mul (by rw [Nat.mul_comm]; exact h), Nat.mod_lt _ (by omega)⟩
end Ty
end Go.Proofs.YtoefeijnnnioeaaDoor
