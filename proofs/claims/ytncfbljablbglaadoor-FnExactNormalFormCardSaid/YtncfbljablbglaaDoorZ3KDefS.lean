/- The default term of a type, plainly; terms whose kids are laid at once. Nothing is walked here. -/
import Derived.Test.YtncfbljablbglaaDoorZ3KKidsSpec
import Derived.Test.YtncfbljablbglaaDoorZ3GF
set_option linter.unusedVariables false
set_option linter.unusedSimpArgs false
namespace Go.Proofs.YtncfbljablbglaaDoor
open Go.RowKit

/-- The default term. -/
def Ty.dft : Ty → Tm
  | .leaf => .mk 1 0 [] []
  | .two c a b => if c = 1 then .mk 4 0 [] [a.dft, b.dft] else if c = 2 then .mk 6 0 b.enc [a.dft] else .mk 9 (gradeOf c) a.enc [b.dft]
  | .one c a => .mk 11 (gradeOf c) [] [a.dft]
theorem Ty.dft_wt (T : Ty) : T.enc.length ≤ 40 → T.dft.wt ≤ 41 * T.enc.length := by
  induction T with
  | leaf => intro _; simp [Ty.dft, Tm.wt, Tm.wtL, Ty.enc]
  | two c a b iha ihb =>
    intro h
    simp [Ty.enc] at h ⊢
    have ha := iha (by omega)
    have hb := ihb (by omega)
    simp only [Ty.dft]
    split
    · rw [Tm.wt_eq]; simp [Tm.ty, Tm.kids, Tm.wtL]; omega
    · split
      · rw [Tm.wt_eq]; simp [Tm.ty, Tm.kids, Tm.wtL]; omega
      · rw [Tm.wt_eq]; simp [Tm.ty, Tm.kids, Tm.wtL]; omega
  | one c a ih =>
    intro h
    simp [Ty.enc] at h ⊢
    have ha := ih (by omega)
    simp only [Ty.dft]
    rw [Tm.wt_eq]; simp [Tm.ty, Tm.kids, Tm.wtL]; omega
/-- What DefaultTerm answers. -/
def DefV (P : Prop) (l : List Int) (o : Tm) (b : Bool) : Prop := (P ∧ (∃ T : Ty, T.Ok ∧ l = T.enc ∧ T.enc.length ≤ 40 ∧ o = T.dft) ∧ b = true) ∨ (¬ P ∧ o = zeroT ∧ b = false)

theorem DefV.wt {P : Prop} {l : List Int} {o : Tm} {b : Bool} (h : DefV P l o b) : o.wt ≤ 2000 := by
  rcases h with ⟨_, ⟨T, _, _, h40, rfl⟩, _⟩ | ⟨_, rfl, _⟩
  · have := T.dft_wt h40
    omega
  · simp [zeroT, Tm.wt, Tm.wtL]
end Go.Proofs.YtncfbljablbglaaDoor
