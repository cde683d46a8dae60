/- The types behind the first code of a type, plainly. -/
import Derived.Test.YtncfbljablbglaaDoorZ3KFlatSpec
import Derived.Test.YtncfbljablbglaaDoorZ3GR
import Derived.Test.YtncfbljablbglaaDoorZ3KHoldL
set_option linter.unusedVariables false
set_option linter.unusedSimpArgs false
namespace Go.Proofs.YtncfbljablbglaaDoor
open Go.RowKit

def PartsV (l : List Int) (o : List (List Int)) : Prop := (WT l ∧ ∃ T : Ty, T.Ok ∧ l = T.enc ∧ o = T.parts.map Ty.enc) ∨ (¬ WT l ∧ o = [])
theorem Ty.parts_le (T : Ty) : T.parts.length ≤ 2 := by cases T <;> simp [Ty.parts]
theorem Ty.encs_cnt (ps : List Ty) : cntLs (ps.map Ty.enc) = (Ty.encs ps).length := by
  induction ps with
  | nil => rfl
  | cons p ps ih => simp [cntLs, Ty.encs, ih]
theorem PartsV.wt {l : List Int} {o : List (List Int)} (h : PartsV l o) : lsWt o ≤ 100 := by
  rcases h with ⟨w, T, _, e, rfl⟩ | ⟨_, rfl⟩
  · have h1 := w.1
    have h2 := T.parts_le
    have h3 := congrArg List.length T.enc_parts
    unfold lsWt
    rw [Ty.encs_cnt, List.length_map]
    rw [e] at h1
    simp at h3
    omega
  · simp [lsWt, cntLs]
end Go.Proofs.YtncfbljablbglaaDoor
