/- Types in other languages, plainly: code by code. Nothing of a program stands here. -/
import Derived.Test.YtncfbljablbglaaDoorZ3GR
set_option linter.unusedVariables false
set_option linter.unusedSimpArgs false
namespace Go.Proofs.YtncfbljablbglaaDoor
open Go.RowKit
/-- What stands for a code where nothing tells how much is used. -/
def plainC (c : Int) : List Int := if Arr c then [4] else if Bx c then [] else [c]
/-- What stands for a code where boxes alone tell it. -/
def boxC (c : Int) : List Int := if Arr c then [4, if gradeOf c = -1 then 36 else 19 + gradeOf c] else [c]
def plainL (l : List Int) : List Int := l.flatMap plainC
def boxL (l : List Int) : List Int := l.flatMap boxC
theorem plainC_len (c : Int) : (plainC c).length ≤ 1 := by unfold plainC; split; simp; split <;> simp
theorem flat_len {f : Int → List Int} {m : Nat} (h : ∀ c, (f c).length ≤ m) (l : List Int) : (l.flatMap f).length ≤ m * l.length := by
  induction l with
  | nil => simp
  | cons c l ih =>
    have := h c
    simp only [List.flatMap_cons, List.length_append, List.length_cons, Nat.mul_add, Nat.mul_one]
    omega
theorem plainL_len (l : List Int) : (plainL l).length ≤ l.length := by have := flat_len plainC_len l; unfold plainL; omega
/-- What ForgetType answers. -/
def ForgetV (l o : List Int) : Prop := (WT l ∧ o = plainL l) ∨ (¬ WT l ∧ o = [])
/-- What BoxType answers. -/
def BoxV (l o : List Int) : Prop := ((WT l ∧ (boxL l).length ≤ 40) ∧ o = boxL l) ∨ (¬ (WT l ∧ (boxL l).length ≤ 40) ∧ o = [])
theorem ForgetV.len {l o : List Int} (h : ForgetV l o) : o.length ≤ 40 := by
  rcases h with ⟨w, rfl⟩ | ⟨_, rfl⟩
  · have := plainL_len l; have := w.1; omega
  · simp
theorem BoxV.len {l o : List Int} (h : BoxV l o) : o.length ≤ 40 := by
  rcases h with ⟨w, rfl⟩ | ⟨_, rfl⟩
  · exact w.2
  · simp
/-- The first code, and the types behind it. -/
def Ty.code : Ty → Int | .leaf => 0 | .two c _ _ => c | .one c _ => c
def Ty.parts : Ty → List Ty | .leaf => [] | .two _ a b => [a, b] | .one _ a => [a]
theorem Ty.enc_parts (T : Ty) : T.enc = T.code :: Ty.encs T.parts := by cases T <;> simp [Ty.enc, Ty.code, Ty.parts, Ty.encs]
end Go.Proofs.YtncfbljablbglaaDoor
