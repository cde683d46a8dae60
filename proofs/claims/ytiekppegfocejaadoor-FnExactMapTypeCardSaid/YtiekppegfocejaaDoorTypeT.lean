
/- The program's IsType and IsData. -/
import Derived.Test.YtiekppegfocejaaDoorTypeI
namespace Go.Proofs.YtiekppegfocejaaDoor
open Go.RowKit

theorem isType_iff {s : Sys} {l : List Int} (hn : 0 ≤ s.n) : (IsSys s ∧ RuleP s.n false l) ↔ IsTypeP s l := by
  unfold IsTypeP RuleP
  rw [ruleP_grs hn]
  rfl

theorem fin_dec {W : World} {p : Bool} {Q : Prop} {v : Int} (HP : Hid (p = true ↔ Q)) (hv : 0 ≤ v ↔ Q) {w : World} (hz : ∃ z : Ext W, w = z.w) : Ans W (.bool p) (.returned (.bool (decide (0 ≤ v)))) w := by
  have : p = decide (0 ≤ v) := by
    rw [Bool.eq_iff_iff, HP.out, ← hv]
    simp
  subst this
  exact ⟨rfl, hz⟩

end Go.Proofs.YtiekppegfocejaaDoor
