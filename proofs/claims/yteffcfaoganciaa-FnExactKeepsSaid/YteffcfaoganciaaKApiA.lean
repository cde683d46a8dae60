
/- The program's functions of two grades. -/
import Derived.Test.YteffcfaoganciaaKSysA
import Derived.Test.YteffcfaoganciaaKBits2
import Derived.Test.YteffcfaoganciaaHA
namespace Go.Proofs.Yteffcfaoganciaa
open Go.RowKit

/-- The answer of a function of two grades. -/
def Out2 (s : Sys) (a b f v : Int) : Prop := (IsSys s ∧ G s a ∧ G s b ∧ v = f) ∨ (¬ (IsSys s ∧ G s a ∧ G s b) ∧ v = -1)
theorem out2_ex (s : Sys) (a b f : Int) : ∃ v, Out2 s a b f v := by
  by_cases h : IsSys s ∧ G s a ∧ G s b
  · exact ⟨f, .inl ⟨h.1, h.2.1, h.2.2, rfl⟩⟩
  · exact ⟨-1, .inr ⟨h, rfl⟩⟩

end Go.Proofs.Yteffcfaoganciaa
