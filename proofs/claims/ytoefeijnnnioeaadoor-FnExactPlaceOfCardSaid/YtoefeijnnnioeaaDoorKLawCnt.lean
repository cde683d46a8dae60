
/- The law of CountValues. -/
import Derived.Test.YtoefeijnnnioeaaDoorGE
import Derived.Test.YtoefeijnnnioeaaDoorGW
set_option linter.unusedVariables false
set_option linter.unusedSimpArgs false
namespace Go.Proofs.YtoefeijnnnioeaaDoor
open Go.RowKit

theorem own_cap {α : Type} {w : World} {base : Nat} {E : TypeId} {mk : α → Value} {v : Value} {l : List α} (h : w.ownsRow base E 1 v l.length (l.map mk)) :
    ∃ a c, v = .slice a l.length c ∧ Row w mk a l ∧ l.length ≤ c ∧ ∃ b, l ≠ [] → a = some ⟨b, 0, none⟩ := by
  by_cases hl : 0 < l.length
  · obtain ⟨g, c, rfl, row, hc, _⟩ := own_some h hl
    exact ⟨_, c, rfl, row, hc, g, fun _ => rfl⟩
  · obtain ⟨a, c, rfl, row, hb⟩ := owned_row h
    have e : l = [] := List.eq_nil_of_length_eq_zero (by omega)
    exact ⟨a, c, rfl, row, by omega, 0, fun q => absurd e q⟩

end Go.Proofs.YtoefeijnnnioeaaDoor
