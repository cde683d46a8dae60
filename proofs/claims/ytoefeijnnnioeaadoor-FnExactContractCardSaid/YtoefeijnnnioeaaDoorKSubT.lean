
/- The program's SubstituteTerm. -/
import Derived.Test.YtoefeijnnnioeaaDoorGQ
import Derived.Test.YtoefeijnnnioeaaDoorGH
import Derived.Test.YtoefeijnnnioeaaDoorKPutSpec
import Derived.Test.YtoefeijnnnioeaaDoorKUsesB
import Derived.Test.YtoefeijnnnioeaaDoorGI
set_option linter.unusedVariables false
set_option linter.unusedSimpArgs false
namespace Go.Proofs.YtoefeijnnnioeaaDoor
open Go.RowKit

theorem one_kid {w : World} {D : Nat} {u : Tm} {q : TV} {lo : Nat} (hD : w.heap[D]? = some (boxT u.op u.n q.a u.ty.length q.c q.b u.kids.length q.d)) (h : TmIn w lo u q) (d : Nat) : TmIn w 0 (.mk 0 0 [] [u]) ⟨none, 0, some ⟨D, 0, none⟩, d⟩ := by
  refine .mk _ _ (fun _ => q) (.inl rfl) (fun p hp => by cases hp) (by simp [Tm.ty]) (by simp [Tm.kids]) (.inr ⟨D, 0, rfl, Nat.zero_le _, fun i k hi => ?_⟩) (fun i k hi => ?_)
  · match i, hi with
    | 0, hi =>
      simp [Tm.kids] at hi
      subst hi
      exact ⟨blk_cell hD 0, blk_cell hD 1, blk_cell hD 2, blk_cell hD 3⟩
    | i + 1, hi => simp [Tm.kids] at hi
  · match i, hi with
    | 0, hi =>
      simp [Tm.kids] at hi
      subst hi
      exact h.lower (Nat.zero_le _)
    | i + 1, hi => simp [Tm.kids] at hi
theorem subf_one (i : Int) (u : Tm) : subf i [u] = putf i u := by
  funext j a
  unfold subf putf
  by_cases h1 : j - i < 0
  · rw [if_pos h1, if_neg (by omega), if_neg (by omega)]
  · by_cases h2 : j = i
    · rw [if_neg h1, if_pos (by simp; omega), if_pos h2, h2]
      simp
    · rw [if_neg h1, if_neg (by simp; omega), if_neg h2, if_pos (by omega)]
      rfl

end Go.Proofs.YtoefeijnnnioeaaDoor
