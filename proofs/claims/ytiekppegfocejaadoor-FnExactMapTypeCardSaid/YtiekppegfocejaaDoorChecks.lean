
/- The program's checks of a system. -/
import Derived.Test.YtiekppegfocejaaDoorBits
namespace Go.Proofs.YtiekppegfocejaaDoor
open Go.RowKit

theorem sub_order (s : Sys) (a b : Int) : SubSet (s.above b) (s.above a) ↔ ∀ c, G s c → s.le b c = true → s.le a c = true := by
  unfold SubSet
  simp only [above_bit, Bool.and_eq_true, decide_eq_true_eq]
  constructor
  · intro h c hc hb
    have e : ((c.toNat : Nat) : Int) = c := by have := hc.1; omega
    have := (h c.toNat ⟨by rw [e]; exact hc.2, by rw [e]; exact hb⟩).2
    rwa [e] at this
  · exact fun h i hi => ⟨hi.1, h i ⟨by omega, hi.1⟩ hi.2⟩

end Go.Proofs.YtiekppegfocejaaDoor
