
/- What the laws' walks end in. -/
import Derived.Test.YtmifnhblhggflaaDoorLawB
import Derived.Deep.RegionHeld3
namespace Go.Proofs.YtmifnhblhggflaaDoor
open Go.RowKit

theorem lift_fact {W1 W3 : World} (yy : Ext W1) (hb : ∀ z : Ext W3, ∃ u : Ext yy.w, z.w = u.w) {a : Addr} {v : Value} (c : ∀ y : Ext W1, y.w.cell? a = some v) : ∀ z : Ext W3, z.w.cell? a = some v := fun z => by
  obtain ⟨u, hu⟩ := hb z
  rw [hu]
  exact c (yy.trans u)
theorem lift_sys {W1 W3 : World} (yy : Ext W1) (hb : ∀ z : Ext W3, ∃ u : Ext yy.w, z.w = u.w) (y0 : ∃ y0 : Ext W3, y0.w = W3) {r : Ref} {s : Sys} (h : SysIn W1 r s) : SysIn W3 r s := by
  obtain ⟨y0, hy⟩ := y0
  obtain ⟨u, hu⟩ := hb y0
  rw [← hy, hu]
  exact h.ext (yy.trans u)
theorem lift_back {W W1 W3 : World} (yy : Ext W1) (hb : ∀ z : Ext W3, ∃ u : Ext yy.w, z.w = u.w) (hback : ∀ y : Ext W1, ∃ z : Ext W, y.w = z.w) : ∀ y : Ext W3, ∃ z : Ext W, y.w = z.w := fun y => by
  obtain ⟨u, hu⟩ := hb y
  obtain ⟨z, hz⟩ := hback (yy.trans u)
  exact ⟨z, by rw [hu]; exact hz⟩
/-- A law's walk ends: true; nothing that was there has changed. -/
def LawEnd (W : World) : Ending → World → Prop := fun e w' => e = .returned (.bool true) ∧ Below W.heap.size W w'
theorem law_end {W : World} {w : World} (hz : ∃ z : Ext W, w = z.w) : LawEnd W (.returned (.bool true)) w := by
  obtain ⟨z, rfl⟩ := hz
  exact ⟨rfl, z.below⟩

end Go.Proofs.YtmifnhblhggflaaDoor
