/- The program's default terms. -/
import Derived.Test.YtncfbljablbglaaDoorZ3KDefM
import Derived.Test.YtncfbljablbglaaDoorZ3KKidsP
import Derived.Test.YtncfbljablbglaaDoorZ3GD
import Derived.Test.YtncfbljablbglaaDoorZ3GA
import Derived.Test.YtncfbljablbglaaDoorZ3GI
import Derived.Test.YtncfbljablbglaaDoorZ3GR
import Derived.Maps.AppendAt
set_option linter.unusedVariables false
set_option linter.unusedSimpArgs false
namespace Go.Proofs.YtncfbljablbglaaDoor
open Go.RowKit

theorem zbl_alloc {w : World} {D : Nat} {o : Obj} (h : w.heap[D]? = some o) (o' : Obj) : (w.alloc o').heap[D]? = some o := ((Ext.self w).alloc o').blk h
theorem zbl_drew {w : World} {D : Nat} {o : Obj} (h : w.heap[D]? = some o) : w.drew.heap[D]? = some o := ((Ext.self w).drew).blk h
/-- What is kept of a world but one block. -/
def Kc (W W1 : World) (R : Nat) (w : World) : Prop := Below W.heap.size W w ∧ W1.heap.size ≤ w.heap.size ∧ ∀ g, g < W1.heap.size → g ≠ R → w.heap[g]? = W1.heap[g]?
section
variable {W W1 w : World} {R : Nat}
theorem Kc.self (h : Below W.heap.size W W1) : Kc W W1 R W1 := ⟨h, Nat.le_refl _, fun _ _ _ => rfl⟩
theorem Kc.drew (h : Kc W W1 R w) : Kc W W1 R w.drew := ⟨below_drew h.1, h.2.1, h.2.2⟩
theorem Kc.ext (h : Kc W W1 R w) (y : Ext w) : Kc W W1 R y.w := ⟨below_ext h.1 y, Nat.le_trans h.2.1 y.size, fun g hg hn => (y.below.block g (Nat.lt_of_lt_of_le hg h.2.1)).trans (h.2.2 g hg hn)⟩
theorem Kc.alloc (h : Kc W W1 R w) (o : Obj) : Kc W W1 R (w.alloc o) := h.ext ((Ext.self w).alloc o)
theorem Kc.set (h : Kc W W1 R w) (hR : W.heap.size ≤ R) {i : Nat} {v : Value} : Kc W W1 R (w.setCell ⟨R, i, none⟩ v) := ⟨h.1.setCell hR _, by have := h.2.1; simpa using this, fun g hg hn => (set_other rfl hn).trans (h.2.2 g hg hn)⟩
theorem Kc.cell (h : Kc W W1 R w) {g o : Nat} {v : Value} (hc : W1.cell? ⟨g, o, none⟩ = some v) (hg : g ≠ R) : w.cell? ⟨g, o, none⟩ = some v := by
  rw [World.cell?_of_block (w := W1) (a := ⟨g, o, none⟩) (h.2.2 g (cell_lt hc) hg)]
  exact hc
theorem Kc.row (h : Kc W W1 R w) {α : Type} {mk : α → Value} {g : Nat} {l : List α} (r : Row W1 mk (some ⟨g, 0, none⟩) l) (hg : g ≠ R) : Row w mk (some ⟨g, 0, none⟩) l := by
  rcases r with r | ⟨b, o, e, hc⟩
  · exact .inl r
  · cases e
    exact .inr ⟨g, 0, rfl, fun i v hi => h.cell (hc i v hi) hg⟩
end
end Go.Proofs.YtncfbljablbglaaDoor
