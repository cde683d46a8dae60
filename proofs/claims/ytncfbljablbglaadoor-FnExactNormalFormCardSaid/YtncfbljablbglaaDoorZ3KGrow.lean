/- A list of numbers in a block of its own that is being made by append. -/
import Derived.Test.YtncfbljablbglaaDoorZ3GA
set_option linter.unusedVariables false
set_option linter.unusedSimpArgs false
namespace Go.Proofs.YtncfbljablbglaaDoor
open Go.RowKit

/-- What has been made so far; Y: the world behind which it lies. -/
structure Grow (Y w : World) (a : Option Addr) (c : Nat) (l : List Int) : Prop where
  own : w.ownsRow Y.heap.size 3 1 (.slice a l.length c) l.length (l.map (Value.int .i64))
  bel : Below Y.heap.size Y w
section
variable {Y w : World} {a : Option Addr} {c : Nat} {l : List Int}
theorem Grow.nil (bel : Below Y.heap.size Y w) : Grow Y w none 0 [] := ⟨World.ownsRow_nil _ _ _ _, bel⟩
theorem Grow.ext (h : Grow Y w a c l) (y : Ext w) : Grow Y y.w a c l := ⟨owns_ext h.own y, h.bel.trans (y.below.mono h.bel.size)⟩
theorem Grow.alloc (h : Grow Y w a c l) (o : Obj) : Grow Y (w.alloc o) a c l := h.ext ((Ext.self w).alloc o)
theorem Grow.new (bel : Below Y.heap.size Y w) (l : List Int) (hl : l.length ≤ 1000000) (n : Nat) (hn : n = w.heap.size) : Grow Y (w.alloc (.cells (l.map (Value.int .i64)).toArray 3)) (some ⟨n, 0, none⟩) l.length l := by
  subst hn
  refine ⟨⟨by simp, .inr ⟨w.heap.size, l.length, (l.map (Value.int .i64)).toArray, rfl, bel.size, ?_, Nat.le_refl _, by unfold maxLen; omega, by simp, ?_⟩⟩, bel.alloc bel.size _⟩
  · show (w.heap.push _)[w.heap.size]? = _
    rw [Array.getElem?_push, if_pos rfl]
  · simp only [Nat.mul_one]
    exact List.take_of_length_le (by simp)
theorem Grow.row (h : Grow Y w a c l) : Row w (Value.int .i64) a l := by
  obtain ⟨a', c', e, hr, _⟩ := owned_row h.own
  cases e
  exact hr
theorem Grow.len (h : Grow Y w a c l) : l.length ≤ 9223372036854775807 := owns_len h.own
end
end Go.Proofs.YtncfbljablbglaaDoor
