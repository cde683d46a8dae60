
/- The model's copy of a list. -/
import Derived.Test.YtmifnhblhggflaaDoorLawHead
import Derived.Test.YtmifnhblhggflaaDoorAppRow
import Derived.Test.YtmifnhblhggflaaDoorOnly
import Derived.Test.YtmifnhblhggflaaDoorTermOk
namespace Go.Proofs.YtmifnhblhggflaaDoor
open Go.RowKit

theorem NodeOk.ty40 {size vars : Int} {closed : Bool} {t : Tm} (h : NodeOk size closed vars t) : t.ty.length ≤ 40 := by
  have := h.tok
  unfold TyOk at this
  split at this
  · exact this.1.1
  · rw [this]; simp

set_option maxHeartbeats 4000000 in
theorem l1Copy_ans {W : World} {a : Option Addr} {c : Nat} {l : List Int} (h : Row W (Value.int .i64) a l) (hl : l.length ≤ 1099511627776) (x : Ext W) :
    Calls Tryd.prog 104 #[.slice a l.length c] x.w (NewRow W 22 3 (Value.int .i64) l) := by
  obtain ⟨i0, hi0, hz0, hz1, hz2⟩ := info_parts info_int
  go_enter Tryd.func104, Tryd.ntmps104
  have hs : ∀ o, Src (x.w.alloc o) a l.length 1 (l.map (Value.int .i64)) := fun o => src_ints ((h.ext x).ext ((Ext.self x.w).alloc o))
  have hsz := x.size
  have ho : (x.w.alloc (.cells #[] 3)).ownsRow W.heap.size 3 1 (.slice (some ⟨x.w.heap.size, 0, none⟩) 0 0) 0 [] := World.ownsRow_lit x.w #[] 0 hsz (by unfold maxLen; omega) (by simp)
  go_wp2_with (at_builtin; refine wpList_app_src rfl _ _ 22 rfl W.heap.size 3 i0 (.int .i64 0) 1 8 Tryd.underlying22 hi0 hz0 hz1 hz2 rfl (by omega) (.slice (some ⟨x.w.heap.size, 0, none⟩) 0 0) 0 [] rfl ho a l.length c (l.map (Value.int .i64)) rfl (hs _) (by unfold maxLen; omega) (by omega) (by simp; omega) ?_; intro A' c' w1 own1 gr1 hat1)
  go_ret
  have bel : Below W.heap.size W w1 := (x.below.alloc hsz _).grown gr1 (by simp; omega) (by intro g hg; rw [ob_eq] at hg; cases hg; exact hsz)
  exact ⟨_, ⟨w1, bel⟩, rfl, rfl, by simpa using own1⟩

end Go.Proofs.YtmifnhblhggflaaDoor
