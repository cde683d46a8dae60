/- The program's PartsOfType. -/
import Derived.Test.YtncfbljablbglaaDoorZ3KKidsSpec
import Derived.Test.YtncfbljablbglaaDoorZ3GX9
import Derived.Test.YtncfbljablbglaaDoorZ3GD
import Derived.Test.YtncfbljablbglaaDoorZ3GA
import Derived.Test.YtncfbljablbglaaDoorZ3GI
import Derived.Test.YtncfbljablbglaaDoorZ3GR
import Derived.Maps.AppendAt
import Derived.Test.YtncfbljablbglaaDoorZ3KFlatSpec
import Derived.Test.YtncfbljablbglaaDoorZ3KGrow
import Derived.Test.YtncfbljablbglaaDoorZ3KHoldL
import Derived.Test.YtncfbljablbglaaDoorZ3GH
import Derived.Laws.EntriesVeiled
import Derived.Lib.LazyBuf
set_option linter.unusedVariables false
set_option linter.unusedSimpArgs false
namespace Go.Proofs.YtncfbljablbglaaDoor
open Go.RowKit

set_option maxRecDepth 100000 in
set_option maxHeartbeats 1600000 in
theorem cloneInts_ans {W : World} {ad : Addr} {c : Nat} {l : List Int} (h : Row W (Value.int .i64) (some ad) l) (hl : l.length ≤ 1000) (x : Ext W) :
    Calls Tryd.prog 109 #[.slice (some ad) l.length c] x.w (NewRow W 22 3 (Value.int .i64) l) := by
  obtain ⟨i0, hi0, hz0, hz1, hz2⟩ := info_parts info_int
  go_enter Tryd.func109, Tryd.ntmps109
  have hq : ∀ w : World, (binOp .eql 22 (.slice (some ad) l.length c) (.slice none 0 0)).run Tryd.prog w = .ok (.bool false) w := fun w => run_eql_slice_nil w 22 _ (some ad) l.length c Tryd.underlying22
  have hs : ∀ o, Src (x.w.alloc o) (some ad) l.length 1 (l.map (Value.int .i64)) := fun o => src_ints ((h.ext x).ext ((Ext.self x.w).alloc o))
  have hsz := x.size
  have ho : (x.w.alloc (.cells #[] 3)).ownsRow W.heap.size 3 1 (.slice (some ⟨x.w.heap.size, 0, none⟩) 0 0) 0 [] := World.ownsRow_lit x.w #[] 0 hsz (by unfold maxLen; omega) (by simp)
  go_wp2_with (at_builtin; refine wpList_app_src rfl _ _ 22 rfl W.heap.size 3 i0 (.int .i64 0) 1 8 Tryd.underlying22 hi0 hz0 hz1 hz2 rfl (by omega) (.slice (some ⟨x.w.heap.size, 0, none⟩) 0 0) 0 [] rfl ho (some ad) l.length c (l.map (Value.int .i64)) rfl (hs _) (by unfold maxLen; omega) (by omega) (by simp; omega) ?_; intro A' c' w1 own1 gr1 hat1)
  go_ret
  have bel : Below W.heap.size W w1 := (x.below.alloc hsz _).grown gr1 (by simp; omega) (by intro g hg; rw [ob_eq] at hg; cases hg; exact hsz)
  exact ⟨_, ⟨w1, bel⟩, rfl, rfl, by simpa using own1⟩

end Go.Proofs.YtncfbljablbglaaDoor
