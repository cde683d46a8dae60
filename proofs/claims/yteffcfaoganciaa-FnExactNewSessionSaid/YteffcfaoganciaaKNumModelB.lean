
/- The model's systems of numbers where there is none. -/
import Derived.Test.YteffcfaoganciaaKNumModel
import Derived.Test.YteffcfaoganciaaGA
set_option linter.unusedVariables false
set_option linter.unusedSimpArgs false
namespace Go.Proofs.Yteffcfaoganciaa
open Go.RowKit

set_option maxHeartbeats 4000000 in
theorem l1Numbers_out {W : World} (n : Int) (hn : n < 1 ∨ 14 < n) (bound : Bool) (x : Ext W) : Calls Try.prog 54 #[.int .i64 n, .bool bound] x.w (NewSysA W ⟨0, [], [], []⟩) := by

  go_enter Try.func54, Try.ntmps54
  go_wp2_with ((go_at_call 64; (with_reducible refine Calls.mono (l1In_q n 1 14 false (by rw [decide_eq_false]; omega) _) ?_); rintro e w' ⟨rfl, rfl⟩))
  generalize hY : x.w.alloc _ = Y
  have q2 := new_blk hY
  have r0 := blk_cell q2 0
  have r1 := blk_cell q2 1
  have r2 := blk_cell q2 2
  have r3 := blk_cell q2 3
  simp at r0 r1 r2 r3
  refine bodyPost_ret (v := .agg #[.int .i64 0, .slice none 0 0, .slice none 0 0, .slice none 0 0]) (by simp [results, Try.results54, go_sem, r0, r1, r2, r3]) rfl ?_
  exact ⟨⟨none, none, none, 0, 0, 0⟩, ⟨Y, by rw [← hY]; exact x.below.alloc x.size _⟩, rfl, rfl, by simp, .inl rfl, .inl rfl, .inl rfl, by simp, by simp, by simp⟩

end Go.Proofs.Yteffcfaoganciaa
