
/- numberSystem where there is no system. -/
import Derived.Test.YteffcfaoganciaaKNumClo
set_option linter.unusedVariables false
set_option linter.unusedSimpArgs false
namespace Go.Proofs.Yteffcfaoganciaa
open Go.RowKit

set_option maxHeartbeats 4000000 in
theorem numberZero {W : World} {mb : Nat} (n : Int) (h : n < 1 ∨ 14 < n) (x : Ext W) :
    Calls Try.prog 55 #[.int .i64 n, (.func (.func 56) #[] #[.pointer (some ⟨mb, 0, none⟩)])] x.w (NewOwn W ⟨0, [], [], []⟩) := by
  rcases h with f1 | f2
  · go_enter Try.func55, Try.ntmps55
    go_wp2
    generalize hY : x.w.alloc _ = Y
    have q2 : Y.heap[x.w.heap.size]? = some (.cells #[.int .i64 0, .slice none 0 0, .slice none 0 0, .slice none 0 0] 30 (0, 0)) := by
      subst hY
      show (x.w.heap.push _)[x.w.heap.size]? = _
      rw [Array.getElem?_push, if_pos rfl]
    have r0 := blk_cell q2 0
    have r1 := blk_cell q2 1
    have r2 := blk_cell q2 2
    have r3 := blk_cell q2 3
    simp at r0 r1 r2 r3
    refine bodyPost_ret (v := .agg #[.int .i64 0, .slice none 0 0, .slice none 0 0, .slice none 0 0]) (by simp [results, Try.results55, go_sem, r0, r1, r2, r3]) rfl ?_
    exact ⟨⟨none, none, none, 0, 0, 0⟩, ⟨Y, by rw [← hY]; exact x.below.alloc x.size _⟩, rfl, rfl, ⟨World.ownsRow_nil _ _ _ _, World.ownsRow_nil _ _ _ _, World.ownsRow_nil _ _ _ _, .inl rfl, .inl rfl, .inl rfl⟩⟩
  · have f1 : ¬ n < 1 := by omega
    go_enter Try.func55, Try.ntmps55
    go_wp2
    generalize hY : x.w.alloc _ = Y
    have q2 : Y.heap[x.w.heap.size]? = some (.cells #[.int .i64 0, .slice none 0 0, .slice none 0 0, .slice none 0 0] 30 (0, 0)) := by
      subst hY
      show (x.w.heap.push _)[x.w.heap.size]? = _
      rw [Array.getElem?_push, if_pos rfl]
    have r0 := blk_cell q2 0
    have r1 := blk_cell q2 1
    have r2 := blk_cell q2 2
    have r3 := blk_cell q2 3
    simp at r0 r1 r2 r3
    refine bodyPost_ret (v := .agg #[.int .i64 0, .slice none 0 0, .slice none 0 0, .slice none 0 0]) (by simp [results, Try.results55, go_sem, r0, r1, r2, r3]) rfl ?_
    exact ⟨⟨none, none, none, 0, 0, 0⟩, ⟨Y, by rw [← hY]; exact x.below.alloc x.size _⟩, rfl, rfl, ⟨World.ownsRow_nil _ _ _ _, World.ownsRow_nil _ _ _ _, World.ownsRow_nil _ _ _ _, .inl rfl, .inl rfl, .inl rfl⟩⟩

end Go.Proofs.Yteffcfaoganciaa
