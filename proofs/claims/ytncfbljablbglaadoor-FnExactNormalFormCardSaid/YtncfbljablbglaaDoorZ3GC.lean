/- Texts of one claim, laid together: Forms, OpenT, FormsT, OpenTT, OpenM. -/
import Derived.Test.YtncfbljablbglaaDoorZ3GA
import Derived.Deep.MidRow
import Derived.RegionTactic
import Derived.LaidMore
import Derived.Stop.Joined
import Derived.ChangeVars
import Derived.Laws.IdiomArrays
set_option linter.unusedVariables false
set_option linter.unusedSimpArgs false
/- What the program says of a code of a type: the table of forms, looked up. -/
namespace Go.Proofs.YtncfbljablbglaaDoor
open Go.RowKit

def formCells : List Value := [.string ⟨#[110]⟩, .int .i64 0, .int .i64 0, .int .i64 0, .bool false, .string ⟨#[42]⟩, .int .i64 1, .int .i64 0, .int .i64 2, .bool false, .string ⟨#[43]⟩, .int .i64 2, .int .i64 0, .int .i64 2, .bool false, .string ⟨#[62]⟩, .int .i64 3, .int .i64 35, .int .i64 2, .bool true, .string ⟨#[33]⟩, .int .i64 19, .int .i64 36, .int .i64 1, .bool true]
/-- The table of the forms of types reads as the program's text says. -/
def Forms (W : World) : Prop := ∀ j v, formCells[j]? = some v → W.cell? ⟨1, j, none⟩ = some v
theorem Forms.ext {W : World} (F : Forms W) (y : Ext W) : Forms y.w := fun j v h => y.cell (F j v h)

theorem form_ix0 (w : World) : (Instr.index 99 (.agg formCells.toArray) (.int .i64 0)).run Tryd.prog w = .ok (.agg #[.string ⟨#[110]⟩, .int .i64 0, .int .i64 0, .int .i64 0, .bool false]) w := by kernel_rfl

theorem form_ix1 (w : World) : (Instr.index 99 (.agg formCells.toArray) (.int .i64 1)).run Tryd.prog w = .ok (.agg #[.string ⟨#[42]⟩, .int .i64 1, .int .i64 0, .int .i64 2, .bool false]) w := by kernel_rfl

theorem form_ix2 (w : World) : (Instr.index 99 (.agg formCells.toArray) (.int .i64 2)).run Tryd.prog w = .ok (.agg #[.string ⟨#[43]⟩, .int .i64 2, .int .i64 0, .int .i64 2, .bool false]) w := by kernel_rfl

theorem form_ix3 (w : World) : (Instr.index 99 (.agg formCells.toArray) (.int .i64 3)).run Tryd.prog w = .ok (.agg #[.string ⟨#[62]⟩, .int .i64 3, .int .i64 35, .int .i64 2, .bool true]) w := by kernel_rfl

theorem form_ix4 (w : World) : (Instr.index 99 (.agg formCells.toArray) (.int .i64 4)).run Tryd.prog w = .ok (.agg #[.string ⟨#[33]⟩, .int .i64 19, .int .i64 36, .int .i64 1, .bool true]) w := by kernel_rfl

set_option maxRecDepth 100000 in
set_option maxHeartbeats 4000000 in
theorem form_lit0 {W : World} (F : Forms W) (x : Ext W) : Calls Tryd.prog 77 #[.int .i64 0] x.w (Ans W (.tuple #[.agg #[.string ⟨#[110]⟩, .int .i64 0, .int .i64 0, .int .i64 0, .bool false], .int .i64 0, .bool true])) := by
  go_enter Tryd.func77, Tryd.ntmps77
  have hfc : ∀ o, (x.w.alloc o).rangeAt 1 0 formCells := fun o j v hv => by rw [Nat.zero_add]; exact (F.ext (x.alloc o)) j v hv
  go_wp2_with (first | refine wp_load_mid 99 _ rfl 1 0 rfl formCells (.array 5 81) (hfc _) (by kernel_rfl) rfl (by kernel_rfl) ?_ | refine wpList_load_mid rfl 99 _ rfl 1 0 rfl formCells (.array 5 81) (hfc _) (by kernel_rfl) rfl (by kernel_rfl) ?_)
  clear hfc
  generalize hW : x.w.alloc _ = W1
  generalize hB : x.w.heap.size = B
  have bR : W1.heap[B]? = some (.cells #[.string ⟨#[]⟩, .int .i64 0, .int .i64 0, .int .i64 0, .bool false] 81 (0, 0)) := by
    subst hW; subst hB
    show (x.w.heap.push _)[x.w.heap.size]? = _
    rw [Array.getElem?_push, if_pos rfl]
  have bel : Below W.heap.size W W1 := by subst hW; exact x.below.alloc x.size _
  have hBW : W.heap.size ≤ B := by subst hB; exact x.size
  clear hW hB
  go_loopw [8] (fun i wr => (i = .int .i64 0) ∧ (∃ y : Ext W1, wr = y.w)) (fun i _ => 5 - (intOf i).toNat)
  case atStart => exact ⟨rfl, ⟨Ext.self W1, rfl⟩⟩
  case round =>
    obtain ⟨hk, ⟨yy, rfl⟩⟩ := hrel
    subst hk
    have hix := form_ix0
    have kb : ∀ o, (yy.w.alloc o).heap[B]? = some (.cells #[.string ⟨#[]⟩, .int .i64 0, .int .i64 0, .int .i64 0, .bool false] 81 (0, 0)) := fun o => (yy.alloc o).blk bR
    have k0 : ∀ o, (yy.w.alloc o).cell? ⟨B, 0, none⟩ = some (.string ⟨#[]⟩) := fun o => blk_cell (kb o) 0
    have z0 : ∀ o, (yy.w.alloc o).frozen? ⟨B, 0, none⟩ = false := fun o => blk_free (kb o) 0
    have k1 : ∀ o, (yy.w.alloc o).cell? ⟨B, 1, none⟩ = some (.int .i64 0) := fun o => blk_cell (kb o) 1
    have z1 : ∀ o, (yy.w.alloc o).frozen? ⟨B, 1, none⟩ = false := fun o => blk_free (kb o) 1
    have k2 : ∀ o, (yy.w.alloc o).cell? ⟨B, 2, none⟩ = some (.int .i64 0) := fun o => blk_cell (kb o) 2
    have z2 : ∀ o, (yy.w.alloc o).frozen? ⟨B, 2, none⟩ = false := fun o => blk_free (kb o) 2
    have k3 : ∀ o, (yy.w.alloc o).cell? ⟨B, 3, none⟩ = some (.int .i64 0) := fun o => blk_cell (kb o) 3
    have z3 : ∀ o, (yy.w.alloc o).frozen? ⟨B, 3, none⟩ = false := fun o => blk_free (kb o) 3
    have k4 : ∀ o, (yy.w.alloc o).cell? ⟨B, 4, none⟩ = some (.bool false) := fun o => blk_cell (kb o) 4
    have z4 : ∀ o, (yy.w.alloc o).frozen? ⟨B, 4, none⟩ = false := fun o => blk_free (kb o) 4
    go_wp2_with fail
    generalize hY0 : yy.w.alloc _ = Y0
    generalize hY1 : Y0.setCell _ _ = Y1
    generalize hY2 : Y1.setCell _ _ = Y2
    generalize hY3 : Y2.setCell _ _ = Y3
    generalize hY4 : Y3.setCell _ _ = Y4
    generalize hY5 : Y4.setCell _ _ = Y5
    have q0 : Y0.heap[B]? = some (.cells #[.string ⟨#[]⟩, .int .i64 0, .int .i64 0, .int .i64 0, .bool false] 81 (0, 0)) := by rw [← hY0]; exact kb _
    have q5 := set_blk (set_blk (set_blk (set_blk (set_blk q0 0 _ hY1) 1 _ hY2) 2 _ hY3) 3 _ hY4) 4 _ hY5
    simp at q5
    have r0 := blk_cell q5 0
    have r1 := blk_cell q5 1
    have r2 := blk_cell q5 2
    have r3 := blk_cell q5 3
    have r4 := blk_cell q5 4
    simp at r0 r1 r2 r3 r4
    have belD : Below W.heap.size W Y5 := by
      subst hY5; subst hY4; subst hY3; subst hY2; subst hY1; subst hY0
      exact (((((bel.trans ((yy.alloc _).below.mono (by have := bel.size; omega))).setCell hBW _).setCell hBW _).setCell hBW _).setCell hBW _).setCell hBW _
    refine bodyPost_ret (v := .tuple #[.agg #[.string ⟨#[110]⟩, .int .i64 0, .int .i64 0, .int .i64 0, .bool false], .int .i64 0, .bool true]) (by simp [results, Tryd.results77, go_sem, r0, r1, r2, r3, r4]) rfl ?_
    exact ⟨rfl, ⟨Y5, belD⟩, rfl⟩
set_option maxRecDepth 100000 in
set_option maxHeartbeats 4000000 in
theorem form_lit1 {W : World} (F : Forms W) (x : Ext W) : Calls Tryd.prog 77 #[.int .i64 1] x.w (Ans W (.tuple #[.agg #[.string ⟨#[42]⟩, .int .i64 1, .int .i64 0, .int .i64 2, .bool false], .int .i64 0, .bool true])) := by
  go_enter Tryd.func77, Tryd.ntmps77
  have hfc : ∀ o, (x.w.alloc o).rangeAt 1 0 formCells := fun o j v hv => by rw [Nat.zero_add]; exact (F.ext (x.alloc o)) j v hv
  go_wp2_with (first | refine wp_load_mid 99 _ rfl 1 0 rfl formCells (.array 5 81) (hfc _) (by kernel_rfl) rfl (by kernel_rfl) ?_ | refine wpList_load_mid rfl 99 _ rfl 1 0 rfl formCells (.array 5 81) (hfc _) (by kernel_rfl) rfl (by kernel_rfl) ?_)
  clear hfc
  generalize hW : x.w.alloc _ = W1
  generalize hB : x.w.heap.size = B
  have bR : W1.heap[B]? = some (.cells #[.string ⟨#[]⟩, .int .i64 0, .int .i64 0, .int .i64 0, .bool false] 81 (0, 0)) := by
    subst hW; subst hB
    show (x.w.heap.push _)[x.w.heap.size]? = _
    rw [Array.getElem?_push, if_pos rfl]
  have bel : Below W.heap.size W W1 := by subst hW; exact x.below.alloc x.size _
  have hBW : W.heap.size ≤ B := by subst hB; exact x.size
  clear hW hB
  go_loopw [8] (fun i wr => (i = .int .i64 0 ∨ i = .int .i64 1) ∧ (∃ y : Ext W1, wr = y.w)) (fun i _ => 5 - (intOf i).toNat)
  case atStart => exact ⟨.inl rfl, ⟨Ext.self W1, rfl⟩⟩
  case round =>
    obtain ⟨hk, ⟨yy, rfl⟩⟩ := hrel
    rcases hk with rfl | rfl
    · skip
      have hix := form_ix0
      go_wp2_with fail
      go_roundw
      case rel => exact ⟨.inr (by go_num), ⟨yy.alloc _, rfl⟩⟩
      case measure => simp [intOf]
    · skip
      have hix := form_ix1
      have kb : ∀ o, (yy.w.alloc o).heap[B]? = some (.cells #[.string ⟨#[]⟩, .int .i64 0, .int .i64 0, .int .i64 0, .bool false] 81 (0, 0)) := fun o => (yy.alloc o).blk bR
      have k0 : ∀ o, (yy.w.alloc o).cell? ⟨B, 0, none⟩ = some (.string ⟨#[]⟩) := fun o => blk_cell (kb o) 0
      have z0 : ∀ o, (yy.w.alloc o).frozen? ⟨B, 0, none⟩ = false := fun o => blk_free (kb o) 0
      have k1 : ∀ o, (yy.w.alloc o).cell? ⟨B, 1, none⟩ = some (.int .i64 0) := fun o => blk_cell (kb o) 1
      have z1 : ∀ o, (yy.w.alloc o).frozen? ⟨B, 1, none⟩ = false := fun o => blk_free (kb o) 1
      have k2 : ∀ o, (yy.w.alloc o).cell? ⟨B, 2, none⟩ = some (.int .i64 0) := fun o => blk_cell (kb o) 2
      have z2 : ∀ o, (yy.w.alloc o).frozen? ⟨B, 2, none⟩ = false := fun o => blk_free (kb o) 2
      have k3 : ∀ o, (yy.w.alloc o).cell? ⟨B, 3, none⟩ = some (.int .i64 0) := fun o => blk_cell (kb o) 3
      have z3 : ∀ o, (yy.w.alloc o).frozen? ⟨B, 3, none⟩ = false := fun o => blk_free (kb o) 3
      have k4 : ∀ o, (yy.w.alloc o).cell? ⟨B, 4, none⟩ = some (.bool false) := fun o => blk_cell (kb o) 4
      have z4 : ∀ o, (yy.w.alloc o).frozen? ⟨B, 4, none⟩ = false := fun o => blk_free (kb o) 4
      go_wp2_with fail
      generalize hY0 : yy.w.alloc _ = Y0
      generalize hY1 : Y0.setCell _ _ = Y1
      generalize hY2 : Y1.setCell _ _ = Y2
      generalize hY3 : Y2.setCell _ _ = Y3
      generalize hY4 : Y3.setCell _ _ = Y4
      generalize hY5 : Y4.setCell _ _ = Y5
      have q0 : Y0.heap[B]? = some (.cells #[.string ⟨#[]⟩, .int .i64 0, .int .i64 0, .int .i64 0, .bool false] 81 (0, 0)) := by rw [← hY0]; exact kb _
      have q5 := set_blk (set_blk (set_blk (set_blk (set_blk q0 0 _ hY1) 1 _ hY2) 2 _ hY3) 3 _ hY4) 4 _ hY5
      simp at q5
      have r0 := blk_cell q5 0
      have r1 := blk_cell q5 1
      have r2 := blk_cell q5 2
      have r3 := blk_cell q5 3
      have r4 := blk_cell q5 4
      simp at r0 r1 r2 r3 r4
      have belD : Below W.heap.size W Y5 := by
        subst hY5; subst hY4; subst hY3; subst hY2; subst hY1; subst hY0
        exact (((((bel.trans ((yy.alloc _).below.mono (by have := bel.size; omega))).setCell hBW _).setCell hBW _).setCell hBW _).setCell hBW _).setCell hBW _
      refine bodyPost_ret (v := .tuple #[.agg #[.string ⟨#[42]⟩, .int .i64 1, .int .i64 0, .int .i64 2, .bool false], .int .i64 0, .bool true]) (by simp [results, Tryd.results77, go_sem, r0, r1, r2, r3, r4]) rfl ?_
      exact ⟨rfl, ⟨Y5, belD⟩, rfl⟩

set_option maxRecDepth 100000 in
set_option maxHeartbeats 4000000 in
theorem form_lit2 {W : World} (F : Forms W) (x : Ext W) : Calls Tryd.prog 77 #[.int .i64 2] x.w (Ans W (.tuple #[.agg #[.string ⟨#[43]⟩, .int .i64 2, .int .i64 0, .int .i64 2, .bool false], .int .i64 0, .bool true])) := by
  go_enter Tryd.func77, Tryd.ntmps77
  have hfc : ∀ o, (x.w.alloc o).rangeAt 1 0 formCells := fun o j v hv => by rw [Nat.zero_add]; exact (F.ext (x.alloc o)) j v hv
  go_wp2_with (first | refine wp_load_mid 99 _ rfl 1 0 rfl formCells (.array 5 81) (hfc _) (by kernel_rfl) rfl (by kernel_rfl) ?_ | refine wpList_load_mid rfl 99 _ rfl 1 0 rfl formCells (.array 5 81) (hfc _) (by kernel_rfl) rfl (by kernel_rfl) ?_)
  clear hfc
  generalize hW : x.w.alloc _ = W1
  generalize hB : x.w.heap.size = B
  have bR : W1.heap[B]? = some (.cells #[.string ⟨#[]⟩, .int .i64 0, .int .i64 0, .int .i64 0, .bool false] 81 (0, 0)) := by
    subst hW; subst hB
    show (x.w.heap.push _)[x.w.heap.size]? = _
    rw [Array.getElem?_push, if_pos rfl]
  have bel : Below W.heap.size W W1 := by subst hW; exact x.below.alloc x.size _
  have hBW : W.heap.size ≤ B := by subst hB; exact x.size
  clear hW hB
  go_loopw [8] (fun i wr => (i = .int .i64 0 ∨ i = .int .i64 1 ∨ i = .int .i64 2) ∧ (∃ y : Ext W1, wr = y.w)) (fun i _ => 5 - (intOf i).toNat)
  case atStart => exact ⟨.inl rfl, ⟨Ext.self W1, rfl⟩⟩
  case round =>
    obtain ⟨hk, ⟨yy, rfl⟩⟩ := hrel
    rcases hk with rfl | rfl | rfl
    · skip
      have hix := form_ix0
      go_wp2_with fail
      go_roundw
      case rel => exact ⟨.inr (.inl (by go_num)), ⟨yy.alloc _, rfl⟩⟩
      case measure => simp [intOf]
    · skip
      have hix := form_ix1
      go_wp2_with fail
      go_roundw
      case rel => exact ⟨.inr (.inr (by go_num)), ⟨yy.alloc _, rfl⟩⟩
      case measure => simp [intOf]
    · skip
      have hix := form_ix2
      have kb : ∀ o, (yy.w.alloc o).heap[B]? = some (.cells #[.string ⟨#[]⟩, .int .i64 0, .int .i64 0, .int .i64 0, .bool false] 81 (0, 0)) := fun o => (yy.alloc o).blk bR
      have k0 : ∀ o, (yy.w.alloc o).cell? ⟨B, 0, none⟩ = some (.string ⟨#[]⟩) := fun o => blk_cell (kb o) 0
      have z0 : ∀ o, (yy.w.alloc o).frozen? ⟨B, 0, none⟩ = false := fun o => blk_free (kb o) 0
      have k1 : ∀ o, (yy.w.alloc o).cell? ⟨B, 1, none⟩ = some (.int .i64 0) := fun o => blk_cell (kb o) 1
      have z1 : ∀ o, (yy.w.alloc o).frozen? ⟨B, 1, none⟩ = false := fun o => blk_free (kb o) 1
      have k2 : ∀ o, (yy.w.alloc o).cell? ⟨B, 2, none⟩ = some (.int .i64 0) := fun o => blk_cell (kb o) 2
      have z2 : ∀ o, (yy.w.alloc o).frozen? ⟨B, 2, none⟩ = false := fun o => blk_free (kb o) 2
      have k3 : ∀ o, (yy.w.alloc o).cell? ⟨B, 3, none⟩ = some (.int .i64 0) := fun o => blk_cell (kb o) 3
      have z3 : ∀ o, (yy.w.alloc o).frozen? ⟨B, 3, none⟩ = false := fun o => blk_free (kb o) 3
      have k4 : ∀ o, (yy.w.alloc o).cell? ⟨B, 4, none⟩ = some (.bool false) := fun o => blk_cell (kb o) 4
      have z4 : ∀ o, (yy.w.alloc o).frozen? ⟨B, 4, none⟩ = false := fun o => blk_free (kb o) 4
      go_wp2_with fail
      generalize hY0 : yy.w.alloc _ = Y0
      generalize hY1 : Y0.setCell _ _ = Y1
      generalize hY2 : Y1.setCell _ _ = Y2
      generalize hY3 : Y2.setCell _ _ = Y3
      generalize hY4 : Y3.setCell _ _ = Y4
      generalize hY5 : Y4.setCell _ _ = Y5
      have q0 : Y0.heap[B]? = some (.cells #[.string ⟨#[]⟩, .int .i64 0, .int .i64 0, .int .i64 0, .bool false] 81 (0, 0)) := by rw [← hY0]; exact kb _
      have q5 := set_blk (set_blk (set_blk (set_blk (set_blk q0 0 _ hY1) 1 _ hY2) 2 _ hY3) 3 _ hY4) 4 _ hY5
      simp at q5
      have r0 := blk_cell q5 0
      have r1 := blk_cell q5 1
      have r2 := blk_cell q5 2
      have r3 := blk_cell q5 3
      have r4 := blk_cell q5 4
      simp at r0 r1 r2 r3 r4
      have belD : Below W.heap.size W Y5 := by
        subst hY5; subst hY4; subst hY3; subst hY2; subst hY1; subst hY0
        exact (((((bel.trans ((yy.alloc _).below.mono (by have := bel.size; omega))).setCell hBW _).setCell hBW _).setCell hBW _).setCell hBW _).setCell hBW _
      refine bodyPost_ret (v := .tuple #[.agg #[.string ⟨#[43]⟩, .int .i64 2, .int .i64 0, .int .i64 2, .bool false], .int .i64 0, .bool true]) (by simp [results, Tryd.results77, go_sem, r0, r1, r2, r3, r4]) rfl ?_
      exact ⟨rfl, ⟨Y5, belD⟩, rfl⟩

set_option maxRecDepth 100000 in
set_option maxHeartbeats 4000000 in
theorem form_lit3 {W : World} (F : Forms W) (x : Ext W) : Calls Tryd.prog 77 #[.int .i64 3] x.w (Ans W (.tuple #[.agg #[.string ⟨#[62]⟩, .int .i64 3, .int .i64 35, .int .i64 2, .bool true], .int .i64 0, .bool true])) := by
  go_enter Tryd.func77, Tryd.ntmps77
  have hfc : ∀ o, (x.w.alloc o).rangeAt 1 0 formCells := fun o j v hv => by rw [Nat.zero_add]; exact (F.ext (x.alloc o)) j v hv
  go_wp2_with (first | refine wp_load_mid 99 _ rfl 1 0 rfl formCells (.array 5 81) (hfc _) (by kernel_rfl) rfl (by kernel_rfl) ?_ | refine wpList_load_mid rfl 99 _ rfl 1 0 rfl formCells (.array 5 81) (hfc _) (by kernel_rfl) rfl (by kernel_rfl) ?_)
  clear hfc
  generalize hW : x.w.alloc _ = W1
  generalize hB : x.w.heap.size = B
  have bR : W1.heap[B]? = some (.cells #[.string ⟨#[]⟩, .int .i64 0, .int .i64 0, .int .i64 0, .bool false] 81 (0, 0)) := by
    subst hW; subst hB
    show (x.w.heap.push _)[x.w.heap.size]? = _
    rw [Array.getElem?_push, if_pos rfl]
  have bel : Below W.heap.size W W1 := by subst hW; exact x.below.alloc x.size _
  have hBW : W.heap.size ≤ B := by subst hB; exact x.size
  clear hW hB
  go_loopw [8] (fun i wr => (i = .int .i64 0 ∨ i = .int .i64 1 ∨ i = .int .i64 2 ∨ i = .int .i64 3) ∧ (∃ y : Ext W1, wr = y.w)) (fun i _ => 5 - (intOf i).toNat)
  case atStart => exact ⟨.inl rfl, ⟨Ext.self W1, rfl⟩⟩
  case round =>
    obtain ⟨hk, ⟨yy, rfl⟩⟩ := hrel
    rcases hk with rfl | rfl | rfl | rfl
    · skip
      have hix := form_ix0
      go_wp2_with fail
      go_roundw
      case rel => exact ⟨.inr (.inl (by go_num)), ⟨yy.alloc _, rfl⟩⟩
      case measure => simp [intOf]
    · skip
      have hix := form_ix1
      go_wp2_with fail
      go_roundw
      case rel => exact ⟨.inr (.inr (.inl (by go_num))), ⟨yy.alloc _, rfl⟩⟩
      case measure => simp [intOf]
    · skip
      have hix := form_ix2
      go_wp2_with fail
      go_roundw
      case rel => exact ⟨.inr (.inr (.inr (by go_num))), ⟨yy.alloc _, rfl⟩⟩
      case measure => simp [intOf]
    · skip
      have hix := form_ix3
      have kb : ∀ o, (yy.w.alloc o).heap[B]? = some (.cells #[.string ⟨#[]⟩, .int .i64 0, .int .i64 0, .int .i64 0, .bool false] 81 (0, 0)) := fun o => (yy.alloc o).blk bR
      have k0 : ∀ o, (yy.w.alloc o).cell? ⟨B, 0, none⟩ = some (.string ⟨#[]⟩) := fun o => blk_cell (kb o) 0
      have z0 : ∀ o, (yy.w.alloc o).frozen? ⟨B, 0, none⟩ = false := fun o => blk_free (kb o) 0
      have k1 : ∀ o, (yy.w.alloc o).cell? ⟨B, 1, none⟩ = some (.int .i64 0) := fun o => blk_cell (kb o) 1
      have z1 : ∀ o, (yy.w.alloc o).frozen? ⟨B, 1, none⟩ = false := fun o => blk_free (kb o) 1
      have k2 : ∀ o, (yy.w.alloc o).cell? ⟨B, 2, none⟩ = some (.int .i64 0) := fun o => blk_cell (kb o) 2
      have z2 : ∀ o, (yy.w.alloc o).frozen? ⟨B, 2, none⟩ = false := fun o => blk_free (kb o) 2
      have k3 : ∀ o, (yy.w.alloc o).cell? ⟨B, 3, none⟩ = some (.int .i64 0) := fun o => blk_cell (kb o) 3
      have z3 : ∀ o, (yy.w.alloc o).frozen? ⟨B, 3, none⟩ = false := fun o => blk_free (kb o) 3
      have k4 : ∀ o, (yy.w.alloc o).cell? ⟨B, 4, none⟩ = some (.bool false) := fun o => blk_cell (kb o) 4
      have z4 : ∀ o, (yy.w.alloc o).frozen? ⟨B, 4, none⟩ = false := fun o => blk_free (kb o) 4
      go_wp2_with fail
      generalize hY0 : yy.w.alloc _ = Y0
      generalize hY1 : Y0.setCell _ _ = Y1
      generalize hY2 : Y1.setCell _ _ = Y2
      generalize hY3 : Y2.setCell _ _ = Y3
      generalize hY4 : Y3.setCell _ _ = Y4
      generalize hY5 : Y4.setCell _ _ = Y5
      have q0 : Y0.heap[B]? = some (.cells #[.string ⟨#[]⟩, .int .i64 0, .int .i64 0, .int .i64 0, .bool false] 81 (0, 0)) := by rw [← hY0]; exact kb _
      have q5 := set_blk (set_blk (set_blk (set_blk (set_blk q0 0 _ hY1) 1 _ hY2) 2 _ hY3) 3 _ hY4) 4 _ hY5
      simp at q5
      have r0 := blk_cell q5 0
      have r1 := blk_cell q5 1
      have r2 := blk_cell q5 2
      have r3 := blk_cell q5 3
      have r4 := blk_cell q5 4
      simp at r0 r1 r2 r3 r4
      have belD : Below W.heap.size W Y5 := by
        subst hY5; subst hY4; subst hY3; subst hY2; subst hY1; subst hY0
        exact (((((bel.trans ((yy.alloc _).below.mono (by have := bel.size; omega))).setCell hBW _).setCell hBW _).setCell hBW _).setCell hBW _).setCell hBW _
      refine bodyPost_ret (v := .tuple #[.agg #[.string ⟨#[62]⟩, .int .i64 3, .int .i64 35, .int .i64 2, .bool true], .int .i64 0, .bool true]) (by simp [results, Tryd.results77, go_sem, r0, r1, r2, r3, r4]) rfl ?_
      exact ⟨rfl, ⟨Y5, belD⟩, rfl⟩

set_option maxRecDepth 100000 in
set_option maxHeartbeats 4000000 in
theorem form_lit35 {W : World} (F : Forms W) (x : Ext W) : Calls Tryd.prog 77 #[.int .i64 35] x.w (Ans W (.tuple #[.agg #[.string ⟨#[62]⟩, .int .i64 3, .int .i64 35, .int .i64 2, .bool true], .int .i64 (-1), .bool true])) := by
  go_enter Tryd.func77, Tryd.ntmps77
  have hfc : ∀ o, (x.w.alloc o).rangeAt 1 0 formCells := fun o j v hv => by rw [Nat.zero_add]; exact (F.ext (x.alloc o)) j v hv
  go_wp2_with (first | refine wp_load_mid 99 _ rfl 1 0 rfl formCells (.array 5 81) (hfc _) (by kernel_rfl) rfl (by kernel_rfl) ?_ | refine wpList_load_mid rfl 99 _ rfl 1 0 rfl formCells (.array 5 81) (hfc _) (by kernel_rfl) rfl (by kernel_rfl) ?_)
  clear hfc
  generalize hW : x.w.alloc _ = W1
  generalize hB : x.w.heap.size = B
  have bR : W1.heap[B]? = some (.cells #[.string ⟨#[]⟩, .int .i64 0, .int .i64 0, .int .i64 0, .bool false] 81 (0, 0)) := by
    subst hW; subst hB
    show (x.w.heap.push _)[x.w.heap.size]? = _
    rw [Array.getElem?_push, if_pos rfl]
  have bel : Below W.heap.size W W1 := by subst hW; exact x.below.alloc x.size _
  have hBW : W.heap.size ≤ B := by subst hB; exact x.size
  clear hW hB
  go_loopw [8] (fun i wr => (i = .int .i64 0 ∨ i = .int .i64 1 ∨ i = .int .i64 2 ∨ i = .int .i64 3) ∧ (∃ y : Ext W1, wr = y.w)) (fun i _ => 5 - (intOf i).toNat)
  case atStart => exact ⟨.inl rfl, ⟨Ext.self W1, rfl⟩⟩
  case round =>
    obtain ⟨hk, ⟨yy, rfl⟩⟩ := hrel
    rcases hk with rfl | rfl | rfl | rfl
    · skip
      have hix := form_ix0
      go_wp2_with fail
      go_roundw
      case rel => exact ⟨.inr (.inl (by go_num)), ⟨yy.alloc _, rfl⟩⟩
      case measure => simp [intOf]
    · skip
      have hix := form_ix1
      go_wp2_with fail
      go_roundw
      case rel => exact ⟨.inr (.inr (.inl (by go_num))), ⟨yy.alloc _, rfl⟩⟩
      case measure => simp [intOf]
    · skip
      have hix := form_ix2
      go_wp2_with fail
      go_roundw
      case rel => exact ⟨.inr (.inr (.inr (by go_num))), ⟨yy.alloc _, rfl⟩⟩
      case measure => simp [intOf]
    · skip
      have hix := form_ix3
      have kb : ∀ o, (yy.w.alloc o).heap[B]? = some (.cells #[.string ⟨#[]⟩, .int .i64 0, .int .i64 0, .int .i64 0, .bool false] 81 (0, 0)) := fun o => (yy.alloc o).blk bR
      have k0 : ∀ o, (yy.w.alloc o).cell? ⟨B, 0, none⟩ = some (.string ⟨#[]⟩) := fun o => blk_cell (kb o) 0
      have z0 : ∀ o, (yy.w.alloc o).frozen? ⟨B, 0, none⟩ = false := fun o => blk_free (kb o) 0
      have k1 : ∀ o, (yy.w.alloc o).cell? ⟨B, 1, none⟩ = some (.int .i64 0) := fun o => blk_cell (kb o) 1
      have z1 : ∀ o, (yy.w.alloc o).frozen? ⟨B, 1, none⟩ = false := fun o => blk_free (kb o) 1
      have k2 : ∀ o, (yy.w.alloc o).cell? ⟨B, 2, none⟩ = some (.int .i64 0) := fun o => blk_cell (kb o) 2
      have z2 : ∀ o, (yy.w.alloc o).frozen? ⟨B, 2, none⟩ = false := fun o => blk_free (kb o) 2
      have k3 : ∀ o, (yy.w.alloc o).cell? ⟨B, 3, none⟩ = some (.int .i64 0) := fun o => blk_cell (kb o) 3
      have z3 : ∀ o, (yy.w.alloc o).frozen? ⟨B, 3, none⟩ = false := fun o => blk_free (kb o) 3
      have k4 : ∀ o, (yy.w.alloc o).cell? ⟨B, 4, none⟩ = some (.bool false) := fun o => blk_cell (kb o) 4
      have z4 : ∀ o, (yy.w.alloc o).frozen? ⟨B, 4, none⟩ = false := fun o => blk_free (kb o) 4
      go_wp2_with fail
      generalize hY0 : yy.w.alloc _ = Y0
      generalize hY1 : Y0.setCell _ _ = Y1
      generalize hY2 : Y1.setCell _ _ = Y2
      generalize hY3 : Y2.setCell _ _ = Y3
      generalize hY4 : Y3.setCell _ _ = Y4
      generalize hY5 : Y4.setCell _ _ = Y5
      have q0 : Y0.heap[B]? = some (.cells #[.string ⟨#[]⟩, .int .i64 0, .int .i64 0, .int .i64 0, .bool false] 81 (0, 0)) := by rw [← hY0]; exact kb _
      have q5 := set_blk (set_blk (set_blk (set_blk (set_blk q0 0 _ hY1) 1 _ hY2) 2 _ hY3) 3 _ hY4) 4 _ hY5
      simp at q5
      have r0 := blk_cell q5 0
      have r1 := blk_cell q5 1
      have r2 := blk_cell q5 2
      have r3 := blk_cell q5 3
      have r4 := blk_cell q5 4
      simp at r0 r1 r2 r3 r4
      have belD : Below W.heap.size W Y5 := by
        subst hY5; subst hY4; subst hY3; subst hY2; subst hY1; subst hY0
        exact (((((bel.trans ((yy.alloc _).below.mono (by have := bel.size; omega))).setCell hBW _).setCell hBW _).setCell hBW _).setCell hBW _).setCell hBW _
      refine bodyPost_ret (v := .tuple #[.agg #[.string ⟨#[62]⟩, .int .i64 3, .int .i64 35, .int .i64 2, .bool true], .int .i64 (-1), .bool true]) (by simp [results, Tryd.results77, go_sem, r0, r1, r2, r3, r4]) rfl ?_
      exact ⟨rfl, ⟨Y5, belD⟩, rfl⟩

set_option maxRecDepth 100000 in
set_option maxHeartbeats 4000000 in
theorem form_lit19 {W : World} (F : Forms W) (x : Ext W) : Calls Tryd.prog 77 #[.int .i64 19] x.w (Ans W (.tuple #[.agg #[.string ⟨#[33]⟩, .int .i64 19, .int .i64 36, .int .i64 1, .bool true], .int .i64 0, .bool true])) := by
  go_enter Tryd.func77, Tryd.ntmps77
  have hfc : ∀ o, (x.w.alloc o).rangeAt 1 0 formCells := fun o j v hv => by rw [Nat.zero_add]; exact (F.ext (x.alloc o)) j v hv
  go_wp2_with (first | refine wp_load_mid 99 _ rfl 1 0 rfl formCells (.array 5 81) (hfc _) (by kernel_rfl) rfl (by kernel_rfl) ?_ | refine wpList_load_mid rfl 99 _ rfl 1 0 rfl formCells (.array 5 81) (hfc _) (by kernel_rfl) rfl (by kernel_rfl) ?_)
  clear hfc
  generalize hW : x.w.alloc _ = W1
  generalize hB : x.w.heap.size = B
  have bR : W1.heap[B]? = some (.cells #[.string ⟨#[]⟩, .int .i64 0, .int .i64 0, .int .i64 0, .bool false] 81 (0, 0)) := by
    subst hW; subst hB
    show (x.w.heap.push _)[x.w.heap.size]? = _
    rw [Array.getElem?_push, if_pos rfl]
  have bel : Below W.heap.size W W1 := by subst hW; exact x.below.alloc x.size _
  have hBW : W.heap.size ≤ B := by subst hB; exact x.size
  clear hW hB
  go_loopw [8] (fun i wr => (i = .int .i64 0 ∨ i = .int .i64 1 ∨ i = .int .i64 2 ∨ i = .int .i64 3 ∨ i = .int .i64 4) ∧ (∃ y : Ext W1, wr = y.w)) (fun i _ => 5 - (intOf i).toNat)
  case atStart => exact ⟨.inl rfl, ⟨Ext.self W1, rfl⟩⟩
  case round =>
    obtain ⟨hk, ⟨yy, rfl⟩⟩ := hrel
    rcases hk with rfl | rfl | rfl | rfl | rfl
    · skip
      have hix := form_ix0
      go_wp2_with fail
      go_roundw
      case rel => exact ⟨.inr (.inl (by go_num)), ⟨yy.alloc _, rfl⟩⟩
      case measure => simp [intOf]
    · skip
      have hix := form_ix1
      go_wp2_with fail
      go_roundw
      case rel => exact ⟨.inr (.inr (.inl (by go_num))), ⟨yy.alloc _, rfl⟩⟩
      case measure => simp [intOf]
    · skip
      have hix := form_ix2
      go_wp2_with fail
      go_roundw
      case rel => exact ⟨.inr (.inr (.inr (.inl (by go_num)))), ⟨yy.alloc _, rfl⟩⟩
      case measure => simp [intOf]
    · skip
      have hix := form_ix3
      go_wp2_with fail
      go_roundw
      case rel => exact ⟨.inr (.inr (.inr (.inr (by go_num)))), ⟨yy.alloc _, rfl⟩⟩
      case measure => simp [intOf]
    · skip
      have hix := form_ix4
      have kb : ∀ o, (yy.w.alloc o).heap[B]? = some (.cells #[.string ⟨#[]⟩, .int .i64 0, .int .i64 0, .int .i64 0, .bool false] 81 (0, 0)) := fun o => (yy.alloc o).blk bR
      have k0 : ∀ o, (yy.w.alloc o).cell? ⟨B, 0, none⟩ = some (.string ⟨#[]⟩) := fun o => blk_cell (kb o) 0
      have z0 : ∀ o, (yy.w.alloc o).frozen? ⟨B, 0, none⟩ = false := fun o => blk_free (kb o) 0
      have k1 : ∀ o, (yy.w.alloc o).cell? ⟨B, 1, none⟩ = some (.int .i64 0) := fun o => blk_cell (kb o) 1
      have z1 : ∀ o, (yy.w.alloc o).frozen? ⟨B, 1, none⟩ = false := fun o => blk_free (kb o) 1
      have k2 : ∀ o, (yy.w.alloc o).cell? ⟨B, 2, none⟩ = some (.int .i64 0) := fun o => blk_cell (kb o) 2
      have z2 : ∀ o, (yy.w.alloc o).frozen? ⟨B, 2, none⟩ = false := fun o => blk_free (kb o) 2
      have k3 : ∀ o, (yy.w.alloc o).cell? ⟨B, 3, none⟩ = some (.int .i64 0) := fun o => blk_cell (kb o) 3
      have z3 : ∀ o, (yy.w.alloc o).frozen? ⟨B, 3, none⟩ = false := fun o => blk_free (kb o) 3
      have k4 : ∀ o, (yy.w.alloc o).cell? ⟨B, 4, none⟩ = some (.bool false) := fun o => blk_cell (kb o) 4
      have z4 : ∀ o, (yy.w.alloc o).frozen? ⟨B, 4, none⟩ = false := fun o => blk_free (kb o) 4
      go_wp2_with fail
      generalize hY0 : yy.w.alloc _ = Y0
      generalize hY1 : Y0.setCell _ _ = Y1
      generalize hY2 : Y1.setCell _ _ = Y2
      generalize hY3 : Y2.setCell _ _ = Y3
      generalize hY4 : Y3.setCell _ _ = Y4
      generalize hY5 : Y4.setCell _ _ = Y5
      have q0 : Y0.heap[B]? = some (.cells #[.string ⟨#[]⟩, .int .i64 0, .int .i64 0, .int .i64 0, .bool false] 81 (0, 0)) := by rw [← hY0]; exact kb _
      have q5 := set_blk (set_blk (set_blk (set_blk (set_blk q0 0 _ hY1) 1 _ hY2) 2 _ hY3) 3 _ hY4) 4 _ hY5
      simp at q5
      have r0 := blk_cell q5 0
      have r1 := blk_cell q5 1
      have r2 := blk_cell q5 2
      have r3 := blk_cell q5 3
      have r4 := blk_cell q5 4
      simp at r0 r1 r2 r3 r4
      have belD : Below W.heap.size W Y5 := by
        subst hY5; subst hY4; subst hY3; subst hY2; subst hY1; subst hY0
        exact (((((bel.trans ((yy.alloc _).below.mono (by have := bel.size; omega))).setCell hBW _).setCell hBW _).setCell hBW _).setCell hBW _).setCell hBW _
      refine bodyPost_ret (v := .tuple #[.agg #[.string ⟨#[33]⟩, .int .i64 19, .int .i64 36, .int .i64 1, .bool true], .int .i64 0, .bool true]) (by simp [results, Tryd.results77, go_sem, r0, r1, r2, r3, r4]) rfl ?_
      exact ⟨rfl, ⟨Y5, belD⟩, rfl⟩

set_option maxRecDepth 100000 in
set_option maxHeartbeats 4000000 in
theorem form_lit36 {W : World} (F : Forms W) (x : Ext W) : Calls Tryd.prog 77 #[.int .i64 36] x.w (Ans W (.tuple #[.agg #[.string ⟨#[33]⟩, .int .i64 19, .int .i64 36, .int .i64 1, .bool true], .int .i64 (-1), .bool true])) := by
  go_enter Tryd.func77, Tryd.ntmps77
  have hfc : ∀ o, (x.w.alloc o).rangeAt 1 0 formCells := fun o j v hv => by rw [Nat.zero_add]; exact (F.ext (x.alloc o)) j v hv
  go_wp2_with (first | refine wp_load_mid 99 _ rfl 1 0 rfl formCells (.array 5 81) (hfc _) (by kernel_rfl) rfl (by kernel_rfl) ?_ | refine wpList_load_mid rfl 99 _ rfl 1 0 rfl formCells (.array 5 81) (hfc _) (by kernel_rfl) rfl (by kernel_rfl) ?_)
  clear hfc
  generalize hW : x.w.alloc _ = W1
  generalize hB : x.w.heap.size = B
  have bR : W1.heap[B]? = some (.cells #[.string ⟨#[]⟩, .int .i64 0, .int .i64 0, .int .i64 0, .bool false] 81 (0, 0)) := by
    subst hW; subst hB
    show (x.w.heap.push _)[x.w.heap.size]? = _
    rw [Array.getElem?_push, if_pos rfl]
  have bel : Below W.heap.size W W1 := by subst hW; exact x.below.alloc x.size _
  have hBW : W.heap.size ≤ B := by subst hB; exact x.size
  clear hW hB
  go_loopw [8] (fun i wr => (i = .int .i64 0 ∨ i = .int .i64 1 ∨ i = .int .i64 2 ∨ i = .int .i64 3 ∨ i = .int .i64 4) ∧ (∃ y : Ext W1, wr = y.w)) (fun i _ => 5 - (intOf i).toNat)
  case atStart => exact ⟨.inl rfl, ⟨Ext.self W1, rfl⟩⟩
  case round =>
    obtain ⟨hk, ⟨yy, rfl⟩⟩ := hrel
    rcases hk with rfl | rfl | rfl | rfl | rfl
    · skip
      have hix := form_ix0
      go_wp2_with fail
      go_roundw
      case rel => exact ⟨.inr (.inl (by go_num)), ⟨yy.alloc _, rfl⟩⟩
      case measure => simp [intOf]
    · skip
      have hix := form_ix1
      go_wp2_with fail
      go_roundw
      case rel => exact ⟨.inr (.inr (.inl (by go_num))), ⟨yy.alloc _, rfl⟩⟩
      case measure => simp [intOf]
    · skip
      have hix := form_ix2
      go_wp2_with fail
      go_roundw
      case rel => exact ⟨.inr (.inr (.inr (.inl (by go_num)))), ⟨yy.alloc _, rfl⟩⟩
      case measure => simp [intOf]
    · skip
      have hix := form_ix3
      go_wp2_with fail
      go_roundw
      case rel => exact ⟨.inr (.inr (.inr (.inr (by go_num)))), ⟨yy.alloc _, rfl⟩⟩
      case measure => simp [intOf]
    · skip
      have hix := form_ix4
      have kb : ∀ o, (yy.w.alloc o).heap[B]? = some (.cells #[.string ⟨#[]⟩, .int .i64 0, .int .i64 0, .int .i64 0, .bool false] 81 (0, 0)) := fun o => (yy.alloc o).blk bR
      have k0 : ∀ o, (yy.w.alloc o).cell? ⟨B, 0, none⟩ = some (.string ⟨#[]⟩) := fun o => blk_cell (kb o) 0
      have z0 : ∀ o, (yy.w.alloc o).frozen? ⟨B, 0, none⟩ = false := fun o => blk_free (kb o) 0
      have k1 : ∀ o, (yy.w.alloc o).cell? ⟨B, 1, none⟩ = some (.int .i64 0) := fun o => blk_cell (kb o) 1
      have z1 : ∀ o, (yy.w.alloc o).frozen? ⟨B, 1, none⟩ = false := fun o => blk_free (kb o) 1
      have k2 : ∀ o, (yy.w.alloc o).cell? ⟨B, 2, none⟩ = some (.int .i64 0) := fun o => blk_cell (kb o) 2
      have z2 : ∀ o, (yy.w.alloc o).frozen? ⟨B, 2, none⟩ = false := fun o => blk_free (kb o) 2
      have k3 : ∀ o, (yy.w.alloc o).cell? ⟨B, 3, none⟩ = some (.int .i64 0) := fun o => blk_cell (kb o) 3
      have z3 : ∀ o, (yy.w.alloc o).frozen? ⟨B, 3, none⟩ = false := fun o => blk_free (kb o) 3
      have k4 : ∀ o, (yy.w.alloc o).cell? ⟨B, 4, none⟩ = some (.bool false) := fun o => blk_cell (kb o) 4
      have z4 : ∀ o, (yy.w.alloc o).frozen? ⟨B, 4, none⟩ = false := fun o => blk_free (kb o) 4
      go_wp2_with fail
      generalize hY0 : yy.w.alloc _ = Y0
      generalize hY1 : Y0.setCell _ _ = Y1
      generalize hY2 : Y1.setCell _ _ = Y2
      generalize hY3 : Y2.setCell _ _ = Y3
      generalize hY4 : Y3.setCell _ _ = Y4
      generalize hY5 : Y4.setCell _ _ = Y5
      have q0 : Y0.heap[B]? = some (.cells #[.string ⟨#[]⟩, .int .i64 0, .int .i64 0, .int .i64 0, .bool false] 81 (0, 0)) := by rw [← hY0]; exact kb _
      have q5 := set_blk (set_blk (set_blk (set_blk (set_blk q0 0 _ hY1) 1 _ hY2) 2 _ hY3) 3 _ hY4) 4 _ hY5
      simp at q5
      have r0 := blk_cell q5 0
      have r1 := blk_cell q5 1
      have r2 := blk_cell q5 2
      have r3 := blk_cell q5 3
      have r4 := blk_cell q5 4
      simp at r0 r1 r2 r3 r4
      have belD : Below W.heap.size W Y5 := by
        subst hY5; subst hY4; subst hY3; subst hY2; subst hY1; subst hY0
        exact (((((bel.trans ((yy.alloc _).below.mono (by have := bel.size; omega))).setCell hBW _).setCell hBW _).setCell hBW _).setCell hBW _).setCell hBW _
      refine bodyPost_ret (v := .tuple #[.agg #[.string ⟨#[33]⟩, .int .i64 19, .int .i64 36, .int .i64 1, .bool true], .int .i64 (-1), .bool true]) (by simp [results, Tryd.results77, go_sem, r0, r1, r2, r3, r4]) rfl ?_
      exact ⟨rfl, ⟨Y5, belD⟩, rfl⟩

set_option maxRecDepth 100000 in
set_option maxHeartbeats 4000000 in
theorem form_near3 {W : World} (F : Forms W) {c : Int} (h1 : 3 < c) (h2 : c < 19) (x : Ext W) : Calls Tryd.prog 77 #[.int .i64 c] x.w (Ans W (.tuple #[.agg #[.string ⟨#[62]⟩, .int .i64 3, .int .i64 35, .int .i64 2, .bool true], .int .i64 (c - 3), .bool true])) := by
  have e0 : (c == 0) = false := by simp; omega
  have e1 : (c == 1) = false := by simp; omega
  have e2 : (c == 2) = false := by simp; omega
  have e3 : (c == 3) = false := by simp; omega
  have e35 : (c == 35) = false := by simp; omega
  have l19 : c < 19 := h2
  go_enter Tryd.func77, Tryd.ntmps77
  have hfc : ∀ o, (x.w.alloc o).rangeAt 1 0 formCells := fun o j v hv => by rw [Nat.zero_add]; exact (F.ext (x.alloc o)) j v hv
  go_wp2_with (first | refine wp_load_mid 99 _ rfl 1 0 rfl formCells (.array 5 81) (hfc _) (by kernel_rfl) rfl (by kernel_rfl) ?_ | refine wpList_load_mid rfl 99 _ rfl 1 0 rfl formCells (.array 5 81) (hfc _) (by kernel_rfl) rfl (by kernel_rfl) ?_)
  clear hfc
  generalize hW : x.w.alloc _ = W1
  generalize hB : x.w.heap.size = B
  have bR : W1.heap[B]? = some (.cells #[.string ⟨#[]⟩, .int .i64 0, .int .i64 0, .int .i64 0, .bool false] 81 (0, 0)) := by
    subst hW; subst hB
    show (x.w.heap.push _)[x.w.heap.size]? = _
    rw [Array.getElem?_push, if_pos rfl]
  have bel : Below W.heap.size W W1 := by subst hW; exact x.below.alloc x.size _
  have hBW : W.heap.size ≤ B := by subst hB; exact x.size
  clear hW hB
  go_loopw [8] (fun i wr => (i = .int .i64 0 ∨ i = .int .i64 1 ∨ i = .int .i64 2 ∨ i = .int .i64 3) ∧ (∃ y : Ext W1, wr = y.w)) (fun i _ => 5 - (intOf i).toNat)
  case atStart => exact ⟨.inl rfl, ⟨Ext.self W1, rfl⟩⟩
  case round =>
    obtain ⟨hk, ⟨yy, rfl⟩⟩ := hrel
    rcases hk with rfl | rfl | rfl | rfl
    · skip
      have hix := form_ix0
      go_wp2_with fail
      go_roundw
      case rel => exact ⟨.inr (.inl (by go_num)), ⟨yy.alloc _, rfl⟩⟩
      case measure => simp [intOf]
    · skip
      have hix := form_ix1
      go_wp2_with fail
      go_roundw
      case rel => exact ⟨.inr (.inr (.inl (by go_num))), ⟨yy.alloc _, rfl⟩⟩
      case measure => simp [intOf]
    · skip
      have hix := form_ix2
      go_wp2_with fail
      go_roundw
      case rel => exact ⟨.inr (.inr (.inr (by go_num))), ⟨yy.alloc _, rfl⟩⟩
      case measure => simp [intOf]
    · skip
      have hix := form_ix3
      have kb : ∀ o, (yy.w.alloc o).heap[B]? = some (.cells #[.string ⟨#[]⟩, .int .i64 0, .int .i64 0, .int .i64 0, .bool false] 81 (0, 0)) := fun o => (yy.alloc o).blk bR
      have k0 : ∀ o, (yy.w.alloc o).cell? ⟨B, 0, none⟩ = some (.string ⟨#[]⟩) := fun o => blk_cell (kb o) 0
      have z0 : ∀ o, (yy.w.alloc o).frozen? ⟨B, 0, none⟩ = false := fun o => blk_free (kb o) 0
      have k1 : ∀ o, (yy.w.alloc o).cell? ⟨B, 1, none⟩ = some (.int .i64 0) := fun o => blk_cell (kb o) 1
      have z1 : ∀ o, (yy.w.alloc o).frozen? ⟨B, 1, none⟩ = false := fun o => blk_free (kb o) 1
      have k2 : ∀ o, (yy.w.alloc o).cell? ⟨B, 2, none⟩ = some (.int .i64 0) := fun o => blk_cell (kb o) 2
      have z2 : ∀ o, (yy.w.alloc o).frozen? ⟨B, 2, none⟩ = false := fun o => blk_free (kb o) 2
      have k3 : ∀ o, (yy.w.alloc o).cell? ⟨B, 3, none⟩ = some (.int .i64 0) := fun o => blk_cell (kb o) 3
      have z3 : ∀ o, (yy.w.alloc o).frozen? ⟨B, 3, none⟩ = false := fun o => blk_free (kb o) 3
      have k4 : ∀ o, (yy.w.alloc o).cell? ⟨B, 4, none⟩ = some (.bool false) := fun o => blk_cell (kb o) 4
      have z4 : ∀ o, (yy.w.alloc o).frozen? ⟨B, 4, none⟩ = false := fun o => blk_free (kb o) 4
      go_wp2_with fail
      generalize hY0 : yy.w.alloc _ = Y0
      have kb0 : Y0.heap[B]? = some (.cells #[.string ⟨#[]⟩, .int .i64 0, .int .i64 0, .int .i64 0, .bool false] 81 (0, 0)) := by rw [← hY0]; exact kb _
      have kf : Y0.heap[yy.w.heap.size]? = some (.cells #[.string ⟨#[62]⟩, .int .i64 3, .int .i64 35, .int .i64 2, .bool true] 81 (0, 0)) := by
        subst hY0
        show (yy.w.heap.push _)[yy.w.heap.size]? = _
        rw [Array.getElem?_push, if_pos rfl]
      have belY : Below W.heap.size W Y0 := by subst hY0; exact (bel.trans ((yy.alloc _).below.mono (by have := bel.size; omega)))
      have hlt : B < yy.w.heap.size := (Array.getElem?_eq_some_iff.1 (yy.blk bR)).1
      have hn1 : B ≠ yy.w.heap.size := by omega
      have hn2 : yy.w.heap.size ≠ B := by omega
      clear hlt
      generalize yy.w.heap.size = B6 at *
      clear hY0 kb k0 z0 k1 z1 k2 z2 k3 z3 k4 z4
      have k0 := blk_cell kb0 0
      have z0 := blk_free kb0 0
      have m0 := blk_cell kf 0
      have k1 := blk_cell kb0 1
      have z1 := blk_free kb0 1
      have m1 := blk_cell kf 1
      have k2 := blk_cell kb0 2
      have z2 := blk_free kb0 2
      have m2 := blk_cell kf 2
      have k3 := blk_cell kb0 3
      have z3 := blk_free kb0 3
      have m3 := blk_cell kf 3
      have k4 := blk_cell kb0 4
      have z4 := blk_free kb0 4
      have m4 := blk_cell kf 4
      simp at k0 k1 k2 k3 k4 m0 m1 m2 m3 m4
      go_region
      go_wp2
      generalize hY1 : Y0.setCell _ _ = Y1
      generalize hY2 : Y1.setCell _ _ = Y2
      generalize hY3 : Y2.setCell _ _ = Y3
      generalize hY4 : Y3.setCell _ _ = Y4
      generalize hY5 : Y4.setCell _ _ = Y5
      have q5 := set_blk (set_blk (set_blk (set_blk (set_blk kb0 0 _ hY1) 1 _ hY2) 2 _ hY3) 3 _ hY4) 4 _ hY5
      simp at q5
      have r0 := blk_cell q5 0
      have r1 := blk_cell q5 1
      have r2 := blk_cell q5 2
      have r3 := blk_cell q5 3
      have r4 := blk_cell q5 4
      simp at r0 r1 r2 r3 r4
      have belD : Below W.heap.size W Y5 := by
        subst hY5; subst hY4; subst hY3; subst hY2; subst hY1
        exact (((((belY.setCell hBW _).setCell hBW _).setCell hBW _).setCell hBW _).setCell hBW _)
      refine bodyPost_ret (v := .tuple #[.agg #[.string ⟨#[62]⟩, .int .i64 3, .int .i64 35, .int .i64 2, .bool true], .int .i64 (c - 3), .bool true]) (by simp [results, Tryd.results77, go_sem, r0, r1, r2, r3, r4]) rfl ?_
      exact ⟨rfl, ⟨Y5.drew, belD.drew⟩, rfl⟩

set_option maxRecDepth 100000 in
set_option maxHeartbeats 4000000 in
theorem form_near19 {W : World} (F : Forms W) {c : Int} (h1 : 19 < c) (h2 : c < 35) (x : Ext W) : Calls Tryd.prog 77 #[.int .i64 c] x.w (Ans W (.tuple #[.agg #[.string ⟨#[33]⟩, .int .i64 19, .int .i64 36, .int .i64 1, .bool true], .int .i64 (c - 19), .bool true])) := by
  have e0 : (c == 0) = false := by simp; omega
  have e1 : (c == 1) = false := by simp; omega
  have e2 : (c == 2) = false := by simp; omega
  have e3 : (c == 3) = false := by simp; omega
  have e35 : (c == 35) = false := by simp; omega
  have e19 : (c == 19) = false := by simp; omega
  have e36 : (c == 36) = false := by simp; omega
  have l19 : ¬ c < 19 := by omega
  have l3 : 3 < c := by omega
  have l35 : ¬ 35 < c := by omega
  go_enter Tryd.func77, Tryd.ntmps77
  have hfc : ∀ o, (x.w.alloc o).rangeAt 1 0 formCells := fun o j v hv => by rw [Nat.zero_add]; exact (F.ext (x.alloc o)) j v hv
  go_wp2_with (first | refine wp_load_mid 99 _ rfl 1 0 rfl formCells (.array 5 81) (hfc _) (by kernel_rfl) rfl (by kernel_rfl) ?_ | refine wpList_load_mid rfl 99 _ rfl 1 0 rfl formCells (.array 5 81) (hfc _) (by kernel_rfl) rfl (by kernel_rfl) ?_)
  clear hfc
  generalize hW : x.w.alloc _ = W1
  generalize hB : x.w.heap.size = B
  have bR : W1.heap[B]? = some (.cells #[.string ⟨#[]⟩, .int .i64 0, .int .i64 0, .int .i64 0, .bool false] 81 (0, 0)) := by
    subst hW; subst hB
    show (x.w.heap.push _)[x.w.heap.size]? = _
    rw [Array.getElem?_push, if_pos rfl]
  have bel : Below W.heap.size W W1 := by subst hW; exact x.below.alloc x.size _
  have hBW : W.heap.size ≤ B := by subst hB; exact x.size
  clear hW hB
  go_loopw [8] (fun i wr => (i = .int .i64 0 ∨ i = .int .i64 1 ∨ i = .int .i64 2 ∨ i = .int .i64 3 ∨ i = .int .i64 4) ∧ (∃ y : Ext W1, wr = y.w)) (fun i _ => 5 - (intOf i).toNat)
  case atStart => exact ⟨.inl rfl, ⟨Ext.self W1, rfl⟩⟩
  case round =>
    obtain ⟨hk, ⟨yy, rfl⟩⟩ := hrel
    rcases hk with rfl | rfl | rfl | rfl | rfl
    · skip
      have hix := form_ix0
      go_wp2_with fail
      go_roundw
      case rel => exact ⟨.inr (.inl (by go_num)), ⟨yy.alloc _, rfl⟩⟩
      case measure => simp [intOf]
    · skip
      have hix := form_ix1
      go_wp2_with fail
      go_roundw
      case rel => exact ⟨.inr (.inr (.inl (by go_num))), ⟨yy.alloc _, rfl⟩⟩
      case measure => simp [intOf]
    · skip
      have hix := form_ix2
      go_wp2_with fail
      go_roundw
      case rel => exact ⟨.inr (.inr (.inr (.inl (by go_num)))), ⟨yy.alloc _, rfl⟩⟩
      case measure => simp [intOf]
    · skip
      have hix := form_ix3
      go_wp2_with fail
      go_roundw
      case rel => exact ⟨.inr (.inr (.inr (.inr (by go_num)))), ⟨yy.alloc _, rfl⟩⟩
      case measure => simp [intOf]
    · skip
      have hix := form_ix4
      have kb : ∀ o, (yy.w.alloc o).heap[B]? = some (.cells #[.string ⟨#[]⟩, .int .i64 0, .int .i64 0, .int .i64 0, .bool false] 81 (0, 0)) := fun o => (yy.alloc o).blk bR
      have k0 : ∀ o, (yy.w.alloc o).cell? ⟨B, 0, none⟩ = some (.string ⟨#[]⟩) := fun o => blk_cell (kb o) 0
      have z0 : ∀ o, (yy.w.alloc o).frozen? ⟨B, 0, none⟩ = false := fun o => blk_free (kb o) 0
      have k1 : ∀ o, (yy.w.alloc o).cell? ⟨B, 1, none⟩ = some (.int .i64 0) := fun o => blk_cell (kb o) 1
      have z1 : ∀ o, (yy.w.alloc o).frozen? ⟨B, 1, none⟩ = false := fun o => blk_free (kb o) 1
      have k2 : ∀ o, (yy.w.alloc o).cell? ⟨B, 2, none⟩ = some (.int .i64 0) := fun o => blk_cell (kb o) 2
      have z2 : ∀ o, (yy.w.alloc o).frozen? ⟨B, 2, none⟩ = false := fun o => blk_free (kb o) 2
      have k3 : ∀ o, (yy.w.alloc o).cell? ⟨B, 3, none⟩ = some (.int .i64 0) := fun o => blk_cell (kb o) 3
      have z3 : ∀ o, (yy.w.alloc o).frozen? ⟨B, 3, none⟩ = false := fun o => blk_free (kb o) 3
      have k4 : ∀ o, (yy.w.alloc o).cell? ⟨B, 4, none⟩ = some (.bool false) := fun o => blk_cell (kb o) 4
      have z4 : ∀ o, (yy.w.alloc o).frozen? ⟨B, 4, none⟩ = false := fun o => blk_free (kb o) 4
      go_wp2_with fail
      generalize hY0 : yy.w.alloc _ = Y0
      have kb0 : Y0.heap[B]? = some (.cells #[.string ⟨#[]⟩, .int .i64 0, .int .i64 0, .int .i64 0, .bool false] 81 (0, 0)) := by rw [← hY0]; exact kb _
      have kf : Y0.heap[yy.w.heap.size]? = some (.cells #[.string ⟨#[33]⟩, .int .i64 19, .int .i64 36, .int .i64 1, .bool true] 81 (0, 0)) := by
        subst hY0
        show (yy.w.heap.push _)[yy.w.heap.size]? = _
        rw [Array.getElem?_push, if_pos rfl]
      have belY : Below W.heap.size W Y0 := by subst hY0; exact (bel.trans ((yy.alloc _).below.mono (by have := bel.size; omega)))
      have hlt : B < yy.w.heap.size := (Array.getElem?_eq_some_iff.1 (yy.blk bR)).1
      have hn1 : B ≠ yy.w.heap.size := by omega
      have hn2 : yy.w.heap.size ≠ B := by omega
      clear hlt
      generalize yy.w.heap.size = B6 at *
      clear hY0 kb k0 z0 k1 z1 k2 z2 k3 z3 k4 z4
      have k0 := blk_cell kb0 0
      have z0 := blk_free kb0 0
      have m0 := blk_cell kf 0
      have k1 := blk_cell kb0 1
      have z1 := blk_free kb0 1
      have m1 := blk_cell kf 1
      have k2 := blk_cell kb0 2
      have z2 := blk_free kb0 2
      have m2 := blk_cell kf 2
      have k3 := blk_cell kb0 3
      have z3 := blk_free kb0 3
      have m3 := blk_cell kf 3
      have k4 := blk_cell kb0 4
      have z4 := blk_free kb0 4
      have m4 := blk_cell kf 4
      simp at k0 k1 k2 k3 k4 m0 m1 m2 m3 m4
      go_region
      go_wp2
      generalize hY1 : Y0.setCell _ _ = Y1
      generalize hY2 : Y1.setCell _ _ = Y2
      generalize hY3 : Y2.setCell _ _ = Y3
      generalize hY4 : Y3.setCell _ _ = Y4
      generalize hY5 : Y4.setCell _ _ = Y5
      have q5 := set_blk (set_blk (set_blk (set_blk (set_blk kb0 0 _ hY1) 1 _ hY2) 2 _ hY3) 3 _ hY4) 4 _ hY5
      simp at q5
      have r0 := blk_cell q5 0
      have r1 := blk_cell q5 1
      have r2 := blk_cell q5 2
      have r3 := blk_cell q5 3
      have r4 := blk_cell q5 4
      simp at r0 r1 r2 r3 r4
      have belD : Below W.heap.size W Y5 := by
        subst hY5; subst hY4; subst hY3; subst hY2; subst hY1
        exact (((((belY.setCell hBW _).setCell hBW _).setCell hBW _).setCell hBW _).setCell hBW _)
      refine bodyPost_ret (v := .tuple #[.agg #[.string ⟨#[33]⟩, .int .i64 19, .int .i64 36, .int .i64 1, .bool true], .int .i64 (c - 19), .bool true]) (by simp [results, Tryd.results77, go_sem, r0, r1, r2, r3, r4]) rfl ?_
      exact ⟨rfl, ⟨Y5.drew, belD.drew⟩, rfl⟩

set_option maxRecDepth 100000 in
set_option maxHeartbeats 4000000 in
theorem form_less {W : World} (F : Forms W) {c : Int} (hc : c < 0) (x : Ext W) : Calls Tryd.prog 77 #[.int .i64 c] x.w (Ans W (.tuple #[.agg #[.string ⟨#[]⟩, .int .i64 0, .int .i64 0, .int .i64 0, .bool false], .int .i64 0, .bool false])) := by
  have e0 : (c == 0) = false := by simp; omega
  have e1 : (c == 1) = false := by simp; omega
  have e2 : (c == 2) = false := by simp; omega
  have e3 : (c == 3) = false := by simp; omega
  have e35 : (c == 35) = false := by simp; omega
  have e19 : (c == 19) = false := by simp; omega
  have e36 : (c == 36) = false := by simp; omega
  have l3 : ¬ 3 < c := by omega
  have l4 : ¬ 19 < c := by omega
  have l5 : ¬ 35 < c := by omega
  have l6 : ¬ 36 < c := by omega
  clear hc
  go_enter Tryd.func77, Tryd.ntmps77
  have hfc : ∀ o, (x.w.alloc o).rangeAt 1 0 formCells := fun o j v hv => by rw [Nat.zero_add]; exact (F.ext (x.alloc o)) j v hv
  go_wp2_with (first | refine wp_load_mid 99 _ rfl 1 0 rfl formCells (.array 5 81) (hfc _) (by kernel_rfl) rfl (by kernel_rfl) ?_ | refine wpList_load_mid rfl 99 _ rfl 1 0 rfl formCells (.array 5 81) (hfc _) (by kernel_rfl) rfl (by kernel_rfl) ?_)
  clear hfc
  generalize hW : x.w.alloc _ = W1
  generalize hB : x.w.heap.size = B
  have bR : W1.heap[B]? = some (.cells #[.string ⟨#[]⟩, .int .i64 0, .int .i64 0, .int .i64 0, .bool false] 81 (0, 0)) := by
    subst hW; subst hB
    show (x.w.heap.push _)[x.w.heap.size]? = _
    rw [Array.getElem?_push, if_pos rfl]
  have bel : Below W.heap.size W W1 := by subst hW; exact x.below.alloc x.size _
  have hBW : W.heap.size ≤ B := by subst hB; exact x.size
  clear hW hB
  go_loopw [8] (fun i wr => (i = .int .i64 0 ∨ i = .int .i64 1 ∨ i = .int .i64 2 ∨ i = .int .i64 3 ∨ i = .int .i64 4 ∨ i = .int .i64 5) ∧ (∃ y : Ext W1, wr = y.w)) (fun i _ => 5 - (intOf i).toNat)
  case atStart => exact ⟨.inl rfl, ⟨Ext.self W1, rfl⟩⟩
  case round =>
    obtain ⟨hk, ⟨yy, rfl⟩⟩ := hrel
    rcases hk with rfl | rfl | rfl | rfl | rfl | rfl
    · skip
      have hix := form_ix0
      go_wp2_with fail
      go_roundw
      case rel => exact ⟨.inr (.inl (by go_num)), ⟨yy.alloc _, rfl⟩⟩
      case measure => simp [intOf]
    · skip
      have hix := form_ix1
      go_wp2_with fail
      go_roundw
      case rel => exact ⟨.inr (.inr (.inl (by go_num))), ⟨yy.alloc _, rfl⟩⟩
      case measure => simp [intOf]
    · skip
      have hix := form_ix2
      go_wp2_with fail
      go_roundw
      case rel => exact ⟨.inr (.inr (.inr (.inl (by go_num)))), ⟨yy.alloc _, rfl⟩⟩
      case measure => simp [intOf]
    · skip
      have hix := form_ix3
      go_wp2_with fail
      go_roundw
      case rel => exact ⟨.inr (.inr (.inr (.inr (.inl (by go_num))))), ⟨yy.alloc _, rfl⟩⟩
      case measure => simp [intOf]
    · skip
      have hix := form_ix4
      go_wp2_with fail
      go_roundw
      case rel => exact ⟨.inr (.inr (.inr (.inr (.inr (by go_num))))), ⟨yy.alloc _, rfl⟩⟩
      case measure => simp [intOf]
    · skip
      have kb0 := yy.blk bR
      have belY : Below W.heap.size W yy.w := bel.trans (yy.below.mono (by have := bel.size; omega))
      have k0 := blk_cell kb0 0
      have z0 := blk_free kb0 0
      have k1 := blk_cell kb0 1
      have z1 := blk_free kb0 1
      have k2 := blk_cell kb0 2
      have z2 := blk_free kb0 2
      have k3 := blk_cell kb0 3
      have z3 := blk_free kb0 3
      have k4 := blk_cell kb0 4
      have z4 := blk_free kb0 4
      simp at k0 k1 k2 k3 k4
      generalize yy.w = Y0 at *
      go_wp2_with fail
      generalize hY1 : Y0.setCell _ _ = Y1
      generalize hY2 : Y1.setCell _ _ = Y2
      generalize hY3 : Y2.setCell _ _ = Y3
      generalize hY4 : Y3.setCell _ _ = Y4
      generalize hY5 : Y4.setCell _ _ = Y5
      have q5 := set_blk (set_blk (set_blk (set_blk (set_blk kb0 0 _ hY1) 1 _ hY2) 2 _ hY3) 3 _ hY4) 4 _ hY5
      simp at q5
      have r0 := blk_cell q5 0
      have r1 := blk_cell q5 1
      have r2 := blk_cell q5 2
      have r3 := blk_cell q5 3
      have r4 := blk_cell q5 4
      simp at r0 r1 r2 r3 r4
      have belD : Below W.heap.size W Y5 := by
        subst hY5; subst hY4; subst hY3; subst hY2; subst hY1
        exact (((((belY.setCell hBW _).setCell hBW _).setCell hBW _).setCell hBW _).setCell hBW _)
      refine bodyPost_ret (v := .tuple #[.agg #[.string ⟨#[]⟩, .int .i64 0, .int .i64 0, .int .i64 0, .bool false], .int .i64 0, .bool false]) (by simp [results, Tryd.results77, go_sem, r0, r1, r2, r3, r4]) rfl ?_
      exact ⟨rfl, ⟨Y5, belD⟩, rfl⟩

set_option maxRecDepth 100000 in
set_option maxHeartbeats 4000000 in
theorem form_farA {W : World} (F : Forms W) {c : Int} (h1 : 36 < c) (hm : c ≤ maxI) (hpar : c % 2 = 1) (x : Ext W) : Calls Tryd.prog 77 #[.int .i64 c] x.w (Ans W (.tuple #[.agg #[.string ⟨#[62]⟩, .int .i64 3, .int .i64 35, .int .i64 2, .bool true], .int .i64 (15 + (c - 35) / 2), .bool true])) := by
  have e0 : (c == 0) = false := by simp; omega
  have e1 : (c == 1) = false := by simp; omega
  have e2 : (c == 2) = false := by simp; omega
  have e3 : (c == 3) = false := by simp; omega
  have e35 : (c == 35) = false := by simp; omega
  have hb35 : -9223372036854775808 ≤ c - 35 ∧ c - 35 ≤ 9223372036854775807 := by have := maxI_eq; omega
  have w35 : IntKind.i64.wrap (c - 35) = c - 35 := IntWalk.i64_in _ hb35
  have v35 : wrap64 (c - 35) = c - 35 := by rw [← IntWalk.i64_left]; exact w35
  have t35 : (c - 35).tmod 2 = 0 := by rw [Int.tmod_eq_emod_of_nonneg (by omega)]; omega
  have hq35 : 0 ≤ (c - 35) / 2 ∧ (c - 35) / 2 ≤ c - 35 := by omega
  have d35 : (c - 35).tdiv 2 = (c - 35) / 2 := by rw [Int.tdiv_eq_ediv_of_nonneg (by omega)]
  have y35 : IntKind.i64.wrap ((c - 35) / 2) = (c - 35) / 2 := IntWalk.i64_in _ (by omega)
  have z35 : wrap64 ((c - 35) / 2) = (c - 35) / 2 := by rw [← IntWalk.i64_left]; exact y35
  have hs35 : -9223372036854775808 ≤ 15 + (c - 35) / 2 ∧ 15 + (c - 35) / 2 ≤ 9223372036854775807 := by have := maxI_eq; omega
  have u35 : IntKind.i64.wrap (15 + (c - 35) / 2) = 15 + (c - 35) / 2 := IntWalk.i64_in _ hs35
  have x35 : wrap64 (15 + (c - 35) / 2) = 15 + (c - 35) / 2 := by rw [← IntWalk.i64_left]; exact u35
  clear hq35 hs35
  clear hb35
  have l3 : 3 < c := by omega
  have l4 : 19 < c := by omega
  have l5 : ¬ c < 19 := by omega
  have l6 : ¬ c < 35 := by omega
  have l7 : 35 < c := by omega
  clear hm hpar
  go_enter Tryd.func77, Tryd.ntmps77
  have hfc : ∀ o, (x.w.alloc o).rangeAt 1 0 formCells := fun o j v hv => by rw [Nat.zero_add]; exact (F.ext (x.alloc o)) j v hv
  go_wp2_with (first | refine wp_load_mid 99 _ rfl 1 0 rfl formCells (.array 5 81) (hfc _) (by kernel_rfl) rfl (by kernel_rfl) ?_ | refine wpList_load_mid rfl 99 _ rfl 1 0 rfl formCells (.array 5 81) (hfc _) (by kernel_rfl) rfl (by kernel_rfl) ?_)
  clear hfc
  generalize hW : x.w.alloc _ = W1
  generalize hB : x.w.heap.size = B
  have bR : W1.heap[B]? = some (.cells #[.string ⟨#[]⟩, .int .i64 0, .int .i64 0, .int .i64 0, .bool false] 81 (0, 0)) := by
    subst hW; subst hB
    show (x.w.heap.push _)[x.w.heap.size]? = _
    rw [Array.getElem?_push, if_pos rfl]
  have bel : Below W.heap.size W W1 := by subst hW; exact x.below.alloc x.size _
  have hBW : W.heap.size ≤ B := by subst hB; exact x.size
  clear hW hB
  go_loopw [8] (fun i wr => (i = .int .i64 0 ∨ i = .int .i64 1 ∨ i = .int .i64 2 ∨ i = .int .i64 3) ∧ (∃ y : Ext W1, wr = y.w)) (fun i _ => 5 - (intOf i).toNat)
  case atStart => exact ⟨.inl rfl, ⟨Ext.self W1, rfl⟩⟩
  case round =>
    obtain ⟨hk, ⟨yy, rfl⟩⟩ := hrel
    rcases hk with rfl | rfl | rfl | rfl
    · skip
      have hix := form_ix0
      go_wp2_with fail
      go_roundw
      case rel => exact ⟨.inr (.inl (by go_num)), ⟨yy.alloc _, rfl⟩⟩
      case measure => simp [intOf]
    · skip
      have hix := form_ix1
      go_wp2_with fail
      go_roundw
      case rel => exact ⟨.inr (.inr (.inl (by go_num))), ⟨yy.alloc _, rfl⟩⟩
      case measure => simp [intOf]
    · skip
      have hix := form_ix2
      go_wp2_with fail
      go_roundw
      case rel => exact ⟨.inr (.inr (.inr (by go_num))), ⟨yy.alloc _, rfl⟩⟩
      case measure => simp [intOf]
    · skip
      have hix := form_ix3
      have kb : ∀ o, (yy.w.alloc o).heap[B]? = some (.cells #[.string ⟨#[]⟩, .int .i64 0, .int .i64 0, .int .i64 0, .bool false] 81 (0, 0)) := fun o => (yy.alloc o).blk bR
      have k0 : ∀ o, (yy.w.alloc o).cell? ⟨B, 0, none⟩ = some (.string ⟨#[]⟩) := fun o => blk_cell (kb o) 0
      have z0 : ∀ o, (yy.w.alloc o).frozen? ⟨B, 0, none⟩ = false := fun o => blk_free (kb o) 0
      have k1 : ∀ o, (yy.w.alloc o).cell? ⟨B, 1, none⟩ = some (.int .i64 0) := fun o => blk_cell (kb o) 1
      have z1 : ∀ o, (yy.w.alloc o).frozen? ⟨B, 1, none⟩ = false := fun o => blk_free (kb o) 1
      have k2 : ∀ o, (yy.w.alloc o).cell? ⟨B, 2, none⟩ = some (.int .i64 0) := fun o => blk_cell (kb o) 2
      have z2 : ∀ o, (yy.w.alloc o).frozen? ⟨B, 2, none⟩ = false := fun o => blk_free (kb o) 2
      have k3 : ∀ o, (yy.w.alloc o).cell? ⟨B, 3, none⟩ = some (.int .i64 0) := fun o => blk_cell (kb o) 3
      have z3 : ∀ o, (yy.w.alloc o).frozen? ⟨B, 3, none⟩ = false := fun o => blk_free (kb o) 3
      have k4 : ∀ o, (yy.w.alloc o).cell? ⟨B, 4, none⟩ = some (.bool false) := fun o => blk_cell (kb o) 4
      have z4 : ∀ o, (yy.w.alloc o).frozen? ⟨B, 4, none⟩ = false := fun o => blk_free (kb o) 4
      go_wp2_with fail
      generalize hY0 : yy.w.alloc _ = Y0
      have kb0 : Y0.heap[B]? = some (.cells #[.string ⟨#[]⟩, .int .i64 0, .int .i64 0, .int .i64 0, .bool false] 81 (0, 0)) := by rw [← hY0]; exact kb _
      have kf : Y0.heap[yy.w.heap.size]? = some (.cells #[.string ⟨#[62]⟩, .int .i64 3, .int .i64 35, .int .i64 2, .bool true] 81 (0, 0)) := by
        subst hY0
        show (yy.w.heap.push _)[yy.w.heap.size]? = _
        rw [Array.getElem?_push, if_pos rfl]
      have belY : Below W.heap.size W Y0 := by subst hY0; exact (bel.trans ((yy.alloc _).below.mono (by have := bel.size; omega)))
      have hlt : B < yy.w.heap.size := (Array.getElem?_eq_some_iff.1 (yy.blk bR)).1
      have hn1 : B ≠ yy.w.heap.size := by omega
      have hn2 : yy.w.heap.size ≠ B := by omega
      clear hlt
      generalize yy.w.heap.size = B6 at *
      clear hY0 kb k0 z0 k1 z1 k2 z2 k3 z3 k4 z4
      have k0 := blk_cell kb0 0
      have z0 := blk_free kb0 0
      have m0 := blk_cell kf 0
      have k1 := blk_cell kb0 1
      have z1 := blk_free kb0 1
      have m1 := blk_cell kf 1
      have k2 := blk_cell kb0 2
      have z2 := blk_free kb0 2
      have m2 := blk_cell kf 2
      have k3 := blk_cell kb0 3
      have z3 := blk_free kb0 3
      have m3 := blk_cell kf 3
      have k4 := blk_cell kb0 4
      have z4 := blk_free kb0 4
      have m4 := blk_cell kf 4
      simp at k0 k1 k2 k3 k4 m0 m1 m2 m3 m4
      go_region
      go_wp2
      generalize hY1 : Y0.setCell _ _ = Y1
      generalize hY2 : Y1.setCell _ _ = Y2
      generalize hY3 : Y2.setCell _ _ = Y3
      generalize hY4 : Y3.setCell _ _ = Y4
      generalize hY5 : Y4.setCell _ _ = Y5
      have q5 := set_blk (set_blk (set_blk (set_blk (set_blk kb0 0 _ hY1) 1 _ hY2) 2 _ hY3) 3 _ hY4) 4 _ hY5
      simp at q5
      have r0 := blk_cell q5 0
      have r1 := blk_cell q5 1
      have r2 := blk_cell q5 2
      have r3 := blk_cell q5 3
      have r4 := blk_cell q5 4
      simp at r0 r1 r2 r3 r4
      have belD : Below W.heap.size W Y5 := by
        subst hY5; subst hY4; subst hY3; subst hY2; subst hY1
        exact (((((belY.setCell hBW _).setCell hBW _).setCell hBW _).setCell hBW _).setCell hBW _)
      refine bodyPost_ret (v := .tuple #[.agg #[.string ⟨#[62]⟩, .int .i64 3, .int .i64 35, .int .i64 2, .bool true], .int .i64 (15 + (c - 35) / 2), .bool true]) (by simp [results, Tryd.results77, go_sem, r0, r1, r2, r3, r4]) rfl ?_
      exact ⟨rfl, ⟨Y5.drew, belD.drew⟩, rfl⟩

set_option maxRecDepth 100000 in
set_option maxHeartbeats 4000000 in
theorem form_farB {W : World} (F : Forms W) {c : Int} (h1 : 36 < c) (hm : c ≤ maxI) (hpar : c % 2 = 0) (x : Ext W) : Calls Tryd.prog 77 #[.int .i64 c] x.w (Ans W (.tuple #[.agg #[.string ⟨#[33]⟩, .int .i64 19, .int .i64 36, .int .i64 1, .bool true], .int .i64 (15 + (c - 36) / 2), .bool true])) := by
  have e0 : (c == 0) = false := by simp; omega
  have e1 : (c == 1) = false := by simp; omega
  have e2 : (c == 2) = false := by simp; omega
  have e3 : (c == 3) = false := by simp; omega
  have e35 : (c == 35) = false := by simp; omega
  have e19 : (c == 19) = false := by simp; omega
  have e36 : (c == 36) = false := by simp; omega
  have hb35 : -9223372036854775808 ≤ c - 35 ∧ c - 35 ≤ 9223372036854775807 := by have := maxI_eq; omega
  have w35 : IntKind.i64.wrap (c - 35) = c - 35 := IntWalk.i64_in _ hb35
  have v35 : wrap64 (c - 35) = c - 35 := by rw [← IntWalk.i64_left]; exact w35
  have t35 : (c - 35).tmod 2 = 1 := by rw [Int.tmod_eq_emod_of_nonneg (by omega)]; omega
  clear hb35
  have hb36 : -9223372036854775808 ≤ c - 36 ∧ c - 36 ≤ 9223372036854775807 := by have := maxI_eq; omega
  have w36 : IntKind.i64.wrap (c - 36) = c - 36 := IntWalk.i64_in _ hb36
  have v36 : wrap64 (c - 36) = c - 36 := by rw [← IntWalk.i64_left]; exact w36
  have t36 : (c - 36).tmod 2 = 0 := by rw [Int.tmod_eq_emod_of_nonneg (by omega)]; omega
  have hq36 : 0 ≤ (c - 36) / 2 ∧ (c - 36) / 2 ≤ c - 36 := by omega
  have d36 : (c - 36).tdiv 2 = (c - 36) / 2 := by rw [Int.tdiv_eq_ediv_of_nonneg (by omega)]
  have y36 : IntKind.i64.wrap ((c - 36) / 2) = (c - 36) / 2 := IntWalk.i64_in _ (by omega)
  have z36 : wrap64 ((c - 36) / 2) = (c - 36) / 2 := by rw [← IntWalk.i64_left]; exact y36
  have hs36 : -9223372036854775808 ≤ 15 + (c - 36) / 2 ∧ 15 + (c - 36) / 2 ≤ 9223372036854775807 := by have := maxI_eq; omega
  have u36 : IntKind.i64.wrap (15 + (c - 36) / 2) = 15 + (c - 36) / 2 := IntWalk.i64_in _ hs36
  have x36 : wrap64 (15 + (c - 36) / 2) = 15 + (c - 36) / 2 := by rw [← IntWalk.i64_left]; exact u36
  clear hq36 hs36
  clear hb36
  have l3 : 3 < c := by omega
  have l4 : 19 < c := by omega
  have l5 : ¬ c < 19 := by omega
  have l6 : ¬ c < 35 := by omega
  have l7 : 35 < c := by omega
  clear hm hpar
  go_enter Tryd.func77, Tryd.ntmps77
  have hfc : ∀ o, (x.w.alloc o).rangeAt 1 0 formCells := fun o j v hv => by rw [Nat.zero_add]; exact (F.ext (x.alloc o)) j v hv
  go_wp2_with (first | refine wp_load_mid 99 _ rfl 1 0 rfl formCells (.array 5 81) (hfc _) (by kernel_rfl) rfl (by kernel_rfl) ?_ | refine wpList_load_mid rfl 99 _ rfl 1 0 rfl formCells (.array 5 81) (hfc _) (by kernel_rfl) rfl (by kernel_rfl) ?_)
  clear hfc
  generalize hW : x.w.alloc _ = W1
  generalize hB : x.w.heap.size = B
  have bR : W1.heap[B]? = some (.cells #[.string ⟨#[]⟩, .int .i64 0, .int .i64 0, .int .i64 0, .bool false] 81 (0, 0)) := by
    subst hW; subst hB
    show (x.w.heap.push _)[x.w.heap.size]? = _
    rw [Array.getElem?_push, if_pos rfl]
  have bel : Below W.heap.size W W1 := by subst hW; exact x.below.alloc x.size _
  have hBW : W.heap.size ≤ B := by subst hB; exact x.size
  clear hW hB
  go_loopw [8] (fun i wr => (i = .int .i64 0 ∨ i = .int .i64 1 ∨ i = .int .i64 2 ∨ i = .int .i64 3 ∨ i = .int .i64 4) ∧ (∃ y : Ext W1, wr = y.w)) (fun i _ => 5 - (intOf i).toNat)
  case atStart => exact ⟨.inl rfl, ⟨Ext.self W1, rfl⟩⟩
  case round =>
    obtain ⟨hk, ⟨yy, rfl⟩⟩ := hrel
    rcases hk with rfl | rfl | rfl | rfl | rfl
    · skip
      have hix := form_ix0
      go_wp2_with fail
      go_roundw
      case rel => exact ⟨.inr (.inl (by go_num)), ⟨yy.alloc _, rfl⟩⟩
      case measure => simp [intOf]
    · skip
      have hix := form_ix1
      go_wp2_with fail
      go_roundw
      case rel => exact ⟨.inr (.inr (.inl (by go_num))), ⟨yy.alloc _, rfl⟩⟩
      case measure => simp [intOf]
    · skip
      have hix := form_ix2
      go_wp2_with fail
      go_roundw
      case rel => exact ⟨.inr (.inr (.inr (.inl (by go_num)))), ⟨yy.alloc _, rfl⟩⟩
      case measure => simp [intOf]
    · skip
      have hix := form_ix3
      go_wp2_with fail
      go_roundw
      case rel => exact ⟨.inr (.inr (.inr (.inr (by go_num)))), ⟨yy.alloc _, rfl⟩⟩
      case measure => simp [intOf]
    · skip
      have hix := form_ix4
      have kb : ∀ o, (yy.w.alloc o).heap[B]? = some (.cells #[.string ⟨#[]⟩, .int .i64 0, .int .i64 0, .int .i64 0, .bool false] 81 (0, 0)) := fun o => (yy.alloc o).blk bR
      have k0 : ∀ o, (yy.w.alloc o).cell? ⟨B, 0, none⟩ = some (.string ⟨#[]⟩) := fun o => blk_cell (kb o) 0
      have z0 : ∀ o, (yy.w.alloc o).frozen? ⟨B, 0, none⟩ = false := fun o => blk_free (kb o) 0
      have k1 : ∀ o, (yy.w.alloc o).cell? ⟨B, 1, none⟩ = some (.int .i64 0) := fun o => blk_cell (kb o) 1
      have z1 : ∀ o, (yy.w.alloc o).frozen? ⟨B, 1, none⟩ = false := fun o => blk_free (kb o) 1
      have k2 : ∀ o, (yy.w.alloc o).cell? ⟨B, 2, none⟩ = some (.int .i64 0) := fun o => blk_cell (kb o) 2
      have z2 : ∀ o, (yy.w.alloc o).frozen? ⟨B, 2, none⟩ = false := fun o => blk_free (kb o) 2
      have k3 : ∀ o, (yy.w.alloc o).cell? ⟨B, 3, none⟩ = some (.int .i64 0) := fun o => blk_cell (kb o) 3
      have z3 : ∀ o, (yy.w.alloc o).frozen? ⟨B, 3, none⟩ = false := fun o => blk_free (kb o) 3
      have k4 : ∀ o, (yy.w.alloc o).cell? ⟨B, 4, none⟩ = some (.bool false) := fun o => blk_cell (kb o) 4
      have z4 : ∀ o, (yy.w.alloc o).frozen? ⟨B, 4, none⟩ = false := fun o => blk_free (kb o) 4
      go_wp2_with fail
      generalize hY0 : yy.w.alloc _ = Y0
      have kb0 : Y0.heap[B]? = some (.cells #[.string ⟨#[]⟩, .int .i64 0, .int .i64 0, .int .i64 0, .bool false] 81 (0, 0)) := by rw [← hY0]; exact kb _
      have kf : Y0.heap[yy.w.heap.size]? = some (.cells #[.string ⟨#[33]⟩, .int .i64 19, .int .i64 36, .int .i64 1, .bool true] 81 (0, 0)) := by
        subst hY0
        show (yy.w.heap.push _)[yy.w.heap.size]? = _
        rw [Array.getElem?_push, if_pos rfl]
      have belY : Below W.heap.size W Y0 := by subst hY0; exact (bel.trans ((yy.alloc _).below.mono (by have := bel.size; omega)))
      have hlt : B < yy.w.heap.size := (Array.getElem?_eq_some_iff.1 (yy.blk bR)).1
      have hn1 : B ≠ yy.w.heap.size := by omega
      have hn2 : yy.w.heap.size ≠ B := by omega
      clear hlt
      generalize yy.w.heap.size = B6 at *
      clear hY0 kb k0 z0 k1 z1 k2 z2 k3 z3 k4 z4
      have k0 := blk_cell kb0 0
      have z0 := blk_free kb0 0
      have m0 := blk_cell kf 0
      have k1 := blk_cell kb0 1
      have z1 := blk_free kb0 1
      have m1 := blk_cell kf 1
      have k2 := blk_cell kb0 2
      have z2 := blk_free kb0 2
      have m2 := blk_cell kf 2
      have k3 := blk_cell kb0 3
      have z3 := blk_free kb0 3
      have m3 := blk_cell kf 3
      have k4 := blk_cell kb0 4
      have z4 := blk_free kb0 4
      have m4 := blk_cell kf 4
      simp at k0 k1 k2 k3 k4 m0 m1 m2 m3 m4
      go_region
      go_wp2
      generalize hY1 : Y0.setCell _ _ = Y1
      generalize hY2 : Y1.setCell _ _ = Y2
      generalize hY3 : Y2.setCell _ _ = Y3
      generalize hY4 : Y3.setCell _ _ = Y4
      generalize hY5 : Y4.setCell _ _ = Y5
      have q5 := set_blk (set_blk (set_blk (set_blk (set_blk kb0 0 _ hY1) 1 _ hY2) 2 _ hY3) 3 _ hY4) 4 _ hY5
      simp at q5
      have r0 := blk_cell q5 0
      have r1 := blk_cell q5 1
      have r2 := blk_cell q5 2
      have r3 := blk_cell q5 3
      have r4 := blk_cell q5 4
      simp at r0 r1 r2 r3 r4
      have belD : Below W.heap.size W Y5 := by
        subst hY5; subst hY4; subst hY3; subst hY2; subst hY1
        exact (((((belY.setCell hBW _).setCell hBW _).setCell hBW _).setCell hBW _).setCell hBW _)
      refine bodyPost_ret (v := .tuple #[.agg #[.string ⟨#[33]⟩, .int .i64 19, .int .i64 36, .int .i64 1, .bool true], .int .i64 (15 + (c - 36) / 2), .bool true]) (by simp [results, Tryd.results77, go_sem, r0, r1, r2, r3, r4]) rfl ?_
      exact ⟨rfl, ⟨Y5.drew, belD.drew⟩, rfl⟩

def markF (c : Int) : ByteArray := if c = 0 then ⟨#[110]⟩ else if c = 1 then ⟨#[42]⟩ else if c = 2 then ⟨#[43]⟩ else if Arr c then ⟨#[62]⟩ else if Bx c then ⟨#[33]⟩ else ⟨#[]⟩
def codeF (c : Int) : Int := if c = 1 then 1 else if c = 2 then 2 else if Arr c then 3 else if Bx c then 19 else 0
def openF (c : Int) : Int := if Arr c then 35 else if Bx c then 36 else 0
def partsF (c : Int) : Int := if kidsOf c < 0 then 0 else kidsOf c
def gF (c : Int) : Int := if Graded c then gradeOf c else 0
/-- What formOfCode hands back. -/
abbrev formV (c : Int) : Value := .tuple #[.agg #[.string (markF c), .int .i64 (codeF c), .int .i64 (openF c), .int .i64 (partsF c), .bool (decide (Graded c))], .int .i64 (gF c), .bool (decide (0 ≤ kidsOf c))]
theorem formV_arr {c : Int} (h : Arr c) : formV c = .tuple #[.agg #[.string ⟨#[62]⟩, .int .i64 3, .int .i64 35, .int .i64 2, .bool true], .int .i64 (gradeOf c), .bool true] := by
  have h0 : c ≠ 0 := by unfold Arr at h; omega
  have h1 : c ≠ 1 := by unfold Arr at h; omega
  have h2 : c ≠ 2 := by unfold Arr at h; omega
  simp [formV, markF, codeF, openF, partsF, gF, kidsOf_2 (.inr (.inr h)), Graded, h, h0, h1, h2]
theorem formV_bx {c : Int} (h : Bx c) : formV c = .tuple #[.agg #[.string ⟨#[33]⟩, .int .i64 19, .int .i64 36, .int .i64 1, .bool true], .int .i64 (gradeOf c), .bool true] := by
  have h0 : c ≠ 0 := by unfold Bx at h; omega
  have h1 : c ≠ 1 := by unfold Bx at h; omega
  have h2 : c ≠ 2 := by unfold Bx at h; omega
  have h3 : ¬ Arr c := by unfold Bx at h; unfold Arr; omega
  simp [formV, markF, codeF, openF, partsF, gF, kidsOf_1 h, Graded, h, h0, h1, h2, h3]
theorem formV_no {c : Int} (h : c < 0) : formV c = .tuple #[.agg #[.string ⟨#[]⟩, .int .i64 0, .int .i64 0, .int .i64 0, .bool false], .int .i64 0, .bool false] := by
  have h0 : c ≠ 0 := by omega
  have h1 : c ≠ 1 := by omega
  have h2 : c ≠ 2 := by omega
  have h3 : ¬ Arr c := by unfold Arr; omega
  have h4 : ¬ Bx c := by unfold Bx; omega
  have h5 : ¬ (c = 1 ∨ c = 2 ∨ Arr c) := by rintro (h | h | h); exact h1 h; exact h2 h; exact h3 h
  simp [formV, markF, codeF, openF, partsF, gF, kidsOf_no h0 h5 h4, Graded, h0, h1, h2, h3, h4]
theorem formOf_ans {W : World} (F : Forms W) (c : Int) (hc : c ≤ 36) (x : Ext W) : Calls Tryd.prog 77 #[.int .i64 c] x.w (Ans W (formV c)) := by
  by_cases n : c < 0
  · rw [formV_no n]
    exact form_less F n x
  by_cases e0 : c = 0
  · subst e0; exact form_lit0 F x
  by_cases e1 : c = 1
  · subst e1; exact form_lit1 F x
  by_cases e2 : c = 2
  · subst e2; exact form_lit2 F x
  by_cases a : Arr c
  · rw [formV_arr a]
    by_cases e3 : c = 3
    · subst e3; exact form_lit3 F x
    by_cases e35 : c = 35
    · subst e35; exact form_lit35 F x
    have hg : gradeOf c = c - 3 := by unfold Arr at a; unfold gradeOf; rw [if_neg (by omega), if_neg (by omega)]
    rw [hg]
    exact form_near3 F (by unfold Arr at a; omega) (by unfold Arr at a; omega) x
  · have b : Bx c := by unfold Arr at a; unfold Bx; omega
    rw [formV_bx b]
    by_cases e3 : c = 19
    · subst e3; exact form_lit19 F x
    by_cases e35 : c = 36
    · subst e35; exact form_lit36 F x
    have hg : gradeOf c = c - 19 := by unfold Bx at b; unfold gradeOf; rw [if_neg (by omega), if_pos (by omega)]
    rw [hg]
    exact form_near19 F (by unfold Bx at b; omega) (by unfold Bx at b; omega) x
/-- What it hands back of a code behind those of written types. -/
theorem form_far {W : World} (F : Forms W) (c : Int) (h : 36 < c) (hm : c ≤ maxI) : ∃ (f0 : ByteArray) (f1 f2 : Int), ∀ y : Ext W, Calls Tryd.prog 77 #[.int .i64 c] y.w (Ans W (.tuple #[.agg #[.string f0, .int .i64 f1, .int .i64 f2, .int .i64 (kidsP c), .bool true], .int .i64 (gradeP c), .bool true])) := by
  by_cases o : c % 2 = 1
  · rw [show kidsP c = 2 by simp [kidsP, h, o], show gradeP c = 15 + (c - 35) / 2 by simp [gradeP, h]]
    exact ⟨_, _, _, fun y => form_farA F h hm o y⟩
  · rw [show kidsP c = 1 by simp [kidsP, h, o], show gradeP c = 15 + (c - 36) / 2 by simp [gradeP, h]; omega]
    exact ⟨_, _, _, fun y => form_farB F h hm (by omega) y⟩

end Go.Proofs.YtncfbljablbglaaDoor
/- What the table of forms reads as, and a heap that has it. -/
set_option linter.unusedVariables false
namespace Go.Proofs.YtncfbljablbglaaDoor
open Go.RowKit Go.ChangeShapes Go.WideShapes Go.ChangeAt Go.WideElems Go.WideMaps

theorem drop_split {α : Type} (l : List α) (i k : Nat) : l.drop i = (l.drop i).take k ++ l.drop (i + k) := by
  have := (List.take_append_drop k (l.drop i)).symm
  rwa [List.drop_drop] at this
theorem string_of_list {s : ByteArray} {l : List UInt8} (h : s.data.toList = l) : s = ⟨l.toArray⟩ := by
  obtain ⟨d⟩ := s
  simp at h
  subst h
  simp

section
variable {H : Type} {enc : TypeId × Value → H} {w : World} {sp : Nat → Bool} {held : Bool} {base : Nat}
set_option maxRecDepth 100000 in
theorem form_open {m : Nat} {cs : List Value} {x : DataW H × List MemPlace} (h : DataW.trod enc Tryd.prog w base sp held m 81 cs = some x) :
    ∃ (s : ByteArray) (c o p : Int) (g : Bool), cs = [.string s, .int .i64 c, .int .i64 o, .int .i64 p, .bool g] ∧ x.1 = .agg [.lit (.string s.data.toList), .lit (.int .i64 c), .lit (.int .i64 o), .lit (.int .i64 p), .lit (.bool g)] := by
  obtain ⟨xs, n, rfl, rfl, hl, hn, hel⟩ := DataW.trod_struct Tryd.underlying81 h
  have c0 : Tryd.prog.cellsOf 81 = 5 := by kernel_rfl
  have c1 : Tryd.prog.cellsOf 9 = 1 := by kernel_rfl
  have c2 : Tryd.prog.cellsOf 3 = 1 := by kernel_rfl
  have c3 : Tryd.prog.cellsOf 4 = 1 := by kernel_rfl
  rw [c0] at hl
  match cs, hl, xs, hn with
  | [a0, a1, a2, a3, a4], _, [x0, x1, x2, x3, x4], _ =>
    have h0 : DataW.trod enc Tryd.prog w base sp held n 9 (([a0, a1, a2, a3, a4].drop 0).take (Tryd.prog.cellsOf 9)) = some x0 := hel 0 _ rfl
    have h1 : DataW.trod enc Tryd.prog w base sp held n 3 (([a0, a1, a2, a3, a4].drop 1).take (Tryd.prog.cellsOf 3)) = some x1 := hel 1 _ rfl
    have h2 : DataW.trod enc Tryd.prog w base sp held n 3 (([a0, a1, a2, a3, a4].drop 2).take (Tryd.prog.cellsOf 3)) = some x2 := hel 2 _ rfl
    have h3 : DataW.trod enc Tryd.prog w base sp held n 3 (([a0, a1, a2, a3, a4].drop 3).take (Tryd.prog.cellsOf 3)) = some x3 := hel 3 _ rfl
    have h4 : DataW.trod enc Tryd.prog w base sp held n 4 (([a0, a1, a2, a3, a4].drop 4).take (Tryd.prog.cellsOf 4)) = some x4 := hel 4 _ rfl
    rw [c1] at h0
    rw [c2] at h1 h2 h3
    rw [c3] at h4
    obtain ⟨s, e0, q0, _⟩ := DataW.trod_string Tryd.underlying9 (x := x0) h0
    obtain ⟨c, e1, q1, _⟩ := DataW.trod_int Tryd.underlying3 (x := x1) h1
    obtain ⟨o, e2, q2, _⟩ := DataW.trod_int Tryd.underlying3 (x := x2) h2
    obtain ⟨p, e3, q3, _⟩ := DataW.trod_int Tryd.underlying3 (x := x3) h3
    obtain ⟨g, e4, q4⟩ := DataW.trod_bool Tryd.underlying4 (x := x4) h4
    simp at e0 e1 e2 e3 e4
    subst e0; subst e1; subst e2; subst e3; subst e4; subst q0; subst q1; subst q2; subst q3; subst q4
    exact ⟨s, c, o, p, g, rfl, rfl⟩
end

theorem gForms : Tryd.prog.globalNamed "loop.example/g03111/impl.typeForms" = some 1 := by kernel_rfl
theorem tForms : (Tryd.prog.globals[1]?).map (·.type) = some 99 := by kernel_rfl
set_option maxRecDepth 100000 in
theorem forms_cells {W : World} {sp : Nat → Bool} {held : Bool} {m : Nat} {cs : List Value} {p : List MemPlace} (h : DataW.trod (fun _ => ()) Tryd.prog W 0 sp held m 99 cs = some (Rows.laid_loop_example_g03111_impl_typeForms, p)) : cs = formCells := by
  obtain ⟨xs, n, rfl, hx, hl, hn, hel⟩ := DataW.trod_array Tryd.underlying99 h
  have c0 : Tryd.prog.cellsOf 99 = 25 := by kernel_rfl
  have c1 : Tryd.prog.cellsOf 81 = 5 := by kernel_rfl
  rw [c0] at hl
  rw [c1] at hel
  match xs, hn with
  | [x0, x1, x2, x3, x4], _ =>
    have hx1 := (Prod.mk.inj hx).1
    unfold Rows.laid_loop_example_g03111_impl_typeForms at hx1
    simp only [List.map_cons, List.map_nil, DataW.agg.injEq, List.cons.injEq, and_true] at hx1
    obtain ⟨y0, y1, y2, y3, y4⟩ := hx1
    obtain ⟨s0, c0a, o0, p0, g0, e0, q0⟩ := form_open (x := x0) (hel 0 (by decide))
    rw [← y0] at q0
    simp only [DataW.agg.injEq, List.cons.injEq, DataW.lit.injEq, Lit.string.injEq, Lit.int.injEq, Lit.bool.injEq, and_true, true_and] at q0
    obtain ⟨r0, rfl, rfl, rfl, rfl⟩ := q0
    rw [string_of_list r0.symm] at e0
    obtain ⟨s1, c1a, o1, p1, g1, e1, q1⟩ := form_open (x := x1) (hel 1 (by decide))
    rw [← y1] at q1
    simp only [DataW.agg.injEq, List.cons.injEq, DataW.lit.injEq, Lit.string.injEq, Lit.int.injEq, Lit.bool.injEq, and_true, true_and] at q1
    obtain ⟨r1, rfl, rfl, rfl, rfl⟩ := q1
    rw [string_of_list r1.symm] at e1
    obtain ⟨s2, c2a, o2, p2, g2, e2, q2⟩ := form_open (x := x2) (hel 2 (by decide))
    rw [← y2] at q2
    simp only [DataW.agg.injEq, List.cons.injEq, DataW.lit.injEq, Lit.string.injEq, Lit.int.injEq, Lit.bool.injEq, and_true, true_and] at q2
    obtain ⟨r2, rfl, rfl, rfl, rfl⟩ := q2
    rw [string_of_list r2.symm] at e2
    obtain ⟨s3, c3a, o3, p3, g3, e3, q3⟩ := form_open (x := x3) (hel 3 (by decide))
    rw [← y3] at q3
    simp only [DataW.agg.injEq, List.cons.injEq, DataW.lit.injEq, Lit.string.injEq, Lit.int.injEq, Lit.bool.injEq, and_true, true_and] at q3
    obtain ⟨r3, rfl, rfl, rfl, rfl⟩ := q3
    rw [string_of_list r3.symm] at e3
    obtain ⟨s4, c4a, o4, p4, g4, e4, q4⟩ := form_open (x := x4) (hel 4 (by decide))
    rw [← y4] at q4
    simp only [DataW.agg.injEq, List.cons.injEq, DataW.lit.injEq, Lit.string.injEq, Lit.int.injEq, Lit.bool.injEq, and_true, true_and] at q4
    obtain ⟨r4, rfl, rfl, rfl, rfl⟩ := q4
    rw [string_of_list r4.symm] at e4
    have f0 := drop_split cs 0 5
    rw [drop_split cs (0 + 5) 5, drop_split cs (0 + 5 + 5) 5, drop_split cs (0 + 5 + 5 + 5) 5, drop_split cs (0 + 5 + 5 + 5 + 5) 5] at f0
    simp only [Nat.zero_mul, Nat.reduceMul, Nat.reduceAdd, Nat.zero_add, Nat.one_mul] at e0 e1 e2 e3 e4 f0
    have hd : cs.drop 25 = [] := List.drop_eq_nil_of_le (by omega)
    rw [e0, e1, e2, e3, e4, hd] at f0
    exact f0
theorem forms_of_var {W : World} (hv : W.var? Tryd.prog "loop.example/g03111/impl.typeForms" = some formCells.toArray) : Forms W := fun j v hj => by
  have := World.var?_cell gForms hv j
  rw [this]
  simpa using hj
theorem var_ext {W : World} {n : String} {cs : Array Value} (x : Ext W) (h : W.var? Tryd.prog n = some cs) : x.w.var? Tryd.prog n = some cs := by
  unfold World.var? at h ⊢
  cases e : Tryd.prog.globalNamed n with
  | none => rw [e] at h; cases h
  | some g =>
    rw [e] at h
    simp only [Option.bind_some] at h ⊢
    by_cases hg : g < W.heap.size
    · rw [x.below.block g hg]; exact h
    · rw [Array.getElem?_eq_none (by omega)] at h; cases h
/-- The table of forms as a datum. -/
def formsD {H : Type} : DataW H := .agg [.agg [.lit (.string [110]), .lit (.int .i64 0), .lit (.int .i64 0), .lit (.int .i64 0), .lit (.bool false)], .agg [.lit (.string [42]), .lit (.int .i64 1), .lit (.int .i64 0), .lit (.int .i64 2), .lit (.bool false)], .agg [.lit (.string [43]), .lit (.int .i64 2), .lit (.int .i64 0), .lit (.int .i64 2), .lit (.bool false)], .agg [.lit (.string [62]), .lit (.int .i64 3), .lit (.int .i64 35), .lit (.int .i64 2), .lit (.bool true)], .agg [.lit (.string [33]), .lit (.int .i64 19), .lit (.int .i64 36), .lit (.int .i64 1), .lit (.bool true)]]
theorem forms_reads {H : Type} (enc : TypeId × Value → H) (W : World) (sp : Nat → Bool) : DataW.trod enc Tryd.prog W 0 sp true 4 99 formCells = some (formsD, []) := by kernel_rfl

end Go.Proofs.YtncfbljablbglaaDoor
/- The program's table of the forms of terms. -/
namespace Go.Proofs.YtncfbljablbglaaDoor
open Go.RowKit

def tformCells : List Value := [.string ⟨#[]⟩, .int .i64 0, .int .i64 0, .int .i64 0, .int .i64 0, .bool false, .bool false, .string ⟨#[]⟩, .int .i64 0, .int .i64 0, .int .i64 0, .int .i64 0, .bool false, .bool false, .string ⟨#[97, 100, 100]⟩, .int .i64 2, .int .i64 0, .int .i64 0, .int .i64 0, .bool false, .bool false, .string ⟨#[105, 102]⟩, .int .i64 3, .int .i64 0, .int .i64 0, .int .i64 0, .bool false, .bool false, .string ⟨#[112, 97, 105, 114]⟩, .int .i64 2, .int .i64 0, .int .i64 0, .int .i64 0, .bool false, .bool false, .string ⟨#[115, 112, 108, 105, 116]⟩, .int .i64 2, .int .i64 0, .int .i64 2, .int .i64 0, .bool true, .bool false, .string ⟨#[108, 101, 102, 116]⟩, .int .i64 1, .int .i64 0, .int .i64 0, .int .i64 0, .bool false, .bool true, .string ⟨#[114, 105, 103, 104, 116]⟩, .int .i64 1, .int .i64 0, .int .i64 0, .int .i64 0, .bool false, .bool true, .string ⟨#[99, 97, 115, 101]⟩, .int .i64 3, .int .i64 0, .int .i64 1, .int .i64 1, .bool true, .bool false, .string ⟨#[102, 117, 110]⟩, .int .i64 1, .int .i64 1, .int .i64 0, .int .i64 0, .bool true, .bool true, .string ⟨#[97, 112, 112]⟩, .int .i64 2, .int .i64 0, .int .i64 0, .int .i64 0, .bool false, .bool false, .string ⟨#[98, 111, 120]⟩, .int .i64 1, .int .i64 0, .int .i64 0, .int .i64 0, .bool true, .bool false, .string ⟨#[111, 112, 101, 110]⟩, .int .i64 2, .int .i64 0, .int .i64 1, .int .i64 0, .bool true, .bool false]
/-- The table of the forms of terms reads as the program's text says. -/
def TForms (W : World) : Prop := ∀ j v, tformCells[j]? = some v → W.cell? ⟨0, j, none⟩ = some v
theorem TForms.ext {W : World} (F : TForms W) (y : Ext W) : TForms y.w := fun j v h => y.cell (F j v h)
def wordO (op : Nat) : ByteArray := [⟨#[]⟩, ⟨#[]⟩, ⟨#[97, 100, 100]⟩, ⟨#[105, 102]⟩, ⟨#[112, 97, 105, 114]⟩, ⟨#[115, 112, 108, 105, 116]⟩, ⟨#[108, 101, 102, 116]⟩, ⟨#[114, 105, 103, 104, 116]⟩, ⟨#[99, 97, 115, 101]⟩, ⟨#[102, 117, 110]⟩, ⟨#[97, 112, 112]⟩, ⟨#[98, 111, 120]⟩, ⟨#[111, 112, 101, 110]⟩].getD op ⟨#[]⟩
theorem TForms.at {W : World} (F : TForms W) {j : Nat} (hj : j ≤ 12) :
    W.cell? ⟨0, j * 7, none⟩ = some (.string (wordO j)) ∧ W.cell? ⟨0, j * 7 + 1, none⟩ = some (.int .i64 (manyO j)) ∧
    W.cell? ⟨0, j * 7 + 2, none⟩ = some (.int .i64 (addsO j 0)) ∧ W.cell? ⟨0, j * 7 + 3, none⟩ = some (.int .i64 (if j = 9 then 0 else addsO j 1)) ∧ W.cell? ⟨0, j * 7 + 4, none⟩ = some (.int .i64 (if j = 9 then 0 else addsO j 2)) ∧
    W.cell? ⟨0, j * 7 + 5, none⟩ = some (.bool (decide (HasG j))) ∧ W.cell? ⟨0, j * 7 + 6, none⟩ = some (.bool (decide (TypedO j))) := by
  have h : j = 0 ∨ j = 1 ∨ j = 2 ∨ j = 3 ∨ j = 4 ∨ j = 5 ∨ j = 6 ∨ j = 7 ∨ j = 8 ∨ j = 9 ∨ j = 10 ∨ j = 11 ∨ j = 12 := by omega
  rcases h with rfl | rfl | rfl | rfl | rfl | rfl | rfl | rfl | rfl | rfl | rfl | rfl | rfl <;> exact ⟨F _ _ rfl, F _ _ rfl, F _ _ rfl, F _ _ rfl, F _ _ rfl, F _ _ rfl, F _ _ rfl⟩

end Go.Proofs.YtncfbljablbglaaDoor
/- What the tables of forms read as, and a heap that has them. -/
set_option linter.unusedVariables false
namespace Go.Proofs.YtncfbljablbglaaDoor
open Go.RowKit Go.ChangeShapes Go.WideShapes Go.ChangeAt Go.WideMaps Go.WideElems

section
variable {H : Type} {enc : TypeId × Value → H} {w : World} {sp : Nat → Bool} {held : Bool} {base : Nat}
set_option maxRecDepth 100000 in
theorem tform_open {m : Nat} {cs : List Value} {x : DataW H × List MemPlace} (h : DataW.trod enc Tryd.prog w base sp held m 87 cs = some x) :
    ∃ (s : ByteArray) (k a b c : Int) (g t : Bool), cs = [.string s, .int .i64 k, .int .i64 a, .int .i64 b, .int .i64 c, .bool g, .bool t] ∧ x.1 = .agg [.lit (.string s.data.toList), .lit (.int .i64 k), .agg [.lit (.int .i64 a), .lit (.int .i64 b), .lit (.int .i64 c)], .lit (.bool g), .lit (.bool t)] := by
  obtain ⟨xs, n, rfl, rfl, hl, hn, hel⟩ := DataW.trod_struct Tryd.underlying87 h
  have c0 : Tryd.prog.cellsOf 87 = 7 := by kernel_rfl
  have c1 : Tryd.prog.cellsOf 9 = 1 := by kernel_rfl
  have c2 : Tryd.prog.cellsOf 3 = 1 := by kernel_rfl
  have c3 : Tryd.prog.cellsOf 4 = 1 := by kernel_rfl
  have c4 : Tryd.prog.cellsOf 85 = 3 := by kernel_rfl
  rw [c0] at hl
  match cs, hl, xs, hn with
  | [a0, a1, a2, a3, a4, a5, a6], _, [x0, x1, x2, x3, x4], _ =>
    have h0 : DataW.trod enc Tryd.prog w base sp held n 9 (([a0, a1, a2, a3, a4, a5, a6].drop 0).take (Tryd.prog.cellsOf 9)) = some x0 := hel 0 _ rfl
    have h1 : DataW.trod enc Tryd.prog w base sp held n 3 (([a0, a1, a2, a3, a4, a5, a6].drop 1).take (Tryd.prog.cellsOf 3)) = some x1 := hel 1 _ rfl
    have h2 : DataW.trod enc Tryd.prog w base sp held n 85 (([a0, a1, a2, a3, a4, a5, a6].drop 2).take (Tryd.prog.cellsOf 85)) = some x2 := hel 2 _ rfl
    have h3 : DataW.trod enc Tryd.prog w base sp held n 4 (([a0, a1, a2, a3, a4, a5, a6].drop 5).take (Tryd.prog.cellsOf 4)) = some x3 := hel 3 _ rfl
    have h4 : DataW.trod enc Tryd.prog w base sp held n 4 (([a0, a1, a2, a3, a4, a5, a6].drop 6).take (Tryd.prog.cellsOf 4)) = some x4 := hel 4 _ rfl
    rw [c1] at h0
    rw [c2] at h1
    rw [c4] at h2
    rw [c3] at h3 h4
    obtain ⟨s, e0, q0, _⟩ := DataW.trod_string Tryd.underlying9 (x := x0) h0
    obtain ⟨c, e1, q1, _⟩ := DataW.trod_int Tryd.underlying3 (x := x1) h1
    obtain ⟨y0, y1, y2, n2, q2, g0, g1, g2⟩ := trod_array3 Tryd.underlying85 c2 (x := x2) h2
    obtain ⟨i0, u0, w0, _⟩ := DataW.trod_int Tryd.underlying3 g0
    obtain ⟨i1, u1, w1, _⟩ := DataW.trod_int Tryd.underlying3 g1
    obtain ⟨i2, u2, w2, _⟩ := DataW.trod_int Tryd.underlying3 g2
    obtain ⟨p, e3, q3⟩ := DataW.trod_bool Tryd.underlying4 (x := x3) h3
    obtain ⟨g, e4, q4⟩ := DataW.trod_bool Tryd.underlying4 (x := x4) h4
    simp at e0 e1 e3 e4 u0 u1 u2
    subst e0; subst e1; subst e3; subst e4; subst u0; subst u1; subst u2; subst w0; subst w1; subst w2; subst q0; subst q1; subst q2; subst q3; subst q4
    exact ⟨s, c, i0, i1, i2, p, g, rfl, rfl⟩
end

theorem gTForms : Tryd.prog.globalNamed "loop.example/g03111/impl.termForms" = some 0 := by kernel_rfl
theorem tTForms : (Tryd.prog.globals[0]?).map (·.type) = some 88 := by kernel_rfl
set_option maxRecDepth 100000 in
set_option maxHeartbeats 4000000 in
theorem tforms_cells {W : World} {sp : Nat → Bool} {held : Bool} {m : Nat} {cs : List Value} {p : List MemPlace} (h : DataW.trod (fun _ => ()) Tryd.prog W 0 sp held m 88 cs = some (Rows.laid_loop_example_g03111_impl_termForms, p)) : cs = tformCells := by
  obtain ⟨xs, n, rfl, hx, hl, hn, hel⟩ := DataW.trod_array Tryd.underlying88 h
  have c0 : Tryd.prog.cellsOf 88 = 91 := by kernel_rfl
  have c1 : Tryd.prog.cellsOf 87 = 7 := by kernel_rfl
  rw [c0] at hl
  rw [c1] at hel
  match xs, hn with
  | [x0, x1, x2, x3, x4, x5, x6, x7, x8, x9, x10, x11, x12], _ =>
    have hx1 := (Prod.mk.inj hx).1
    unfold Rows.laid_loop_example_g03111_impl_termForms at hx1
    simp only [List.map_cons, List.map_nil, DataW.agg.injEq, List.cons.injEq, and_true] at hx1
    obtain ⟨y0, y1, y2, y3, y4, y5, y6, y7, y8, y9, y10, y11, y12⟩ := hx1
    obtain ⟨s0, k0, a0, b0, c0c, g0, t0, e0, q0⟩ := tform_open (x := x0) (hel 0 (by decide))
    rw [← y0] at q0
    simp only [DataW.agg.injEq, List.cons.injEq, DataW.lit.injEq, Lit.string.injEq, Lit.int.injEq, Lit.bool.injEq, and_true, true_and] at q0
    obtain ⟨r0, rfl, ⟨rfl, rfl, rfl⟩, rfl, rfl⟩ := q0
    rw [string_of_list r0.symm] at e0
    obtain ⟨s1, k1, a1, b1, c1c, g1, t1, e1, q1⟩ := tform_open (x := x1) (hel 1 (by decide))
    rw [← y1] at q1
    simp only [DataW.agg.injEq, List.cons.injEq, DataW.lit.injEq, Lit.string.injEq, Lit.int.injEq, Lit.bool.injEq, and_true, true_and] at q1
    obtain ⟨r1, rfl, ⟨rfl, rfl, rfl⟩, rfl, rfl⟩ := q1
    rw [string_of_list r1.symm] at e1
    obtain ⟨s2, k2, a2, b2, c2c, g2, t2, e2, q2⟩ := tform_open (x := x2) (hel 2 (by decide))
    rw [← y2] at q2
    simp only [DataW.agg.injEq, List.cons.injEq, DataW.lit.injEq, Lit.string.injEq, Lit.int.injEq, Lit.bool.injEq, and_true, true_and] at q2
    obtain ⟨r2, rfl, ⟨rfl, rfl, rfl⟩, rfl, rfl⟩ := q2
    rw [string_of_list r2.symm] at e2
    obtain ⟨s3, k3, a3, b3, c3c, g3, t3, e3, q3⟩ := tform_open (x := x3) (hel 3 (by decide))
    rw [← y3] at q3
    simp only [DataW.agg.injEq, List.cons.injEq, DataW.lit.injEq, Lit.string.injEq, Lit.int.injEq, Lit.bool.injEq, and_true, true_and] at q3
    obtain ⟨r3, rfl, ⟨rfl, rfl, rfl⟩, rfl, rfl⟩ := q3
    rw [string_of_list r3.symm] at e3
    obtain ⟨s4, k4, a4, b4, c4c, g4, t4, e4, q4⟩ := tform_open (x := x4) (hel 4 (by decide))
    rw [← y4] at q4
    simp only [DataW.agg.injEq, List.cons.injEq, DataW.lit.injEq, Lit.string.injEq, Lit.int.injEq, Lit.bool.injEq, and_true, true_and] at q4
    obtain ⟨r4, rfl, ⟨rfl, rfl, rfl⟩, rfl, rfl⟩ := q4
    rw [string_of_list r4.symm] at e4
    obtain ⟨s5, k5, a5, b5, c5c, g5, t5, e5, q5⟩ := tform_open (x := x5) (hel 5 (by decide))
    rw [← y5] at q5
    simp only [DataW.agg.injEq, List.cons.injEq, DataW.lit.injEq, Lit.string.injEq, Lit.int.injEq, Lit.bool.injEq, and_true, true_and] at q5
    obtain ⟨r5, rfl, ⟨rfl, rfl, rfl⟩, rfl, rfl⟩ := q5
    rw [string_of_list r5.symm] at e5
    obtain ⟨s6, k6, a6, b6, c6c, g6, t6, e6, q6⟩ := tform_open (x := x6) (hel 6 (by decide))
    rw [← y6] at q6
    simp only [DataW.agg.injEq, List.cons.injEq, DataW.lit.injEq, Lit.string.injEq, Lit.int.injEq, Lit.bool.injEq, and_true, true_and] at q6
    obtain ⟨r6, rfl, ⟨rfl, rfl, rfl⟩, rfl, rfl⟩ := q6
    rw [string_of_list r6.symm] at e6
    obtain ⟨s7, k7, a7, b7, c7c, g7, t7, e7, q7⟩ := tform_open (x := x7) (hel 7 (by decide))
    rw [← y7] at q7
    simp only [DataW.agg.injEq, List.cons.injEq, DataW.lit.injEq, Lit.string.injEq, Lit.int.injEq, Lit.bool.injEq, and_true, true_and] at q7
    obtain ⟨r7, rfl, ⟨rfl, rfl, rfl⟩, rfl, rfl⟩ := q7
    rw [string_of_list r7.symm] at e7
    obtain ⟨s8, k8, a8, b8, c8c, g8, t8, e8, q8⟩ := tform_open (x := x8) (hel 8 (by decide))
    rw [← y8] at q8
    simp only [DataW.agg.injEq, List.cons.injEq, DataW.lit.injEq, Lit.string.injEq, Lit.int.injEq, Lit.bool.injEq, and_true, true_and] at q8
    obtain ⟨r8, rfl, ⟨rfl, rfl, rfl⟩, rfl, rfl⟩ := q8
    rw [string_of_list r8.symm] at e8
    obtain ⟨s9, k9, a9, b9, c9c, g9, t9, e9, q9⟩ := tform_open (x := x9) (hel 9 (by decide))
    rw [← y9] at q9
    simp only [DataW.agg.injEq, List.cons.injEq, DataW.lit.injEq, Lit.string.injEq, Lit.int.injEq, Lit.bool.injEq, and_true, true_and] at q9
    obtain ⟨r9, rfl, ⟨rfl, rfl, rfl⟩, rfl, rfl⟩ := q9
    rw [string_of_list r9.symm] at e9
    obtain ⟨s10, k10, a10, b10, c10c, g10, t10, e10, q10⟩ := tform_open (x := x10) (hel 10 (by decide))
    rw [← y10] at q10
    simp only [DataW.agg.injEq, List.cons.injEq, DataW.lit.injEq, Lit.string.injEq, Lit.int.injEq, Lit.bool.injEq, and_true, true_and] at q10
    obtain ⟨r10, rfl, ⟨rfl, rfl, rfl⟩, rfl, rfl⟩ := q10
    rw [string_of_list r10.symm] at e10
    obtain ⟨s11, k11, a11, b11, c11c, g11, t11, e11, q11⟩ := tform_open (x := x11) (hel 11 (by decide))
    rw [← y11] at q11
    simp only [DataW.agg.injEq, List.cons.injEq, DataW.lit.injEq, Lit.string.injEq, Lit.int.injEq, Lit.bool.injEq, and_true, true_and] at q11
    obtain ⟨r11, rfl, ⟨rfl, rfl, rfl⟩, rfl, rfl⟩ := q11
    rw [string_of_list r11.symm] at e11
    obtain ⟨s12, k12, a12, b12, c12c, g12, t12, e12, q12⟩ := tform_open (x := x12) (hel 12 (by decide))
    rw [← y12] at q12
    simp only [DataW.agg.injEq, List.cons.injEq, DataW.lit.injEq, Lit.string.injEq, Lit.int.injEq, Lit.bool.injEq, and_true, true_and] at q12
    obtain ⟨r12, rfl, ⟨rfl, rfl, rfl⟩, rfl, rfl⟩ := q12
    rw [string_of_list r12.symm] at e12
    have f0 := drop_split cs 0 7
    rw [drop_split cs (0 + 7) 7, drop_split cs (0 + 7 + 7) 7, drop_split cs (0 + 7 + 7 + 7) 7, drop_split cs (0 + 7 + 7 + 7 + 7) 7, drop_split cs (0 + 7 + 7 + 7 + 7 + 7) 7, drop_split cs (0 + 7 + 7 + 7 + 7 + 7 + 7) 7, drop_split cs (0 + 7 + 7 + 7 + 7 + 7 + 7 + 7) 7, drop_split cs (0 + 7 + 7 + 7 + 7 + 7 + 7 + 7 + 7) 7, drop_split cs (0 + 7 + 7 + 7 + 7 + 7 + 7 + 7 + 7 + 7) 7, drop_split cs (0 + 7 + 7 + 7 + 7 + 7 + 7 + 7 + 7 + 7 + 7) 7, drop_split cs (0 + 7 + 7 + 7 + 7 + 7 + 7 + 7 + 7 + 7 + 7 + 7) 7, drop_split cs (0 + 7 + 7 + 7 + 7 + 7 + 7 + 7 + 7 + 7 + 7 + 7 + 7) 7] at f0
    simp only [Nat.zero_mul, Nat.reduceMul, Nat.reduceAdd, Nat.zero_add, Nat.one_mul] at e0 e1 e2 e3 e4 e5 e6 e7 e8 e9 e10 e11 e12 f0
    have hd : cs.drop 91 = [] := List.drop_eq_nil_of_le (by omega)
    rw [e0, e1, e2, e3, e4, e5, e6, e7, e8, e9, e10, e11, e12, hd] at f0
    exact f0

theorem forms_var2 {W : World} (h : laidMetH Tryd.prog [("loop.example/g03111/impl.typeForms", Rows.laid_loop_example_g03111_impl_typeForms), ("loop.example/g03111/impl.termForms", Rows.laid_loop_example_g03111_impl_termForms)] W) : W.var? Tryd.prog "loop.example/g03111/impl.typeForms" = some formCells.toArray ∧ W.var? Tryd.prog "loop.example/g03111/impl.termForms" = some tformCells.toArray := by
  rw [MakeChecks.laidMetH_plain _ _ _ (by kernel_rfl)] at h
  obtain ⟨ps, ⟨g, t, cs, f, p, q, hg, ht, hv, hd, ⟨g2, t2, cs2, f2, p2, q2, hg2, ht2, hv2, hd2, _⟩, _⟩, _⟩ := h
  obtain rfl := Option.some.inj (gForms.symm.trans hg)
  obtain rfl := Option.some.inj (tForms.symm.trans ht)
  obtain rfl := Option.some.inj (gTForms.symm.trans hg2)
  obtain rfl := Option.some.inj (tTForms.symm.trans ht2)
  exact ⟨by rw [hv, ← forms_cells hd], by rw [hv2, ← tforms_cells hd2]⟩
theorem tforms_of_var {W : World} (hv : W.var? Tryd.prog "loop.example/g03111/impl.termForms" = some tformCells.toArray) : TForms W := fun j v hj => by
  have := World.var?_cell gTForms hv j
  rw [this]
  simpa using hj
/-- The table of forms of terms as a datum. -/
def tformsD {H : Type} : DataW H := .agg [.agg [.lit (.string []), .lit (.int .i64 0), .agg [.lit (.int .i64 0), .lit (.int .i64 0), .lit (.int .i64 0)], .lit (.bool false), .lit (.bool false)], .agg [.lit (.string []), .lit (.int .i64 0), .agg [.lit (.int .i64 0), .lit (.int .i64 0), .lit (.int .i64 0)], .lit (.bool false), .lit (.bool false)], .agg [.lit (.string [97, 100, 100]), .lit (.int .i64 2), .agg [.lit (.int .i64 0), .lit (.int .i64 0), .lit (.int .i64 0)], .lit (.bool false), .lit (.bool false)], .agg [.lit (.string [105, 102]), .lit (.int .i64 3), .agg [.lit (.int .i64 0), .lit (.int .i64 0), .lit (.int .i64 0)], .lit (.bool false), .lit (.bool false)], .agg [.lit (.string [112, 97, 105, 114]), .lit (.int .i64 2), .agg [.lit (.int .i64 0), .lit (.int .i64 0), .lit (.int .i64 0)], .lit (.bool false), .lit (.bool false)], .agg [.lit (.string [115, 112, 108, 105, 116]), .lit (.int .i64 2), .agg [.lit (.int .i64 0), .lit (.int .i64 2), .lit (.int .i64 0)], .lit (.bool true), .lit (.bool false)], .agg [.lit (.string [108, 101, 102, 116]), .lit (.int .i64 1), .agg [.lit (.int .i64 0), .lit (.int .i64 0), .lit (.int .i64 0)], .lit (.bool false), .lit (.bool true)], .agg [.lit (.string [114, 105, 103, 104, 116]), .lit (.int .i64 1), .agg [.lit (.int .i64 0), .lit (.int .i64 0), .lit (.int .i64 0)], .lit (.bool false), .lit (.bool true)], .agg [.lit (.string [99, 97, 115, 101]), .lit (.int .i64 3), .agg [.lit (.int .i64 0), .lit (.int .i64 1), .lit (.int .i64 1)], .lit (.bool true), .lit (.bool false)], .agg [.lit (.string [102, 117, 110]), .lit (.int .i64 1), .agg [.lit (.int .i64 1), .lit (.int .i64 0), .lit (.int .i64 0)], .lit (.bool true), .lit (.bool true)], .agg [.lit (.string [97, 112, 112]), .lit (.int .i64 2), .agg [.lit (.int .i64 0), .lit (.int .i64 0), .lit (.int .i64 0)], .lit (.bool false), .lit (.bool false)], .agg [.lit (.string [98, 111, 120]), .lit (.int .i64 1), .agg [.lit (.int .i64 0), .lit (.int .i64 0), .lit (.int .i64 0)], .lit (.bool true), .lit (.bool false)], .agg [.lit (.string [111, 112, 101, 110]), .lit (.int .i64 2), .agg [.lit (.int .i64 0), .lit (.int .i64 1), .lit (.int .i64 0)], .lit (.bool true), .lit (.bool false)]]
theorem tforms_reads {H : Type} (enc : TypeId × Value → H) (W : World) (sp : Nat → Bool) : DataW.trod enc Tryd.prog W 0 sp true 4 88 tformCells = some (tformsD, []) := by kernel_rfl
theorem forms_met2 (os : Os) (args : Array Value) : laidMetH Tryd.prog [("loop.example/g03111/impl.typeForms", Rows.laid_loop_example_g03111_impl_typeForms), ("loop.example/g03111/impl.termForms", Rows.laid_loop_example_g03111_impl_termForms)] ((World.doorLaid Tryd.prog 400 os).forCall (fun _ _ => 0) ⟨#[], args, []⟩).memory :=
  laidMetH_of_parts3 (fuel := 8) (laidMet_of_run' 8 (by kernel_rfl) (by kernel_rfl)) (by kernel_rfl) (by kernel_rfl)
theorem trodVars_two {H : Type} {enc : TypeId × Value → H} {P : Program} {w : World} {spare : Nat → Bool} {n m : String} {gs : List (DataW H)} {ps : List MemPlace} (h : DataW.TrodVars enc P w spare [n, m] gs ps) :
    ∃ g t cs fuel d p g2 t2 cs2 fuel2 d2 p2, gs = [d, d2] ∧ P.globalNamed n = some g ∧ (P.globals[g]?).map (·.type) = some t ∧ w.var? P n = some cs ∧ DataW.trod enc P w 0 spare true fuel t cs.toList = some (d, p) ∧
      P.globalNamed m = some g2 ∧ (P.globals[g2]?).map (·.type) = some t2 ∧ w.var? P m = some cs2 ∧ DataW.trod enc P w 0 spare true fuel2 t2 cs2.toList = some (d2, p2) ∧ ps = MemPlace.row ⟨g, 0, none⟩ cs.size ++ p ++ (MemPlace.row ⟨g2, 0, none⟩ cs2.size ++ p2) := by
  cases gs with
  | nil => simp [DataW.TrodVars] at h
  | cons d ds =>
    obtain ⟨g, t, cs, fuel, p, q, h1, h2, h3, h4, hs, e⟩ := h
    obtain ⟨g2, t2, cs2, fuel2, d2, p2, rfl, k1, k2, k3, k4, rfl⟩ := trodVars_one hs
    exact ⟨g, t, cs, fuel, d, p, g2, t2, cs2, fuel2, d2, p2, rfl, h1, h2, h3, h4, k1, k2, k3, k4, e⟩

end Go.Proofs.YtncfbljablbglaaDoor
/- What a term argument reads as. -/
set_option linter.unusedVariables false
namespace Go.Proofs.YtncfbljablbglaaDoor
open Go.RowKit Go.ChangeShapes Go.WideShapes Go.ChangeAt

section
variable {H : Type} {enc : TypeId × Value → H} {w : World}
set_option maxRecDepth 100000 in
theorem open_tm : ∀ (fuel : Nat) {cs : List Value} {x : DataW H × List MemPlace}, DataW.trod enc Tryd.prog w 0 (fun _ => true) true fuel 25 cs = some x →
    ∃ (t : Tm) (r : TV), cs = [.int .i64 t.op, .int .i64 t.n, .slice r.a t.ty.length r.c, .slice r.b t.kids.length r.d] ∧ TmIn w 0 t r ∧ TmB t := by
  intro fuel
  induction fuel using Nat.strongRecOn with
  | ind fuel ih =>
    intro cs x h
    obtain ⟨xs, n, rfl, rfl, hl, hn, hel⟩ := DataW.trod_struct Tryd.underlying25 h
    have c0 : Tryd.prog.cellsOf 25 = 4 := by kernel_rfl
    have c1 : Tryd.prog.cellsOf 3 = 1 := by kernel_rfl
    have c2 : Tryd.prog.cellsOf 22 = 1 := by kernel_rfl
    have c3 : Tryd.prog.cellsOf 23 = 1 := by kernel_rfl
    rw [c0] at hl
    match cs, hl, xs, hn with
    | [a0, a1, a2, a3], _, [x0, x1, x2, x3], _ =>
      have h0 : DataW.trod enc Tryd.prog w 0 (fun _ => true) true n 3 (([a0, a1, a2, a3].drop 0).take (Tryd.prog.cellsOf 3)) = some x0 := hel 0 _ rfl
      have h1 : DataW.trod enc Tryd.prog w 0 (fun _ => true) true n 3 (([a0, a1, a2, a3].drop 1).take (Tryd.prog.cellsOf 3)) = some x1 := hel 1 _ rfl
      have h2 : DataW.trod enc Tryd.prog w 0 (fun _ => true) true n 22 (([a0, a1, a2, a3].drop 2).take (Tryd.prog.cellsOf 22)) = some x2 := hel 2 _ rfl
      have h3 : DataW.trod enc Tryd.prog w 0 (fun _ => true) true n 23 (([a0, a1, a2, a3].drop 3).take (Tryd.prog.cellsOf 23)) = some x3 := hel 3 _ rfl
      rw [c1] at h0 h1
      rw [c2] at h2
      rw [c3] at h3
      obtain ⟨o, e0, _, _⟩ := DataW.trod_int Tryd.underlying3 h0
      obtain ⟨m, e1, _, _⟩ := DataW.trod_int Tryd.underlying3 h1
      obtain ⟨ta, tc, ty, e2, row, hty, hwf⟩ := open_row_ints (c := a2) h2
      simp at e0 e1
      subst e0; subst e1; subst e2
      rcases DataW.trod_slice Tryd.underlying23 h3 with ⟨e3, _⟩ | ⟨a, len, cap, elems, rest, n', rfl, e3, _, _, hlc, hcm, hel2, hk, _⟩
      · simp at e3
        subst e3
        exact ⟨.mk o m ty [], ⟨ta, tc, none, 0⟩, rfl, .mk _ _ (fun _ => ⟨none, 0, none, 0⟩) row (fun _ _ => Nat.zero_le _) hty (by simp [Tm.kids]) (.inl rfl) (fun i k hi => by simp [Tm.kids] at hi), .mk _ (codesB_wf hwf) (fun k hk => by simp [Tm.kids] at hk)⟩
      · simp at e3
        subst e3
        unfold maxLen at hcm
        rw [c0] at hk
        have each : ∀ i, ∃ (t : Tm) (r : TV), i < len → TmIn w 0 t r ∧ w.cells? 0 (a.add (i * 4)) 4 = some [.int .i64 t.op, .int .i64 t.n, .slice r.a t.ty.length r.c, .slice r.b t.kids.length r.d] ∧ TmB t := by
          intro i
          by_cases hi : i < len
          · have hb := hk i hi
            rw [List.getElem?_eq_getElem (by omega)] at hb
            obtain ⟨ci, hci, htr⟩ := Option.bind_eq_some_iff.1 hb
            obtain ⟨t, r, rfl, hin, htb⟩ := ih n' (by omega) htr
            exact ⟨t, r, fun _ => ⟨hin, hci, htb⟩⟩
          · exact ⟨.mk 0 0 [] [], ⟨none, 0, none, 0⟩, fun h => absurd h hi⟩
        have ⟨ft, each⟩ := Classical.axiomOfChoice each
        have ⟨fr, each⟩ := Classical.axiomOfChoice each
        have hlen : ((List.range len).map ft).length = len := by simp
        refine ⟨.mk o m ty ((List.range len).map ft), ⟨ta, tc, some a, cap⟩, by simp [Tm.op, Tm.n, Tm.ty, Tm.kids], .mk _ _ fr row (fun _ _ => Nat.zero_le _) hty (by simp [Tm.kids]; omega) ?_ (fun i k hi => ?_), .mk _ (codesB_wf hwf) (fun k hk => ?_)⟩
        · by_cases hz : len = 0
          · exact .inl (by simp [Tm.kids, hz])
          · right
            have hs := (World.cells?_some (each 0 (by omega)).2.1).2.2 0 (by omega)
            obtain ⟨b, o', spot⟩ := a
            have hspot : spot = none := by simpa [Addr.add] using World.cell?_spot hs
            subst hspot
            refine ⟨b, o', rfl, Nat.zero_le _, fun i k hi => ?_⟩
            have hi2 : i < len := by have := (List.getElem?_eq_some_iff.1 hi).1; simpa [Tm.kids] using this
            have hk2 : k = ft i := by simp [Tm.kids, hi2] at hi; exact hi.symm
            subst hk2
            have hc := (World.cells?_some (each i hi2).2.1).2.2
            have q0 := hc 0 (by omega)
            have q1 := hc 1 (by omega)
            have q2 := hc 2 (by omega)
            have q3 := hc 3 (by omega)
            simp only [add_plain] at q0 q1 q2 q3
            exact ⟨q0, q1, q2, q3⟩
        · have hi2 : i < len := by have := (List.getElem?_eq_some_iff.1 hi).1; simpa [Tm.kids] using this
          have hk2 : k = ft i := by simp [Tm.kids, hi2] at hi; exact hi.symm
          subst hk2
          exact (each i hi2).1
        · obtain ⟨i, hi, e⟩ := List.getElem_of_mem hk
          simp [Tm.kids] at hi e
          rw [← e]
          exact (each i hi).2.2
set_option maxRecDepth 100000 in
theorem open_term {r0 : Reach} {b0 : Nat} {v : Value} {d : DataW H} {p : List MemPlace} (hv : Value.okWide Tryd.prog w r0 b0 25 v) (h : DataW.Trod enc Tryd.prog w 0 (fun _ => true) true 25 v d p) :
    ∃ (t : Tm) (r : TV), v = r.val t ∧ TmIn w 0 t r ∧ TmB t := by
  obtain ⟨cs, rfl, _⟩ := okWide_struct Tryd.underlying25 hv
  obtain ⟨fuel, hf⟩ := h
  obtain ⟨t, r, e, hin, htb⟩ := open_tm fuel hf
  obtain ⟨l⟩ := cs
  simp [Value.cells] at e
  subst e
  exact ⟨t, r, rfl, hin, htb⟩
end
end Go.Proofs.YtncfbljablbglaaDoor
