
/- What the program says of a code of a type: the table of forms, looked up. -/
import Derived.Test.YtmifnhblhggflaaDoorTypeSpec
import Derived.Test.YtmifnhblhggflaaDoorAcc
import Derived.Test.YtmifnhblhggflaaDoorWorld
import Derived.Deep.MidRow
import Derived.RegionTactic
namespace Go.Proofs.YtmifnhblhggflaaDoor
open Go.RowKit

def formCells : List Value := [.string ⟨#[110]⟩, .int .i64 0, .int .i64 0, .int .i64 0, .bool false, .string ⟨#[42]⟩, .int .i64 1, .int .i64 0, .int .i64 2, .bool false, .string ⟨#[43]⟩, .int .i64 2, .int .i64 0, .int .i64 2, .bool false, .string ⟨#[62]⟩, .int .i64 3, .int .i64 35, .int .i64 2, .bool true, .string ⟨#[33]⟩, .int .i64 19, .int .i64 36, .int .i64 1, .bool true]
/-- The table of the forms of types reads as the program's text says. -/
def Forms (W : World) : Prop := ∀ j v, formCells[j]? = some v → W.cell? ⟨0, j, none⟩ = some v
theorem Forms.ext {W : World} (F : Forms W) (y : Ext W) : Forms y.w := fun j v h => y.cell (F j v h)

theorem form_ix0 (w : World) : (Instr.index 116 (.agg formCells.toArray) (.int .i64 0)).run Tryd.prog w = .ok (.agg #[.string ⟨#[110]⟩, .int .i64 0, .int .i64 0, .int .i64 0, .bool false]) w := by kernel_rfl

theorem form_ix1 (w : World) : (Instr.index 116 (.agg formCells.toArray) (.int .i64 1)).run Tryd.prog w = .ok (.agg #[.string ⟨#[42]⟩, .int .i64 1, .int .i64 0, .int .i64 2, .bool false]) w := by kernel_rfl

theorem form_ix2 (w : World) : (Instr.index 116 (.agg formCells.toArray) (.int .i64 2)).run Tryd.prog w = .ok (.agg #[.string ⟨#[43]⟩, .int .i64 2, .int .i64 0, .int .i64 2, .bool false]) w := by kernel_rfl

theorem form_ix3 (w : World) : (Instr.index 116 (.agg formCells.toArray) (.int .i64 3)).run Tryd.prog w = .ok (.agg #[.string ⟨#[62]⟩, .int .i64 3, .int .i64 35, .int .i64 2, .bool true]) w := by kernel_rfl

theorem form_ix4 (w : World) : (Instr.index 116 (.agg formCells.toArray) (.int .i64 4)).run Tryd.prog w = .ok (.agg #[.string ⟨#[33]⟩, .int .i64 19, .int .i64 36, .int .i64 1, .bool true]) w := by kernel_rfl

set_option maxRecDepth 100000 in
set_option maxHeartbeats 4000000 in
theorem form_lit0 {W : World} (F : Forms W) (x : Ext W) : Calls Tryd.prog 123 #[.int .i64 0] x.w (Ans W (.tuple #[.agg #[.string ⟨#[110]⟩, .int .i64 0, .int .i64 0, .int .i64 0, .bool false], .int .i64 0, .bool true])) := by
  go_enter Tryd.func123, Tryd.ntmps123
  have hfc : ∀ o, (x.w.alloc o).rangeAt 0 0 formCells := fun o j v hv => by rw [Nat.zero_add]; exact (F.ext (x.alloc o)) j v hv
  go_wp2_with (first | refine wp_load_mid 116 _ rfl 0 0 rfl formCells (.array 5 108) (hfc _) (by kernel_rfl) rfl (by kernel_rfl) ?_ | refine wpList_load_mid rfl 116 _ rfl 0 0 rfl formCells (.array 5 108) (hfc _) (by kernel_rfl) rfl (by kernel_rfl) ?_)
  clear hfc
  generalize hW : x.w.alloc _ = W1
  generalize hB : x.w.heap.size = B
  have bR : W1.heap[B]? = some (.cells #[.string ⟨#[]⟩, .int .i64 0, .int .i64 0, .int .i64 0, .bool false] 108 (0, 0)) := by
    subst hW; subst hB
    show (x.w.heap.push _)[x.w.heap.size]? = _
    rw [Array.getElem?_push, if_pos rfl]
  have bel : Below W.heap.size W W1 := by subst hW; exact x.below.alloc x.size _
  have hBW : W.heap.size ≤ B := by subst hB; exact x.size
  clear hW hB
  go_loopw [8] (fun i wr => (i = .int .i64 0) ∧ (∃ y : Ext W1, wr = y.w)) (fun i _ => 5 - (intOf i).toNat)
  case atStart => exact ⟨rfl, ⟨Ext.self W1, rfl⟩⟩
  case round =>
    obtain ⟨hk, ⟨yy, rfl⟩⟩ := hrel
    subst hk
    have hix := form_ix0
    have kb : ∀ o, (yy.w.alloc o).heap[B]? = some (.cells #[.string ⟨#[]⟩, .int .i64 0, .int .i64 0, .int .i64 0, .bool false] 108 (0, 0)) := fun o => (yy.alloc o).blk bR
    have k0 : ∀ o, (yy.w.alloc o).cell? ⟨B, 0, none⟩ = some (.string ⟨#[]⟩) := fun o => blk_cell (kb o) 0
    have z0 : ∀ o, (yy.w.alloc o).frozen? ⟨B, 0, none⟩ = false := fun o => blk_free (kb o) 0
    have k1 : ∀ o, (yy.w.alloc o).cell? ⟨B, 1, none⟩ = some (.int .i64 0) := fun o => blk_cell (kb o) 1
    have z1 : ∀ o, (yy.w.alloc o).frozen? ⟨B, 1, none⟩ = false := fun o => blk_free (kb o) 1
    have k2 : ∀ o, (yy.w.alloc o).cell? ⟨B, 2, none⟩ = some (.int .i64 0) := fun o => blk_cell (kb o) 2
    have z2 : ∀ o, (yy.w.alloc o).frozen? ⟨B, 2, none⟩ = false := fun o => blk_free (kb o) 2
    have k3 : ∀ o, (yy.w.alloc o).cell? ⟨B, 3, none⟩ = some (.int .i64 0) := fun o => blk_cell (kb o) 3
    have z3 : ∀ o, (yy.w.alloc o).frozen? ⟨B, 3, none⟩ = false := fun o => blk_free (kb o) 3
    have k4 : ∀ o, (yy.w.alloc o).cell? ⟨B, 4, none⟩ = some (.bool false) := fun o => blk_cell (kb o) 4
    have z4 : ∀ o, (yy.w.alloc o).frozen? ⟨B, 4, none⟩ = false := fun o => blk_free (kb o) 4
    go_wp2_with fail
    generalize hY0 : yy.w.alloc _ = Y0
    generalize hY1 : Y0.setCell _ _ = Y1
    generalize hY2 : Y1.setCell _ _ = Y2
    generalize hY3 : Y2.setCell _ _ = Y3
    generalize hY4 : Y3.setCell _ _ = Y4
    generalize hY5 : Y4.setCell _ _ = Y5
    have q0 : Y0.heap[B]? = some (.cells #[.string ⟨#[]⟩, .int .i64 0, .int .i64 0, .int .i64 0, .bool false] 108 (0, 0)) := by rw [← hY0]; exact kb _
    have q5 := set_blk (set_blk (set_blk (set_blk (set_blk q0 0 _ hY1) 1 _ hY2) 2 _ hY3) 3 _ hY4) 4 _ hY5
    simp at q5
    have r0 := blk_cell q5 0
    have r1 := blk_cell q5 1
    have r2 := blk_cell q5 2
    have r3 := blk_cell q5 3
    have r4 := blk_cell q5 4
    simp at r0 r1 r2 r3 r4
    have belD : Below W.heap.size W Y5 := by
      subst hY5; subst hY4; subst hY3; subst hY2; subst hY1; subst hY0
      exact (((((bel.trans ((yy.alloc _).below.mono (by have := bel.size; omega))).setCell hBW _).setCell hBW _).setCell hBW _).setCell hBW _).setCell hBW _
    refine bodyPost_ret (v := .tuple #[.agg #[.string ⟨#[110]⟩, .int .i64 0, .int .i64 0, .int .i64 0, .bool false], .int .i64 0, .bool true]) (by simp [results, Tryd.results123, go_sem, r0, r1, r2, r3, r4]) rfl ?_
    exact ⟨rfl, ⟨Y5, belD⟩, rfl⟩
set_option maxRecDepth 100000 in
set_option maxHeartbeats 4000000 in
theorem form_lit1 {W : World} (F : Forms W) (x : Ext W) : Calls Tryd.prog 123 #[.int .i64 1] x.w (Ans W (.tuple #[.agg #[.string ⟨#[42]⟩, .int .i64 1, .int .i64 0, .int .i64 2, .bool false], .int .i64 0, .bool true])) := by
  go_enter Tryd.func123, Tryd.ntmps123
  have hfc : ∀ o, (x.w.alloc o).rangeAt 0 0 formCells := fun o j v hv => by rw [Nat.zero_add]; exact (F.ext (x.alloc o)) j v hv
  go_wp2_with (first | refine wp_load_mid 116 _ rfl 0 0 rfl formCells (.array 5 108) (hfc _) (by kernel_rfl) rfl (by kernel_rfl) ?_ | refine wpList_load_mid rfl 116 _ rfl 0 0 rfl formCells (.array 5 108) (hfc _) (by kernel_rfl) rfl (by kernel_rfl) ?_)
  clear hfc
  generalize hW : x.w.alloc _ = W1
  generalize hB : x.w.heap.size = B
  have bR : W1.heap[B]? = some (.cells #[.string ⟨#[]⟩, .int .i64 0, .int .i64 0, .int .i64 0, .bool false] 108 (0, 0)) := by
    subst hW; subst hB
    show (x.w.heap.push _)[x.w.heap.size]? = _
    rw [Array.getElem?_push, if_pos rfl]
  have bel : Below W.heap.size W W1 := by subst hW; exact x.below.alloc x.size _
  have hBW : W.heap.size ≤ B := by subst hB; exact x.size
  clear hW hB
  go_loopw [8] (fun i wr => (i = .int .i64 0 ∨ i = .int .i64 1) ∧ (∃ y : Ext W1, wr = y.w)) (fun i _ => 5 - (intOf i).toNat)
  case atStart => exact ⟨.inl rfl, ⟨Ext.self W1, rfl⟩⟩
  case round =>
    obtain ⟨hk, ⟨yy, rfl⟩⟩ := hrel
    rcases hk with rfl | rfl
    · skip
      have hix := form_ix0
      go_wp2_with fail
      go_roundw
      case rel => exact ⟨.inr (by go_num), ⟨yy.alloc _, rfl⟩⟩
      case measure => simp [intOf]
    · skip
      have hix := form_ix1
      have kb : ∀ o, (yy.w.alloc o).heap[B]? = some (.cells #[.string ⟨#[]⟩, .int .i64 0, .int .i64 0, .int .i64 0, .bool false] 108 (0, 0)) := fun o => (yy.alloc o).blk bR
      have k0 : ∀ o, (yy.w.alloc o).cell? ⟨B, 0, none⟩ = some (.string ⟨#[]⟩) := fun o => blk_cell (kb o) 0
      have z0 : ∀ o, (yy.w.alloc o).frozen? ⟨B, 0, none⟩ = false := fun o => blk_free (kb o) 0
      have k1 : ∀ o, (yy.w.alloc o).cell? ⟨B, 1, none⟩ = some (.int .i64 0) := fun o => blk_cell (kb o) 1
      have z1 : ∀ o, (yy.w.alloc o).frozen? ⟨B, 1, none⟩ = false := fun o => blk_free (kb o) 1
      have k2 : ∀ o, (yy.w.alloc o).cell? ⟨B, 2, none⟩ = some (.int .i64 0) := fun o => blk_cell (kb o) 2
      have z2 : ∀ o, (yy.w.alloc o).frozen? ⟨B, 2, none⟩ = false := fun o => blk_free (kb o) 2
      have k3 : ∀ o, (yy.w.alloc o).cell? ⟨B, 3, none⟩ = some (.int .i64 0) := fun o => blk_cell (kb o) 3
      have z3 : ∀ o, (yy.w.alloc o).frozen? ⟨B, 3, none⟩ = false := fun o => blk_free (kb o) 3
      have k4 : ∀ o, (yy.w.alloc o).cell? ⟨B, 4, none⟩ = some (.bool false) := fun o => blk_cell (kb o) 4
      have z4 : ∀ o, (yy.w.alloc o).frozen? ⟨B, 4, none⟩ = false := fun o => blk_free (kb o) 4
      go_wp2_with fail
      generalize hY0 : yy.w.alloc _ = Y0
      generalize hY1 : Y0.setCell _ _ = Y1
      generalize hY2 : Y1.setCell _ _ = Y2
      generalize hY3 : Y2.setCell _ _ = Y3
      generalize hY4 : Y3.setCell _ _ = Y4
      generalize hY5 : Y4.setCell _ _ = Y5
      have q0 : Y0.heap[B]? = some (.cells #[.string ⟨#[]⟩, .int .i64 0, .int .i64 0, .int .i64 0, .bool false] 108 (0, 0)) := by rw [← hY0]; exact kb _
      have q5 := set_blk (set_blk (set_blk (set_blk (set_blk q0 0 _ hY1) 1 _ hY2) 2 _ hY3) 3 _ hY4) 4 _ hY5
      simp at q5
      have r0 := blk_cell q5 0
      have r1 := blk_cell q5 1
      have r2 := blk_cell q5 2
      have r3 := blk_cell q5 3
      have r4 := blk_cell q5 4
      simp at r0 r1 r2 r3 r4
      have belD : Below W.heap.size W Y5 := by
        subst hY5; subst hY4; subst hY3; subst hY2; subst hY1; subst hY0
        exact (((((bel.trans ((yy.alloc _).below.mono (by have := bel.size; omega))).setCell hBW _).setCell hBW _).setCell hBW _).setCell hBW _).setCell hBW _
      refine bodyPost_ret (v := .tuple #[.agg #[.string ⟨#[42]⟩, .int .i64 1, .int .i64 0, .int .i64 2, .bool false], .int .i64 0, .bool true]) (by simp [results, Tryd.results123, go_sem, r0, r1, r2, r3, r4]) rfl ?_
      exact ⟨rfl, ⟨Y5, belD⟩, rfl⟩

set_option maxRecDepth 100000 in
set_option maxHeartbeats 4000000 in
theorem form_lit2 {W : World} (F : Forms W) (x : Ext W) : Calls Tryd.prog 123 #[.int .i64 2] x.w (Ans W (.tuple #[.agg #[.string ⟨#[43]⟩, .int .i64 2, .int .i64 0, .int .i64 2, .bool false], .int .i64 0, .bool true])) := by
  go_enter Tryd.func123, Tryd.ntmps123
  have hfc : ∀ o, (x.w.alloc o).rangeAt 0 0 formCells := fun o j v hv => by rw [Nat.zero_add]; exact (F.ext (x.alloc o)) j v hv
  go_wp2_with (first | refine wp_load_mid 116 _ rfl 0 0 rfl formCells (.array 5 108) (hfc _) (by kernel_rfl) rfl (by kernel_rfl) ?_ | refine wpList_load_mid rfl 116 _ rfl 0 0 rfl formCells (.array 5 108) (hfc _) (by kernel_rfl) rfl (by kernel_rfl) ?_)
  clear hfc
  generalize hW : x.w.alloc _ = W1
  generalize hB : x.w.heap.size = B
  have bR : W1.heap[B]? = some (.cells #[.string ⟨#[]⟩, .int .i64 0, .int .i64 0, .int .i64 0, .bool false] 108 (0, 0)) := by
    subst hW; subst hB
    show (x.w.heap.push _)[x.w.heap.size]? = _
    rw [Array.getElem?_push, if_pos rfl]
  have bel : Below W.heap.size W W1 := by subst hW; exact x.below.alloc x.size _
  have hBW : W.heap.size ≤ B := by subst hB; exact x.size
  clear hW hB
  go_loopw [8] (fun i wr => (i = .int .i64 0 ∨ i = .int .i64 1 ∨ i = .int .i64 2) ∧ (∃ y : Ext W1, wr = y.w)) (fun i _ => 5 - (intOf i).toNat)
  case atStart => exact ⟨.inl rfl, ⟨Ext.self W1, rfl⟩⟩
  case round =>
    obtain ⟨hk, ⟨yy, rfl⟩⟩ := hrel
    rcases hk with rfl | rfl | rfl
    · skip
      have hix := form_ix0
      go_wp2_with fail
      go_roundw
      case rel => exact ⟨.inr (.inl (by go_num)), ⟨yy.alloc _, rfl⟩⟩
      case measure => simp [intOf]
    · skip
      have hix := form_ix1
      go_wp2_with fail
      go_roundw
      case rel => exact ⟨.inr (.inr (by go_num)), ⟨yy.alloc _, rfl⟩⟩
      case measure => simp [intOf]
    · skip
      have hix := form_ix2
      have kb : ∀ o, (yy.w.alloc o).heap[B]? = some (.cells #[.string ⟨#[]⟩, .int .i64 0, .int .i64 0, .int .i64 0, .bool false] 108 (0, 0)) := fun o => (yy.alloc o).blk bR
      have k0 : ∀ o, (yy.w.alloc o).cell? ⟨B, 0, none⟩ = some (.string ⟨#[]⟩) := fun o => blk_cell (kb o) 0
      have z0 : ∀ o, (yy.w.alloc o).frozen? ⟨B, 0, none⟩ = false := fun o => blk_free (kb o) 0
      have k1 : ∀ o, (yy.w.alloc o).cell? ⟨B, 1, none⟩ = some (.int .i64 0) := fun o => blk_cell (kb o) 1
      have z1 : ∀ o, (yy.w.alloc o).frozen? ⟨B, 1, none⟩ = false := fun o => blk_free (kb o) 1
      have k2 : ∀ o, (yy.w.alloc o).cell? ⟨B, 2, none⟩ = some (.int .i64 0) := fun o => blk_cell (kb o) 2
      have z2 : ∀ o, (yy.w.alloc o).frozen? ⟨B, 2, none⟩ = false := fun o => blk_free (kb o) 2
      have k3 : ∀ o, (yy.w.alloc o).cell? ⟨B, 3, none⟩ = some (.int .i64 0) := fun o => blk_cell (kb o) 3
      have z3 : ∀ o, (yy.w.alloc o).frozen? ⟨B, 3, none⟩ = false := fun o => blk_free (kb o) 3
      have k4 : ∀ o, (yy.w.alloc o).cell? ⟨B, 4, none⟩ = some (.bool false) := fun o => blk_cell (kb o) 4
      have z4 : ∀ o, (yy.w.alloc o).frozen? ⟨B, 4, none⟩ = false := fun o => blk_free (kb o) 4
      go_wp2_with fail
      generalize hY0 : yy.w.alloc _ = Y0
      generalize hY1 : Y0.setCell _ _ = Y1
      generalize hY2 : Y1.setCell _ _ = Y2
      generalize hY3 : Y2.setCell _ _ = Y3
      generalize hY4 : Y3.setCell _ _ = Y4
      generalize hY5 : Y4.setCell _ _ = Y5
      have q0 : Y0.heap[B]? = some (.cells #[.string ⟨#[]⟩, .int .i64 0, .int .i64 0, .int .i64 0, .bool false] 108 (0, 0)) := by rw [← hY0]; exact kb _
      have q5 := set_blk (set_blk (set_blk (set_blk (set_blk q0 0 _ hY1) 1 _ hY2) 2 _ hY3) 3 _ hY4) 4 _ hY5
      simp at q5
      have r0 := blk_cell q5 0
      have r1 := blk_cell q5 1
      have r2 := blk_cell q5 2
      have r3 := blk_cell q5 3
      have r4 := blk_cell q5 4
      simp at r0 r1 r2 r3 r4
      have belD : Below W.heap.size W Y5 := by
        subst hY5; subst hY4; subst hY3; subst hY2; subst hY1; subst hY0
        exact (((((bel.trans ((yy.alloc _).below.mono (by have := bel.size; omega))).setCell hBW _).setCell hBW _).setCell hBW _).setCell hBW _).setCell hBW _
      refine bodyPost_ret (v := .tuple #[.agg #[.string ⟨#[43]⟩, .int .i64 2, .int .i64 0, .int .i64 2, .bool false], .int .i64 0, .bool true]) (by simp [results, Tryd.results123, go_sem, r0, r1, r2, r3, r4]) rfl ?_
      exact ⟨rfl, ⟨Y5, belD⟩, rfl⟩

set_option maxRecDepth 100000 in
set_option maxHeartbeats 4000000 in
theorem form_lit3 {W : World} (F : Forms W) (x : Ext W) : Calls Tryd.prog 123 #[.int .i64 3] x.w (Ans W (.tuple #[.agg #[.string ⟨#[62]⟩, .int .i64 3, .int .i64 35, .int .i64 2, .bool true], .int .i64 0, .bool true])) := by
  go_enter Tryd.func123, Tryd.ntmps123
  have hfc : ∀ o, (x.w.alloc o).rangeAt 0 0 formCells := fun o j v hv => by rw [Nat.zero_add]; exact (F.ext (x.alloc o)) j v hv
  go_wp2_with (first | refine wp_load_mid 116 _ rfl 0 0 rfl formCells (.array 5 108) (hfc _) (by kernel_rfl) rfl (by kernel_rfl) ?_ | refine wpList_load_mid rfl 116 _ rfl 0 0 rfl formCells (.array 5 108) (hfc _) (by kernel_rfl) rfl (by kernel_rfl) ?_)
  clear hfc
  generalize hW : x.w.alloc _ = W1
  generalize hB : x.w.heap.size = B
  have bR : W1.heap[B]? = some (.cells #[.string ⟨#[]⟩, .int .i64 0, .int .i64 0, .int .i64 0, .bool false] 108 (0, 0)) := by
    subst hW; subst hB
    show (x.w.heap.push _)[x.w.heap.size]? = _
    rw [Array.getElem?_push, if_pos rfl]
  have bel : Below W.heap.size W W1 := by subst hW; exact x.below.alloc x.size _
  have hBW : W.heap.size ≤ B := by subst hB; exact x.size
  clear hW hB
  go_loopw [8] (fun i wr => (i = .int .i64 0 ∨ i = .int .i64 1 ∨ i = .int .i64 2 ∨ i = .int .i64 3) ∧ (∃ y : Ext W1, wr = y.w)) (fun i _ => 5 - (intOf i).toNat)
  case atStart => exact ⟨.inl rfl, ⟨Ext.self W1, rfl⟩⟩
  case round =>
    obtain ⟨hk, ⟨yy, rfl⟩⟩ := hrel
    rcases hk with rfl | rfl | rfl | rfl
    · skip
      have hix := form_ix0
      go_wp2_with fail
      go_roundw
      case rel => exact ⟨.inr (.inl (by go_num)), ⟨yy.alloc _, rfl⟩⟩
      case measure => simp [intOf]
    · skip
      have hix := form_ix1
      go_wp2_with fail
      go_roundw
      case rel => exact ⟨.inr (.inr (.inl (by go_num))), ⟨yy.alloc _, rfl⟩⟩
      case measure => simp [intOf]
    · skip
      have hix := form_ix2
      go_wp2_with fail
      go_roundw
      case rel => exact ⟨.inr (.inr (.inr (by go_num))), ⟨yy.alloc _, rfl⟩⟩
      case measure => simp [intOf]
    · skip
      have hix := form_ix3
      have kb : ∀ o, (yy.w.alloc o).heap[B]? = some (.cells #[.string ⟨#[]⟩, .int .i64 0, .int .i64 0, .int .i64 0, .bool false] 108 (0, 0)) := fun o => (yy.alloc o).blk bR
      have k0 : ∀ o, (yy.w.alloc o).cell? ⟨B, 0, none⟩ = some (.string ⟨#[]⟩) := fun o => blk_cell (kb o) 0
      have z0 : ∀ o, (yy.w.alloc o).frozen? ⟨B, 0, none⟩ = false := fun o => blk_free (kb o) 0
      have k1 : ∀ o, (yy.w.alloc o).cell? ⟨B, 1, none⟩ = some (.int .i64 0) := fun o => blk_cell (kb o) 1
      have z1 : ∀ o, (yy.w.alloc o).frozen? ⟨B, 1, none⟩ = false := fun o => blk_free (kb o) 1
      have k2 : ∀ o, (yy.w.alloc o).cell? ⟨B, 2, none⟩ = some (.int .i64 0) := fun o => blk_cell (kb o) 2
      have z2 : ∀ o, (yy.w.alloc o).frozen? ⟨B, 2, none⟩ = false := fun o => blk_free (kb o) 2
      have k3 : ∀ o, (yy.w.alloc o).cell? ⟨B, 3, none⟩ = some (.int .i64 0) := fun o => blk_cell (kb o) 3
      have z3 : ∀ o, (yy.w.alloc o).frozen? ⟨B, 3, none⟩ = false := fun o => blk_free (kb o) 3
      have k4 : ∀ o, (yy.w.alloc o).cell? ⟨B, 4, none⟩ = some (.bool false) := fun o => blk_cell (kb o) 4
      have z4 : ∀ o, (yy.w.alloc o).frozen? ⟨B, 4, none⟩ = false := fun o => blk_free (kb o) 4
      go_wp2_with fail
      generalize hY0 : yy.w.alloc _ = Y0
      generalize hY1 : Y0.setCell _ _ = Y1
      generalize hY2 : Y1.setCell _ _ = Y2
      generalize hY3 : Y2.setCell _ _ = Y3
      generalize hY4 : Y3.setCell _ _ = Y4
      generalize hY5 : Y4.setCell _ _ = Y5
      have q0 : Y0.heap[B]? = some (.cells #[.string ⟨#[]⟩, .int .i64 0, .int .i64 0, .int .i64 0, .bool false] 108 (0, 0)) := by rw [← hY0]; exact kb _
      have q5 := set_blk (set_blk (set_blk (set_blk (set_blk q0 0 _ hY1) 1 _ hY2) 2 _ hY3) 3 _ hY4) 4 _ hY5
      simp at q5
      have r0 := blk_cell q5 0
      have r1 := blk_cell q5 1
      have r2 := blk_cell q5 2
      have r3 := blk_cell q5 3
      have r4 := blk_cell q5 4
      simp at r0 r1 r2 r3 r4
      have belD : Below W.heap.size W Y5 := by
        subst hY5; subst hY4; subst hY3; subst hY2; subst hY1; subst hY0
        exact (((((bel.trans ((yy.alloc _).below.mono (by have := bel.size; omega))).setCell hBW _).setCell hBW _).setCell hBW _).setCell hBW _).setCell hBW _
      refine bodyPost_ret (v := .tuple #[.agg #[.string ⟨#[62]⟩, .int .i64 3, .int .i64 35, .int .i64 2, .bool true], .int .i64 0, .bool true]) (by simp [results, Tryd.results123, go_sem, r0, r1, r2, r3, r4]) rfl ?_
      exact ⟨rfl, ⟨Y5, belD⟩, rfl⟩

set_option maxRecDepth 100000 in
set_option maxHeartbeats 4000000 in
theorem form_lit35 {W : World} (F : Forms W) (x : Ext W) : Calls Tryd.prog 123 #[.int .i64 35] x.w (Ans W (.tuple #[.agg #[.string ⟨#[62]⟩, .int .i64 3, .int .i64 35, .int .i64 2, .bool true], .int .i64 (-1), .bool true])) := by
  go_enter Tryd.func123, Tryd.ntmps123
  have hfc : ∀ o, (x.w.alloc o).rangeAt 0 0 formCells := fun o j v hv => by rw [Nat.zero_add]; exact (F.ext (x.alloc o)) j v hv
  go_wp2_with (first | refine wp_load_mid 116 _ rfl 0 0 rfl formCells (.array 5 108) (hfc _) (by kernel_rfl) rfl (by kernel_rfl) ?_ | refine wpList_load_mid rfl 116 _ rfl 0 0 rfl formCells (.array 5 108) (hfc _) (by kernel_rfl) rfl (by kernel_rfl) ?_)
  clear hfc
  generalize hW : x.w.alloc _ = W1
  generalize hB : x.w.heap.size = B
  have bR : W1.heap[B]? = some (.cells #[.string ⟨#[]⟩, .int .i64 0, .int .i64 0, .int .i64 0, .bool false] 108 (0, 0)) := by
    subst hW; subst hB
    show (x.w.heap.push _)[x.w.heap.size]? = _
    rw [Array.getElem?_push, if_pos rfl]
  have bel : Below W.heap.size W W1 := by subst hW; exact x.below.alloc x.size _
  have hBW : W.heap.size ≤ B := by subst hB; exact x.size
  clear hW hB
  go_loopw [8] (fun i wr => (i = .int .i64 0 ∨ i = .int .i64 1 ∨ i = .int .i64 2 ∨ i = .int .i64 3) ∧ (∃ y : Ext W1, wr = y.w)) (fun i _ => 5 - (intOf i).toNat)
  case atStart => exact ⟨.inl rfl, ⟨Ext.self W1, rfl⟩⟩
  case round =>
    obtain ⟨hk, ⟨yy, rfl⟩⟩ := hrel
    rcases hk with rfl | rfl | rfl | rfl
    · skip
      have hix := form_ix0
      go_wp2_with fail
      go_roundw
      case rel => exact ⟨.inr (.inl (by go_num)), ⟨yy.alloc _, rfl⟩⟩
      case measure => simp [intOf]
    · skip
      have hix := form_ix1
      go_wp2_with fail
      go_roundw
      case rel => exact ⟨.inr (.inr (.inl (by go_num))), ⟨yy.alloc _, rfl⟩⟩
      case measure => simp [intOf]
    · skip
      have hix := form_ix2
      go_wp2_with fail
      go_roundw
      case rel => exact ⟨.inr (.inr (.inr (by go_num))), ⟨yy.alloc _, rfl⟩⟩
      case measure => simp [intOf]
    · skip
      have hix := form_ix3
      have kb : ∀ o, (yy.w.alloc o).heap[B]? = some (.cells #[.string ⟨#[]⟩, .int .i64 0, .int .i64 0, .int .i64 0, .bool false] 108 (0, 0)) := fun o => (yy.alloc o).blk bR
      have k0 : ∀ o, (yy.w.alloc o).cell? ⟨B, 0, none⟩ = some (.string ⟨#[]⟩) := fun o => blk_cell (kb o) 0
      have z0 : ∀ o, (yy.w.alloc o).frozen? ⟨B, 0, none⟩ = false := fun o => blk_free (kb o) 0
      have k1 : ∀ o, (yy.w.alloc o).cell? ⟨B, 1, none⟩ = some (.int .i64 0) := fun o => blk_cell (kb o) 1
      have z1 : ∀ o, (yy.w.alloc o).frozen? ⟨B, 1, none⟩ = false := fun o => blk_free (kb o) 1
      have k2 : ∀ o, (yy.w.alloc o).cell? ⟨B, 2, none⟩ = some (.int .i64 0) := fun o => blk_cell (kb o) 2
      have z2 : ∀ o, (yy.w.alloc o).frozen? ⟨B, 2, none⟩ = false := fun o => blk_free (kb o) 2
      have k3 : ∀ o, (yy.w.alloc o).cell? ⟨B, 3, none⟩ = some (.int .i64 0) := fun o => blk_cell (kb o) 3
      have z3 : ∀ o, (yy.w.alloc o).frozen? ⟨B, 3, none⟩ = false := fun o => blk_free (kb o) 3
      have k4 : ∀ o, (yy.w.alloc o).cell? ⟨B, 4, none⟩ = some (.bool false) := fun o => blk_cell (kb o) 4
      have z4 : ∀ o, (yy.w.alloc o).frozen? ⟨B, 4, none⟩ = false := fun o => blk_free (kb o) 4
      go_wp2_with fail
      generalize hY0 : yy.w.alloc _ = Y0
      generalize hY1 : Y0.setCell _ _ = Y1
      generalize hY2 : Y1.setCell _ _ = Y2
      generalize hY3 : Y2.setCell _ _ = Y3
      generalize hY4 : Y3.setCell _ _ = Y4
      generalize hY5 : Y4.setCell _ _ = Y5
      have q0 : Y0.heap[B]? = some (.cells #[.string ⟨#[]⟩, .int .i64 0, .int .i64 0, .int .i64 0, .bool false] 108 (0, 0)) := by rw [← hY0]; exact kb _
      have q5 := set_blk (set_blk (set_blk (set_blk (set_blk q0 0 _ hY1) 1 _ hY2) 2 _ hY3) 3 _ hY4) 4 _ hY5
      simp at q5
      have r0 := blk_cell q5 0
      have r1 := blk_cell q5 1
      have r2 := blk_cell q5 2
      have r3 := blk_cell q5 3
      have r4 := blk_cell q5 4
      simp at r0 r1 r2 r3 r4
      have belD : Below W.heap.size W Y5 := by
        subst hY5; subst hY4; subst hY3; subst hY2; subst hY1; subst hY0
        exact (((((bel.trans ((yy.alloc _).below.mono (by have := bel.size; omega))).setCell hBW _).setCell hBW _).setCell hBW _).setCell hBW _).setCell hBW _
      refine bodyPost_ret (v := .tuple #[.agg #[.string ⟨#[62]⟩, .int .i64 3, .int .i64 35, .int .i64 2, .bool true], .int .i64 (-1), .bool true]) (by simp [results, Tryd.results123, go_sem, r0, r1, r2, r3, r4]) rfl ?_
      exact ⟨rfl, ⟨Y5, belD⟩, rfl⟩

set_option maxRecDepth 100000 in
set_option maxHeartbeats 4000000 in
theorem form_lit19 {W : World} (F : Forms W) (x : Ext W) : Calls Tryd.prog 123 #[.int .i64 19] x.w (Ans W (.tuple #[.agg #[.string ⟨#[33]⟩, .int .i64 19, .int .i64 36, .int .i64 1, .bool true], .int .i64 0, .bool true])) := by
  go_enter Tryd.func123, Tryd.ntmps123
  have hfc : ∀ o, (x.w.alloc o).rangeAt 0 0 formCells := fun o j v hv => by rw [Nat.zero_add]; exact (F.ext (x.alloc o)) j v hv
  go_wp2_with (first | refine wp_load_mid 116 _ rfl 0 0 rfl formCells (.array 5 108) (hfc _) (by kernel_rfl) rfl (by kernel_rfl) ?_ | refine wpList_load_mid rfl 116 _ rfl 0 0 rfl formCells (.array 5 108) (hfc _) (by kernel_rfl) rfl (by kernel_rfl) ?_)
  clear hfc
  generalize hW : x.w.alloc _ = W1
  generalize hB : x.w.heap.size = B
  have bR : W1.heap[B]? = some (.cells #[.string ⟨#[]⟩, .int .i64 0, .int .i64 0, .int .i64 0, .bool false] 108 (0, 0)) := by
    subst hW; subst hB
    show (x.w.heap.push _)[x.w.heap.size]? = _
    rw [Array.getElem?_push, if_pos rfl]
  have bel : Below W.heap.size W W1 := by subst hW; exact x.below.alloc x.size _
  have hBW : W.heap.size ≤ B := by subst hB; exact x.size
  clear hW hB
  go_loopw [8] (fun i wr => (i = .int .i64 0 ∨ i = .int .i64 1 ∨ i = .int .i64 2 ∨ i = .int .i64 3 ∨ i = .int .i64 4) ∧ (∃ y : Ext W1, wr = y.w)) (fun i _ => 5 - (intOf i).toNat)
  case atStart => exact ⟨.inl rfl, ⟨Ext.self W1, rfl⟩⟩
  case round =>
    obtain ⟨hk, ⟨yy, rfl⟩⟩ := hrel
    rcases hk with rfl | rfl | rfl | rfl | rfl
    · skip
      have hix := form_ix0
      go_wp2_with fail
      go_roundw
      case rel => exact ⟨.inr (.inl (by go_num)), ⟨yy.alloc _, rfl⟩⟩
      case measure => simp [intOf]
    · skip
      have hix := form_ix1
      go_wp2_with fail
      go_roundw
      case rel => exact ⟨.inr (.inr (.inl (by go_num))), ⟨yy.alloc _, rfl⟩⟩
      case measure => simp [intOf]
    · skip
      have hix := form_ix2
      go_wp2_with fail
      go_roundw
      case rel => exact ⟨.inr (.inr (.inr (.inl (by go_num)))), ⟨yy.alloc _, rfl⟩⟩
      case measure => simp [intOf]
    · skip
      have hix := form_ix3
      go_wp2_with fail
      go_roundw
      case rel => exact ⟨.inr (.inr (.inr (.inr (by go_num)))), ⟨yy.alloc _, rfl⟩⟩
      case measure => simp [intOf]
    · skip
      have hix := form_ix4
      have kb : ∀ o, (yy.w.alloc o).heap[B]? = some (.cells #[.string ⟨#[]⟩, .int .i64 0, .int .i64 0, .int .i64 0, .bool false] 108 (0, 0)) := fun o => (yy.alloc o).blk bR
      have k0 : ∀ o, (yy.w.alloc o).cell? ⟨B, 0, none⟩ = some (.string ⟨#[]⟩) := fun o => blk_cell (kb o) 0
      have z0 : ∀ o, (yy.w.alloc o).frozen? ⟨B, 0, none⟩ = false := fun o => blk_free (kb o) 0
      have k1 : ∀ o, (yy.w.alloc o).cell? ⟨B, 1, none⟩ = some (.int .i64 0) := fun o => blk_cell (kb o) 1
      have z1 : ∀ o, (yy.w.alloc o).frozen? ⟨B, 1, none⟩ = false := fun o => blk_free (kb o) 1
      have k2 : ∀ o, (yy.w.alloc o).cell? ⟨B, 2, none⟩ = some (.int .i64 0) := fun o => blk_cell (kb o) 2
      have z2 : ∀ o, (yy.w.alloc o).frozen? ⟨B, 2, none⟩ = false := fun o => blk_free (kb o) 2
      have k3 : ∀ o, (yy.w.alloc o).cell? ⟨B, 3, none⟩ = some (.int .i64 0) := fun o => blk_cell (kb o) 3
      have z3 : ∀ o, (yy.w.alloc o).frozen? ⟨B, 3, none⟩ = false := fun o => blk_free (kb o) 3
      have k4 : ∀ o, (yy.w.alloc o).cell? ⟨B, 4, none⟩ = some (.bool false) := fun o => blk_cell (kb o) 4
      have z4 : ∀ o, (yy.w.alloc o).frozen? ⟨B, 4, none⟩ = false := fun o => blk_free (kb o) 4
      go_wp2_with fail
      generalize hY0 : yy.w.alloc _ = Y0
      generalize hY1 : Y0.setCell _ _ = Y1
      generalize hY2 : Y1.setCell _ _ = Y2
      generalize hY3 : Y2.setCell _ _ = Y3
      generalize hY4 : Y3.setCell _ _ = Y4
      generalize hY5 : Y4.setCell _ _ = Y5
      have q0 : Y0.heap[B]? = some (.cells #[.string ⟨#[]⟩, .int .i64 0, .int .i64 0, .int .i64 0, .bool false] 108 (0, 0)) := by rw [← hY0]; exact kb _
      have q5 := set_blk (set_blk (set_blk (set_blk (set_blk q0 0 _ hY1) 1 _ hY2) 2 _ hY3) 3 _ hY4) 4 _ hY5
      simp at q5
      have r0 := blk_cell q5 0
      have r1 := blk_cell q5 1
      have r2 := blk_cell q5 2
      have r3 := blk_cell q5 3
      have r4 := blk_cell q5 4
      simp at r0 r1 r2 r3 r4
      have belD : Below W.heap.size W Y5 := by
        subst hY5; subst hY4; subst hY3; subst hY2; subst hY1; subst hY0
        exact (((((bel.trans ((yy.alloc _).below.mono (by have := bel.size; omega))).setCell hBW _).setCell hBW _).setCell hBW _).setCell hBW _).setCell hBW _
      refine bodyPost_ret (v := .tuple #[.agg #[.string ⟨#[33]⟩, .int .i64 19, .int .i64 36, .int .i64 1, .bool true], .int .i64 0, .bool true]) (by simp [results, Tryd.results123, go_sem, r0, r1, r2, r3, r4]) rfl ?_
      exact ⟨rfl, ⟨Y5, belD⟩, rfl⟩

set_option maxRecDepth 100000 in
set_option maxHeartbeats 4000000 in
theorem form_lit36 {W : World} (F : Forms W) (x : Ext W) : Calls Tryd.prog 123 #[.int .i64 36] x.w (Ans W (.tuple #[.agg #[.string ⟨#[33]⟩, .int .i64 19, .int .i64 36, .int .i64 1, .bool true], .int .i64 (-1), .bool true])) := by
  go_enter Tryd.func123, Tryd.ntmps123
  have hfc : ∀ o, (x.w.alloc o).rangeAt 0 0 formCells := fun o j v hv => by rw [Nat.zero_add]; exact (F.ext (x.alloc o)) j v hv
  go_wp2_with (first | refine wp_load_mid 116 _ rfl 0 0 rfl formCells (.array 5 108) (hfc _) (by kernel_rfl) rfl (by kernel_rfl) ?_ | refine wpList_load_mid rfl 116 _ rfl 0 0 rfl formCells (.array 5 108) (hfc _) (by kernel_rfl) rfl (by kernel_rfl) ?_)
  clear hfc
  generalize hW : x.w.alloc _ = W1
  generalize hB : x.w.heap.size = B
  have bR : W1.heap[B]? = some (.cells #[.string ⟨#[]⟩, .int .i64 0, .int .i64 0, .int .i64 0, .bool false] 108 (0, 0)) := by
    subst hW; subst hB
    show (x.w.heap.push _)[x.w.heap.size]? = _
    rw [Array.getElem?_push, if_pos rfl]
  have bel : Below W.heap.size W W1 := by subst hW; exact x.below.alloc x.size _
  have hBW : W.heap.size ≤ B := by subst hB; exact x.size
  clear hW hB
  go_loopw [8] (fun i wr => (i = .int .i64 0 ∨ i = .int .i64 1 ∨ i = .int .i64 2 ∨ i = .int .i64 3 ∨ i = .int .i64 4) ∧ (∃ y : Ext W1, wr = y.w)) (fun i _ => 5 - (intOf i).toNat)
  case atStart => exact ⟨.inl rfl, ⟨Ext.self W1, rfl⟩⟩
  case round =>
    obtain ⟨hk, ⟨yy, rfl⟩⟩ := hrel
    rcases hk with rfl | rfl | rfl | rfl | rfl
    · skip
      have hix := form_ix0
      go_wp2_with fail
      go_roundw
      case rel => exact ⟨.inr (.inl (by go_num)), ⟨yy.alloc _, rfl⟩⟩
      case measure => simp [intOf]
    · skip
      have hix := form_ix1
      go_wp2_with fail
      go_roundw
      case rel => exact ⟨.inr (.inr (.inl (by go_num))), ⟨yy.alloc _, rfl⟩⟩
      case measure => simp [intOf]
    · skip
      have hix := form_ix2
      go_wp2_with fail
      go_roundw
      case rel => exact ⟨.inr (.inr (.inr (.inl (by go_num)))), ⟨yy.alloc _, rfl⟩⟩
      case measure => simp [intOf]
    · skip
      have hix := form_ix3
      go_wp2_with fail
      go_roundw
      case rel => exact ⟨.inr (.inr (.inr (.inr (by go_num)))), ⟨yy.alloc _, rfl⟩⟩
      case measure => simp [intOf]
    · skip
      have hix := form_ix4
      have kb : ∀ o, (yy.w.alloc o).heap[B]? = some (.cells #[.string ⟨#[]⟩, .int .i64 0, .int .i64 0, .int .i64 0, .bool false] 108 (0, 0)) := fun o => (yy.alloc o).blk bR
      have k0 : ∀ o, (yy.w.alloc o).cell? ⟨B, 0, none⟩ = some (.string ⟨#[]⟩) := fun o => blk_cell (kb o) 0
      have z0 : ∀ o, (yy.w.alloc o).frozen? ⟨B, 0, none⟩ = false := fun o => blk_free (kb o) 0
      have k1 : ∀ o, (yy.w.alloc o).cell? ⟨B, 1, none⟩ = some (.int .i64 0) := fun o => blk_cell (kb o) 1
      have z1 : ∀ o, (yy.w.alloc o).frozen? ⟨B, 1, none⟩ = false := fun o => blk_free (kb o) 1
      have k2 : ∀ o, (yy.w.alloc o).cell? ⟨B, 2, none⟩ = some (.int .i64 0) := fun o => blk_cell (kb o) 2
      have z2 : ∀ o, (yy.w.alloc o).frozen? ⟨B, 2, none⟩ = false := fun o => blk_free (kb o) 2
      have k3 : ∀ o, (yy.w.alloc o).cell? ⟨B, 3, none⟩ = some (.int .i64 0) := fun o => blk_cell (kb o) 3
      have z3 : ∀ o, (yy.w.alloc o).frozen? ⟨B, 3, none⟩ = false := fun o => blk_free (kb o) 3
      have k4 : ∀ o, (yy.w.alloc o).cell? ⟨B, 4, none⟩ = some (.bool false) := fun o => blk_cell (kb o) 4
      have z4 : ∀ o, (yy.w.alloc o).frozen? ⟨B, 4, none⟩ = false := fun o => blk_free (kb o) 4
      go_wp2_with fail
      generalize hY0 : yy.w.alloc _ = Y0
      generalize hY1 : Y0.setCell _ _ = Y1
      generalize hY2 : Y1.setCell _ _ = Y2
      generalize hY3 : Y2.setCell _ _ = Y3
      generalize hY4 : Y3.setCell _ _ = Y4
      generalize hY5 : Y4.setCell _ _ = Y5
      have q0 : Y0.heap[B]? = some (.cells #[.string ⟨#[]⟩, .int .i64 0, .int .i64 0, .int .i64 0, .bool false] 108 (0, 0)) := by rw [← hY0]; exact kb _
      have q5 := set_blk (set_blk (set_blk (set_blk (set_blk q0 0 _ hY1) 1 _ hY2) 2 _ hY3) 3 _ hY4) 4 _ hY5
      simp at q5
      have r0 := blk_cell q5 0
      have r1 := blk_cell q5 1
      have r2 := blk_cell q5 2
      have r3 := blk_cell q5 3
      have r4 := blk_cell q5 4
      simp at r0 r1 r2 r3 r4
      have belD : Below W.heap.size W Y5 := by
        subst hY5; subst hY4; subst hY3; subst hY2; subst hY1; subst hY0
        exact (((((bel.trans ((yy.alloc _).below.mono (by have := bel.size; omega))).setCell hBW _).setCell hBW _).setCell hBW _).setCell hBW _).setCell hBW _
      refine bodyPost_ret (v := .tuple #[.agg #[.string ⟨#[33]⟩, .int .i64 19, .int .i64 36, .int .i64 1, .bool true], .int .i64 (-1), .bool true]) (by simp [results, Tryd.results123, go_sem, r0, r1, r2, r3, r4]) rfl ?_
      exact ⟨rfl, ⟨Y5, belD⟩, rfl⟩

set_option maxRecDepth 100000 in
set_option maxHeartbeats 4000000 in
theorem form_near3 {W : World} (F : Forms W) {c : Int} (h1 : 3 < c) (h2 : c < 19) (x : Ext W) : Calls Tryd.prog 123 #[.int .i64 c] x.w (Ans W (.tuple #[.agg #[.string ⟨#[62]⟩, .int .i64 3, .int .i64 35, .int .i64 2, .bool true], .int .i64 (c - 3), .bool true])) := by
  have e0 : (c == 0) = false := by simp; omega
  have e1 : (c == 1) = false := by simp; omega
  have e2 : (c == 2) = false := by simp; omega
  have e3 : (c == 3) = false := by simp; omega
  have e35 : (c == 35) = false := by simp; omega
  have l19 : c < 19 := h2
  go_enter Tryd.func123, Tryd.ntmps123
  have hfc : ∀ o, (x.w.alloc o).rangeAt 0 0 formCells := fun o j v hv => by rw [Nat.zero_add]; exact (F.ext (x.alloc o)) j v hv
  go_wp2_with (first | refine wp_load_mid 116 _ rfl 0 0 rfl formCells (.array 5 108) (hfc _) (by kernel_rfl) rfl (by kernel_rfl) ?_ | refine wpList_load_mid rfl 116 _ rfl 0 0 rfl formCells (.array 5 108) (hfc _) (by kernel_rfl) rfl (by kernel_rfl) ?_)
  clear hfc
  generalize hW : x.w.alloc _ = W1
  generalize hB : x.w.heap.size = B
  have bR : W1.heap[B]? = some (.cells #[.string ⟨#[]⟩, .int .i64 0, .int .i64 0, .int .i64 0, .bool false] 108 (0, 0)) := by
    subst hW; subst hB
    show (x.w.heap.push _)[x.w.heap.size]? = _
    rw [Array.getElem?_push, if_pos rfl]
  have bel : Below W.heap.size W W1 := by subst hW; exact x.below.alloc x.size _
  have hBW : W.heap.size ≤ B := by subst hB; exact x.size
  clear hW hB
  go_loopw [8] (fun i wr => (i = .int .i64 0 ∨ i = .int .i64 1 ∨ i = .int .i64 2 ∨ i = .int .i64 3) ∧ (∃ y : Ext W1, wr = y.w)) (fun i _ => 5 - (intOf i).toNat)
  case atStart => exact ⟨.inl rfl, ⟨Ext.self W1, rfl⟩⟩
  case round =>
    obtain ⟨hk, ⟨yy, rfl⟩⟩ := hrel
    rcases hk with rfl | rfl | rfl | rfl
    · skip
      have hix := form_ix0
      go_wp2_with fail
      go_roundw
      case rel => exact ⟨.inr (.inl (by go_num)), ⟨yy.alloc _, rfl⟩⟩
      case measure => simp [intOf]
    · skip
      have hix := form_ix1
      go_wp2_with fail
      go_roundw
      case rel => exact ⟨.inr (.inr (.inl (by go_num))), ⟨yy.alloc _, rfl⟩⟩
      case measure => simp [intOf]
    · skip
      have hix := form_ix2
      go_wp2_with fail
      go_roundw
      case rel => exact ⟨.inr (.inr (.inr (by go_num))), ⟨yy.alloc _, rfl⟩⟩
      case measure => simp [intOf]
    · skip
      have hix := form_ix3
      have kb : ∀ o, (yy.w.alloc o).heap[B]? = some (.cells #[.string ⟨#[]⟩, .int .i64 0, .int .i64 0, .int .i64 0, .bool false] 108 (0, 0)) := fun o => (yy.alloc o).blk bR
      have k0 : ∀ o, (yy.w.alloc o).cell? ⟨B, 0, none⟩ = some (.string ⟨#[]⟩) := fun o => blk_cell (kb o) 0
      have z0 : ∀ o, (yy.w.alloc o).frozen? ⟨B, 0, none⟩ = false := fun o => blk_free (kb o) 0
      have k1 : ∀ o, (yy.w.alloc o).cell? ⟨B, 1, none⟩ = some (.int .i64 0) := fun o => blk_cell (kb o) 1
      have z1 : ∀ o, (yy.w.alloc o).frozen? ⟨B, 1, none⟩ = false := fun o => blk_free (kb o) 1
      have k2 : ∀ o, (yy.w.alloc o).cell? ⟨B, 2, none⟩ = some (.int .i64 0) := fun o => blk_cell (kb o) 2
      have z2 : ∀ o, (yy.w.alloc o).frozen? ⟨B, 2, none⟩ = false := fun o => blk_free (kb o) 2
      have k3 : ∀ o, (yy.w.alloc o).cell? ⟨B, 3, none⟩ = some (.int .i64 0) := fun o => blk_cell (kb o) 3
      have z3 : ∀ o, (yy.w.alloc o).frozen? ⟨B, 3, none⟩ = false := fun o => blk_free (kb o) 3
      have k4 : ∀ o, (yy.w.alloc o).cell? ⟨B, 4, none⟩ = some (.bool false) := fun o => blk_cell (kb o) 4
      have z4 : ∀ o, (yy.w.alloc o).frozen? ⟨B, 4, none⟩ = false := fun o => blk_free (kb o) 4
      go_wp2_with fail
      generalize hY0 : yy.w.alloc _ = Y0
      have kb0 : Y0.heap[B]? = some (.cells #[.string ⟨#[]⟩, .int .i64 0, .int .i64 0, .int .i64 0, .bool false] 108 (0, 0)) := by rw [← hY0]; exact kb _
      have kf : Y0.heap[yy.w.heap.size]? = some (.cells #[.string ⟨#[62]⟩, .int .i64 3, .int .i64 35, .int .i64 2, .bool true] 108 (0, 0)) := by
        subst hY0
        show (yy.w.heap.push _)[yy.w.heap.size]? = _
        rw [Array.getElem?_push, if_pos rfl]
      have belY : Below W.heap.size W Y0 := by subst hY0; exact (bel.trans ((yy.alloc _).below.mono (by have := bel.size; omega)))
      have hlt : B < yy.w.heap.size := (Array.getElem?_eq_some_iff.1 (yy.blk bR)).1
      have hn1 : B ≠ yy.w.heap.size := by omega
      have hn2 : yy.w.heap.size ≠ B := by omega
      clear hlt
      generalize yy.w.heap.size = B6 at *
      clear hY0 kb k0 z0 k1 z1 k2 z2 k3 z3 k4 z4
      have k0 := blk_cell kb0 0
      have z0 := blk_free kb0 0
      have m0 := blk_cell kf 0
      have k1 := blk_cell kb0 1
      have z1 := blk_free kb0 1
      have m1 := blk_cell kf 1
      have k2 := blk_cell kb0 2
      have z2 := blk_free kb0 2
      have m2 := blk_cell kf 2
      have k3 := blk_cell kb0 3
      have z3 := blk_free kb0 3
      have m3 := blk_cell kf 3
      have k4 := blk_cell kb0 4
      have z4 := blk_free kb0 4
      have m4 := blk_cell kf 4
      simp at k0 k1 k2 k3 k4 m0 m1 m2 m3 m4
      go_region
      go_wp2
      generalize hY1 : Y0.setCell _ _ = Y1
      generalize hY2 : Y1.setCell _ _ = Y2
      generalize hY3 : Y2.setCell _ _ = Y3
      generalize hY4 : Y3.setCell _ _ = Y4
      generalize hY5 : Y4.setCell _ _ = Y5
      have q5 := set_blk (set_blk (set_blk (set_blk (set_blk kb0 0 _ hY1) 1 _ hY2) 2 _ hY3) 3 _ hY4) 4 _ hY5
      simp at q5
      have r0 := blk_cell q5 0
      have r1 := blk_cell q5 1
      have r2 := blk_cell q5 2
      have r3 := blk_cell q5 3
      have r4 := blk_cell q5 4
      simp at r0 r1 r2 r3 r4
      have belD : Below W.heap.size W Y5 := by
        subst hY5; subst hY4; subst hY3; subst hY2; subst hY1
        exact (((((belY.setCell hBW _).setCell hBW _).setCell hBW _).setCell hBW _).setCell hBW _)
      refine bodyPost_ret (v := .tuple #[.agg #[.string ⟨#[62]⟩, .int .i64 3, .int .i64 35, .int .i64 2, .bool true], .int .i64 (c - 3), .bool true]) (by simp [results, Tryd.results123, go_sem, r0, r1, r2, r3, r4]) rfl ?_
      exact ⟨rfl, ⟨Y5.drew, belD.drew⟩, rfl⟩

set_option maxRecDepth 100000 in
set_option maxHeartbeats 4000000 in
theorem form_near19 {W : World} (F : Forms W) {c : Int} (h1 : 19 < c) (h2 : c < 35) (x : Ext W) : Calls Tryd.prog 123 #[.int .i64 c] x.w (Ans W (.tuple #[.agg #[.string ⟨#[33]⟩, .int .i64 19, .int .i64 36, .int .i64 1, .bool true], .int .i64 (c - 19), .bool true])) := by
  have e0 : (c == 0) = false := by simp; omega
  have e1 : (c == 1) = false := by simp; omega
  have e2 : (c == 2) = false := by simp; omega
  have e3 : (c == 3) = false := by simp; omega
  have e35 : (c == 35) = false := by simp; omega
  have e19 : (c == 19) = false := by simp; omega
  have e36 : (c == 36) = false := by simp; omega
  have l19 : ¬ c < 19 := by omega
  have l3 : 3 < c := by omega
  go_enter Tryd.func123, Tryd.ntmps123
  have hfc : ∀ o, (x.w.alloc o).rangeAt 0 0 formCells := fun o j v hv => by rw [Nat.zero_add]; exact (F.ext (x.alloc o)) j v hv
  go_wp2_with (first | refine wp_load_mid 116 _ rfl 0 0 rfl formCells (.array 5 108) (hfc _) (by kernel_rfl) rfl (by kernel_rfl) ?_ | refine wpList_load_mid rfl 116 _ rfl 0 0 rfl formCells (.array 5 108) (hfc _) (by kernel_rfl) rfl (by kernel_rfl) ?_)
  clear hfc
  generalize hW : x.w.alloc _ = W1
  generalize hB : x.w.heap.size = B
  have bR : W1.heap[B]? = some (.cells #[.string ⟨#[]⟩, .int .i64 0, .int .i64 0, .int .i64 0, .bool false] 108 (0, 0)) := by
    subst hW; subst hB
    show (x.w.heap.push _)[x.w.heap.size]? = _
    rw [Array.getElem?_push, if_pos rfl]
  have bel : Below W.heap.size W W1 := by subst hW; exact x.below.alloc x.size _
  have hBW : W.heap.size ≤ B := by subst hB; exact x.size
  clear hW hB
  go_loopw [8] (fun i wr => (i = .int .i64 0 ∨ i = .int .i64 1 ∨ i = .int .i64 2 ∨ i = .int .i64 3 ∨ i = .int .i64 4) ∧ (∃ y : Ext W1, wr = y.w)) (fun i _ => 5 - (intOf i).toNat)
  case atStart => exact ⟨.inl rfl, ⟨Ext.self W1, rfl⟩⟩
  case round =>
    obtain ⟨hk, ⟨yy, rfl⟩⟩ := hrel
    rcases hk with rfl | rfl | rfl | rfl | rfl
    · skip
      have hix := form_ix0
      go_wp2_with fail
      go_roundw
      case rel => exact ⟨.inr (.inl (by go_num)), ⟨yy.alloc _, rfl⟩⟩
      case measure => simp [intOf]
    · skip
      have hix := form_ix1
      go_wp2_with fail
      go_roundw
      case rel => exact ⟨.inr (.inr (.inl (by go_num))), ⟨yy.alloc _, rfl⟩⟩
      case measure => simp [intOf]
    · skip
      have hix := form_ix2
      go_wp2_with fail
      go_roundw
      case rel => exact ⟨.inr (.inr (.inr (.inl (by go_num)))), ⟨yy.alloc _, rfl⟩⟩
      case measure => simp [intOf]
    · skip
      have hix := form_ix3
      go_wp2_with fail
      go_roundw
      case rel => exact ⟨.inr (.inr (.inr (.inr (by go_num)))), ⟨yy.alloc _, rfl⟩⟩
      case measure => simp [intOf]
    · skip
      have hix := form_ix4
      have kb : ∀ o, (yy.w.alloc o).heap[B]? = some (.cells #[.string ⟨#[]⟩, .int .i64 0, .int .i64 0, .int .i64 0, .bool false] 108 (0, 0)) := fun o => (yy.alloc o).blk bR
      have k0 : ∀ o, (yy.w.alloc o).cell? ⟨B, 0, none⟩ = some (.string ⟨#[]⟩) := fun o => blk_cell (kb o) 0
      have z0 : ∀ o, (yy.w.alloc o).frozen? ⟨B, 0, none⟩ = false := fun o => blk_free (kb o) 0
      have k1 : ∀ o, (yy.w.alloc o).cell? ⟨B, 1, none⟩ = some (.int .i64 0) := fun o => blk_cell (kb o) 1
      have z1 : ∀ o, (yy.w.alloc o).frozen? ⟨B, 1, none⟩ = false := fun o => blk_free (kb o) 1
      have k2 : ∀ o, (yy.w.alloc o).cell? ⟨B, 2, none⟩ = some (.int .i64 0) := fun o => blk_cell (kb o) 2
      have z2 : ∀ o, (yy.w.alloc o).frozen? ⟨B, 2, none⟩ = false := fun o => blk_free (kb o) 2
      have k3 : ∀ o, (yy.w.alloc o).cell? ⟨B, 3, none⟩ = some (.int .i64 0) := fun o => blk_cell (kb o) 3
      have z3 : ∀ o, (yy.w.alloc o).frozen? ⟨B, 3, none⟩ = false := fun o => blk_free (kb o) 3
      have k4 : ∀ o, (yy.w.alloc o).cell? ⟨B, 4, none⟩ = some (.bool false) := fun o => blk_cell (kb o) 4
      have z4 : ∀ o, (yy.w.alloc o).frozen? ⟨B, 4, none⟩ = false := fun o => blk_free (kb o) 4
      go_wp2_with fail
      generalize hY0 : yy.w.alloc _ = Y0
      have kb0 : Y0.heap[B]? = some (.cells #[.string ⟨#[]⟩, .int .i64 0, .int .i64 0, .int .i64 0, .bool false] 108 (0, 0)) := by rw [← hY0]; exact kb _
      have kf : Y0.heap[yy.w.heap.size]? = some (.cells #[.string ⟨#[33]⟩, .int .i64 19, .int .i64 36, .int .i64 1, .bool true] 108 (0, 0)) := by
        subst hY0
        show (yy.w.heap.push _)[yy.w.heap.size]? = _
        rw [Array.getElem?_push, if_pos rfl]
      have belY : Below W.heap.size W Y0 := by subst hY0; exact (bel.trans ((yy.alloc _).below.mono (by have := bel.size; omega)))
      have hlt : B < yy.w.heap.size := (Array.getElem?_eq_some_iff.1 (yy.blk bR)).1
      have hn1 : B ≠ yy.w.heap.size := by omega
      have hn2 : yy.w.heap.size ≠ B := by omega
      clear hlt
      generalize yy.w.heap.size = B6 at *
      clear hY0 kb k0 z0 k1 z1 k2 z2 k3 z3 k4 z4
      have k0 := blk_cell kb0 0
      have z0 := blk_free kb0 0
      have m0 := blk_cell kf 0
      have k1 := blk_cell kb0 1
      have z1 := blk_free kb0 1
      have m1 := blk_cell kf 1
      have k2 := blk_cell kb0 2
      have z2 := blk_free kb0 2
      have m2 := blk_cell kf 2
      have k3 := blk_cell kb0 3
      have z3 := blk_free kb0 3
      have m3 := blk_cell kf 3
      have k4 := blk_cell kb0 4
      have z4 := blk_free kb0 4
      have m4 := blk_cell kf 4
      simp at k0 k1 k2 k3 k4 m0 m1 m2 m3 m4
      go_region
      go_wp2
      generalize hY1 : Y0.setCell _ _ = Y1
      generalize hY2 : Y1.setCell _ _ = Y2
      generalize hY3 : Y2.setCell _ _ = Y3
      generalize hY4 : Y3.setCell _ _ = Y4
      generalize hY5 : Y4.setCell _ _ = Y5
      have q5 := set_blk (set_blk (set_blk (set_blk (set_blk kb0 0 _ hY1) 1 _ hY2) 2 _ hY3) 3 _ hY4) 4 _ hY5
      simp at q5
      have r0 := blk_cell q5 0
      have r1 := blk_cell q5 1
      have r2 := blk_cell q5 2
      have r3 := blk_cell q5 3
      have r4 := blk_cell q5 4
      simp at r0 r1 r2 r3 r4
      have belD : Below W.heap.size W Y5 := by
        subst hY5; subst hY4; subst hY3; subst hY2; subst hY1
        exact (((((belY.setCell hBW _).setCell hBW _).setCell hBW _).setCell hBW _).setCell hBW _)
      refine bodyPost_ret (v := .tuple #[.agg #[.string ⟨#[33]⟩, .int .i64 19, .int .i64 36, .int .i64 1, .bool true], .int .i64 (c - 19), .bool true]) (by simp [results, Tryd.results123, go_sem, r0, r1, r2, r3, r4]) rfl ?_
      exact ⟨rfl, ⟨Y5.drew, belD.drew⟩, rfl⟩

set_option maxRecDepth 100000 in
set_option maxHeartbeats 4000000 in
theorem form_less {W : World} (F : Forms W) {c : Int} (hc : c < 0) (x : Ext W) : Calls Tryd.prog 123 #[.int .i64 c] x.w (Ans W (.tuple #[.agg #[.string ⟨#[]⟩, .int .i64 0, .int .i64 0, .int .i64 0, .bool false], .int .i64 0, .bool false])) := by
  have e0 : (c == 0) = false := by simp; omega
  have e1 : (c == 1) = false := by simp; omega
  have e2 : (c == 2) = false := by simp; omega
  have e3 : (c == 3) = false := by simp; omega
  have e35 : (c == 35) = false := by simp; omega
  have e19 : (c == 19) = false := by simp; omega
  have e36 : (c == 36) = false := by simp; omega
  have l3 : ¬ 3 < c := by omega
  have l4 : ¬ 19 < c := by omega
  clear hc
  go_enter Tryd.func123, Tryd.ntmps123
  have hfc : ∀ o, (x.w.alloc o).rangeAt 0 0 formCells := fun o j v hv => by rw [Nat.zero_add]; exact (F.ext (x.alloc o)) j v hv
  go_wp2_with (first | refine wp_load_mid 116 _ rfl 0 0 rfl formCells (.array 5 108) (hfc _) (by kernel_rfl) rfl (by kernel_rfl) ?_ | refine wpList_load_mid rfl 116 _ rfl 0 0 rfl formCells (.array 5 108) (hfc _) (by kernel_rfl) rfl (by kernel_rfl) ?_)
  clear hfc
  generalize hW : x.w.alloc _ = W1
  generalize hB : x.w.heap.size = B
  have bR : W1.heap[B]? = some (.cells #[.string ⟨#[]⟩, .int .i64 0, .int .i64 0, .int .i64 0, .bool false] 108 (0, 0)) := by
    subst hW; subst hB
    show (x.w.heap.push _)[x.w.heap.size]? = _
    rw [Array.getElem?_push, if_pos rfl]
  have bel : Below W.heap.size W W1 := by subst hW; exact x.below.alloc x.size _
  have hBW : W.heap.size ≤ B := by subst hB; exact x.size
  clear hW hB
  go_loopw [8] (fun i wr => (i = .int .i64 0 ∨ i = .int .i64 1 ∨ i = .int .i64 2 ∨ i = .int .i64 3 ∨ i = .int .i64 4 ∨ i = .int .i64 5) ∧ (∃ y : Ext W1, wr = y.w)) (fun i _ => 5 - (intOf i).toNat)
  case atStart => exact ⟨.inl rfl, ⟨Ext.self W1, rfl⟩⟩
  case round =>
    obtain ⟨hk, ⟨yy, rfl⟩⟩ := hrel
    rcases hk with rfl | rfl | rfl | rfl | rfl | rfl
    · skip
      have hix := form_ix0
      go_wp2_with fail
      go_roundw
      case rel => exact ⟨.inr (.inl (by go_num)), ⟨yy.alloc _, rfl⟩⟩
      case measure => simp [intOf]
    · skip
      have hix := form_ix1
      go_wp2_with fail
      go_roundw
      case rel => exact ⟨.inr (.inr (.inl (by go_num))), ⟨yy.alloc _, rfl⟩⟩
      case measure => simp [intOf]
    · skip
      have hix := form_ix2
      go_wp2_with fail
      go_roundw
      case rel => exact ⟨.inr (.inr (.inr (.inl (by go_num)))), ⟨yy.alloc _, rfl⟩⟩
      case measure => simp [intOf]
    · skip
      have hix := form_ix3
      go_wp2_with fail
      go_roundw
      case rel => exact ⟨.inr (.inr (.inr (.inr (.inl (by go_num))))), ⟨yy.alloc _, rfl⟩⟩
      case measure => simp [intOf]
    · skip
      have hix := form_ix4
      go_wp2_with fail
      go_roundw
      case rel => exact ⟨.inr (.inr (.inr (.inr (.inr (by go_num))))), ⟨yy.alloc _, rfl⟩⟩
      case measure => simp [intOf]
    · skip
      have kb0 := yy.blk bR
      have belY : Below W.heap.size W yy.w := bel.trans (yy.below.mono (by have := bel.size; omega))
      have k0 := blk_cell kb0 0
      have z0 := blk_free kb0 0
      have k1 := blk_cell kb0 1
      have z1 := blk_free kb0 1
      have k2 := blk_cell kb0 2
      have z2 := blk_free kb0 2
      have k3 := blk_cell kb0 3
      have z3 := blk_free kb0 3
      have k4 := blk_cell kb0 4
      have z4 := blk_free kb0 4
      simp at k0 k1 k2 k3 k4
      generalize yy.w = Y0 at *
      go_wp2_with fail
      generalize hY1 : Y0.setCell _ _ = Y1
      generalize hY2 : Y1.setCell _ _ = Y2
      generalize hY3 : Y2.setCell _ _ = Y3
      generalize hY4 : Y3.setCell _ _ = Y4
      generalize hY5 : Y4.setCell _ _ = Y5
      have q5 := set_blk (set_blk (set_blk (set_blk (set_blk kb0 0 _ hY1) 1 _ hY2) 2 _ hY3) 3 _ hY4) 4 _ hY5
      simp at q5
      have r0 := blk_cell q5 0
      have r1 := blk_cell q5 1
      have r2 := blk_cell q5 2
      have r3 := blk_cell q5 3
      have r4 := blk_cell q5 4
      simp at r0 r1 r2 r3 r4
      have belD : Below W.heap.size W Y5 := by
        subst hY5; subst hY4; subst hY3; subst hY2; subst hY1
        exact (((((belY.setCell hBW _).setCell hBW _).setCell hBW _).setCell hBW _).setCell hBW _)
      refine bodyPost_ret (v := .tuple #[.agg #[.string ⟨#[]⟩, .int .i64 0, .int .i64 0, .int .i64 0, .bool false], .int .i64 0, .bool false]) (by simp [results, Tryd.results123, go_sem, r0, r1, r2, r3, r4]) rfl ?_
      exact ⟨rfl, ⟨Y5, belD⟩, rfl⟩

set_option maxRecDepth 100000 in
set_option maxHeartbeats 4000000 in
theorem form_more {W : World} (F : Forms W) {c : Int} (hc : 36 < c) (x : Ext W) : Calls Tryd.prog 123 #[.int .i64 c] x.w (Ans W (.tuple #[.agg #[.string ⟨#[]⟩, .int .i64 0, .int .i64 0, .int .i64 0, .bool false], .int .i64 0, .bool false])) := by
  have e0 : (c == 0) = false := by simp; omega
  have e1 : (c == 1) = false := by simp; omega
  have e2 : (c == 2) = false := by simp; omega
  have e3 : (c == 3) = false := by simp; omega
  have e35 : (c == 35) = false := by simp; omega
  have e19 : (c == 19) = false := by simp; omega
  have e36 : (c == 36) = false := by simp; omega
  have l3 : 3 < c := by omega
  have l4 : 19 < c := by omega
  have l5 : ¬ c < 19 := by omega
  have l6 : ¬ c < 35 := by omega
  clear hc
  go_enter Tryd.func123, Tryd.ntmps123
  have hfc : ∀ o, (x.w.alloc o).rangeAt 0 0 formCells := fun o j v hv => by rw [Nat.zero_add]; exact (F.ext (x.alloc o)) j v hv
  go_wp2_with (first | refine wp_load_mid 116 _ rfl 0 0 rfl formCells (.array 5 108) (hfc _) (by kernel_rfl) rfl (by kernel_rfl) ?_ | refine wpList_load_mid rfl 116 _ rfl 0 0 rfl formCells (.array 5 108) (hfc _) (by kernel_rfl) rfl (by kernel_rfl) ?_)
  clear hfc
  generalize hW : x.w.alloc _ = W1
  generalize hB : x.w.heap.size = B
  have bR : W1.heap[B]? = some (.cells #[.string ⟨#[]⟩, .int .i64 0, .int .i64 0, .int .i64 0, .bool false] 108 (0, 0)) := by
    subst hW; subst hB
    show (x.w.heap.push _)[x.w.heap.size]? = _
    rw [Array.getElem?_push, if_pos rfl]
  have bel : Below W.heap.size W W1 := by subst hW; exact x.below.alloc x.size _
  have hBW : W.heap.size ≤ B := by subst hB; exact x.size
  clear hW hB
  go_loopw [8] (fun i wr => (i = .int .i64 0 ∨ i = .int .i64 1 ∨ i = .int .i64 2 ∨ i = .int .i64 3 ∨ i = .int .i64 4 ∨ i = .int .i64 5) ∧ (∃ y : Ext W1, wr = y.w)) (fun i _ => 5 - (intOf i).toNat)
  case atStart => exact ⟨.inl rfl, ⟨Ext.self W1, rfl⟩⟩
  case round =>
    obtain ⟨hk, ⟨yy, rfl⟩⟩ := hrel
    rcases hk with rfl | rfl | rfl | rfl | rfl | rfl
    · skip
      have hix := form_ix0
      go_wp2_with fail
      go_roundw
      case rel => exact ⟨.inr (.inl (by go_num)), ⟨yy.alloc _, rfl⟩⟩
      case measure => simp [intOf]
    · skip
      have hix := form_ix1
      go_wp2_with fail
      go_roundw
      case rel => exact ⟨.inr (.inr (.inl (by go_num))), ⟨yy.alloc _, rfl⟩⟩
      case measure => simp [intOf]
    · skip
      have hix := form_ix2
      go_wp2_with fail
      go_roundw
      case rel => exact ⟨.inr (.inr (.inr (.inl (by go_num)))), ⟨yy.alloc _, rfl⟩⟩
      case measure => simp [intOf]
    · skip
      have hix := form_ix3
      go_wp2_with fail
      go_roundw
      case rel => exact ⟨.inr (.inr (.inr (.inr (.inl (by go_num))))), ⟨yy.alloc _, rfl⟩⟩
      case measure => simp [intOf]
    · skip
      have hix := form_ix4
      go_wp2_with fail
      go_roundw
      case rel => exact ⟨.inr (.inr (.inr (.inr (.inr (by go_num))))), ⟨yy.alloc _, rfl⟩⟩
      case measure => simp [intOf]
    · skip
      have kb0 := yy.blk bR
      have belY : Below W.heap.size W yy.w := bel.trans (yy.below.mono (by have := bel.size; omega))
      have k0 := blk_cell kb0 0
      have z0 := blk_free kb0 0
      have k1 := blk_cell kb0 1
      have z1 := blk_free kb0 1
      have k2 := blk_cell kb0 2
      have z2 := blk_free kb0 2
      have k3 := blk_cell kb0 3
      have z3 := blk_free kb0 3
      have k4 := blk_cell kb0 4
      have z4 := blk_free kb0 4
      simp at k0 k1 k2 k3 k4
      generalize yy.w = Y0 at *
      go_wp2_with fail
      generalize hY1 : Y0.setCell _ _ = Y1
      generalize hY2 : Y1.setCell _ _ = Y2
      generalize hY3 : Y2.setCell _ _ = Y3
      generalize hY4 : Y3.setCell _ _ = Y4
      generalize hY5 : Y4.setCell _ _ = Y5
      have q5 := set_blk (set_blk (set_blk (set_blk (set_blk kb0 0 _ hY1) 1 _ hY2) 2 _ hY3) 3 _ hY4) 4 _ hY5
      simp at q5
      have r0 := blk_cell q5 0
      have r1 := blk_cell q5 1
      have r2 := blk_cell q5 2
      have r3 := blk_cell q5 3
      have r4 := blk_cell q5 4
      simp at r0 r1 r2 r3 r4
      have belD : Below W.heap.size W Y5 := by
        subst hY5; subst hY4; subst hY3; subst hY2; subst hY1
        exact (((((belY.setCell hBW _).setCell hBW _).setCell hBW _).setCell hBW _).setCell hBW _)
      refine bodyPost_ret (v := .tuple #[.agg #[.string ⟨#[]⟩, .int .i64 0, .int .i64 0, .int .i64 0, .bool false], .int .i64 0, .bool false]) (by simp [results, Tryd.results123, go_sem, r0, r1, r2, r3, r4]) rfl ?_
      exact ⟨rfl, ⟨Y5, belD⟩, rfl⟩

def markF (c : Int) : ByteArray := if c = 0 then ⟨#[110]⟩ else if c = 1 then ⟨#[42]⟩ else if c = 2 then ⟨#[43]⟩ else if Arr c then ⟨#[62]⟩ else if Bx c then ⟨#[33]⟩ else ⟨#[]⟩
def codeF (c : Int) : Int := if c = 1 then 1 else if c = 2 then 2 else if Arr c then 3 else if Bx c then 19 else 0
def openF (c : Int) : Int := if Arr c then 35 else if Bx c then 36 else 0
def partsF (c : Int) : Int := if kidsOf c < 0 then 0 else kidsOf c
def gF (c : Int) : Int := if Graded c then gradeOf c else 0
/-- What formOfCode hands back. -/
abbrev formV (c : Int) : Value := .tuple #[.agg #[.string (markF c), .int .i64 (codeF c), .int .i64 (openF c), .int .i64 (partsF c), .bool (decide (Graded c))], .int .i64 (gF c), .bool (decide (0 ≤ kidsOf c))]
theorem formV_arr {c : Int} (h : Arr c) : formV c = .tuple #[.agg #[.string ⟨#[62]⟩, .int .i64 3, .int .i64 35, .int .i64 2, .bool true], .int .i64 (gradeOf c), .bool true] := by
  have h0 : c ≠ 0 := by unfold Arr at h; omega
  have h1 : c ≠ 1 := by unfold Arr at h; omega
  have h2 : c ≠ 2 := by unfold Arr at h; omega
  simp [formV, markF, codeF, openF, partsF, gF, kidsOf_2 (.inr (.inr h)), Graded, h, h0, h1, h2]
theorem formV_bx {c : Int} (h : Bx c) : formV c = .tuple #[.agg #[.string ⟨#[33]⟩, .int .i64 19, .int .i64 36, .int .i64 1, .bool true], .int .i64 (gradeOf c), .bool true] := by
  have h0 : c ≠ 0 := by unfold Bx at h; omega
  have h1 : c ≠ 1 := by unfold Bx at h; omega
  have h2 : c ≠ 2 := by unfold Bx at h; omega
  have h3 : ¬ Arr c := by unfold Bx at h; unfold Arr; omega
  simp [formV, markF, codeF, openF, partsF, gF, kidsOf_1 h, Graded, h, h0, h1, h2, h3]
theorem formV_no {c : Int} (h : c < 0 ∨ 36 < c) : formV c = .tuple #[.agg #[.string ⟨#[]⟩, .int .i64 0, .int .i64 0, .int .i64 0, .bool false], .int .i64 0, .bool false] := by
  have h0 : c ≠ 0 := by omega
  have h1 : c ≠ 1 := by omega
  have h2 : c ≠ 2 := by omega
  have h3 : ¬ Arr c := by unfold Arr; omega
  have h4 : ¬ Bx c := by unfold Bx; omega
  have h5 : ¬ (c = 1 ∨ c = 2 ∨ Arr c) := by rintro (h | h | h); exact h1 h; exact h2 h; exact h3 h
  simp [formV, markF, codeF, openF, partsF, gF, kidsOf_no h0 h5 h4, Graded, h0, h1, h2, h3, h4]
theorem formOf_ans {W : World} (F : Forms W) (c : Int) (x : Ext W) : Calls Tryd.prog 123 #[.int .i64 c] x.w (Ans W (formV c)) := by
  by_cases n : c < 0 ∨ 36 < c
  · rw [formV_no n]
    rcases n with n | n
    · exact form_less F n x
    · exact form_more F n x
  by_cases e0 : c = 0
  · subst e0; exact form_lit0 F x
  by_cases e1 : c = 1
  · subst e1; exact form_lit1 F x
  by_cases e2 : c = 2
  · subst e2; exact form_lit2 F x
  by_cases a : Arr c
  · rw [formV_arr a]
    by_cases e3 : c = 3
    · subst e3; exact form_lit3 F x
    by_cases e35 : c = 35
    · subst e35; exact form_lit35 F x
    have hg : gradeOf c = c - 3 := by unfold Arr at a; unfold gradeOf; rw [if_neg (by omega), if_neg (by omega)]
    rw [hg]
    exact form_near3 F (by unfold Arr at a; omega) (by unfold Arr at a; omega) x
  · have b : Bx c := by unfold Arr at a; unfold Bx; omega
    rw [formV_bx b]
    by_cases e3 : c = 19
    · subst e3; exact form_lit19 F x
    by_cases e35 : c = 36
    · subst e35; exact form_lit36 F x
    have hg : gradeOf c = c - 19 := by unfold Bx at b; unfold gradeOf; rw [if_neg (by omega), if_pos (by omega)]
    rw [hg]
    exact form_near19 F (by unfold Bx at b; omega) (by unfold Bx at b; omega) x

end Go.Proofs.YtmifnhblhggflaaDoor
