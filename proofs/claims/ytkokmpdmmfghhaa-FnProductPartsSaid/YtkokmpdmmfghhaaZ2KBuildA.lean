/- The program's building of a system out of three functions. -/
import Derived.Test.YtkokmpdmmfghhaaZ2HA
import Derived.RegionTactic
import Derived.BigRegion
import Derived.Deep.Cut
import Derived.Deep.RegionHeld3
set_option linter.unusedVariables false
set_option linter.unusedSimpArgs false
namespace Go.Proofs.Ytkokmpdmmfghhaa
open Go.RowKit

theorem make_int (n : Nat) (hn : n ≤ 1000) : ∃ c : Array Value, c.size = n ∧ ∀ w : World, (Instr.makeSlice 24 (.int .i64 (n : Int)) (.int .i64 (n : Int))).run Try.prog w = .ok (.slice (some ⟨w.heap.size, 0, none⟩) n n) (w.alloc (.cells c 3)) := by
  obtain ⟨i0, hi, hz0, hz1, hz2⟩ := info_parts info_int
  refine ⟨madeCells (Value.int .i64 0).cells n, size_madeCells _ _, fun w => ?_⟩
  have h := run_make (P := Try.prog) w 24 3 i0 (.int .i64 0) Try.underlying24 hi hz0 .i64 .i64 n n (by omega) (by omega) (by rw [hz2]; omega) (by omega)
  simpa [hz1] using h
theorem make_bool (n : Nat) (hn : n ≤ 1000) : ∃ c : Array Value, c.size = n ∧ ∀ w : World, (Instr.makeSlice 25 (.int .i64 (n : Int)) (.int .i64 (n : Int))).run Try.prog w = .ok (.slice (some ⟨w.heap.size, 0, none⟩) n n) (w.alloc (.cells c 4)) := by
  obtain ⟨i0, hi, hz0, hz1, hz2⟩ := info_parts info_bool
  refine ⟨madeCells (Value.bool false).cells n, size_madeCells _ _, fun w => ?_⟩
  have h := run_make (P := Try.prog) w 25 4 i0 (.bool false) Try.underlying25 hi hz0 .i64 .i64 n n (by omega) (by omega) (by rw [hz2]; omega) (by omega)
  simpa [hz1] using h

theorem four (Y : World) (o0 o1 o2 o3 : Obj) :
    ((((Y.alloc o0).alloc o1).alloc o2).alloc o3).drew.heap[Y.heap.size]? = some o0 ∧ ((((Y.alloc o0).alloc o1).alloc o2).alloc o3).drew.heap[Y.heap.size + 1]? = some o1 ∧
    ((((Y.alloc o0).alloc o1).alloc o2).alloc o3).drew.heap[Y.heap.size + 1 + 1]? = some o2 ∧ ((((Y.alloc o0).alloc o1).alloc o2).alloc o3).drew.heap[Y.heap.size + 1 + 1 + 1]? = some o3 ∧
    Below Y.heap.size Y ((((Y.alloc o0).alloc o1).alloc o2).alloc o3).drew := by
  refine ⟨?_, ?_, ?_, ?_, ?_⟩
  · show ((((Y.heap.push o0).push o1).push o2).push o3)[Y.heap.size]? = _
    rw [Array.getElem?_push, if_neg (by simp <;> omega), Array.getElem?_push, if_neg (by simp <;> omega), Array.getElem?_push, if_neg (by simp), Array.getElem?_push, if_pos rfl]
  · show ((((Y.heap.push o0).push o1).push o2).push o3)[Y.heap.size + 1]? = _
    rw [Array.getElem?_push, if_neg (by simp <;> omega), Array.getElem?_push, if_neg (by simp), Array.getElem?_push, if_pos (by simp)]
  · show ((((Y.heap.push o0).push o1).push o2).push o3)[Y.heap.size + 1 + 1]? = _
    rw [Array.getElem?_push, if_neg (by simp), Array.getElem?_push, if_pos (by simp)]
  · show ((((Y.heap.push o0).push o1).push o2).push o3)[Y.heap.size + 1 + 1 + 1]? = _
    rw [Array.getElem?_push, if_pos (by simp)]
  · exact (((((Below.refl _ _).alloc (Nat.le_refl _) _).alloc (by simp) _).alloc (by simp <;> omega) _).alloc (by simp <;> omega) _).drew
/-- The struct and the three tables, each in a block of its own. -/
def Made (Y wc : World) (N NN : Nat) (cI cB : Array Value) (C g1 g2 g3 : Nat) : Prop :=
  wc.heap[C]? = some (.cells #[.int .i64 N, .slice (some ⟨g1, 0, none⟩) NN NN, .slice (some ⟨g2, 0, none⟩) NN NN, .slice (some ⟨g3, 0, none⟩) NN NN] 27 (0, 0)) ∧
  wc.heap[g1]? = some (.cells cI 3 (0, 0)) ∧ wc.heap[g2]? = some (.cells cI 3 (0, 0)) ∧ wc.heap[g3]? = some (.cells cB 4 (0, 0)) ∧
  (Y.heap.size ≤ C ∧ Y.heap.size ≤ g1 ∧ Y.heap.size ≤ g2 ∧ Y.heap.size ≤ g3) ∧ (g1 ≠ g2 ∧ g1 ≠ g3 ∧ g2 ≠ g3 ∧ C ≠ g1 ∧ C ≠ g2 ∧ C ≠ g3) ∧ Below Y.heap.size Y wc

theorem made_mk {Y wc : World} {N NN : Nat} {cI cB : Array Value} {C g1 g2 g3 : Nat}
    (a : wc.heap[C]? = some (.cells #[.int .i64 N, .slice (some ⟨g1, 0, none⟩) NN NN, .slice (some ⟨g2, 0, none⟩) NN NN, .slice (some ⟨g3, 0, none⟩) NN NN] 27 (0, 0)))
    (b1 : wc.heap[g1]? = some (.cells cI 3 (0, 0))) (b2 : wc.heap[g2]? = some (.cells cI 3 (0, 0))) (b3 : wc.heap[g3]? = some (.cells cB 4 (0, 0)))
    (l : Y.heap.size ≤ C ∧ Y.heap.size ≤ g1 ∧ Y.heap.size ≤ g2 ∧ Y.heap.size ≤ g3) (d : g1 ≠ g2 ∧ g1 ≠ g3 ∧ g2 ≠ g3 ∧ C ≠ g1 ∧ C ≠ g2 ∧ C ≠ g3) (e : Below Y.heap.size Y wc) :
    ∃ C' g1' g2' g3' : Nat, Value.pointer (some ⟨C, 0, none⟩) = .pointer (some ⟨C', 0, none⟩) ∧ Made Y wc N NN cI cB C' g1' g2' g3' := ⟨C, g1, g2, g3, rfl, a, b1, b2, b3, l, d, e⟩

end Go.Proofs.Ytkokmpdmmfghhaa
