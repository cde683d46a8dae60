/- Tables of pairs in the midst of being written. -/
import Derived.Test.YtkokmpdmmfghhaaZ2KBuildA
set_option linter.unusedVariables false
set_option linter.unusedSimpArgs false
namespace Go.Proofs.Ytkokmpdmmfghhaa
open Go.RowKit

/-- A table that is written as far as m. -/
def Tab (wr : World) (g : Nat) (E : TypeId) (NN m : Nat) (f : Nat → Value) : Prop := ∃ c : Array Value, wr.heap[g]? = some (.cells c E (0, 0)) ∧ c.size = NN ∧ ∀ i, i < m → c[i]? = some (f i)
section
variable {w w' : World} {g : Nat} {E : TypeId} {NN m : Nat} {f : Nat → Value}
theorem Tab.lt (h : Tab w g E NN m f) : g < w.heap.size := by
  obtain ⟨c, a, _⟩ := h
  exact (Array.getElem?_eq_some_iff.1 a).1
theorem Tab.keep (h : Tab w g E NN m f) (hk : w'.heap[g]? = w.heap[g]?) : Tab w' g E NN m f := by
  obtain ⟨c, a, b, d⟩ := h
  exact ⟨c, hk.trans a, b, d⟩
theorem Tab.old (h : Tab w g E NN m f) (hm : m < NN) : ∃ v, ∀ y : Ext w, y.w.cell? ⟨g, m, none⟩ = some v := by
  obtain ⟨c, a, b, d⟩ := h
  refine ⟨c[m]'(by omega), fun y => ?_⟩
  rw [blk_cell (y.blk a), Array.getElem?_eq_getElem (by omega)]
theorem Tab.free (h : Tab w g E NN m f) : ∀ y : Ext w, y.w.frozen? ⟨g, m, none⟩ = false := fun y => by
  obtain ⟨c, a, b, d⟩ := h
  exact blk_free (y.blk a) m
theorem Tab.set (h : Tab w g E NN m f) (hm : m < NN) (y : Ext w) (hw : y.w.setCell ⟨g, m, none⟩ (f m) = w') : Tab w' g E NN (m + 1) f := by
  obtain ⟨c, a, b, d⟩ := h
  refine ⟨c.setIfInBounds m (f m), set_blk (y.blk a) m _ hw, by simp [b], fun i hi => ?_⟩
  by_cases e : i = m
  · subst e
    rw [Array.getElem?_setIfInBounds_self_of_lt (by omega)]
  · rw [Array.getElem?_setIfInBounds_ne (by omega)]; exact d i (by omega)
theorem Tab.own {base : Nat} (h : Tab w g E NN NN f) (hb : base ≤ g) (hN : NN ≤ 1000) : w.ownsRow base E 1 (.slice (some ⟨g, 0, none⟩) NN NN) NN ((List.range NN).map f) := by
  obtain ⟨c, a, b, d⟩ := h
  refine ⟨by simp, .inr ⟨g, NN, c, rfl, hb, a, Nat.le_refl _, by unfold maxLen; omega, by omega, ?_⟩⟩
  apply List.ext_getElem?
  intro i
  rw [Nat.mul_one, List.take_of_length_le (by simp [b])]
  by_cases hi : i < NN
  · rw [Array.getElem?_toList, d i hi]; simp [hi]
  · rw [List.getElem?_eq_none (by simp; omega), List.getElem?_eq_none (by simp; omega)]
end
abbrev strV (N NN g1 g2 g3 : Nat) : Obj := .cells #[.int .i64 N, .slice (some ⟨g1, 0, none⟩) NN NN, .slice (some ⟨g2, 0, none⟩) NN NN, .slice (some ⟨g3, 0, none⟩) NN NN] 27 (0, 0)
/-- The struct and its tables, in the midst of being written. -/
structure Bld (Y w : World) (C g1 g2 g3 N NN m1 m2 m3 : Nat) (F1 F2 F3 : Nat → Value) : Prop where
  blk : w.heap[C]? = some (strV N NN g1 g2 g3)
  t1 : Tab w g1 3 NN m1 F1
  t2 : Tab w g2 3 NN m2 F2
  t3 : Tab w g3 4 NN m3 F3
  lo : Y.heap.size ≤ C ∧ Y.heap.size ≤ g1 ∧ Y.heap.size ≤ g2 ∧ Y.heap.size ≤ g3
  ne : g1 ≠ g2 ∧ g1 ≠ g3 ∧ g2 ≠ g3 ∧ C ≠ g1 ∧ C ≠ g2 ∧ C ≠ g3
  bel : Below Y.heap.size Y w
section
variable {Y w w' : World} {C g1 g2 g3 N NN m1 m2 m3 : Nat} {F1 F2 F3 : Nat → Value}
theorem Bld.cLt (h : Bld Y w C g1 g2 g3 N NN m1 m2 m3 F1 F2 F3) : C < w.heap.size := (Array.getElem?_eq_some_iff.1 h.blk).1
theorem Bld.f1 (h : Bld Y w C g1 g2 g3 N NN m1 m2 m3 F1 F2 F3) : ∀ y : Ext w, y.w.cell? ⟨C, 1, none⟩ = some (.slice (some ⟨g1, 0, none⟩) NN NN) := fun y => blk_cell (y.blk h.blk) 1
theorem Bld.f2 (h : Bld Y w C g1 g2 g3 N NN m1 m2 m3 F1 F2 F3) : ∀ y : Ext w, y.w.cell? ⟨C, 2, none⟩ = some (.slice (some ⟨g2, 0, none⟩) NN NN) := fun y => blk_cell (y.blk h.blk) 2
theorem Bld.f3 (h : Bld Y w C g1 g2 g3 N NN m1 m2 m3 F1 F2 F3) : ∀ y : Ext w, y.w.cell? ⟨C, 3, none⟩ = some (.slice (some ⟨g3, 0, none⟩) NN NN) := fun y => blk_cell (y.blk h.blk) 3
theorem Bld.set1 (h : Bld Y w C g1 g2 g3 N NN m1 m2 m3 F1 F2 F3) (hm : m1 < NN) (y : Ext w) (hw : y.w.setCell ⟨g1, m1, none⟩ (F1 m1) = w') : Bld Y w' C g1 g2 g3 N NN (m1 + 1) m2 m3 F1 F2 F3 := by
  obtain ⟨n1, n2, n3, n4, n5, n6⟩ := h.ne
  have k : ∀ j, j ≠ g1 → j < w.heap.size → w'.heap[j]? = w.heap[j]? := fun j hj hs => (set_other hw hj).trans (y.below.block j hs)
  refine ⟨(k C n4 h.cLt).trans h.blk, h.t1.set hm y hw, h.t2.keep (k g2 (by omega) h.t2.lt), h.t3.keep (k g3 (by omega) h.t3.lt), h.lo, h.ne, ?_⟩
  subst hw
  exact (h.bel.trans (y.below.mono h.bel.size)).setCell (by have := h.lo; simp; omega) _
theorem Bld.set2 (h : Bld Y w C g1 g2 g3 N NN m1 m2 m3 F1 F2 F3) (hm : m2 < NN) (y : Ext w) (hw : y.w.setCell ⟨g2, m2, none⟩ (F2 m2) = w') : Bld Y w' C g1 g2 g3 N NN m1 (m2 + 1) m3 F1 F2 F3 := by
  obtain ⟨n1, n2, n3, n4, n5, n6⟩ := h.ne
  have k : ∀ j, j ≠ g2 → j < w.heap.size → w'.heap[j]? = w.heap[j]? := fun j hj hs => (set_other hw hj).trans (y.below.block j hs)
  refine ⟨(k C n5 h.cLt).trans h.blk, h.t1.keep (k g1 n1 h.t1.lt), h.t2.set hm y hw, h.t3.keep (k g3 (by omega) h.t3.lt), h.lo, h.ne, ?_⟩
  subst hw
  exact (h.bel.trans (y.below.mono h.bel.size)).setCell (by have := h.lo; simp; omega) _
theorem Bld.set3 (h : Bld Y w C g1 g2 g3 N NN m1 m2 m3 F1 F2 F3) (hm : m3 < NN) (y : Ext w) (hw : y.w.setCell ⟨g3, m3, none⟩ (F3 m3) = w') : Bld Y w' C g1 g2 g3 N NN m1 m2 (m3 + 1) F1 F2 F3 := by
  obtain ⟨n1, n2, n3, n4, n5, n6⟩ := h.ne
  have k : ∀ j, j ≠ g3 → j < w.heap.size → w'.heap[j]? = w.heap[j]? := fun j hj hs => (set_other hw hj).trans (y.below.block j hs)
  refine ⟨(k C n6 h.cLt).trans h.blk, h.t1.keep (k g1 n2 h.t1.lt), h.t2.keep (k g2 n3 h.t2.lt), h.t3.set hm y hw, h.lo, h.ne, ?_⟩
  subst hw
  exact (h.bel.trans (y.below.mono h.bel.size)).setCell (by have := h.lo; simp; omega) _
end
/-- A table of all pairs. -/
def grid {α : Type} (N : Nat) (f : Nat → Nat → α) : List α := (List.range (N * N)).map fun i => f (i / N) (i % N)
theorem grid_len {α : Type} (N : Nat) (f : Nat → Nat → α) : (grid N f).length = N * N := by simp [grid]
theorem pair_div {N a b : Nat} (hb : b < N) : (a * N + b) / N = a ∧ (a * N + b) % N = b := by
  have hN : 0 < N := by omega
  constructor
  · rw [Nat.add_comm, Nat.add_mul_div_right _ _ hN, Nat.div_eq_of_lt hb, Nat.zero_add]
  · rw [Nat.add_comm, Nat.add_mul_mod_self_right, Nat.mod_eq_of_lt hb]
theorem pair_lt {N a b : Nat} (ha : a < N) (hb : b < N) : a * N + b < N * N := by
  have : (a + 1) * N ≤ N * N := Nat.mul_le_mul_right _ ha
  rw [Nat.add_mul] at this
  omega

end Go.Proofs.Ytkokmpdmmfghhaa
