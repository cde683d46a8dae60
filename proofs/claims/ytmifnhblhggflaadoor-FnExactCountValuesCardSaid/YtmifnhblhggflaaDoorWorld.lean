
/- Worlds, blocks and owned rows, plainly; two facts of the program's table of types. -/
import Derived.Test.YtmifnhblhggflaaDoorBase
import Derived.Test.YtmifnhblhggflaaDoorProg
namespace Go.Proofs.YtmifnhblhggflaaDoor
open Go.RowKit

theorem info_int : (Tryd.prog.info? 3).map (fun i => (i.zero, i.size, i.bytes)) = some (some (.int .i64 0), 1, 8) := by kernel_rfl
theorem info_bool : (Tryd.prog.info? 4).map (fun i => (i.zero, i.size, i.bytes)) = some (some (.bool false), 1, 1) := by kernel_rfl

theorem owns_lower {w : World} {base base' : Nat} {e : TypeId} {size : Nat} {v : Value} {n : Nat} {xs : List Value} (h : w.ownsRow base e size v n xs) (hb : base' ≤ base) : w.ownsRow base' e size v n xs := by
  obtain ⟨h1, h2⟩ := h
  refine ⟨h1, ?_⟩
  rcases h2 with h2 | ⟨g, cap, cur, hv, hg, r⟩
  · exact .inl h2
  · exact .inr ⟨g, cap, cur, hv, by omega, r⟩

/-- A call hands back a new slice, of its own memory, that reads as l; all that W has is as it was. -/
def NewRow {α : Type} (W : World) (_T E : TypeId) (mk : α → Value) (l : List α) : Ending → World → Prop :=
  fun e w' => ∃ (v : Value) (y : Ext W), e = .returned v ∧ w' = y.w ∧ y.w.ownsRow W.heap.size E 1 v l.length (l.map mk)

/-- What is owned reads as a row. -/
theorem owned_row {α : Type} {w : World} {base : Nat} {E : TypeId} {mk : α → Value} {v : Value} {l : List α} (h : w.ownsRow base E 1 v l.length (l.map mk)) :
    ∃ a c, v = .slice a l.length c ∧ Row w mk a l ∧ ∀ p, a = some p → base ≤ p.block ∧ p.block < w.heap.size := by
  rcases h.2 with ⟨rfl, hn⟩ | ⟨g, cap, cur, rfl, hg, hh, r1, r2, r3, r4⟩
  · refine ⟨none, 0, by rw [hn], .inl (List.eq_nil_of_length_eq_zero hn), fun p hp => by cases hp⟩
  · refine ⟨_, cap, rfl, .inr ⟨g, 0, rfl, fun i x hx => ?_⟩, fun p hp => by cases hp; exact ⟨hg, by have := Array.getElem?_eq_some_iff.1 hh; exact this.1⟩⟩
    have hi : i < l.length := by
      by_cases hi : i < l.length
      · exact hi
      · rw [List.getElem?_eq_none (by omega)] at hx; cases hx
    rw [Nat.zero_add, h.cellAt i (by omega), List.getElem?_map, hx]; rfl

theorem blocks3 {w w3 : World} {o1 o2 o3 : Obj} {B : Nat} (hB : w.heap.size = B) (h : ((w.alloc o1).alloc o2).alloc o3 = w3) :
    w3.heap[B]? = some o1 ∧ w3.heap[B + 1]? = some o2 ∧ w3.heap[B + 1 + 1]? = some o3 ∧ w3.heap.size = B + 3 ∧ Below w.heap.size w w3 := by
  subst h; subst hB
  refine ⟨?_, ?_, ?_, by simp, ?_⟩
  · show (((w.heap.push o1).push o2).push o3)[w.heap.size]? = _
    rw [Array.getElem?_push, if_neg (by simp; omega), Array.getElem?_push, if_neg (by simp), Array.getElem?_push, if_pos rfl]
  · show (((w.heap.push o1).push o2).push o3)[w.heap.size + 1]? = _
    rw [Array.getElem?_push, if_neg (by simp), Array.getElem?_push, if_pos (by simp)]
  · show (((w.heap.push o1).push o2).push o3)[w.heap.size + 1 + 1]? = _
    rw [Array.getElem?_push, if_pos (by simp)]
  · exact (((Below.refl _ _).alloc (Nat.le_refl _) _).alloc (by simp) _).alloc (by simp; omega) _

theorem blk_cell {w : World} {g : Nat} {cur : Array Value} {e : TypeId} (h : w.heap[g]? = some (.cells cur e (0, 0))) (j : Nat) : w.cell? ⟨g, j, none⟩ = cur[j]? := cell_of_row w g j cur e (0, 0) h
theorem blk_free {w : World} {g : Nat} {cur : Array Value} {e : TypeId} (h : w.heap[g]? = some (.cells cur e (0, 0))) (j : Nat) : w.frozen? ⟨g, j, none⟩ = false := frozen_of_row w g j cur e h
theorem Ext.blk {W : World} (y : Ext W) {k : Nat} {o : Obj} (h : W.heap[k]? = some o) : y.w.heap[k]? = some o := by
  have hk : k < W.heap.size := (Array.getElem?_eq_some_iff.1 h).1
  rw [y.below.block k hk]; exact h
theorem set_blk {w w' : World} {g : Nat} {cur : Array Value} {e : TypeId} (h : w.heap[g]? = some (.cells cur e (0, 0))) (j : Nat) (u : Value) (hw : w.setCell ⟨g, j, none⟩ u = w') :
    w'.heap[g]? = some (.cells (cur.setIfInBounds j u) e (0, 0)) := by subst hw; exact heap_setCell_same w g j cur e u h
theorem set_other {w w' : World} {g j : Nat} {u : Value} (hw : w.setCell ⟨g, j, none⟩ u = w') {k : Nat} (hk : k ≠ g) : w'.heap[k]? = w.heap[k]? := by
  subst hw; exact Below.heap_setCell _ _ _ _ hk
theorem set_size {w w' : World} {a : Addr} {u : Value} (hw : w.setCell a u = w') : w'.heap.size = w.heap.size := by subst hw; simp

/-- A new system, of its own memory, that reads as s. -/
def NewSys (W : World) (s : Sys) : Ending → World → Prop :=
  fun e w' => ∃ (r : Ref) (y : Ext W), e = .returned (r.val s) ∧ w' = y.w ∧ SysIn y.w r s

/-- A row that lies below a block number stays where nothing below it turns. -/
theorem row_keep {α : Type} {w w' : World} {mk : α → Value} {a : Option Addr} {l : List α} (h : Row w mk a l) (hk : ∀ p, a = some p → w'.heap[p.block]? = w.heap[p.block]?) : Row w' mk a l := by
  rcases h with h | ⟨b, o, ha, hc⟩
  · exact .inl h
  · refine .inr ⟨b, o, ha, fun i x hx => ?_⟩
    rw [World.cell?_of_block (w := w) (a := ⟨b, o + i, none⟩) (show w'.heap[b]? = w.heap[b]? from hk ⟨b, o, none⟩ ha)]
    exact hc i x hx

theorem boxed2 {W W1 : World} {r r' : Ref} {s s' : Sys} (h : SysIn W r s) (h' : SysIn W r' s') (x : Ext W) {T T' : TypeId} {B : Nat} (hB : x.w.heap.size = B)
    (hW : (x.w.alloc (.cells #[.int .i64 s.n, .slice r.pa s.plus.length r.pc, .slice r.ta s.times.length r.tc, .slice r.ba s.below.length r.bc] T)).alloc
      (.cells #[.int .i64 s'.n, .slice r'.pa s'.plus.length r'.pc, .slice r'.ta s'.times.length r'.tc, .slice r'.ba s'.below.length r'.bc] T') = W1) :
    (∀ y : Ext W1, y.w.cell? ⟨B, 0, none⟩ = some (.int .i64 s.n)) ∧ (∀ y : Ext W1, y.w.cell? ⟨B, 1, none⟩ = some (.slice r.pa s.plus.length r.pc)) ∧
    (∀ y : Ext W1, y.w.cell? ⟨B, 2, none⟩ = some (.slice r.ta s.times.length r.tc)) ∧ (∀ y : Ext W1, y.w.cell? ⟨B, 3, none⟩ = some (.slice r.ba s.below.length r.bc)) ∧
    (∀ y : Ext W1, y.w.cell? ⟨B + 1, 0, none⟩ = some (.int .i64 s'.n)) ∧ (∀ y : Ext W1, y.w.cell? ⟨B + 1, 1, none⟩ = some (.slice r'.pa s'.plus.length r'.pc)) ∧
    (∀ y : Ext W1, y.w.cell? ⟨B + 1, 2, none⟩ = some (.slice r'.ta s'.times.length r'.tc)) ∧ (∀ y : Ext W1, y.w.cell? ⟨B + 1, 3, none⟩ = some (.slice r'.ba s'.below.length r'.bc)) ∧
    SysIn W1 r s ∧ SysIn W1 r' s' ∧ (∀ y : Ext W1, ∃ z : Ext W, y.w = z.w) ∧ ∃ y0 : Ext W1, y0.w = W1 := by
  obtain ⟨a0, a1, a2, a3, g1, gb, y0, hy0⟩ := boxed h x (W1 := x.w.alloc _) hB rfl
  obtain ⟨b0, b1, b2, b3, g2, gb2, y1, hy1⟩ := boxed (h'.ext (x.alloc _)) (Ext.self (x.w.alloc _)) (T := T') (B := B + 1) (by rw [← hB]; simp) hW
  have hf : ∀ y : Ext W1, ∃ z : Ext (x.w.alloc (.cells #[.int .i64 s.n, .slice r.pa s.plus.length r.pc, .slice r.ta s.times.length r.tc, .slice r.ba s.below.length r.bc] T)), y.w = z.w := gb2
  refine ⟨?_, ?_, ?_, ?_, b0, b1, b2, b3, ?_, g2, ?_, y1, hy1⟩
  · intro y; obtain ⟨z, hz⟩ := hf y; rw [hz]; exact a0 z
  · intro y; obtain ⟨z, hz⟩ := hf y; rw [hz]; exact a1 z
  · intro y; obtain ⟨z, hz⟩ := hf y; rw [hz]; exact a2 z
  · intro y; obtain ⟨z, hz⟩ := hf y; rw [hz]; exact a3 z
  · obtain ⟨z, hz⟩ := hf y1; rw [← hy1, hz]; exact g1.ext z
  · intro y; obtain ⟨z, hz⟩ := hf y; obtain ⟨u, hu⟩ := gb z; exact ⟨u, by rw [hz, hu]⟩

theorem blocks2 {w w2 : World} {o1 o2 : Obj} {B : Nat} (hB : w.heap.size = B) (h : (w.alloc o1).alloc o2 = w2) :
    w2.heap[B]? = some o1 ∧ w2.heap[B + 1]? = some o2 ∧ w2.heap.size = B + 2 ∧ Below w.heap.size w w2 := by
  subst h; subst hB
  refine ⟨?_, ?_, by simp, ?_⟩
  · show ((w.heap.push o1).push o2)[w.heap.size]? = _
    rw [Array.getElem?_push, if_neg (by simp), Array.getElem?_push, if_pos rfl]
  · show ((w.heap.push o1).push o2)[w.heap.size + 1]? = _
    rw [Array.getElem?_push, if_pos (by simp)]
  · exact ((Below.refl _ _).alloc (Nat.le_refl _) _).alloc (by simp) _

/-- A system and the two numbers that are handed on as a list. -/
theorem boxedRow {W W1 : World} {r : Ref} {s : Sys} (h : SysIn W r s) (x : Ext W) {T T' : TypeId} {B : Nat} {a b : Int} (hB : x.w.heap.size = B)
    (hW : (x.w.alloc (.cells #[.int .i64 s.n, .slice r.pa s.plus.length r.pc, .slice r.ta s.times.length r.tc, .slice r.ba s.below.length r.bc] T)).alloc (.cells #[.int .i64 a, .int .i64 b] T') = W1) :
    (∀ y : Ext W1, y.w.cell? ⟨B, 0, none⟩ = some (.int .i64 s.n)) ∧ (∀ y : Ext W1, y.w.cell? ⟨B, 1, none⟩ = some (.slice r.pa s.plus.length r.pc)) ∧
    (∀ y : Ext W1, y.w.cell? ⟨B, 2, none⟩ = some (.slice r.ta s.times.length r.tc)) ∧ (∀ y : Ext W1, y.w.cell? ⟨B, 3, none⟩ = some (.slice r.ba s.below.length r.bc)) ∧
    SysIn W1 r s ∧ Row W1 (Value.int .i64) (some ⟨B + 1, 0, none⟩) [a, b] ∧ (∀ y : Ext W1, ∃ z : Ext W, y.w = z.w) ∧ ∃ y0 : Ext W1, y0.w = W1 := by
  obtain ⟨b1, b2, _, bel⟩ := blocks2 hB hW
  have f : ∀ j, W1.cell? ⟨B, j, none⟩ = _ := fun j => cell_of_row _ _ j _ _ _ b1
  have g : ∀ j, W1.cell? ⟨B + 1, j, none⟩ = _ := fun j => cell_of_row _ _ j _ _ _ b2
  refine ⟨fun y => y.cell (by rw [f]; rfl), fun y => y.cell (by rw [f]; rfl), fun y => y.cell (by rw [f]; rfl), fun y => y.cell (by rw [f]; rfl), h.ext (x.on bel), .inr ⟨B + 1, 0, rfl, fun i u hu => ?_⟩, fun y => ⟨x.on (bel.trans (y.below.mono bel.size)), rfl⟩, Ext.self _, rfl⟩
  rw [Nat.zero_add, g]
  match i, hu with
  | 0, hu => simp at hu; subst hu; rfl
  | 1, hu => simp at hu; subst hu; rfl

theorem owns_ext {w : World} {base : Nat} {e : TypeId} {size : Nat} {v : Value} {n : Nat} {xs : List Value} (h : w.ownsRow base e size v n xs) (z : Ext w) : z.w.ownsRow base e size v n xs := by
  obtain ⟨h1, h2⟩ := h
  refine ⟨h1, ?_⟩
  rcases h2 with h2 | ⟨g, cap, cur, hv, hb, hg, r⟩
  · exact .inl h2
  · exact .inr ⟨g, cap, cur, hv, hb, z.blk hg, r⟩

end Go.Proofs.YtmifnhblhggflaaDoor
