
/- A struct of four cells that is handed back through its cell. -/
import Derived.Test.YtmifnhblhggflaaDoorWorld
namespace Go.Proofs.YtmifnhblhggflaaDoor
open Go.RowKit

theorem ret4 {W y Y4 : World} {B : Nat} {T : TypeId} {z0 z1 z2 z3 a0 a1 a2 a3 : Value} (hb : Below W.heap.size W y) (hB : W.heap.size ≤ B) (bA : y.heap[B]? = some (.cells #[z0, z1, z2, z3] T (0, 0)))
    (hY : (((y.setCell ⟨B, 0, none⟩ a0).setCell ⟨B, 1, none⟩ a1).setCell ⟨B, 2, none⟩ a2).setCell ⟨B, 3, none⟩ a3 = Y4) :
    Below W.heap.size W Y4 ∧ (∀ k, k ≠ B → Y4.heap[k]? = y.heap[k]?) ∧ y.grownBy Y4 (some B) ∧ Y4.cell? ⟨B, 0, none⟩ = some a0 ∧ Y4.cell? ⟨B, 1, none⟩ = some a1 ∧ Y4.cell? ⟨B, 2, none⟩ = some a2 ∧ Y4.cell? ⟨B, 3, none⟩ = some a3 := by
  have hsame : ∀ k, k ≠ B → Y4.heap[k]? = y.heap[k]? := fun k hk => by
    subst hY
    rw [set_other rfl hk, set_other rfl hk, set_other rfl hk, set_other rfl hk]
  have q5 := set_blk (set_blk (set_blk (set_blk bA 0 a0 rfl) 1 a1 rfl) 2 a2 rfl) 3 a3 hY
  simp at q5
  refine ⟨?_, hsame, ⟨?_, ?_, ?_, ?_, fun k _ hk => hsame k (fun e => hk (by rw [e]))⟩, blk_cell q5 0, blk_cell q5 1, blk_cell q5 2, blk_cell q5 3⟩
  · subst hY
    exact (((hb.setCell hB _).setCell hB _).setCell hB _).setCell hB _
  · subst hY; rfl
  · subst hY; rfl
  · subst hY; rfl
  · subst hY; simp
theorem new_blk {w Y : World} {o : Obj} (h : w.alloc o = Y) : Y.heap[w.heap.size]? = some o := by
  subst h
  show (w.heap.push _)[w.heap.size]? = _
  rw [Array.getElem?_push, if_pos rfl]

/-- A new system, in new blocks. -/
def NewSysA (W : World) (s : Sys) : Ending → World → Prop := fun e w' => ∃ (r : Ref) (y : Ext W), e = .returned (r.val s) ∧ w' = y.w ∧ (∀ p, r.pa = some p ∨ r.ta = some p ∨ r.ba = some p → W.heap.size ≤ p.block) ∧ SysIn y.w r s
theorem SysIn.keep {w w' : World} {r : Ref} {s : Sys} {B : Nat} (h : SysIn w r s) (hk : ∀ k, k ≠ B → w'.heap[k]? = w.heap[k]?) (hp : ∀ p, r.pa = some p ∨ r.ta = some p ∨ r.ba = some p → p.block ≠ B) : SysIn w' r s :=
  ⟨row_keep h.plus (fun p q => hk _ (hp p (.inl q))), row_keep h.times (fun p q => hk _ (hp p (.inr (.inl q)))), row_keep h.below (fun p q => hk _ (hp p (.inr (.inr q)))), h.lp, h.lt, h.lb⟩

end Go.Proofs.YtmifnhblhggflaaDoor
