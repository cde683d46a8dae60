
/- The laws' copy of a system: its tables lie in blocks of their own. -/
import Derived.Test.YtoefeijnnnioeaaDoorGE
set_option linter.unusedVariables false
set_option linter.unusedSimpArgs false
namespace Go.Proofs.YtoefeijnnnioeaaDoor
open Go.RowKit

set_option maxHeartbeats 4000000 in
theorem toSystemOwn_ans {W : World} {r : Ref} {s : Sys} (h : SysIn W r s) (sm : Small s) (x : Ext W) :
    Calls Tryd.prog 30 #[r.val s] x.w (NewOwn W s) := by
  unfold Ref.val
  go_enter Tryd.func30, Tryd.ntmps30
  go_wp2_with fail
  have hxs := x.size
  generalize hWa : ((x.w.alloc _).alloc _).alloc _ = Wa
  generalize hB : x.w.heap.size = B at *
  obtain ⟨bA, bB, bC, sA, bel⟩ := blocks3 hB hWa
  have belA : Below W.heap.size W Wa := x.below.trans (bel.mono (by omega))
  clear bel hWa
  -- the first copy
  refine (toIntS_ans (W := Wa) ((h.ext ⟨Wa, belA⟩).plus) sm.p (Ext.self Wa)).mono ?_
  rintro e w' ⟨v1, y, rfl, rfl, own1⟩
  have k1 := blk_cell (y.blk bA) 2
  have k2 := blk_cell (y.blk bC) 1
  have k3 := blk_free (y.blk bC) 1
  simp at k1 k2
  obtain ⟨a1, c1, rfl, row1, pl1⟩ := owned_row own1
  go_wp2_with fail
  clear k1 k2 k3
  generalize hWb : y.w.setCell _ _ = Wb
  have bA' := (set_other hWb (k := B) (by omega)).trans (y.blk bA)
  have bB' := (set_other hWb (k := B + 1) (by omega)).trans (y.blk bB)
  have bC' := set_blk (y.blk bC) 1 _ hWb
  have sB : B + 3 ≤ Wb.heap.size := by rw [set_size hWb]; have := y.size; omega
  have belB : Below W.heap.size W Wb := by subst hWb; exact (belA.trans (y.below.mono (by omega))).setCell (by simp; omega) _
  have row1' : Row Wb (.int .i64) a1 s.plus := row_keep row1 (fun p hp => by have := (pl1 p hp).1; exact set_other hWb (by omega))
  have pl1' : ∀ p, a1 = some p → p.block < Wb.heap.size ∧ B + 3 ≤ p.block := fun p hp => by rw [set_size hWb]; have := pl1 p hp; omega
  simp at bC'
  have own1' : Wb.ownsRow W.heap.size 3 1 (.slice a1 s.plus.length c1) s.plus.length (s.plus.map (Value.int .i64)) := owns_lower (owns_of_block (w' := Wb) own1 (fun g hg => set_other hWb (by have := (own1.lt g hg).1; omega))) (by omega)
  have lw1 : ∀ g, (Value.slice a1 s.plus.length c1).ownBlock = some g → g < Wb.heap.size ∧ B + 3 ≤ g := fun g hg => by rw [set_size hWb]; have := own1.lt g hg; omega
  clear bA bB bC sA belA own1 row1 pl1 hWb y Wa
  -- the second copy
  refine (toIntS_ans (W := Wb) ((h.ext ⟨Wb, belB⟩).times) sm.t (Ext.self Wb)).mono ?_
  rintro e w' ⟨v2, y, rfl, rfl, own2⟩
  have k1 := blk_cell (y.blk bA') 3
  have k2 := blk_cell (y.blk bC') 2
  have k3 := blk_free (y.blk bC') 2
  simp at k1 k2
  obtain ⟨a2, c2, rfl, row2, pl2⟩ := owned_row own2
  go_wp2_with fail
  clear k1 k2 k3
  generalize hWc : y.w.setCell _ _ = Wc
  have bA'' := (set_other hWc (k := B) (by omega)).trans (y.blk bA')
  have bB'' := (set_other hWc (k := B + 1) (by omega)).trans (y.blk bB')
  have bC'' := set_blk (y.blk bC') 2 _ hWc
  have sC : B + 3 ≤ Wc.heap.size := by rw [set_size hWc]; have := y.size; omega
  have belC : Below W.heap.size W Wc := by subst hWc; exact (belB.trans (y.below.mono (by omega))).setCell (by simp; omega) _
  have row1'' : Row Wc (.int .i64) a1 s.plus := row_keep row1' (fun p hp => by have := (pl1' p hp); rw [set_other hWc (by omega)]; exact y.below.block _ this.1)
  have row2' : Row Wc (.int .i64) a2 s.times := row_keep row2 (fun p hp => by have := (pl2 p hp).1; exact set_other hWc (by omega))
  have pl1'' : ∀ p, a1 = some p → p.block < Wc.heap.size ∧ B + 3 ≤ p.block := fun p hp => by rw [set_size hWc]; have := pl1' p hp; have := y.size; omega
  have pl2' : ∀ p, a2 = some p → p.block < Wc.heap.size ∧ B + 3 ≤ p.block := fun p hp => by rw [set_size hWc]; have := pl2 p hp; omega
  simp at bC''
  have own1'' : Wc.ownsRow W.heap.size 3 1 (.slice a1 s.plus.length c1) s.plus.length (s.plus.map (Value.int .i64)) := owns_of_block (w' := Wc) (owns_ext own1' y) (fun g hg => set_other hWc (by have := lw1 g hg; omega))
  have own2' : Wc.ownsRow W.heap.size 3 1 (.slice a2 s.times.length c2) s.times.length (s.times.map (Value.int .i64)) := owns_lower (owns_of_block (w' := Wc) own2 (fun g hg => set_other hWc (by have := (own2.lt g hg).1; omega))) (by omega)
  have lw1' : ∀ g, (Value.slice a1 s.plus.length c1).ownBlock = some g → g < Wb.heap.size ∧ g < Wc.heap.size ∧ B + 3 ≤ g := fun g hg => by rw [set_size hWc]; have := lw1 g hg; have := y.size; omega
  have lw2 : ∀ g, (Value.slice a2 s.times.length c2).ownBlock = some g → g < Wc.heap.size ∧ Wb.heap.size ≤ g := fun g hg => by rw [set_size hWc]; have := own2.lt g hg; omega
  have ap12 : Apart (.slice a1 s.plus.length c1) (.slice a2 s.times.length c2) := by
    cases hv : (Value.slice a1 s.plus.length c1).ownBlock with
    | none => exact .inl hv
    | some g => refine .inr (fun e => ?_); have := lw1' g hv; rw [hv] at e; have := lw2 g e.symm; omega
  replace lw2 : ∀ g, (Value.slice a2 s.times.length c2).ownBlock = some g → g < Wc.heap.size ∧ B + 3 ≤ g := fun g hg => by have := lw2 g hg; omega
  replace lw1' : ∀ g, (Value.slice a1 s.plus.length c1).ownBlock = some g → g < Wc.heap.size ∧ B + 3 ≤ g := fun g hg => (lw1' g hg).2
  clear bA' bB' bC' sB belB own2 own1' lw1 row1' pl1' row2 pl2 hWc y Wb
  -- the third copy
  refine (toBoolS_ans (W := Wc) ((h.ext ⟨Wc, belC⟩).below) sm.b (Ext.self Wc)).mono ?_
  rintro e w' ⟨v3, y, rfl, rfl, own3⟩
  have k2 := blk_cell (y.blk bC'') 3
  have k3 := blk_free (y.blk bC'') 3
  have m0 := blk_cell (y.blk bC'') 0
  have m1 := blk_cell (y.blk bC'') 1
  have m2 := blk_cell (y.blk bC'') 2
  have n0 := blk_cell (y.blk bB'') 0
  have n1 := blk_cell (y.blk bB'') 1
  have n2 := blk_cell (y.blk bB'') 2
  have n3 := blk_cell (y.blk bB'') 3
  have p0 := blk_free (y.blk bB'') 0
  have p1 := blk_free (y.blk bB'') 1
  have p2 := blk_free (y.blk bB'') 2
  have p3 := blk_free (y.blk bB'') 3
  simp at k2 m0 m1 m2 n0 n1 n2 n3
  obtain ⟨a3, c3, rfl, row3, pl3⟩ := owned_row own3
  go_wp2
  clear k2 k3 m0 m1 m2 n0 n1 n2 n3 p0 p1 p2 p3
  generalize hY1 : y.w.setCell _ _ = Y1
  generalize hY2 : Y1.setCell _ _ = Y2
  generalize hY3 : Y2.setCell _ _ = Y3
  generalize hY4 : Y3.setCell _ _ = Y4
  generalize hY5 : Y4.setCell _ _ = Y5
  have q1 := (set_other hY1 (k := B + 1) (by omega)).trans (y.blk bB'')
  have q5 := set_blk (set_blk (set_blk (set_blk q1 0 _ hY2) 1 _ hY3) 2 _ hY4) 3 _ hY5
  simp at q5
  have r0 := blk_cell q5 0
  have r1 := blk_cell q5 1
  have r2 := blk_cell q5 2
  have r3 := blk_cell q5 3
  simp at r0 r1 r2 r3
  have hsame : ∀ k, B + 3 ≤ k → Y5.heap[k]? = y.w.heap[k]? := fun k hk => by
    rw [set_other hY5 (by omega), set_other hY4 (by omega), set_other hY3 (by omega), set_other hY2 (by omega), set_other hY1 (by omega)]
  have belD : Below W.heap.size W Y5 := by
    subst hY5; subst hY4; subst hY3; subst hY2; subst hY1
    exact (((((belC.trans (y.below.mono (by omega))).setCell (by simp; omega) _).setCell (by simp; omega) _).setCell (by simp; omega) _).setCell (by simp; omega) _).setCell (by simp; omega) _
  have hyc : Wc.heap.size ≤ y.w.heap.size := y.size
  have p1 : Y5.ownsRow W.heap.size 3 1 (.slice a1 s.plus.length c1) s.plus.length (s.plus.map (Value.int .i64)) := owns_of_block (w' := Y5) (owns_ext own1'' y) (fun g hg => hsame g (by have := lw1' g hg; omega))
  have p2 : Y5.ownsRow W.heap.size 3 1 (.slice a2 s.times.length c2) s.times.length (s.times.map (Value.int .i64)) := owns_of_block (w' := Y5) (owns_ext own2' y) (fun g hg => hsame g (by have := lw2 g hg; omega))
  have p3 : Y5.ownsRow W.heap.size 4 1 (.slice a3 s.below.length c3) s.below.length (s.below.map Value.bool) := owns_lower (owns_of_block (w' := Y5) own3 (fun g hg => hsame g (by have := (own3.lt g hg).1; omega))) (by omega)
  have lw3 : ∀ g, (Value.slice a3 s.below.length c3).ownBlock = some g → Wc.heap.size ≤ g := fun g hg => (own3.lt g hg).1
  refine bodyPost_ret (v := .agg #[.int .i64 s.n, .slice a1 s.plus.length c1, .slice a2 s.times.length c2, .slice a3 s.below.length c3]) (by simp [results, Tryd.results30, go_sem, r0, r1, r2, r3]) rfl ?_
  refine ⟨⟨a1, a2, a3, c1, c2, c3⟩, ⟨Y5, belD⟩, rfl, rfl, p1, p2, p3, ap12, ?_, ?_⟩
  · cases hv : (Value.slice a1 s.plus.length c1).ownBlock with
    | none => exact .inl hv
    | some g => refine .inr (fun e => ?_); have := lw1' g hv; rw [hv] at e; have := lw3 g e.symm; omega
  · cases hv : (Value.slice a2 s.times.length c2).ownBlock with
    | none => exact .inl hv
    | some g => refine .inr (fun e => ?_); have := lw2 g hv; rw [hv] at e; have := lw3 g e.symm; omega

end Go.Proofs.YtoefeijnnnioeaaDoor
