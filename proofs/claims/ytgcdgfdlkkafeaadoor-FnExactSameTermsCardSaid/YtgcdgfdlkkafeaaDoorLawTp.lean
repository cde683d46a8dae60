/- The laws' copy of a term. -/
import Derived.Test.YtgcdgfdlkkafeaaDoorLawTo
namespace Go.Proofs.YtgcdgfdlkkafeaaDoor
open Go.RowKit

set_option maxHeartbeats 8000000 in
theorem toTerm_ans (t : Tm) : ∀ {W : World} {lo : Nat} {r : TV} (_ : TmIn W lo t r) (_ : t.wt ≤ 1048576) (x : Ext W), Calls Tryd.prog 30 #[r.val t] x.w (NewTm W t) := by
  induction t using Tm.ind with
  | h t ih =>
    intro W lo r h hwt x
    have HI := Lib.hid ih
    clear ih
    have hl40 : t.ty.length ≤ 1099511627776 := by rw [t.wt_eq] at hwt; omega
    obtain ⟨ra, rc, rb, rd⟩ := r
    unfold TV.val
    go_enter Tryd.func30, Tryd.ntmps30
    go_wp2_with fail
    have hxs := x.size
    generalize hWa : ((x.w.alloc _).alloc _).alloc _ = Wa
    generalize hB : x.w.heap.size = B at *
    obtain ⟨bA, bB, bC, sA, bel⟩ := blocks3 hB hWa
    have belA : Below W.heap.size W Wa := x.below.trans (bel.mono (by omega))
    clear bel hWa
    obtain ⟨kr, A⟩ := h.out
    have hlt1 := A.lt
    have hlk1 := A.lk
    -- the type
    refine (toIntS_ans (W := Wa) (A.row.ext ⟨Wa, belA⟩) hl40 (Ext.self Wa)).mono ?_
    rintro e w' ⟨v1, y, rfl, rfl, own1⟩
    have k1 := blk_cell (y.blk bA) 3
    have k2 := blk_cell (y.blk bC) 2
    have k3 := blk_free (y.blk bC) 2
    simp at k1 k2
    obtain ⟨a1, c1, rfl, row1, pl1⟩ := owned_row own1
    go_wp2_with fail
    clear k1 k2 k3
    generalize hWb : y.w.setCell _ _ = Wb
    have bB' := (set_other hWb (k := B + 1) (by omega)).trans (y.blk bB)
    have bC' := set_blk (y.blk bC) 2 _ hWb
    have sB : B + 3 ≤ Wb.heap.size := by rw [set_size hWb]; have := y.size; omega
    have belB : Below W.heap.size W Wb := by subst hWb; exact (belA.trans (y.below.mono (by omega))).setCell (by simp; omega) _
    have row1' : Row Wb (.int .i64) a1 t.ty := row_keep row1 (fun p hp => by have := (pl1 p hp).1; exact set_other hWb (by omega))
    have pl1' : ∀ p, a1 = some p → p.block < Wb.heap.size ∧ B + 3 ≤ p.block := fun p hp => by rw [set_size hWb]; have := pl1 p hp; omega
    simp at bC'
    clear bA bB bC sA belA own1 row1 pl1 hWb y Wa A
    -- the kids
    obtain ⟨kr2, A2⟩ := (h.ext ⟨Wb, belB⟩).out
    refine (toTermS_ans (W := Wb) A2 HI hwt (Ext.self Wb)).mono ?_
    rintro e w' ⟨b2, d2, ks, y, rfl, rfl, new2⟩
    have k2 := blk_cell (y.blk bC') 3
    have k3 := blk_free (y.blk bC') 3
    have m0 := blk_cell (y.blk bC') 0
    have m1 := blk_cell (y.blk bC') 1
    have m2 := blk_cell (y.blk bC') 2
    have n0 := blk_cell (y.blk bB') 0
    have n1 := blk_cell (y.blk bB') 1
    have n2 := blk_cell (y.blk bB') 2
    have n3 := blk_cell (y.blk bB') 3
    have p0 := blk_free (y.blk bB') 0
    have p1 := blk_free (y.blk bB') 1
    have p2 := blk_free (y.blk bB') 2
    have p3 := blk_free (y.blk bB') 3
    simp at k2 m0 m1 m2 n0 n1 n2 n3
    go_wp2
    clear k2 k3 m0 m1 m2 n0 n1 n2 n3 p0 p1 p2 p3
    generalize hY1 : y.w.setCell _ _ = Y1
    generalize hY2 : Y1.setCell _ _ = Y2
    generalize hY3 : Y2.setCell _ _ = Y3
    generalize hY4 : Y3.setCell _ _ = Y4
    generalize hY5 : Y4.setCell _ _ = Y5
    have q1 := (set_other hY1 (k := B + 1) (by omega)).trans (y.blk bB')
    have q5 := set_blk (set_blk (set_blk (set_blk q1 0 _ hY2) 1 _ hY3) 2 _ hY4) 3 _ hY5
    simp at q5
    have r0 := blk_cell q5 0
    have r1 := blk_cell q5 1
    have r2 := blk_cell q5 2
    have r3 := blk_cell q5 3
    simp at r0 r1 r2 r3
    have hsame : ∀ k, B + 3 ≤ k → Y5.heap[k]? = y.w.heap[k]? := fun k hk => by
      rw [set_other hY5 (by omega), set_other hY4 (by omega), set_other hY3 (by omega), set_other hY2 (by omega), set_other hY1 (by omega)]
    have belD : Below W.heap.size W Y5 := by
      subst hY5; subst hY4; subst hY3; subst hY2; subst hY1
      exact (((((belB.trans (y.below.mono (by omega))).setCell (by simp; omega) _).setCell (by simp; omega) _).setCell (by simp; omega) _).setCell (by simp; omega) _).setCell (by simp; omega) _
    have hyc : Wb.heap.size ≤ y.w.heap.size := y.size
    have f1 : Row Y5 (.int .i64) a1 t.ty := row_keep row1' (fun p hp => by have := pl1' p hp; rw [hsame _ this.2]; exact y.below.block _ this.1)
    have new3 : KidsIn Y5 Wb.heap.size t.kids b2 ks := new2.keep (fun k hk _ => hsame k (by omega))
    refine bodyPost_ret (v := .agg #[.int .i64 t.op, .int .i64 t.n, .slice a1 t.ty.length c1, .slice b2 t.kids.length d2]) (by simp [results, Tryd.results30, go_sem, r0, r1, r2, r3]) rfl ?_
    have hlo : W.heap.size ≤ Wb.heap.size := belB.size
    refine ⟨⟨a1, c1, b2, d2⟩, ⟨Y5, belD⟩, rfl, rfl, .mk t _ ks f1 (fun p hp => by have := pl1' p hp; omega) hlt1 hlk1 ?_ (fun i k hi => (new3.2 i k hi).lower hlo)⟩
    rcases new3.1 with e | ⟨bb, o, e, hl, hc⟩
    · exact .inl e
    · exact .inr ⟨bb, o, e, by omega, hc⟩

end Go.Proofs.YtgcdgfdlkkafeaaDoor
