
/- Sessions as they are made: a system, no context, a number. -/
import Derived.Test.YteffcfaoganciaaKLawCount
import Derived.Test.YteffcfaoganciaaKHoldS
import Derived.Test.YteffcfaoganciaaGI
import Derived.Test.YteffcfaoganciaaKHoldL
import Derived.Test.YteffcfaoganciaaKLists
set_option linter.unusedVariables false
set_option linter.unusedSimpArgs false
namespace Go.Proofs.Yteffcfaoganciaa
open Go.RowKit

/-- What lies in a new session. -/
def sessV (s : Sys) (r : Ref) : Value := .agg #[.int .i64 s.n, .slice r.pa s.plus.length r.pc, .slice r.ta s.times.length r.tc, .slice r.ba s.below.length r.bc, .slice none 0 0, .int .i64 1, .int .i64 0, .slice none 0 0, .slice none 0 0]
theorem ret9 {W y Y : World} {B : Nat} {T : TypeId} {z0 z1 z2 z3 z4 z5 z6 z7 z8 a0 a1 a2 a3 a4 a5 a6 a7 a8 : Value} (hb : Below W.heap.size W y) (hB : W.heap.size ≤ B) (bA : y.heap[B]? = some (.cells #[z0, z1, z2, z3, z4, z5, z6, z7, z8] T (0, 0)))
    (hY : ((((((((y.setCell ⟨B, 0, none⟩ a0).setCell ⟨B, 1, none⟩ a1).setCell ⟨B, 2, none⟩ a2).setCell ⟨B, 3, none⟩ a3).setCell ⟨B, 4, none⟩ a4).setCell ⟨B, 5, none⟩ a5).setCell ⟨B, 6, none⟩ a6).setCell ⟨B, 7, none⟩ a7).setCell ⟨B, 8, none⟩ a8 = Y) : Below W.heap.size W Y ∧ (∀ k, k ≠ B → Y.heap[k]? = y.heap[k]?) ∧ Y.heap.size = y.heap.size ∧ Y.heap[B]? = some (.cells #[a0, a1, a2, a3, a4, a5, a6, a7, a8] T (0, 0)) := by
  subst hY
  refine ⟨(((((((((hb.setCell hB _).setCell hB _).setCell hB _).setCell hB _).setCell hB _).setCell hB _).setCell hB _).setCell hB _).setCell hB _), fun k hk => ?_, by simp, ?_⟩
  · repeat rw [Below.heap_setCell _ _ _ _ hk]
  · have := (heap_setCell_same _ B 8 _ _ a8 (heap_setCell_same _ B 7 _ _ a7 (heap_setCell_same _ B 6 _ _ a6 (heap_setCell_same _ B 5 _ _ a5 (heap_setCell_same _ B 4 _ _ a4 (heap_setCell_same _ B 3 _ _ a3 (heap_setCell_same _ B 2 _ _ a2 (heap_setCell_same _ B 1 _ _ a1 (heap_setCell_same _ B 0 _ _ a0 bA)))))))))
    simpa using this
set_option maxHeartbeats 1600000 in
theorem newSession_ans {W : World} (s : Sys) (hs : NumS countF 1 s) (x : Ext W) : Calls Try.prog 14 #[] x.w (fun e w' => ∃ (r : Ref) (B : Nat → Prop) (y : Ext W), e = .returned (sessV s r) ∧ w' = y.w ∧ SysOwn y.w s r B ∧ ∀ g, B g → W.heap.size ≤ g) := by
  obtain ⟨yy, hyy⟩ : ∃ y : Ext W, x = y := ⟨x, rfl⟩
  rw [hyy]
  clear hyy
  have HS := Lib.hid hs
  clear hs
  go_enter Try.func14, Try.ntmps14
  go_wp2_with fail
  have hxW := yy.size
  generalize hWa : yy.w.alloc _ = Wa
  generalize hB : yy.w.heap.size = B at *
  obtain ⟨bA, sA, bel⟩ := blocks1 hB hWa
  have belA : Below W.heap.size W Wa := yy.below.trans (bel.mono (by omega))
  clear hWa bel
  refine Calls.mono (countSystem_ans (W := Wa) 1 s HS.out (Ext.self Wa)) ?_
  rintro e w' ⟨r, y, rfl, rfl, own⟩
  have bA' := y.blk bA
  have szy := y.size
  have n0 := blk_cell bA' 0
  have n1 := blk_cell bA' 1
  have n2 := blk_cell bA' 2
  have n3 := blk_cell bA' 3
  have n4 := blk_cell bA' 4
  have n5 := blk_cell bA' 5
  have n6 := blk_cell bA' 6
  have n7 := blk_cell bA' 7
  have n8 := blk_cell bA' 8
  have p0 := blk_free bA' 0
  have p1 := blk_free bA' 1
  have p2 := blk_free bA' 2
  have p3 := blk_free bA' 3
  have p4 := blk_free bA' 4
  have p5 := blk_free bA' 5
  have p6 := blk_free bA' 6
  have p7 := blk_free bA' 7
  have p8 := blk_free bA' 8
  simp at n0 n1 n2 n3 n4 n5 n6 n7 n8
  go_wp2
  clear n0 n1 n2 n3 n4 n5 n6 n7 n8 p0 p1 p2 p3 p4 p5 p6 p7 p8
  generalize hY : World.setCell _ _ _ = Y9
  obtain ⟨belY, hsame, hsz, q9⟩ := ret9 (W := W) (belA.trans (y.below.mono belA.size)) hxW bA' hY
  have r0 := blk_cell q9 0
  have r1 := blk_cell q9 1
  have r2 := blk_cell q9 2
  have r3 := blk_cell q9 3
  have r4 := blk_cell q9 4
  have r5 := blk_cell q9 5
  have r6 := blk_cell q9 6
  have r7 := blk_cell q9 7
  have r8 := blk_cell q9 8
  simp at r0 r1 r2 r3 r4 r5 r6 r7 r8
  obtain ⟨NB, own1, hlo⟩ := sysOwn_of own
  have own2 : SysOwn Y9 s r NB := own1.keep fun g hg => hsame g (fun e => by have := hlo g hg; omega)
  refine bodyPost_ret (v := sessV s r) (by simp [results, Try.results14, go_sem, r0, r1, r2, r3, r4, r5, r6, r7, r8]; rfl) rfl ?_
  exact ⟨r, NB, ⟨Y9, belY⟩, rfl, rfl, own2, fun g hg => by have := hlo g hg; omega⟩
set_option maxHeartbeats 1600000 in
theorem specNewSession_ans {W : World} (s : Sys) (hs : NumS countF 1 s) (x : Ext W) : Calls Try.prog 13 #[] x.w (fun e w' => ∃ (r : Ref) (y : Ext W), e = .returned (sessV s r) ∧ w' = y.w ∧ SysIn y.w r s) := by
  obtain ⟨yy, hyy⟩ : ∃ y : Ext W, x = y := ⟨x, rfl⟩
  rw [hyy]
  clear hyy
  have HS := Lib.hid hs
  clear hs
  go_enter Try.func13, Try.ntmps13
  go_wp2_with fail
  have hxW := yy.size
  generalize hWa : yy.w.alloc _ = Wa
  generalize hB : yy.w.heap.size = B at *
  obtain ⟨bA, sA, bel⟩ := blocks1 hB hWa
  have belA : Below W.heap.size W Wa := yy.below.trans (bel.mono (by omega))
  clear hWa bel
  refine Calls.mono (specCount_ans (W := Wa) 1 s HS.out (Ext.self Wa)) ?_
  rintro e w' ⟨r, y, rfl, rfl, hp, own⟩
  have bA' := y.blk bA
  have szy := y.size
  have n0 := blk_cell bA' 0
  have n1 := blk_cell bA' 1
  have n2 := blk_cell bA' 2
  have n3 := blk_cell bA' 3
  have n4 := blk_cell bA' 4
  have n5 := blk_cell bA' 5
  have n6 := blk_cell bA' 6
  have n7 := blk_cell bA' 7
  have n8 := blk_cell bA' 8
  have p0 := blk_free bA' 0
  have p1 := blk_free bA' 1
  have p2 := blk_free bA' 2
  have p3 := blk_free bA' 3
  have p4 := blk_free bA' 4
  have p5 := blk_free bA' 5
  have p6 := blk_free bA' 6
  have p7 := blk_free bA' 7
  have p8 := blk_free bA' 8
  simp at n0 n1 n2 n3 n4 n5 n6 n7 n8
  go_wp2
  clear n0 n1 n2 n3 n4 n5 n6 n7 n8 p0 p1 p2 p3 p4 p5 p6 p7 p8
  generalize hY : World.setCell _ _ _ = Y9
  obtain ⟨belY, hsame, hsz, q9⟩ := ret9 (W := W) (belA.trans (y.below.mono belA.size)) hxW bA' hY
  have r0 := blk_cell q9 0
  have r1 := blk_cell q9 1
  have r2 := blk_cell q9 2
  have r3 := blk_cell q9 3
  have r4 := blk_cell q9 4
  have r5 := blk_cell q9 5
  have r6 := blk_cell q9 6
  have r7 := blk_cell q9 7
  have r8 := blk_cell q9 8
  simp at r0 r1 r2 r3 r4 r5 r6 r7 r8
  have own2 : SysIn Y9 r s := own.keep hsame (fun p q e => by have := (hp p q).1; omega)
  refine bodyPost_ret (v := sessV s r) (by simp [results, Try.results13, go_sem, r0, r1, r2, r3, r4, r5, r6, r7, r8]; rfl) rfl ?_
  exact ⟨r, ⟨Y9, belY⟩, rfl, rfl, own2⟩
end Go.Proofs.Yteffcfaoganciaa
