
/- The laws' copy of a session. -/
import Derived.Test.YteffcfaoganciaaDoorKSes
import Derived.Test.YteffcfaoganciaaDoorGF
set_option linter.unusedVariables false
set_option linter.unusedSimpArgs false
namespace Go.Proofs.YteffcfaoganciaaDoor
open Go.RowKit

theorem sets4 {y Y : World} {g j0 j1 j2 j3 : Nat} {T : TypeId} {cur : Array Value} {a0 a1 a2 a3 : Value} (bA : y.heap[g]? = some (.cells cur T (0, 0)))
    (hY : (((y.setCell ⟨g, j0, none⟩ a0).setCell ⟨g, j1, none⟩ a1).setCell ⟨g, j2, none⟩ a2).setCell ⟨g, j3, none⟩ a3 = Y) : (∀ W : World, ∀ n, n ≤ g → Below n W y → Below n W Y) ∧ (∀ k, k ≠ g → Y.heap[k]? = y.heap[k]?) ∧ Y.heap.size = y.heap.size ∧ Y.heap[g]? = some (.cells ((((cur.setIfInBounds j0 a0).setIfInBounds j1 a1).setIfInBounds j2 a2).setIfInBounds j3 a3) T (0, 0)) := by
  subst hY
  refine ⟨fun W n hn hb => (((hb.setCell hn _).setCell hn _).setCell hn _).setCell hn _, fun k hk => ?_, by simp, heap_setCell_same _ g j3 _ _ a3 (heap_setCell_same _ g j2 _ _ a2 (heap_setCell_same _ g j1 _ _ a1 (heap_setCell_same _ g j0 _ _ a0 bA)))⟩
  repeat rw [Below.heap_setCell _ _ _ _ hk]
theorem sets9 {W y Y : World} {B : Nat} {T : TypeId} {z0 z1 z2 z3 z4 z5 z6 z7 z8 a0 a1 a2 a3 a4 a5 a6 a7 a8 : Value} (hb : Below W.heap.size W y) (hB : W.heap.size ≤ B) (bA : y.heap[B]? = some (.cells #[z0, z1, z2, z3, z4, z5, z6, z7, z8] T (0, 0)))
    (hY : ((((((((y.setCell ⟨B, 0, none⟩ a0).setCell ⟨B, 1, none⟩ a1).setCell ⟨B, 2, none⟩ a2).setCell ⟨B, 3, none⟩ a3).setCell ⟨B, 4, none⟩ a4).setCell ⟨B, 5, none⟩ a5).setCell ⟨B, 6, none⟩ a6).setCell ⟨B, 7, none⟩ a7).setCell ⟨B, 8, none⟩ a8 = Y) : Below W.heap.size W Y ∧ (∀ k, k ≠ B → Y.heap[k]? = y.heap[k]?) ∧ Y.heap.size = y.heap.size ∧ Y.heap[B]? = some (.cells #[a0, a1, a2, a3, a4, a5, a6, a7, a8] T (0, 0)) := by
  subst hY
  refine ⟨(((((((((hb.setCell hB _).setCell hB _).setCell hB _).setCell hB _).setCell hB _).setCell hB _).setCell hB _).setCell hB _).setCell hB _), fun k hk => ?_, by simp, ?_⟩
  · repeat rw [Below.heap_setCell _ _ _ _ hk]
  · have := (heap_setCell_same _ B 8 _ _ a8 (heap_setCell_same _ B 7 _ _ a7 (heap_setCell_same _ B 6 _ _ a6 (heap_setCell_same _ B 5 _ _ a5 (heap_setCell_same _ B 4 _ _ a4 (heap_setCell_same _ B 3 _ _ a3 (heap_setCell_same _ B 2 _ _ a2 (heap_setCell_same _ B 1 _ _ a1 (heap_setCell_same _ B 0 _ _ a0 bA)))))))))
    simpa using this
theorem threeBlocks {w w2 : World} {o1 o2 o3 : Obj} {B : Nat} (hB : w.heap.size = B) (h : ((w.alloc o1).alloc o2).alloc o3 = w2) :
    w2.heap[B]? = some o1 ∧ w2.heap[B + 1]? = some o2 ∧ w2.heap[B + 2]? = some o3 ∧ w2.heap.size = B + 3 ∧ Below w.heap.size w w2 := by
  obtain ⟨p0, p1, p2, p3⟩ := blocks2 hB (rfl : (w.alloc o1).alloc o2 = (w.alloc o1).alloc o2)
  have q := new_blk h
  rw [p2] at q
  have hs : w2.heap.size = B + 3 := by rw [← h]; simp; omega
  refine ⟨?_, ?_, q, hs, ?_⟩
  · rw [← h]; exact ((Ext.self _).alloc o3).blk p0
  · rw [← h]; exact ((Ext.self _).alloc o3).blk p1
  · rw [← h]; exact p3.alloc p3.size _

set_option maxRecDepth 20000 in
set_option maxHeartbeats 8000000 in
theorem toSes_ans {W : World} {lo : Nat} {s : Sys} {r : Ref} {a : Option Addr} {c : Nat} {ls : List (List Int)} {hd : Nat → Option Addr × Nat} {t : Tm} {q : TV} (h : SesIn W lo s r a ls hd t q) (sm : sesWt s ls t ≤ 1048576) (x : Ext W) :
    Calls Tryd.prog 14 #[sesV s r a c ls t q] x.w (fun e w' => ∃ (r1 : Ref) (a1 : Option Addr) (c1 : Nat) (hd1 : Nat → Option Addr × Nat) (q1 : TV) (y : Ext W), e = .returned (sesV s r1 a1 c1 ls t q1) ∧ w' = y.w ∧ SesIn y.w 0 s r1 a1 ls hd1 t q1) := by
  unfold sesV
  unfold sesWt at sm
  go_enter Tryd.func14, Tryd.ntmps14
  go_wp2_with fail
  have hxW := x.size
  generalize hWb : ((x.w.alloc _).alloc _).alloc _ = Wb
  generalize hB : x.w.heap.size = B at *
  obtain ⟨bA, bR, bT, sB, bel⟩ := threeBlocks hB hWb
  have belW : Below W.heap.size W Wb := x.below.trans (bel.mono (by omega))
  clear hWb bel
  -- the system
  have C1 : Calls Tryd.prog 33 #[.agg #[.int .i64 s.n, .slice r.pa s.plus.length r.pc, .slice r.ta s.times.length r.tc, .slice r.ba s.below.length r.bc]] Wb (NewSysO Wb s) := toSystemO_ans s (h.sys.ext ⟨Wb, belW⟩) (by omega) (Ext.self Wb)
  refine Calls.mono C1 ?_
  clear C1
  rintro e w' ⟨r1, K1, y1, rfl, rfl, own1, lo1⟩
  have bA1 := y1.blk bA
  have bR1 := y1.blk bR
  have bT1 := y1.blk bT
  have bel1 : Below W.heap.size W y1.w := belW.trans (y1.below.mono belW.size)
  have sz1 := y1.size
  have fa0 : y1.w.cell? ⟨B, 0, none⟩ = some (.int .i64 s.n) := blk_cell bA1 0
  have fa1 : y1.w.cell? ⟨B, 1, none⟩ = some (.slice r.pa s.plus.length r.pc) := blk_cell bA1 1
  have fa2 : y1.w.cell? ⟨B, 2, none⟩ = some (.slice r.ta s.times.length r.tc) := blk_cell bA1 2
  have fa3 : y1.w.cell? ⟨B, 3, none⟩ = some (.slice r.ba s.below.length r.bc) := blk_cell bA1 3
  have fa4 : y1.w.cell? ⟨B, 4, none⟩ = some (.slice a ls.length c) := blk_cell bA1 4
  have fa5 : y1.w.cell? ⟨B, 5, none⟩ = some (.int .i64 t.op) := blk_cell bA1 5
  have fa6 : y1.w.cell? ⟨B, 6, none⟩ = some (.int .i64 t.n) := blk_cell bA1 6
  have fa7 : y1.w.cell? ⟨B, 7, none⟩ = some (.slice q.a t.ty.length q.c) := blk_cell bA1 7
  have fa8 : y1.w.cell? ⟨B, 8, none⟩ = some (.slice q.b t.kids.length q.d) := blk_cell bA1 8
  have z0 : y1.w.cell? ⟨B + 2, 0, none⟩ = some (.int .i64 0) := blk_cell bT1 0
  have z1 : y1.w.cell? ⟨B + 2, 1, none⟩ = some (.slice none 0 0) := blk_cell bT1 1
  have z2 : y1.w.cell? ⟨B + 2, 2, none⟩ = some (.slice none 0 0) := blk_cell bT1 2
  have z3 : y1.w.cell? ⟨B + 2, 3, none⟩ = some (.slice none 0 0) := blk_cell bT1 3
  have z4 : y1.w.cell? ⟨B + 2, 4, none⟩ = some (.slice none 0 0) := blk_cell bT1 4
  have z5 : y1.w.cell? ⟨B + 2, 5, none⟩ = some (.int .i64 0) := blk_cell bT1 5
  have z6 : y1.w.cell? ⟨B + 2, 6, none⟩ = some (.int .i64 0) := blk_cell bT1 6
  have z7 : y1.w.cell? ⟨B + 2, 7, none⟩ = some (.slice none 0 0) := blk_cell bT1 7
  have z8 : y1.w.cell? ⟨B + 2, 8, none⟩ = some (.slice none 0 0) := blk_cell bT1 8
  have p0 : y1.w.frozen? ⟨B + 2, 0, none⟩ = false := blk_free bT1 0
  have p1 : y1.w.frozen? ⟨B + 2, 1, none⟩ = false := blk_free bT1 1
  have p2 : y1.w.frozen? ⟨B + 2, 2, none⟩ = false := blk_free bT1 2
  have p3 : y1.w.frozen? ⟨B + 2, 3, none⟩ = false := blk_free bT1 3
  have p4 : y1.w.frozen? ⟨B + 2, 4, none⟩ = false := blk_free bT1 4
  have p5 : y1.w.frozen? ⟨B + 2, 5, none⟩ = false := blk_free bT1 5
  have p6 : y1.w.frozen? ⟨B + 2, 6, none⟩ = false := blk_free bT1 6
  have p7 : y1.w.frozen? ⟨B + 2, 7, none⟩ = false := blk_free bT1 7
  have p8 : y1.w.frozen? ⟨B + 2, 8, none⟩ = false := blk_free bT1 8
  unfold Ref.val
  go_wp2_with fail
  clear fa0 fa1 fa2 fa3 fa4 fa5 fa6 fa7 fa8 z0 z1 z2 z3 z4 z5 z6 z7 z8 p0 p1 p2 p3 p4 p5 p6 p7 p8
  generalize hY : World.setCell _ _ _ = Y1
  obtain ⟨belS, same1, size1, q1⟩ := sets4 bT1 hY
  clear hY
  have belY1 := belS W W.heap.size (by omega) bel1
  clear belS
  simp at q1
  have bAY := (same1 B (by omega)).trans bA1
  have bRY := (same1 (B + 1) (by omega)).trans bR1
  have ownY1 : SysOwn Y1 s r1 K1 := own1.keep fun g hg => same1 g (by have := lo1 g hg; omega)
  clear bA bR bT bA1 bR1 bT1 same1 own1 bel1
  -- the context
  have C2 : Calls Tryd.prog 49 #[.slice a ls.length c] Y1 (NewLs Y1 ls) := toIntSS_ans ((h.ctx.ext ⟨Y1, belY1⟩).ins (by omega)) (by unfold lsWt at sm; omega) (Ext.self Y1)
  refine Calls.mono C2 ?_
  clear C2
  rintro e w' ⟨a1, c1, hd1, K2, y2, rfl, rfl, own2, lo2⟩
  have bA2 := y2.blk bAY
  have bR2 := y2.blk bRY
  have bT2 := y2.blk q1
  have bel2 : Below W.heap.size W y2.w := belY1.trans (y2.below.mono belY1.size)
  have sz2 := y2.size
  replace ownY1 := ownY1.ext y2
  have fa0 : y2.w.cell? ⟨B, 0, none⟩ = some (.int .i64 s.n) := blk_cell bA2 0
  have fa1 : y2.w.cell? ⟨B, 1, none⟩ = some (.slice r.pa s.plus.length r.pc) := blk_cell bA2 1
  have fa2 : y2.w.cell? ⟨B, 2, none⟩ = some (.slice r.ta s.times.length r.tc) := blk_cell bA2 2
  have fa3 : y2.w.cell? ⟨B, 3, none⟩ = some (.slice r.ba s.below.length r.bc) := blk_cell bA2 3
  have fa4 : y2.w.cell? ⟨B, 4, none⟩ = some (.slice a ls.length c) := blk_cell bA2 4
  have fa5 : y2.w.cell? ⟨B, 5, none⟩ = some (.int .i64 t.op) := blk_cell bA2 5
  have fa6 : y2.w.cell? ⟨B, 6, none⟩ = some (.int .i64 t.n) := blk_cell bA2 6
  have fa7 : y2.w.cell? ⟨B, 7, none⟩ = some (.slice q.a t.ty.length q.c) := blk_cell bA2 7
  have fa8 : y2.w.cell? ⟨B, 8, none⟩ = some (.slice q.b t.kids.length q.d) := blk_cell bA2 8
  have z0 : y2.w.cell? ⟨B + 2, 0, none⟩ = some (.int .i64 s.n) := blk_cell bT2 0
  have z1 : y2.w.cell? ⟨B + 2, 1, none⟩ = some (.slice r1.pa s.plus.length r1.pc) := blk_cell bT2 1
  have z2 : y2.w.cell? ⟨B + 2, 2, none⟩ = some (.slice r1.ta s.times.length r1.tc) := blk_cell bT2 2
  have z3 : y2.w.cell? ⟨B + 2, 3, none⟩ = some (.slice r1.ba s.below.length r1.bc) := blk_cell bT2 3
  have z4 : y2.w.cell? ⟨B + 2, 4, none⟩ = some (.slice none 0 0) := blk_cell bT2 4
  have z5 : y2.w.cell? ⟨B + 2, 5, none⟩ = some (.int .i64 0) := blk_cell bT2 5
  have z6 : y2.w.cell? ⟨B + 2, 6, none⟩ = some (.int .i64 0) := blk_cell bT2 6
  have z7 : y2.w.cell? ⟨B + 2, 7, none⟩ = some (.slice none 0 0) := blk_cell bT2 7
  have z8 : y2.w.cell? ⟨B + 2, 8, none⟩ = some (.slice none 0 0) := blk_cell bT2 8
  have p0 : y2.w.frozen? ⟨B + 2, 0, none⟩ = false := blk_free bT2 0
  have p1 : y2.w.frozen? ⟨B + 2, 1, none⟩ = false := blk_free bT2 1
  have p2 : y2.w.frozen? ⟨B + 2, 2, none⟩ = false := blk_free bT2 2
  have p3 : y2.w.frozen? ⟨B + 2, 3, none⟩ = false := blk_free bT2 3
  have p4 : y2.w.frozen? ⟨B + 2, 4, none⟩ = false := blk_free bT2 4
  have p5 : y2.w.frozen? ⟨B + 2, 5, none⟩ = false := blk_free bT2 5
  have p6 : y2.w.frozen? ⟨B + 2, 6, none⟩ = false := blk_free bT2 6
  have p7 : y2.w.frozen? ⟨B + 2, 7, none⟩ = false := blk_free bT2 7
  have p8 : y2.w.frozen? ⟨B + 2, 8, none⟩ = false := blk_free bT2 8
  go_wp2_with fail
  clear fa0 fa1 fa2 fa3 fa4 fa5 fa6 fa7 fa8 z0 z1 z2 z3 z4 z5 z6 z7 z8 p0 p1 p2 p3 p4 p5 p6 p7 p8
  generalize hY : World.setCell _ _ _ = Y2
  have q2 := set_blk bT2 4 _ hY
  have same2 : ∀ k, k ≠ B + 2 → Y2.heap[k]? = y2.w.heap[k]? := fun k hk => set_other hY hk
  have size2 := set_size hY
  have belY2 : Below W.heap.size W Y2 := by rw [← hY]; exact bel2.setCell (p := ⟨B + 2, 4, none⟩) (show W.heap.size ≤ B + 2 by omega) _
  clear hY
  simp at q2
  have bAY2 := (same2 B (by omega)).trans bA2
  have bRY2 := (same2 (B + 1) (by omega)).trans bR2
  have ownY2 : SysOwn Y2 s r1 K1 := ownY1.keep fun g hg => same2 g (by have := lo1 g hg; omega)
  have ownL2 : LsOwn Y2 a1 c1 ls hd1 K2 := own2.keep fun g hg => same2 g (by have := lo2 g hg; omega)
  clear bA2 bR2 bT2 same2 own2 bel2 ownY1 bAY bRY
  -- the term
  have C3 : Calls Tryd.prog 19 #[.agg #[.int .i64 t.op, .int .i64 t.n, .slice q.a t.ty.length q.c, .slice q.b t.kids.length q.d]] Y2 (NewTmO Y2 t) := toTermO_ans t (r := q) (h.tm.ext ⟨Y2, belY2⟩) (by omega) (Ext.self Y2)
  refine Calls.mono C3 ?_
  clear C3
  rintro e w' ⟨q1', K3, y3, rfl, rfl, own3, lo3⟩
  have bA3 := y3.blk bAY2
  have bR3 := y3.blk bRY2
  have bT3 := y3.blk q2
  have bel3 : Below W.heap.size W y3.w := belY2.trans (y3.below.mono belY2.size)
  have sz3 := y3.size
  replace ownY2 := ownY2.ext y3
  replace ownL2 := ownL2.ext y3
  have z0 : y3.w.cell? ⟨B + 2, 0, none⟩ = some (.int .i64 s.n) := blk_cell bT3 0
  have z1 : y3.w.cell? ⟨B + 2, 1, none⟩ = some (.slice r1.pa s.plus.length r1.pc) := blk_cell bT3 1
  have z2 : y3.w.cell? ⟨B + 2, 2, none⟩ = some (.slice r1.ta s.times.length r1.tc) := blk_cell bT3 2
  have z3 : y3.w.cell? ⟨B + 2, 3, none⟩ = some (.slice r1.ba s.below.length r1.bc) := blk_cell bT3 3
  have z4 : y3.w.cell? ⟨B + 2, 4, none⟩ = some (.slice a1 ls.length c1) := blk_cell bT3 4
  have z5 : y3.w.cell? ⟨B + 2, 5, none⟩ = some (.int .i64 0) := blk_cell bT3 5
  have z6 : y3.w.cell? ⟨B + 2, 6, none⟩ = some (.int .i64 0) := blk_cell bT3 6
  have z7 : y3.w.cell? ⟨B + 2, 7, none⟩ = some (.slice none 0 0) := blk_cell bT3 7
  have z8 : y3.w.cell? ⟨B + 2, 8, none⟩ = some (.slice none 0 0) := blk_cell bT3 8
  have p0 : y3.w.frozen? ⟨B + 2, 0, none⟩ = false := blk_free bT3 0
  have p1 : y3.w.frozen? ⟨B + 2, 1, none⟩ = false := blk_free bT3 1
  have p2 : y3.w.frozen? ⟨B + 2, 2, none⟩ = false := blk_free bT3 2
  have p3 : y3.w.frozen? ⟨B + 2, 3, none⟩ = false := blk_free bT3 3
  have p4 : y3.w.frozen? ⟨B + 2, 4, none⟩ = false := blk_free bT3 4
  have p5 : y3.w.frozen? ⟨B + 2, 5, none⟩ = false := blk_free bT3 5
  have p6 : y3.w.frozen? ⟨B + 2, 6, none⟩ = false := blk_free bT3 6
  have p7 : y3.w.frozen? ⟨B + 2, 7, none⟩ = false := blk_free bT3 7
  have p8 : y3.w.frozen? ⟨B + 2, 8, none⟩ = false := blk_free bT3 8
  have fr0 : y3.w.cell? ⟨B + 1, 0, none⟩ = some (.int .i64 0) := blk_cell bR3 0
  have fr1 : y3.w.cell? ⟨B + 1, 1, none⟩ = some (.slice none 0 0) := blk_cell bR3 1
  have fr2 : y3.w.cell? ⟨B + 1, 2, none⟩ = some (.slice none 0 0) := blk_cell bR3 2
  have fr3 : y3.w.cell? ⟨B + 1, 3, none⟩ = some (.slice none 0 0) := blk_cell bR3 3
  have fr4 : y3.w.cell? ⟨B + 1, 4, none⟩ = some (.slice none 0 0) := blk_cell bR3 4
  have fr5 : y3.w.cell? ⟨B + 1, 5, none⟩ = some (.int .i64 0) := blk_cell bR3 5
  have fr6 : y3.w.cell? ⟨B + 1, 6, none⟩ = some (.int .i64 0) := blk_cell bR3 6
  have fr7 : y3.w.cell? ⟨B + 1, 7, none⟩ = some (.slice none 0 0) := blk_cell bR3 7
  have fr8 : y3.w.cell? ⟨B + 1, 8, none⟩ = some (.slice none 0 0) := blk_cell bR3 8
  have pr0 : y3.w.frozen? ⟨B + 1, 0, none⟩ = false := blk_free bR3 0
  have pr1 : y3.w.frozen? ⟨B + 1, 1, none⟩ = false := blk_free bR3 1
  have pr2 : y3.w.frozen? ⟨B + 1, 2, none⟩ = false := blk_free bR3 2
  have pr3 : y3.w.frozen? ⟨B + 1, 3, none⟩ = false := blk_free bR3 3
  have pr4 : y3.w.frozen? ⟨B + 1, 4, none⟩ = false := blk_free bR3 4
  have pr5 : y3.w.frozen? ⟨B + 1, 5, none⟩ = false := blk_free bR3 5
  have pr6 : y3.w.frozen? ⟨B + 1, 6, none⟩ = false := blk_free bR3 6
  have pr7 : y3.w.frozen? ⟨B + 1, 7, none⟩ = false := blk_free bR3 7
  have pr8 : y3.w.frozen? ⟨B + 1, 8, none⟩ = false := blk_free bR3 8
  unfold TV.val
  go_upto_region 5 with fail
  clear z0 z1 z2 z3 z4 z5 z6 z7 z8 p0 p1 p2 p3 p4 p5 p6 p7 p8 fr0 fr1 fr2 fr3 fr4 fr5 fr6 fr7 fr8 pr0 pr1 pr2 pr3 pr4 pr5 pr6 pr7 pr8
  generalize hY : World.setCell _ _ _ = Y3
  obtain ⟨belS, same3, size3, q3⟩ := sets4 bT3 hY
  clear hY
  have belY3 := belS W W.heap.size (by omega) bel3
  clear belS
  simp at q3
  have bRY3 := (same3 (B + 1) (by omega)).trans bR3
  have ownY3 : SysOwn Y3 s r1 K1 := ownY2.keep fun g hg => same3 g (by have := lo1 g hg; omega)
  have ownL3 : LsOwn Y3 a1 c1 ls hd1 K2 := ownL2.keep fun g hg => same3 g (by have := lo2 g hg; omega)
  have ownT3 : TmOwn Y3 t q1' K3 := own3.keep fun g hg => same3 g (by have := lo3 g hg; omega)
  clear bA3 bR3 bT3 same3 own3 bel3 ownY2 ownL2 bAY2 bRY2
  have z0 : Y3.cell? ⟨B + 2, 0, none⟩ = some (.int .i64 s.n) := blk_cell q3 0
  have z1 : Y3.cell? ⟨B + 2, 1, none⟩ = some (.slice r1.pa s.plus.length r1.pc) := blk_cell q3 1
  have z2 : Y3.cell? ⟨B + 2, 2, none⟩ = some (.slice r1.ta s.times.length r1.tc) := blk_cell q3 2
  have z3 : Y3.cell? ⟨B + 2, 3, none⟩ = some (.slice r1.ba s.below.length r1.bc) := blk_cell q3 3
  have z4 : Y3.cell? ⟨B + 2, 4, none⟩ = some (.slice a1 ls.length c1) := blk_cell q3 4
  have z5 : Y3.cell? ⟨B + 2, 5, none⟩ = some (.int .i64 t.op) := blk_cell q3 5
  have z6 : Y3.cell? ⟨B + 2, 6, none⟩ = some (.int .i64 t.n) := blk_cell q3 6
  have z7 : Y3.cell? ⟨B + 2, 7, none⟩ = some (.slice q1'.a t.ty.length q1'.c) := blk_cell q3 7
  have z8 : Y3.cell? ⟨B + 2, 8, none⟩ = some (.slice q1'.b t.kids.length q1'.d) := blk_cell q3 8
  have fr0 : Y3.cell? ⟨B + 1, 0, none⟩ = some (.int .i64 0) := blk_cell bRY3 0
  have fr1 : Y3.cell? ⟨B + 1, 1, none⟩ = some (.slice none 0 0) := blk_cell bRY3 1
  have fr2 : Y3.cell? ⟨B + 1, 2, none⟩ = some (.slice none 0 0) := blk_cell bRY3 2
  have fr3 : Y3.cell? ⟨B + 1, 3, none⟩ = some (.slice none 0 0) := blk_cell bRY3 3
  have fr4 : Y3.cell? ⟨B + 1, 4, none⟩ = some (.slice none 0 0) := blk_cell bRY3 4
  have fr5 : Y3.cell? ⟨B + 1, 5, none⟩ = some (.int .i64 0) := blk_cell bRY3 5
  have fr6 : Y3.cell? ⟨B + 1, 6, none⟩ = some (.int .i64 0) := blk_cell bRY3 6
  have fr7 : Y3.cell? ⟨B + 1, 7, none⟩ = some (.slice none 0 0) := blk_cell bRY3 7
  have fr8 : Y3.cell? ⟨B + 1, 8, none⟩ = some (.slice none 0 0) := blk_cell bRY3 8
  have pr0 : Y3.frozen? ⟨B + 1, 0, none⟩ = false := blk_free bRY3 0
  have pr1 : Y3.frozen? ⟨B + 1, 1, none⟩ = false := blk_free bRY3 1
  have pr2 : Y3.frozen? ⟨B + 1, 2, none⟩ = false := blk_free bRY3 2
  have pr3 : Y3.frozen? ⟨B + 1, 3, none⟩ = false := blk_free bRY3 3
  have pr4 : Y3.frozen? ⟨B + 1, 4, none⟩ = false := blk_free bRY3 4
  have pr5 : Y3.frozen? ⟨B + 1, 5, none⟩ = false := blk_free bRY3 5
  have pr6 : Y3.frozen? ⟨B + 1, 6, none⟩ = false := blk_free bRY3 6
  have pr7 : Y3.frozen? ⟨B + 1, 7, none⟩ = false := blk_free bRY3 7
  have pr8 : Y3.frozen? ⟨B + 1, 8, none⟩ = false := blk_free bRY3 8
  go_wp2
  clear z0 z1 z2 z3 z4 z5 z6 z7 z8 fr0 fr1 fr2 fr3 fr4 fr5 fr6 fr7 fr8 pr0 pr1 pr2 pr3 pr4 pr5 pr6 pr7 pr8
  generalize hY : World.setCell _ _ _ = Y4
  obtain ⟨belY4, same4, size4, q4⟩ := sets9 (W := W) belY3 (by omega) bRY3 hY
  clear hY
  have r0' := blk_cell q4 0
  have r1' := blk_cell q4 1
  have r2' := blk_cell q4 2
  have r3' := blk_cell q4 3
  have r4' := blk_cell q4 4
  have r5' := blk_cell q4 5
  have r6' := blk_cell q4 6
  have r7' := blk_cell q4 7
  have r8' := blk_cell q4 8
  simp at r0' r1' r2' r3' r4' r5' r6' r7' r8'
  have ownY4 : SysOwn Y4 s r1 K1 := ownY3.keep fun g hg => same4 g (by have := lo1 g hg; omega)
  have ownL4 : LsOwn Y4 a1 c1 ls hd1 K2 := ownL3.keep fun g hg => same4 g (by have := lo2 g hg; omega)
  have ownT4 : TmOwn Y4 t q1' K3 := ownT3.keep fun g hg => same4 g (by have := lo3 g hg; omega)
  refine bodyPost_ret (v := sesV s r1 a1 c1 ls t q1') (by simp [results, Tryd.results14, go_sem, r0', r1', r2', r3', r4', r5', r6', r7', r8']; rfl) rfl ?_
  exact ⟨r1, a1, c1, hd1, q1', ⟨Y4, belY4⟩, rfl, rfl, ⟨ownY4.tm (fun g _ => Nat.zero_le g), lsIn_ar (ownL4.ins (by unfold lsWt at sm; omega) (ls_small (ls := ls) (by omega)).2), ownT4.tm (fun g _ => Nat.zero_le g)⟩⟩
end Go.Proofs.YteffcfaoganciaaDoor
