
/- The law of NewSession. -/
import Derived.Test.YteffcfaoganciaaKSessT
set_option linter.unusedVariables false
set_option linter.unusedSimpArgs false
namespace Go.Proofs.Yteffcfaoganciaa
open Go.RowKit

set_option maxRecDepth 100000 in
set_option maxHeartbeats 16000000 in
theorem newSession_law {W : World} : Calls Try.prog 4 #[] W (LawEnd W) := by
  obtain ⟨x, hx⟩ : ∃ x : Ext W, x.w = W := ⟨Ext.self W, rfl⟩
  suffices hs : Calls Try.prog 4 #[] x.w (LawEnd W) by rw [hx] at hs; exact hs
  clear hx
  obtain ⟨s, hs⟩ := numS_ex countF 1
  obtain ⟨l1, l2, l3⟩ := numS_small hs
  have sm : Small s := ⟨by omega, by omega, by omega⟩
  have sm2 : s.plus.length ≤ 1000 ∧ s.times.length ≤ 1000 ∧ s.below.length ≤ 1000 := ⟨by omega, by omega, by omega⟩
  have HS := Lib.hid hs
  clear hs
  go_enter Try.func4, Try.ntmps4
  go_wp2_with fail
  refine Calls.mono (specNewSession_ans s HS.out x) ?_
  rintro e w' ⟨ra, y, rfl, rfl, ka⟩
  unfold sessV
  go_wp2_with fail
  generalize hW : y.w.alloc _ = W1
  have bA := new_blk hW
  have k1 : SysIn W1 ra s := by rw [← hW]; exact ka.ext ((Ext.self y.w).alloc _)
  have hlt1 : y.w.heap.size < W1.heap.size := (Array.getElem?_eq_some_iff.1 bA).1
  have belW1 : Below W.heap.size W W1 := by rw [← hW]; exact y.below.alloc y.size _
  have hback1 : ∀ z : Ext W1, ∃ u : Ext W, z.w = u.w := fun z => ⟨⟨z.w, belW1.trans (z.below.mono belW1.size)⟩, rfl⟩
  generalize y.w.heap.size = B1 at *
  clear hW ka y
  have c0 : ∀ y : Ext W1, y.w.cell? ⟨B1, 0, none⟩ = some (.int .i64 s.n) := fun y => blk_cell (y.blk bA) 0
  have c1 : ∀ y : Ext W1, y.w.cell? ⟨B1, 1, none⟩ = some (.slice ra.pa s.plus.length ra.pc) := fun y => blk_cell (y.blk bA) 1
  have c2 : ∀ y : Ext W1, y.w.cell? ⟨B1, 2, none⟩ = some (.slice ra.ta s.times.length ra.tc) := fun y => blk_cell (y.blk bA) 2
  have c3 : ∀ y : Ext W1, y.w.cell? ⟨B1, 3, none⟩ = some (.slice ra.ba s.below.length ra.bc) := fun y => blk_cell (y.blk bA) 3
  have c4 : ∀ y : Ext W1, y.w.cell? ⟨B1, 4, none⟩ = some (.slice none 0 0) := fun y => blk_cell (y.blk bA) 4
  have c5 : ∀ y : Ext W1, y.w.cell? ⟨B1, 5, none⟩ = some (.int .i64 1) := fun y => blk_cell (y.blk bA) 5
  have c6 : ∀ y : Ext W1, y.w.cell? ⟨B1, 6, none⟩ = some (.int .i64 0) := fun y => blk_cell (y.blk bA) 6
  have c7 : ∀ y : Ext W1, y.w.cell? ⟨B1, 7, none⟩ = some (.slice none 0 0) := fun y => blk_cell (y.blk bA) 7
  have c8 : ∀ y : Ext W1, y.w.cell? ⟨B1, 8, none⟩ = some (.slice none 0 0) := fun y => blk_cell (y.blk bA) 8
  obtain ⟨yy, hy0⟩ : ∃ y : Ext W1, y.w = W1 := ⟨Ext.self W1, rfl⟩
  rw [← hy0]
  clear hy0
  refine Calls.mono (newSession_ans s HS.out yy) ?_
  rintro e w' ⟨r2, NB, y2, rfl, rfl, own, hlo⟩
  have hlt := own.lt
  unfold sessV
  have dx0 := fun o => c0 (y2.alloc o)
  have dx1 := fun o => c1 (y2.alloc o)
  have dx2 := fun o => c2 (y2.alloc o)
  have dx3 := fun o => c3 (y2.alloc o)
  have dx4 := fun o => c4 (y2.alloc o)
  have dx5 := fun o => c5 (y2.alloc o)
  have dx6 := fun o => c6 (y2.alloc o)
  have dx7 := fun o => c7 (y2.alloc o)
  have dx8 := fun o => c8 (y2.alloc o)
  dsimp only at dx0 dx1 dx2 dx3 dx4 dx5 dx6 dx7 dx8
  go_wp2_with fail
  clear dx0 dx1 dx2 dx3 dx4 dx5 dx6 dx7 dx8
  generalize hW : y2.w.alloc _ = W2
  have bG := new_blk hW
  have own2 : SysOwn W2 s r2 NB := by rw [← hW]; exact own.ext ((Ext.self y2.w).alloc _)
  have szW2 : y2.w.heap.size < W2.heap.size := (Array.getElem?_eq_some_iff.1 bG).1
  obtain ⟨z2, hz2⟩ : ∃ z : Ext W1, z.w = W2 := ⟨y2.alloc _, hW⟩
  have hsz2 := y2.size
  generalize y2.w.heap.size = B2 at *
  clear hW own y2
  have bel2 : Below W1.heap.size W1 W2 := by rw [← hz2]; exact z2.below
  have k2 : SysIn W2 ra s := by rw [← hz2]; exact k1.ext z2
  have C := eqSession_ans (own2.tm (fun g _ => Nat.zero_le g)) k2 sm (Ext.self W2)
  unfold sessV at C
  refine Calls.mono C ?_
  clear C
  rintro e w' ⟨rfl, zz, rfl⟩
  have d0 : ∀ y : Ext W2, y.w.cell? ⟨B2, 0, none⟩ = some (.int .i64 s.n) := fun y => blk_cell (y.blk bG) 0
  have d1 : ∀ y : Ext W2, y.w.cell? ⟨B2, 1, none⟩ = some (.slice r2.pa s.plus.length r2.pc) := fun y => blk_cell (y.blk bG) 1
  have d2 : ∀ y : Ext W2, y.w.cell? ⟨B2, 2, none⟩ = some (.slice r2.ta s.times.length r2.tc) := fun y => blk_cell (y.blk bG) 2
  have d3 : ∀ y : Ext W2, y.w.cell? ⟨B2, 3, none⟩ = some (.slice r2.ba s.below.length r2.bc) := fun y => blk_cell (y.blk bG) 3
  have d4 : ∀ y : Ext W2, y.w.cell? ⟨B2, 4, none⟩ = some (.slice none 0 0) := fun y => blk_cell (y.blk bG) 4
  have d5 : ∀ y : Ext W2, y.w.cell? ⟨B2, 5, none⟩ = some (.int .i64 1) := fun y => blk_cell (y.blk bG) 5
  have d6 : ∀ y : Ext W2, y.w.cell? ⟨B2, 6, none⟩ = some (.int .i64 0) := fun y => blk_cell (y.blk bG) 6
  have d7 : ∀ y : Ext W2, y.w.cell? ⟨B2, 7, none⟩ = some (.slice none 0 0) := fun y => blk_cell (y.blk bG) 7
  have d8 : ∀ y : Ext W2, y.w.cell? ⟨B2, 8, none⟩ = some (.slice none 0 0) := fun y => blk_cell (y.blk bG) 8
  go_wp2_with fail
  have C := markSession_ans (own2.ext zz) sm2 1 (by omega) (by omega)
  unfold sessV at C
  refine Calls.mono C ?_
  clear d0 d1 d2 d3 d4 d5 d6 d7 d8
  clear C
  rintro e M ⟨rfl, on, kM⟩
  have bZ : Below W1.heap.size W1 zz.w := bel2.trans (zz.below.mono bel2.size)
  have belM : Below W1.heap.size W1 M := bZ.trans (on.below hlo bZ.size)
  have bM := (on.block B2 (by have := zz.size; omega) (fun e => by have := hlt B2 e; omega)).trans (zz.blk bG)
  clear on own2 bZ bG zz k2 hz2 z2
  have g0 : ∀ y : Ext M, y.w.cell? ⟨B2, 0, none⟩ = some (.int .i64 s.n) := fun y => blk_cell (y.blk bM) 0
  have g1 : ∀ y : Ext M, y.w.cell? ⟨B2, 1, none⟩ = some (.slice r2.pa s.plus.length r2.pc) := fun y => blk_cell (y.blk bM) 1
  have g2 : ∀ y : Ext M, y.w.cell? ⟨B2, 2, none⟩ = some (.slice r2.ta s.times.length r2.tc) := fun y => blk_cell (y.blk bM) 2
  have g3 : ∀ y : Ext M, y.w.cell? ⟨B2, 3, none⟩ = some (.slice r2.ba s.below.length r2.bc) := fun y => blk_cell (y.blk bM) 3
  have g4 : ∀ y : Ext M, y.w.cell? ⟨B2, 4, none⟩ = some (.slice none 0 0) := fun y => blk_cell (y.blk bM) 4
  have g5 : ∀ y : Ext M, y.w.cell? ⟨B2, 5, none⟩ = some (.int .i64 1) := fun y => blk_cell (y.blk bM) 5
  have g6 : ∀ y : Ext M, y.w.cell? ⟨B2, 6, none⟩ = some (.int .i64 0) := fun y => blk_cell (y.blk bM) 6
  have g7 : ∀ y : Ext M, y.w.cell? ⟨B2, 7, none⟩ = some (.slice none 0 0) := fun y => blk_cell (y.blk bM) 7
  have g8 : ∀ y : Ext M, y.w.cell? ⟨B2, 8, none⟩ = some (.slice none 0 0) := fun y => blk_cell (y.blk bM) 8
  have q0 : ∀ y : Ext M, y.w.cell? ⟨B1, 0, none⟩ = some (.int .i64 s.n) := fun y => c0 ⟨y.w, belM.trans (y.below.mono belM.size)⟩
  have q1 : ∀ y : Ext M, y.w.cell? ⟨B1, 1, none⟩ = some (.slice ra.pa s.plus.length ra.pc) := fun y => c1 ⟨y.w, belM.trans (y.below.mono belM.size)⟩
  have q2 : ∀ y : Ext M, y.w.cell? ⟨B1, 2, none⟩ = some (.slice ra.ta s.times.length ra.tc) := fun y => c2 ⟨y.w, belM.trans (y.below.mono belM.size)⟩
  have q3 : ∀ y : Ext M, y.w.cell? ⟨B1, 3, none⟩ = some (.slice ra.ba s.below.length ra.bc) := fun y => c3 ⟨y.w, belM.trans (y.below.mono belM.size)⟩
  have q4 : ∀ y : Ext M, y.w.cell? ⟨B1, 4, none⟩ = some (.slice none 0 0) := fun y => c4 ⟨y.w, belM.trans (y.below.mono belM.size)⟩
  have q5 : ∀ y : Ext M, y.w.cell? ⟨B1, 5, none⟩ = some (.int .i64 1) := fun y => c5 ⟨y.w, belM.trans (y.below.mono belM.size)⟩
  have q6 : ∀ y : Ext M, y.w.cell? ⟨B1, 6, none⟩ = some (.int .i64 0) := fun y => c6 ⟨y.w, belM.trans (y.below.mono belM.size)⟩
  have q7 : ∀ y : Ext M, y.w.cell? ⟨B1, 7, none⟩ = some (.slice none 0 0) := fun y => c7 ⟨y.w, belM.trans (y.below.mono belM.size)⟩
  have q8 : ∀ y : Ext M, y.w.cell? ⟨B1, 8, none⟩ = some (.slice none 0 0) := fun y => c8 ⟨y.w, belM.trans (y.below.mono belM.size)⟩
  have kq : SysIn M ra s := k1.ext ⟨M, belM⟩
  have HELD : ∀ y : Ext M, Calls Try.prog 17 #[.agg #[.int .i64 s.n, .slice r2.pa s.plus.length r2.pc, .slice r2.ta s.times.length r2.tc, .slice r2.ba s.below.length r2.bc, .slice none 0 0, .int .i64 1, .int .i64 0, .slice none 0 0, .slice none 0 0], .int .i64 1] y.w (Ans M (.int .i64 (1 + s.plus.length + s.times.length + s.below.length))) := fun y => by have := heldSession_ans kM sm2 (by omega) (by omega) y; unfold sessV at this; exact this
  have hbackM : ∀ z : Ext M, ∃ u : Ext W, z.w = u.w := fun z => hback1 ⟨z.w, belM.trans (z.below.mono belM.size)⟩
  clear c0 c1 c2 c3 c4 c5 c6 c7 c8
  clear k1 bM belM hback1
  obtain ⟨mm, hmm⟩ : ∃ y : Ext M, y.w = M := ⟨Ext.self M, rfl⟩
  rw [← hmm]
  clear hmm
  have hnn : (0 : Int) ≤ 1 + s.plus.length + s.times.length + s.below.length := by omega
  generalize (1 + (s.plus.length : Int) + s.times.length + s.below.length) = K at *
  have hnn2 : ¬ K < 0 := by omega
  go_wp2_with fail
  refine Calls.mono (HELD _) ?_
  rintro e w' ⟨rfl, mm, rfl⟩
  go_wp2_with fail
  refine Calls.mono (newSession_ans s HS.out mm) ?_
  rintro e w' ⟨r3, NC, y3, rfl, rfl, own, hlo3⟩
  unfold sessV
  have dx0 := fun o => q0 (y3.alloc o)
  have dx1 := fun o => q1 (y3.alloc o)
  have dx2 := fun o => q2 (y3.alloc o)
  have dx3 := fun o => q3 (y3.alloc o)
  have dx4 := fun o => q4 (y3.alloc o)
  have dx5 := fun o => q5 (y3.alloc o)
  have dx6 := fun o => q6 (y3.alloc o)
  have dx7 := fun o => q7 (y3.alloc o)
  have dx8 := fun o => q8 (y3.alloc o)
  dsimp only at dx0 dx1 dx2 dx3 dx4 dx5 dx6 dx7 dx8
  go_wp2_with fail
  clear dx0 dx1 dx2 dx3 dx4 dx5 dx6 dx7 dx8
  generalize hW : y3.w.alloc _ = W3
  have own3 : SysOwn W3 s r3 NC := by rw [← hW]; exact own.ext ((Ext.self y3.w).alloc _)
  obtain ⟨z3, hz3⟩ : ∃ z : Ext M, z.w = W3 := ⟨y3.alloc _, hW⟩
  clear hW
  have k3 : SysIn W3 ra s := by rw [← hz3]; exact kq.ext z3
  have C := eqSession_ans (own3.tm (fun g _ => Nat.zero_le g)) k3 sm (Ext.self W3)
  unfold sessV at C
  refine Calls.mono C ?_
  clear C
  rintro e w' ⟨rfl, zz, rfl⟩
  obtain ⟨mz, hmz⟩ : ∃ mz : Ext M, zz.w = mz.w := ⟨⟨zz.w, by have := z3.below; rw [hz3] at this; exact this.trans (zz.below.mono this.size)⟩, rfl⟩
  rw [hmz]
  clear hmz own own3 k3
  go_wp2_with fail
  refine Calls.mono (HELD _) ?_
  rintro e w' ⟨rfl, mm, rfl⟩
  go_wp2_with fail
  go_ret
  exact law_end (hbackM mm)

end Go.Proofs.Yteffcfaoganciaa
