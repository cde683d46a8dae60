
/- The law of LevelSystem. -/
import Derived.Test.YtbfelekohdiddaaLawHead
import Derived.Test.YtbfelekohdiddaaLevelSys
namespace Go.Proofs.Ytbfelekohdiddaa
open Go.RowKit

set_option maxRecDepth 100000 in
set_option maxHeartbeats 16000000 in
theorem levelSystem_law {W : World} (n : Int) : Calls Try.prog 5 #[.int .i64 n] W (LawEnd W) := by
  obtain ⟨x, hx⟩ : ∃ x : Ext W, x.w = W := ⟨Ext.self W, rfl⟩
  suffices hs : Calls Try.prog 5 #[.int .i64 n] x.w (LawEnd W) by rw [hx] at hs; exact hs
  clear hx
  obtain ⟨s, hs⟩ := levS_ex n
  obtain ⟨l1, l2, l3⟩ := levS_small hs
  have sm : Small s := ⟨by omega, by omega, by omega⟩
  have HS := Lib.hid hs
  clear hs
  go_enter Try.func5, Try.ntmps5
  go_wp2_with fail
  refine Calls.mono (specLevel_ans n s HS.out x) ?_
  rintro e w' ⟨ra, y, rfl, rfl, _, ka⟩
  go_wp2_with fail
  generalize hW : y.w.alloc _ = W1
  generalize hB : y.w.heap.size = B1
  obtain ⟨c0, c1, c2, c3, k1, hback, yy, hy0⟩ := boxed ka (Ext.self y.w) hB hW
  have hback1 : ∀ z : Ext W1, ∃ u : Ext W, z.w = u.w := fun z => by obtain ⟨u, hu⟩ := hback z; exact ⟨y.trans u, hu⟩
  clear hback hW hB ka
  rw [← hy0]
  clear hy0
  refine Calls.mono (levelSystem_ans n s HS.out yy) ?_
  rintro e w' ⟨r2, y2, rfl, rfl, own⟩
  have dx0 := fun o => c0 (y2.alloc o)
  have dx1 := fun o => c1 (y2.alloc o)
  have dx2 := fun o => c2 (y2.alloc o)
  have dx3 := fun o => c3 (y2.alloc o)
  dsimp only at dx0 dx1 dx2 dx3
  go_wp2_with fail
  clear dx0 dx1 dx2 dx3
  have lt1 := own.o1.lt
  have lt2 := own.o2.lt
  have lt3 := own.o3.lt
  generalize hW : y2.w.alloc _ = W2
  have bG := new_blk hW
  have own2 : Own3 W2 W1.heap.size r2 s.plus.length s.times.length s.below.length (s.plus.map (Value.int .i64)) (s.times.map (Value.int .i64)) (s.below.map Value.bool) := by rw [← hW]; exact own.ext ((Ext.self y2.w).alloc _)
  have szW2 : y2.w.heap.size < W2.heap.size := (Array.getElem?_eq_some_iff.1 bG).1
  have hW12 : W1.heap.size ≤ y2.w.heap.size := y2.size
  generalize hB2 : y2.w.heap.size = B2 at *
  obtain ⟨d0, d1, d2, d3, k2, hb2, zz, hy0⟩ := boxed (own.sys sm) (Ext.self y2.w) hB2 hW
  have hbackW1 : ∀ z : Ext W2, ∃ u : Ext W1, z.w = u.w := fun z => by obtain ⟨u, hu⟩ := hb2 z; exact ⟨y2.trans u, hu⟩
  have f0 := lift_fact y2 hb2 c0
  have f1 := lift_fact y2 hb2 c1
  have f2 := lift_fact y2 hb2 c2
  have f3 := lift_fact y2 hb2 c3
  have k1' := lift_sys y2 hb2 ⟨zz, hy0⟩ k1
  clear hW hB2 hb2 own
  rw [← hy0]
  clear hy0
  refine Calls.mono (eqSystem_ans k2 k1' sm true (by simp) zz) ?_
  rintro e w' ⟨rfl, zz, rfl⟩
  go_wp2_with fail
  have szz := zz.size
  refine Calls.mono (markSystem_ans (own2.ext zz) (by omega) s.n (by omega) (by omega) (by omega) 1 (by omega) (by omega)) ?_
  rintro e M ⟨rfl, own3, belm, onlym⟩
  obtain ⟨uz, huz⟩ := hbackW1 zz
  have belM : Below W1.heap.size W1 M := by have := uz.below; rw [← huz] at this; exact this.trans belm
  have bM : M.heap[B2]? = some (.cells #[.int .i64 s.n, .slice r2.pa s.plus.length r2.pc, .slice r2.ta s.times.length r2.tc, .slice r2.ba s.below.length r2.bc] 25 (0, 0)) := by
    rw [onlym.block B2 (by omega) (fun q => by
      rcases q with q | q | q
      · have := (lt1 B2 (by rw [ob_eq]; exact q)).2; omega
      · have := (lt2 B2 (by rw [ob_eq]; exact q)).2; omega
      · have := (lt3 B2 (by rw [ob_eq]; exact q)).2; omega)]
    exact zz.blk bG
  have kM := own3.marked sm
  have HELD : ∀ y : Ext M, Calls Try.prog 12 #[r2.val s, .int .i64 1] y.w (Ans M (.int .i64 (1 + s.plus.length + s.times.length + s.below.length))) := fun y => heldMarked_ans kM (by omega) (by omega) (by omega) (by omega) (by omega) y
  unfold Ref.val at HELD
  have hbackM : ∀ z : Ext M, ∃ u : Ext W1, z.w = u.w := fun z => ⟨⟨z.w, belM.trans (z.below.mono belM.size)⟩, rfl⟩
  have g0 : ∀ y : Ext M, y.w.cell? ⟨B2, 0, none⟩ = some (.int .i64 s.n) := fun y => blk_cell (y.blk bM) 0
  have g1 : ∀ y : Ext M, y.w.cell? ⟨B2, 1, none⟩ = some (.slice r2.pa s.plus.length r2.pc) := fun y => blk_cell (y.blk bM) 1
  have g2 : ∀ y : Ext M, y.w.cell? ⟨B2, 2, none⟩ = some (.slice r2.ta s.times.length r2.tc) := fun y => blk_cell (y.blk bM) 2
  have g3 : ∀ y : Ext M, y.w.cell? ⟨B2, 3, none⟩ = some (.slice r2.ba s.below.length r2.bc) := fun y => blk_cell (y.blk bM) 3
  have q0 : ∀ y : Ext M, y.w.cell? ⟨B1, 0, none⟩ = some (.int .i64 s.n) := fun y => by obtain ⟨u, hu⟩ := hbackM y; rw [hu]; exact c0 u
  have q1 : ∀ y : Ext M, y.w.cell? ⟨B1, 1, none⟩ = some (.slice ra.pa s.plus.length ra.pc) := fun y => by obtain ⟨u, hu⟩ := hbackM y; rw [hu]; exact c1 u
  have q2 : ∀ y : Ext M, y.w.cell? ⟨B1, 2, none⟩ = some (.slice ra.ta s.times.length ra.tc) := fun y => by obtain ⟨u, hu⟩ := hbackM y; rw [hu]; exact c2 u
  have q3 : ∀ y : Ext M, y.w.cell? ⟨B1, 3, none⟩ = some (.slice ra.ba s.below.length ra.bc) := fun y => by obtain ⟨u, hu⟩ := hbackM y; rw [hu]; exact c3 u
  have kq : SysIn M ra s := by obtain ⟨u, hu⟩ := hbackM (Ext.self M); have := k1.ext u; rw [← hu] at this; exact this
  clear c0 c1 c2 c3 d0 d1 d2 d3 f0 f1 f2 f3 k1 k1' k2 own2 own3 belm onlym bG kM lt1 lt2 lt3 szz hbackW1
  obtain ⟨mm, hmm⟩ : ∃ y : Ext M, y.w = M := ⟨Ext.self M, rfl⟩
  rw [← hmm]
  clear hmm huz
  go_wp2_with fail
  refine Calls.mono (HELD _) ?_
  rintro e w' ⟨rfl, mm, rfl⟩
  go_wp2_with fail
  refine Calls.mono (levelSystem_ans n s HS.out mm) ?_
  rintro e w' ⟨r3, y3, rfl, rfl, own⟩
  have dx0 := fun o => q0 (y3.alloc o)
  have dx1 := fun o => q1 (y3.alloc o)
  have dx2 := fun o => q2 (y3.alloc o)
  have dx3 := fun o => q3 (y3.alloc o)
  dsimp only at dx0 dx1 dx2 dx3
  go_wp2_with fail
  clear dx0 dx1 dx2 dx3
  generalize hW : y3.w.alloc _ = W3
  generalize hB3 : y3.w.heap.size = B3
  obtain ⟨d0, d1, d2, d3, k3, hb3, zz, hy0⟩ := boxed (own.sys sm) (Ext.self y3.w) hB3 hW
  have kq := lift_sys y3 hb3 ⟨zz, hy0⟩ kq
  have hbackZ : ∀ z : Ext W3, ∃ u : Ext M, z.w = u.w := fun z => by obtain ⟨u, hu⟩ := hb3 z; exact ⟨y3.trans u, hu⟩
  clear hW hB3 hb3
  rw [← hy0]
  clear hy0
  refine Calls.mono (eqSystem_ans k3 kq sm true (by simp) zz) ?_
  rintro e w' ⟨rfl, zz, rfl⟩
  clear d0 d1 d2 d3
  obtain ⟨mz, hmz⟩ := hbackZ zz
  rw [hmz]
  clear hmz
  go_wp2_with fail
  refine Calls.mono (HELD _) ?_
  rintro e w' ⟨rfl, mm, rfl⟩
  go_wp2_with fail
  go_ret
  obtain ⟨u1, hu1⟩ := hbackM mm
  obtain ⟨u2, hu2⟩ := hback1 u1
  exact law_end ⟨u2, by rw [hu1, hu2]⟩

end Go.Proofs.Ytbfelekohdiddaa
