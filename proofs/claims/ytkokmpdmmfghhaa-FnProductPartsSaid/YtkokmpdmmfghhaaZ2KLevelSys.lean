/- The systems of levels of the program and of the model. -/
import Derived.Test.YtkokmpdmmfghhaaZ2KLevelModel
import Derived.Test.YtkokmpdmmfghhaaZ2KBuildL
import Derived.Laws.EntriesVeiled
set_option linter.unusedVariables false
set_option linter.unusedSimpArgs false
namespace Go.Proofs.Ytkokmpdmmfghhaa
open Go.RowKit

set_option maxHeartbeats 4000000 in
theorem levelSystem_in {W : World} (m : Nat) (h1 : 1 ≤ m) (h15 : m ≤ 15) (x : Ext W) :
    Calls Try.prog 23 #[.int .i64 m] x.w (NewOwn W ⟨(m + 1 : Nat), grid (m + 1) (highF m), grid (m + 1) (lowF m), grid (m + 1) (leF m)⟩) := by
  have f1 : ¬ (m : Int) < 1 := by omega
  have f2 : ¬ (15 : Int) < (m : Int) := by omega
  go_enter Try.func23, Try.ntmps23
  go_wp2_with fail
  have hxW := x.size
  generalize hWa : ((x.w.alloc _).alloc _).alloc _ = Wa
  generalize hB : x.w.heap.size = B at *
  obtain ⟨bN, bA, bP, sA, bel⟩ := blocks3 hB hWa
  have belA : Below W.heap.size W Wa := x.below.trans (bel.mono (by omega))
  clear hWa bel
  have hn : ∀ y : Ext Wa, y.w.cell? ⟨B, 0, none⟩ = some (.int .i64 (m : Int)) := fun y => blk_cell (y.blk bN) 0
  have hp : ∀ y : Ext Wa, y.w.cell? ⟨B + 1 + 1, 0, none⟩ = some (.func (.func 72) #[] #[.pointer (some ⟨B, 0, none⟩)]) := fun y => blk_cell (y.blk bP) 0
  have C := buildLevel (W := Wa) (m + 1) (by omega) (B + 1 + 1) (highF m) (lowF m) (leF m) (fun y a b ha hb => highClo (W := y.w) (n := (m : Int)) ⟨by omega, by omega⟩ (fun z => hn (y.trans z)) (fun z => hp (y.trans z)) a b (by omega) (by omega) (Ext.self y.w))
    (fun y a b ha hb => lowClo (W := y.w) (n := (m : Int)) ⟨by omega, by omega⟩ (fun z => hn (y.trans z)) (fun z => hp (y.trans z)) a b (by omega) (by omega) (Ext.self y.w)) (fun y a b ha hb => belowClo (W := y.w) (n := (m : Int)) ⟨by omega, by omega⟩ (fun z => hn (y.trans z)) (fun z => hp (y.trans z)) a b (by omega) (by omega) (Ext.self y.w)) (Ext.self Wa)
  have hc : ((m + 1 : Nat) : Int) = (m : Int) + 1 := by omega
  rw [hc] at C
  refine Calls.mono C ?_
  rintro e w' ⟨r, y, rfl, rfl, own⟩
  clear C hn hp
  have bA' := y.blk bA
  have n0 := blk_cell bA' 0
  have n1 := blk_cell bA' 1
  have n2 := blk_cell bA' 2
  have n3 := blk_cell bA' 3
  have p0 := blk_free bA' 0
  have p1 := blk_free bA' 1
  have p2 := blk_free bA' 2
  have p3 := blk_free bA' 3
  simp at n0 n1 n2 n3
  go_wp2
  clear n0 n1 n2 n3 p0 p1 p2 p3
  generalize hY4 : World.setCell _ _ _ = Y4
  obtain ⟨belD, hsame, hgr, r0, r1, r2, r3⟩ := ret4 (belA.trans (y.below.mono belA.size)) (by omega) bA' hY4
  have a1 := own.o1.lt
  have a2 := own.o2.lt
  have a3 := own.o3.lt
  have o1 := own.o1.kept hgr (.inr (fun e => by have := a1 _ e; omega))
  have o2 := own.o2.kept hgr (.inr (fun e => by have := a2 _ e; omega))
  have o3 := own.o3.kept hgr (.inr (fun e => by have := a3 _ e; omega))
  have own2 := (Own3.mk o1 o2 o3 own.d12 own.d13 own.d23).lower belA.size
  rw [hc]
  refine bodyPost_ret (v := r.val ⟨(m : Int) + 1, grid (m + 1) (highF m), grid (m + 1) (lowF m), grid (m + 1) (leF m)⟩) (by simp [Ref.val, results, Try.results23, go_sem, r0, r1, r2, r3]) rfl ?_
  exact ⟨r, ⟨Y4, belD⟩, rfl, rfl, own2⟩

end Go.Proofs.Ytkokmpdmmfghhaa
