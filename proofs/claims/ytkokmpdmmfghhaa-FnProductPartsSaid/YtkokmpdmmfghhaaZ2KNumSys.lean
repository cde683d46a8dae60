/- The program's systems of counts: numberSystem. -/
import Derived.Test.YtkokmpdmmfghhaaZ2KNumClo
import Derived.Test.YtkokmpdmmfghhaaZ2KBuildC
set_option linter.unusedVariables false
set_option linter.unusedSimpArgs false
namespace Go.Proofs.Ytkokmpdmmfghhaa
open Go.RowKit

set_option maxHeartbeats 4000000 in
theorem numberCount {W : World} {mb : Nat} (n : Nat) (h1 : 1 ≤ n) (h14 : n ≤ 14) (hmb : ∀ y : Ext W, y.w.cell? ⟨mb, 0, none⟩ = some (.int .i64 ((n : Int) + 1))) (x : Ext W) :
    Calls Try.prog 95 #[.int .i64 n, (.func (.func 96) #[] #[.pointer (some ⟨mb, 0, none⟩)])] x.w (NewOwn W ⟨(n + 2 : Nat), grid (n + 2) (fun a b => min ((a : Int) + b) ((n : Int) + 1)), grid (n + 2) (fun a b => min ((a : Int) * b) ((n : Int) + 1)), grid (n + 2) (fun a b => decide (a = b) || decide ((b : Int) = (n : Int) + 1))⟩) := by
  have f1 : ¬ (n : Int) < 1 := by omega
  have f2 : ¬ (14 : Int) < (n : Int) := by omega
  go_enter Try.func95, Try.ntmps95
  go_wp2_with fail
  have hxW := x.size
  generalize hWa : (x.w.alloc _).alloc _ = Wa
  generalize hB : x.w.heap.size = B at *
  obtain ⟨bA, bM, sA, bel⟩ := blocks2 hB hWa
  have belA : Below W.heap.size W Wa := x.below.trans (bel.mono (by omega))
  clear hWa bel
  have hmc : ∀ y : Ext Wa, y.w.cell? ⟨B + 1, 0, none⟩ = some (.int .i64 ((n : Int) + 1)) := fun y => blk_cell (y.blk bM) 0
  have hmb2 : ∀ y : Ext Wa, y.w.cell? ⟨mb, 0, none⟩ = some (.int .i64 ((n : Int) + 1)) := fun y => hmb ⟨y.w, belA.trans (y.below.mono belA.size)⟩
  have C := buildCount (W := Wa) (n + 2) (by omega) (B + 1) mb (fun a b => min ((a : Int) + b) ((n : Int) + 1)) (fun a b => min ((a : Int) * b) ((n : Int) + 1)) (fun a b => decide (a = b) || decide ((b : Int) = (n : Int) + 1))
    (fun y a b ha hb => plusClo hmc a b (by omega) (by omega) y) (fun y a b ha hb => timesClo hmc a b (by omega) (by omega) y) (fun y a b ha hb => countClo hmb2 a b (by omega) (by omega) y) (Ext.self Wa)
  have hc : ((n + 2 : Nat) : Int) = (n : Int) + 1 + 1 := by omega
  rw [hc] at C
  refine Calls.mono C ?_
  rintro e w' ⟨r, y, rfl, rfl, own⟩
  clear C hmc hmb2
  have bA' := y.blk bA
  have n0 := blk_cell bA' 0
  have n1 := blk_cell bA' 1
  have n2 := blk_cell bA' 2
  have n3 := blk_cell bA' 3
  have p0 := blk_free bA' 0
  have p1 := blk_free bA' 1
  have p2 := blk_free bA' 2
  have p3 := blk_free bA' 3
  simp at n0 n1 n2 n3
  go_wp2
  clear n0 n1 n2 n3 p0 p1 p2 p3
  generalize hY1 : y.w.setCell _ _ = Y1
  generalize hY2 : Y1.setCell _ _ = Y2
  generalize hY3 : Y2.setCell _ _ = Y3
  generalize hY4 : Y3.setCell _ _ = Y4
  have q5 := set_blk (set_blk (set_blk (set_blk bA' 0 _ hY1) 1 _ hY2) 2 _ hY3) 3 _ hY4
  simp at q5
  have r0 := blk_cell q5 0
  have r1 := blk_cell q5 1
  have r2 := blk_cell q5 2
  have r3 := blk_cell q5 3
  simp at r0 r1 r2 r3
  have hsame : ∀ k, k ≠ B → Y4.heap[k]? = y.w.heap[k]? := fun k hk => by
    rw [set_other hY4 hk, set_other hY3 hk, set_other hY2 hk, set_other hY1 hk]
  have belD : Below W.heap.size W Y4 := by
    subst hY4; subst hY3; subst hY2; subst hY1
    exact ((((belA.trans (y.below.mono belA.size)).setCell hxW _).setCell hxW _).setCell hxW _).setCell hxW _
  have hgr : y.w.grownBy Y4 (some B) := by
    refine ⟨?_, ?_, ?_, ?_, fun k _ hk => hsame k (fun e => hk (by rw [e]))⟩
    · subst hY4; subst hY3; subst hY2; subst hY1; rfl
    · subst hY4; subst hY3; subst hY2; subst hY1; rfl
    · subst hY4; subst hY3; subst hY2; subst hY1; rfl
    · subst hY4; subst hY3; subst hY2; subst hY1; simp
  have a1 := own.o1.lt
  have a2 := own.o2.lt
  have a3 := own.o3.lt
  have o1 := own.o1.kept hgr (.inr (fun e => by have := a1 _ e; omega))
  have o2 := own.o2.kept hgr (.inr (fun e => by have := a2 _ e; omega))
  have o3 := own.o3.kept hgr (.inr (fun e => by have := a3 _ e; omega))
  have own2 := (Own3.mk o1 o2 o3 own.d12 own.d13 own.d23).lower belA.size
  refine bodyPost_ret (by simp [results, Try.results95, go_sem, r0, r1, r2, r3]; rfl) rfl ?_
  rw [hc]
  exact ⟨r, ⟨Y4, belD⟩, rfl, rfl, own2⟩

end Go.Proofs.Ytkokmpdmmfghhaa
