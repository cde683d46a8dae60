
/- The program's system of bounds. -/
import Derived.Test.YtkokmpdmmfghhaaKNumClo
import Derived.Test.YtkokmpdmmfghhaaKBuildB
import Derived.Test.YtkokmpdmmfghhaaKNumSpec
namespace Go.Proofs.Ytkokmpdmmfghhaa
open Go.RowKit

theorem boundClo {W : World} (a b : Nat) (_ : a ≤ 16) (_ : b ≤ 16) (y : Ext W) :
    Calls Try.prog 110 #[.int .i64 a, .int .i64 b] y.w (fun e w' => e = .returned (.bool (boundF a b)) ∧ w' = y.w) := by
  unfold boundF
  go_enter Try.func110, Try.ntmps110
  go_wp2
  go_ret
  exact ⟨rfl, rfl⟩

set_option maxHeartbeats 4000000 in
theorem numberBound {W : World} (n : Nat) (h1 : 1 ≤ n) (h14 : n ≤ 14) (x : Ext W) :
    Calls Try.prog 95 #[.int .i64 n, (.func (.func 110) #[] #[])] x.w (NewOwn W ⟨(n + 2 : Nat), grid (n + 2) (sumF n), grid (n + 2) (mulF n), grid (n + 2) boundF⟩) := by
  have f1 : ¬ (n : Int) < 1 := by omega
  have f2 : ¬ (14 : Int) < (n : Int) := by omega
  go_enter Try.func95, Try.ntmps95
  go_wp2_with fail
  have hxW := x.size
  generalize hWa : (x.w.alloc _).alloc _ = Wa
  generalize hB : x.w.heap.size = B at *
  obtain ⟨bA, bM, sA, bel⟩ := blocks2 hB hWa
  have belA : Below W.heap.size W Wa := x.below.trans (bel.mono (by omega))
  clear hWa bel
  have hmc : ∀ y : Ext Wa, y.w.cell? ⟨B + 1, 0, none⟩ = some (.int .i64 ((n : Int) + 1)) := fun y => blk_cell (y.blk bM) 0
  have C := buildBound (W := Wa) (n + 2) (by omega) (B + 1) (sumF n) (mulF n) boundF
    (fun y a b ha hb => plusClo hmc a b (by omega) (by omega) y) (fun y a b ha hb => timesClo hmc a b (by omega) (by omega) y) (fun y a b ha hb => boundClo a b (by omega) (by omega) y) (Ext.self Wa)
  have hc : ((n + 2 : Nat) : Int) = (n : Int) + 1 + 1 := by omega
  rw [hc] at C
  refine Calls.mono C ?_
  rintro e w' ⟨r, y, rfl, rfl, own⟩
  clear C hmc
  have bA' := y.blk bA
  have n0 := blk_cell bA' 0
  have n1 := blk_cell bA' 1
  have n2 := blk_cell bA' 2
  have n3 := blk_cell bA' 3
  have p0 := blk_free bA' 0
  have p1 := blk_free bA' 1
  have p2 := blk_free bA' 2
  have p3 := blk_free bA' 3
  simp at n0 n1 n2 n3
  go_wp2
  clear n0 n1 n2 n3 p0 p1 p2 p3
  generalize hY1 : y.w.setCell _ _ = Y1
  generalize hY2 : Y1.setCell _ _ = Y2
  generalize hY3 : Y2.setCell _ _ = Y3
  generalize hY4 : Y3.setCell _ _ = Y4
  have q5 := set_blk (set_blk (set_blk (set_blk bA' 0 _ hY1) 1 _ hY2) 2 _ hY3) 3 _ hY4
  simp at q5
  have r0 := blk_cell q5 0
  have r1 := blk_cell q5 1
  have r2 := blk_cell q5 2
  have r3 := blk_cell q5 3
  simp at r0 r1 r2 r3
  have hsame : ∀ k, k ≠ B → Y4.heap[k]? = y.w.heap[k]? := fun k hk => by
    rw [set_other hY4 hk, set_other hY3 hk, set_other hY2 hk, set_other hY1 hk]
  have belD : Below W.heap.size W Y4 := by
    subst hY4; subst hY3; subst hY2; subst hY1
    exact ((((belA.trans (y.below.mono belA.size)).setCell hxW _).setCell hxW _).setCell hxW _).setCell hxW _
  have hgr : y.w.grownBy Y4 (some B) := by
    refine ⟨?_, ?_, ?_, ?_, fun k _ hk => hsame k (fun e => hk (by rw [e]))⟩
    · subst hY4; subst hY3; subst hY2; subst hY1; rfl
    · subst hY4; subst hY3; subst hY2; subst hY1; rfl
    · subst hY4; subst hY3; subst hY2; subst hY1; rfl
    · subst hY4; subst hY3; subst hY2; subst hY1; simp
  have a1 := own.o1.lt
  have a2 := own.o2.lt
  have a3 := own.o3.lt
  have o1 := own.o1.kept hgr (.inr (fun e => by have := a1 _ e; omega))
  have o2 := own.o2.kept hgr (.inr (fun e => by have := a2 _ e; omega))
  have o3 := own.o3.kept hgr (.inr (fun e => by have := a3 _ e; omega))
  have own2 := (Own3.mk o1 o2 o3 own.d12 own.d13 own.d23).lower belA.size
  refine bodyPost_ret (by simp [results, Try.results95, go_sem, r0, r1, r2, r3]; rfl) rfl ?_
  rw [hc]
  exact ⟨r, ⟨Y4, belD⟩, rfl, rfl, own2⟩

set_option maxHeartbeats 4000000 in
theorem numberZeroB {W : World} (n : Int) (h : n < 1 ∨ 14 < n) (x : Ext W) :
    Calls Try.prog 95 #[.int .i64 n, (.func (.func 110) #[] #[])] x.w (NewOwn W ⟨0, [], [], []⟩) := by
  rcases h with f1 | f2
  · go_enter Try.func95, Try.ntmps95
    go_wp2
    generalize hY : x.w.alloc _ = Y
    have q2 : Y.heap[x.w.heap.size]? = some (.cells #[.int .i64 0, .slice none 0 0, .slice none 0 0, .slice none 0 0] 27 (0, 0)) := by
      subst hY
      show (x.w.heap.push _)[x.w.heap.size]? = _
      rw [Array.getElem?_push, if_pos rfl]
    have r0 := blk_cell q2 0
    have r1 := blk_cell q2 1
    have r2 := blk_cell q2 2
    have r3 := blk_cell q2 3
    simp at r0 r1 r2 r3
    refine bodyPost_ret (v := .agg #[.int .i64 0, .slice none 0 0, .slice none 0 0, .slice none 0 0]) (by simp [results, Try.results95, go_sem, r0, r1, r2, r3]) rfl ?_
    exact ⟨⟨none, none, none, 0, 0, 0⟩, ⟨Y, by rw [← hY]; exact x.below.alloc x.size _⟩, rfl, rfl, ⟨World.ownsRow_nil _ _ _ _, World.ownsRow_nil _ _ _ _, World.ownsRow_nil _ _ _ _, .inl rfl, .inl rfl, .inl rfl⟩⟩
  · have f1 : ¬ n < 1 := by omega
    go_enter Try.func95, Try.ntmps95
    go_wp2
    generalize hY : x.w.alloc _ = Y
    have q2 : Y.heap[x.w.heap.size]? = some (.cells #[.int .i64 0, .slice none 0 0, .slice none 0 0, .slice none 0 0] 27 (0, 0)) := by
      subst hY
      show (x.w.heap.push _)[x.w.heap.size]? = _
      rw [Array.getElem?_push, if_pos rfl]
    have r0 := blk_cell q2 0
    have r1 := blk_cell q2 1
    have r2 := blk_cell q2 2
    have r3 := blk_cell q2 3
    simp at r0 r1 r2 r3
    refine bodyPost_ret (v := .agg #[.int .i64 0, .slice none 0 0, .slice none 0 0, .slice none 0 0]) (by simp [results, Try.results95, go_sem, r0, r1, r2, r3]) rfl ?_
    exact ⟨⟨none, none, none, 0, 0, 0⟩, ⟨Y, by rw [← hY]; exact x.below.alloc x.size _⟩, rfl, rfl, ⟨World.ownsRow_nil _ _ _ _, World.ownsRow_nil _ _ _ _, World.ownsRow_nil _ _ _ _, .inl rfl, .inl rfl, .inl rfl⟩⟩


set_option maxHeartbeats 4000000 in
theorem boundSystem_in {W : World} (m : Nat) (h1 : 1 ≤ m) (h14 : m ≤ 14) (x : Ext W) : Calls Try.prog 39 #[.int .i64 m] x.w (NewOwn W ⟨(m + 2 : Nat), grid (m + 2) (sumF m), grid (m + 2) (mulF m), grid (m + 2) boundF⟩) := by
  go_enter Try.func39, Try.ntmps39
  go_wp2_with fail
  have hxW := x.size
  generalize hY : x.w.alloc _ = Y
  have bA := new_blk hY
  have belA : Below W.heap.size W Y := by rw [← hY]; exact x.below.alloc x.size _
  generalize x.w.heap.size = B at *
  clear hY
  refine Calls.mono (numberBound m h1 h14 (Ext.self Y)) ?_
  rintro e w' ⟨r, y, rfl, rfl, si⟩
  have bA' := y.blk bA
  have n0 := blk_cell bA' 0
  have n1 := blk_cell bA' 1
  have n2 := blk_cell bA' 2
  have n3 := blk_cell bA' 3
  have p0 := blk_free bA' 0
  have p1 := blk_free bA' 1
  have p2 := blk_free bA' 2
  have p3 := blk_free bA' 3
  simp at n0 n1 n2 n3
  go_wp2
  clear n0 n1 n2 n3 p0 p1 p2 p3
  generalize hY4 : World.setCell _ _ _ = Y4
  obtain ⟨belD, hsame, hgr, r0, r1, r2, r3⟩ := ret4 (belA.trans (y.below.mono belA.size)) hxW bA' hY4
  have hBY : B < Y.heap.size := (Array.getElem?_eq_some_iff.1 bA).1
  have a1 := si.o1.lt
  have a2 := si.o2.lt
  have a3 := si.o3.lt
  have o1 := si.o1.kept hgr (.inr (fun e => by have := a1 _ e; omega))
  have o2 := si.o2.kept hgr (.inr (fun e => by have := a2 _ e; omega))
  have o3 := si.o3.kept hgr (.inr (fun e => by have := a3 _ e; omega))
  have sj := (Own3.mk o1 o2 o3 si.d12 si.d13 si.d23).lower belA.size
  refine bodyPost_ret (v := r.val ⟨(m + 2 : Nat), grid (m + 2) (sumF m), grid (m + 2) (mulF m), grid (m + 2) boundF⟩) (by simp [Ref.val, results, Try.results39, go_sem, r0, r1, r2, r3]) rfl ?_
  exact ⟨r, ⟨Y4, belD⟩, rfl, rfl, sj⟩

set_option maxHeartbeats 4000000 in
theorem boundSystem_out {W : World} (n : Int) (hn : n < 1 ∨ 14 < n) (x : Ext W) : Calls Try.prog 39 #[.int .i64 n] x.w (NewOwn W ⟨0, [], [], []⟩) := by
  go_enter Try.func39, Try.ntmps39
  go_wp2_with fail
  have hxW := x.size
  generalize hY : x.w.alloc _ = Y
  have bA := new_blk hY
  have belA : Below W.heap.size W Y := by rw [← hY]; exact x.below.alloc x.size _
  generalize x.w.heap.size = B at *
  clear hY
  refine Calls.mono (numberZeroB n hn (Ext.self Y)) ?_
  rintro e w' ⟨r, y, rfl, rfl, si⟩
  have bA' := y.blk bA
  have n0 := blk_cell bA' 0
  have n1 := blk_cell bA' 1
  have n2 := blk_cell bA' 2
  have n3 := blk_cell bA' 3
  have p0 := blk_free bA' 0
  have p1 := blk_free bA' 1
  have p2 := blk_free bA' 2
  have p3 := blk_free bA' 3
  simp at n0 n1 n2 n3
  go_wp2
  clear n0 n1 n2 n3 p0 p1 p2 p3
  generalize hY4 : World.setCell _ _ _ = Y4
  obtain ⟨belD, hsame, hgr, r0, r1, r2, r3⟩ := ret4 (belA.trans (y.below.mono belA.size)) hxW bA' hY4
  have hBY : B < Y.heap.size := (Array.getElem?_eq_some_iff.1 bA).1
  have a1 := si.o1.lt
  have a2 := si.o2.lt
  have a3 := si.o3.lt
  have o1 := si.o1.kept hgr (.inr (fun e => by have := a1 _ e; omega))
  have o2 := si.o2.kept hgr (.inr (fun e => by have := a2 _ e; omega))
  have o3 := si.o3.kept hgr (.inr (fun e => by have := a3 _ e; omega))
  have sj := (Own3.mk o1 o2 o3 si.d12 si.d13 si.d23).lower belA.size
  refine bodyPost_ret (v := r.val ⟨0, [], [], []⟩) (by simp [Ref.val, results, Try.results39, go_sem, r0, r1, r2, r3]) rfl ?_
  exact ⟨r, ⟨Y4, belD⟩, rfl, rfl, sj⟩

theorem boundSystem_ans {W : World} (n : Int) (s : Sys) (hs : NumS (fun _ => boundF) n s) (x : Ext W) : Calls Try.prog 39 #[.int .i64 n] x.w (NewOwn W s) := by
  rcases hs with ⟨m, rfl, h1, h2, rfl⟩ | ⟨hn, rfl⟩
  · exact boundSystem_in m h1 h2 x
  · exact boundSystem_out n hn x

end Go.Proofs.Ytkokmpdmmfghhaa
