
/- The model's CountSystem and BoundSystem. -/
import Derived.Test.YteffcfaoganciaaKNumModelA
import Derived.Test.YteffcfaoganciaaKNumModelB
set_option linter.unusedVariables false
set_option linter.unusedSimpArgs false
namespace Go.Proofs.Yteffcfaoganciaa
open Go.RowKit

/-- The systems of numbers. -/
def sumF (n : Int) (a b : Nat) : Int := min ((a : Int) + b) (n + 1)
def mulF (n : Int) (a b : Nat) : Int := min ((a : Int) * b) (n + 1)
def countF (n : Int) (a b : Nat) : Bool := decide (a = b) || decide ((b : Int) = n + 1)
def boundF (a b : Nat) : Bool := decide (a ≤ b)
/-- What CountSystem, BoundSystem answer. -/
def NumS (F : Int → Nat → Nat → Bool) (n : Int) (s : Sys) : Prop := (∃ m : Nat, n = m ∧ 1 ≤ m ∧ m ≤ 14 ∧ s = ⟨(m + 2 : Nat), grid (m + 2) (sumF n), grid (m + 2) (mulF n), grid (m + 2) (F n)⟩) ∨ ((n < 1 ∨ 14 < n) ∧ s = ⟨0, [], [], []⟩)
theorem numS_ex (F : Int → Nat → Nat → Bool) (n : Int) : ∃ s, NumS F n s := by
  by_cases h : 1 ≤ n ∧ n ≤ 14
  · exact ⟨_, .inl ⟨n.toNat, by omega, by omega, by omega, rfl⟩⟩
  · exact ⟨_, .inr ⟨by omega, rfl⟩⟩
theorem numS_small {F : Int → Nat → Nat → Bool} {n : Int} {s : Sys} (h : NumS F n s) : s.plus.length ≤ 256 ∧ s.times.length ≤ 256 ∧ s.below.length ≤ 256 := by
  rcases h with ⟨m, rfl, h1, h2, rfl⟩ | ⟨_, rfl⟩
  · have := Nat.mul_le_mul (show m + 2 ≤ 16 by omega) (show m + 2 ≤ 16 by omega)
    simp only [grid_len]
    omega
  · simp

set_option maxHeartbeats 4000000 in
theorem specCount_in {W : World} (m : Nat) (h1 : 1 ≤ m) (h14 : m ≤ 14) (x : Ext W) : Calls Try.prog 31 #[.int .i64 m] x.w (NewSysA W ⟨(m + 2 : Nat), grid (m + 2) (sumF m), grid (m + 2) (mulF m), grid (m + 2) (countF m)⟩) := by
  go_enter Try.func31, Try.ntmps31
  go_wp2_with fail
  have hxW := x.size
  generalize hY : x.w.alloc _ = Y
  have bA := new_blk hY
  have belA : Below W.heap.size W Y := by rw [← hY]; exact x.below.alloc x.size _
  generalize x.w.heap.size = B at *
  clear hY
  refine Calls.mono (l1Numbers_in m h1 h14 false (sumF m) (mulF m) (countF m) (fun _ _ => rfl) (fun _ _ => rfl) (fun a b _ _ => by simp [countF]) (Ext.self Y)) ?_
  rintro e w' ⟨r, y, rfl, rfl, slo, si⟩
  have bA' := y.blk bA
  have n0 := blk_cell bA' 0
  have n1 := blk_cell bA' 1
  have n2 := blk_cell bA' 2
  have n3 := blk_cell bA' 3
  have p0 := blk_free bA' 0
  have p1 := blk_free bA' 1
  have p2 := blk_free bA' 2
  have p3 := blk_free bA' 3
  simp at n0 n1 n2 n3
  go_wp2
  clear n0 n1 n2 n3 p0 p1 p2 p3
  generalize hY4 : World.setCell _ _ _ = Y4
  obtain ⟨belD, hsame, hgr, r0, r1, r2, r3⟩ := ret4 (belA.trans (y.below.mono belA.size)) hxW bA' hY4
  have hBY : B < Y.heap.size := (Array.getElem?_eq_some_iff.1 bA).1
  have sj : SysIn Y4 r _ := si.keep hsame (fun p hp => by have := (slo p hp).1; omega)
  refine bodyPost_ret (v := r.val ⟨(m + 2 : Nat), grid (m + 2) (sumF m), grid (m + 2) (mulF m), grid (m + 2) (countF m)⟩) (by simp [Ref.val, results, Try.results31, go_sem, r0, r1, r2, r3]) rfl ?_
  exact ⟨r, ⟨Y4, belD⟩, rfl, rfl, fun p hp => ⟨by have := (slo p hp).1; have := belA.size; omega, (slo p hp).2.same (hsame _ (by have := (slo p hp).1; omega))⟩, sj⟩

set_option maxHeartbeats 4000000 in
theorem specCount_out {W : World} (n : Int) (hn : n < 1 ∨ 14 < n) (x : Ext W) : Calls Try.prog 31 #[.int .i64 n] x.w (NewSysA W ⟨0, [], [], []⟩) := by
  go_enter Try.func31, Try.ntmps31
  go_wp2_with fail
  have hxW := x.size
  generalize hY : x.w.alloc _ = Y
  have bA := new_blk hY
  have belA : Below W.heap.size W Y := by rw [← hY]; exact x.below.alloc x.size _
  generalize x.w.heap.size = B at *
  clear hY
  refine Calls.mono (l1Numbers_out n hn false (Ext.self Y)) ?_
  rintro e w' ⟨r, y, rfl, rfl, slo, si⟩
  have bA' := y.blk bA
  have n0 := blk_cell bA' 0
  have n1 := blk_cell bA' 1
  have n2 := blk_cell bA' 2
  have n3 := blk_cell bA' 3
  have p0 := blk_free bA' 0
  have p1 := blk_free bA' 1
  have p2 := blk_free bA' 2
  have p3 := blk_free bA' 3
  simp at n0 n1 n2 n3
  go_wp2
  clear n0 n1 n2 n3 p0 p1 p2 p3
  generalize hY4 : World.setCell _ _ _ = Y4
  obtain ⟨belD, hsame, hgr, r0, r1, r2, r3⟩ := ret4 (belA.trans (y.below.mono belA.size)) hxW bA' hY4
  have hBY : B < Y.heap.size := (Array.getElem?_eq_some_iff.1 bA).1
  have sj : SysIn Y4 r _ := si.keep hsame (fun p hp => by have := (slo p hp).1; omega)
  refine bodyPost_ret (v := r.val ⟨0, [], [], []⟩) (by simp [Ref.val, results, Try.results31, go_sem, r0, r1, r2, r3]) rfl ?_
  exact ⟨r, ⟨Y4, belD⟩, rfl, rfl, fun p hp => ⟨by have := (slo p hp).1; have := belA.size; omega, (slo p hp).2.same (hsame _ (by have := (slo p hp).1; omega))⟩, sj⟩

theorem specCount_ans {W : World} (n : Int) (s : Sys) (hs : NumS countF n s) (x : Ext W) : Calls Try.prog 31 #[.int .i64 n] x.w (NewSysA W s) := by
  rcases hs with ⟨m, rfl, h1, h2, rfl⟩ | ⟨hn, rfl⟩
  · exact specCount_in m h1 h2 x
  · exact specCount_out n hn x
end Go.Proofs.Yteffcfaoganciaa
