
/- The model's functions of one and two grades. -/
import Derived.Test.YteffcfaoganciaaKSysB
import Derived.Test.YteffcfaoganciaaKApiA
namespace Go.Proofs.Yteffcfaoganciaa
open Go.RowKit

set_option maxHeartbeats 1600000 in
theorem specIsGrade_ans {W : World} {r : Ref} {s : Sys} (h : SysIn W r s) (g : Int) (p : Bool) (hp : p = true ↔ IsSys s ∧ G s g) (x : Ext W) :
    Calls Try.prog 68 #[r.val s, .int .i64 g] x.w (Ans W (.bool p)) := by
  have HP := Lib.hid hp
  clear hp
  unfold Ref.val
  by_cases e0 : IsSys s
  · have h2 := e0.tab.lo
    have h16 := e0.tab.hi
    have E0 := Lib.hid e0
    clear e0
    by_cases e1 : 0 ≤ g ∧ g < s.n
    · have E1 := Lib.hid e1
      clear e1
      go_enter Try.func68, Try.ntmps68
      go_wp2_with fail
      generalize hW : x.w.alloc _ = W1
      generalize hB : x.w.heap.size = B
      obtain ⟨c0, c1, c2, c3, h1, hback, yy, hy0⟩ := boxed h x hB hW
      clear hW hB
      rw [← hy0]
      clear hy0
      (with_reducible refine Calls.mono (specIsSystem_ans h1 true (by refine iff_tf ?_; dsimp only; exact E0.out) _) ?_)
      rintro e w' ⟨rfl, yy, rfl⟩
      go_wp2_with fail
      (with_reducible refine Calls.mono (l1In_ans g 0 (s.n - 1) true (by refine iff_tf ?_; dsimp only; exact (by have := E1.out; omega)) _) ?_)
      rintro e w' ⟨rfl, yy, rfl⟩
      go_wp2_with fail
      go_ret
      exact fin_true HP ⟨E0.out, E1.out⟩ (hback yy)
    · have E1 := Lib.hid e1
      clear e1
      go_enter Try.func68, Try.ntmps68
      go_wp2_with fail
      generalize hW : x.w.alloc _ = W1
      generalize hB : x.w.heap.size = B
      obtain ⟨c0, c1, c2, c3, h1, hback, yy, hy0⟩ := boxed h x hB hW
      clear hW hB
      rw [← hy0]
      clear hy0
      (with_reducible refine Calls.mono (specIsSystem_ans h1 true (by refine iff_tf ?_; dsimp only; exact E0.out) _) ?_)
      rintro e w' ⟨rfl, yy, rfl⟩
      go_wp2_with fail
      (with_reducible refine Calls.mono (l1In_ans g 0 (s.n - 1) false (by refine iff_tf ?_; dsimp only; exact (by have := E1.out; omega)) _) ?_)
      rintro e w' ⟨rfl, yy, rfl⟩
      go_wp2_with fail
      go_ret
      exact fin_false HP (fun q => E1.out q.2) (hback yy)
  · have E0 := Lib.hid e0
    clear e0
    go_enter Try.func68, Try.ntmps68
    go_wp2_with fail
    generalize hW : x.w.alloc _ = W1
    generalize hB : x.w.heap.size = B
    obtain ⟨c0, c1, c2, c3, h1, hback, yy, hy0⟩ := boxed h x hB hW
    clear hW hB
    rw [← hy0]
    clear hy0
    (with_reducible refine Calls.mono (specIsSystem_ans h1 false (by refine iff_tf ?_; dsimp only; exact E0.out) _) ?_)
    rintro e w' ⟨rfl, yy, rfl⟩
    go_wp2_with fail
    go_ret
    exact fin_false HP (fun q => E0.out q.1) (hback yy)

set_option maxHeartbeats 1600000 in
theorem l1Both_ans {W : World} {r : Ref} {s : Sys} (h : SysIn W r s) (a b : Int) (p : Bool) (hp : p = true ↔ IsSys s ∧ G s a ∧ G s b) (x : Ext W) :
    Calls Try.prog 45 #[r.val s, .int .i64 a, .int .i64 b] x.w (Ans W (.bool p)) := by
  have HP := Lib.hid hp
  clear hp
  unfold Ref.val
  by_cases e0 : IsSys s ∧ G s a
  · have h2 := e0.1.tab.lo
    have h16 := e0.1.tab.hi
    have E0 := Lib.hid e0
    clear e0
    by_cases e1 : 0 ≤ b ∧ b < s.n
    · have E1 := Lib.hid e1
      clear e1
      go_enter Try.func45, Try.ntmps45
      go_wp2_with fail
      generalize hW : x.w.alloc _ = W1
      generalize hB : x.w.heap.size = B
      obtain ⟨c0, c1, c2, c3, h1, hback, yy, hy0⟩ := boxed h x hB hW
      clear hW hB
      rw [← hy0]
      clear hy0
      (with_reducible refine Calls.mono (specIsGrade_ans h1 a true (by simp only [true_iff]; exact E0.out) _) ?_)
      rintro e w' ⟨rfl, yy, rfl⟩
      go_wp2_with fail
      (with_reducible refine Calls.mono (l1In_ans b 0 (s.n - 1) true (by refine iff_tf ?_; dsimp only; exact (by have := E1.out; omega)) _) ?_)
      rintro e w' ⟨rfl, yy, rfl⟩
      go_wp2_with fail
      go_ret
      exact fin_true HP ⟨E0.out.1, E0.out.2, E1.out⟩ (hback yy)
    · have E1 := Lib.hid e1
      clear e1
      go_enter Try.func45, Try.ntmps45
      go_wp2_with fail
      generalize hW : x.w.alloc _ = W1
      generalize hB : x.w.heap.size = B
      obtain ⟨c0, c1, c2, c3, h1, hback, yy, hy0⟩ := boxed h x hB hW
      clear hW hB
      rw [← hy0]
      clear hy0
      (with_reducible refine Calls.mono (specIsGrade_ans h1 a true (by simp only [true_iff]; exact E0.out) _) ?_)
      rintro e w' ⟨rfl, yy, rfl⟩
      go_wp2_with fail
      (with_reducible refine Calls.mono (l1In_ans b 0 (s.n - 1) false (by refine iff_tf ?_; dsimp only; exact (by have := E1.out; omega)) _) ?_)
      rintro e w' ⟨rfl, yy, rfl⟩
      go_wp2_with fail
      go_ret
      exact fin_false HP (fun q => E1.out q.2.2) (hback yy)
  · have E0 := Lib.hid e0
    clear e0
    go_enter Try.func45, Try.ntmps45
    go_wp2_with fail
    generalize hW : x.w.alloc _ = W1
    generalize hB : x.w.heap.size = B
    obtain ⟨c0, c1, c2, c3, h1, hback, yy, hy0⟩ := boxed h x hB hW
    clear hW hB
    rw [← hy0]
    clear hy0
    (with_reducible refine Calls.mono (specIsGrade_ans h1 a false (by simp only [Bool.false_eq_true, false_iff]; exact E0.out) _) ?_)
    rintro e w' ⟨rfl, yy, rfl⟩
    go_wp2_with fail
    go_ret
    exact fin_false HP (fun q => E0.out ⟨q.1, q.2.1⟩) (hback yy)

set_option maxHeartbeats 1600000 in
theorem specIsBelow_ans {W : World} {r : Ref} {s : Sys} (h : SysIn W r s) (a b : Int) (p : Bool) (hp : p = true ↔ (IsSys s ∧ G s a ∧ G s b) ∧ s.le a b = true) (x : Ext W) :
    Calls Try.prog 21 #[r.val s, .int .i64 a, .int .i64 b] x.w (Ans W (.bool p)) := by
  have HP := Lib.hid hp
  clear hp
  unfold Ref.val
  by_cases e0 : IsSys s ∧ G s a ∧ G s b
  · obtain ⟨is, hGa, hGb⟩ := e0
    have t := is.tab
    have E0 := Lib.hid is
    clear is
    cases hle : s.le a b
    · have HL := Lib.hid hle
      go_enter Try.func21, Try.ntmps21
      go_wp2_with fail
      generalize hW : x.w.alloc _ = W1
      generalize hB : x.w.heap.size = B
      obtain ⟨c0, c1, c2, c3, h1, hback, yy, hy0⟩ := boxed h x hB hW
      clear hW hB
      rw [← hy0]
      clear hy0
      (with_reducible refine Calls.mono (l1Both_ans h1 a b true (by refine iff_tf ?_; dsimp only; exact ⟨E0.out, hGa, hGb⟩) _) ?_)
      rintro e w' ⟨rfl, yy, rfl⟩
      go_wp2_with ((go_at_call 46; with_reducible refine Calls.mono (l1Le_ans h1 t hGa hGb _) ?_; rintro e w' ⟨rfl, yy, rfl⟩))
      go_ret
      exact fin_false HP (fun q => by rw [HL.out] at q; cases q.2) (hback yy)
    · have HL := Lib.hid hle
      go_enter Try.func21, Try.ntmps21
      go_wp2_with fail
      generalize hW : x.w.alloc _ = W1
      generalize hB : x.w.heap.size = B
      obtain ⟨c0, c1, c2, c3, h1, hback, yy, hy0⟩ := boxed h x hB hW
      clear hW hB
      rw [← hy0]
      clear hy0
      (with_reducible refine Calls.mono (l1Both_ans h1 a b true (by refine iff_tf ?_; dsimp only; exact ⟨E0.out, hGa, hGb⟩) _) ?_)
      rintro e w' ⟨rfl, yy, rfl⟩
      go_wp2_with ((go_at_call 46; with_reducible refine Calls.mono (l1Le_ans h1 t hGa hGb _) ?_; rintro e w' ⟨rfl, yy, rfl⟩))
      go_ret
      exact fin_true HP ⟨⟨E0.out, hGa, hGb⟩, HL.out⟩ (hback yy)
  · have E0 := Lib.hid e0
    clear e0
    go_enter Try.func21, Try.ntmps21
    go_wp2_with fail
    generalize hW : x.w.alloc _ = W1
    generalize hB : x.w.heap.size = B
    obtain ⟨c0, c1, c2, c3, h1, hback, yy, hy0⟩ := boxed h x hB hW
    clear hW hB
    rw [← hy0]
    clear hy0
    (with_reducible refine Calls.mono (l1Both_ans h1 a b false (by refine iff_tf ?_; dsimp only; exact E0.out) _) ?_)
    rintro e w' ⟨rfl, yy, rfl⟩
    go_wp2_with fail
    go_ret
    exact fin_false HP (fun q => E0.out q.1) (hback yy)

end Go.Proofs.Yteffcfaoganciaa
