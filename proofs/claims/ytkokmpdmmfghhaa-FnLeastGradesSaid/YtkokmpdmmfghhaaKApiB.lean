
/- The program's IsGrade, IsBelow. -/
import Derived.Test.YtkokmpdmmfghhaaKApiA
namespace Go.Proofs.Ytkokmpdmmfghhaa
open Go.RowKit

set_option maxHeartbeats 1600000 in
theorem isBelow_ans {W : World} {r : Ref} {s : Sys} (h : SysIn W r s) (a b : Int) (p : Bool) (hp : p = true ↔ (IsSys s ∧ G s a ∧ G s b) ∧ s.le a b = true) (x : Ext W) :
    Calls Try.prog 19 #[r.val s, .int .i64 a, .int .i64 b] x.w (Ans W (.bool p)) := by
  have HP := Lib.hid hp
  clear hp
  unfold Ref.val
  by_cases e0 : IsSys s ∧ G s a ∧ G s b
  · obtain ⟨is, hGa, hGb⟩ := e0
    have t := is.tab
    have E0 := Lib.hid is
    clear is
    cases hle : s.le a b
    · have HL := Lib.hid hle
      go_enter Try.func19, Try.ntmps19
      go_wp2_with fail
      generalize hW : (x.w.alloc _).alloc _ = W1
      generalize hB : x.w.heap.size = B
      obtain ⟨c0, c1, c2, c3, h1, hrow, hback, yy, hy0⟩ := boxedRow h x hB hW
      clear hW hB
      rw [← hy0]
      clear hy0
      (refine Calls.mono (areGrades_ans (l := [a, b]) h1 hrow (by simp) true (by refine iff_tf ?_; simp only [List.mem_cons, List.not_mem_nil, or_false, forall_eq_or_imp, forall_eq]; exact ⟨E0.out, hGa, hGb⟩) yy) ?_)
      rintro e w' ⟨rfl, yy, rfl⟩
      go_wp2_with ((go_at_call 63; with_reducible refine Calls.mono (belowIn_ans h1 t hGa hGb _) ?_; rintro e w' ⟨rfl, yy, rfl⟩))
      go_ret
      exact fin_false HP (fun q => by rw [HL.out] at q; cases q.2) (hback yy)
    · have HL := Lib.hid hle
      go_enter Try.func19, Try.ntmps19
      go_wp2_with fail
      generalize hW : (x.w.alloc _).alloc _ = W1
      generalize hB : x.w.heap.size = B
      obtain ⟨c0, c1, c2, c3, h1, hrow, hback, yy, hy0⟩ := boxedRow h x hB hW
      clear hW hB
      rw [← hy0]
      clear hy0
      (refine Calls.mono (areGrades_ans (l := [a, b]) h1 hrow (by simp) true (by refine iff_tf ?_; simp only [List.mem_cons, List.not_mem_nil, or_false, forall_eq_or_imp, forall_eq]; exact ⟨E0.out, hGa, hGb⟩) yy) ?_)
      rintro e w' ⟨rfl, yy, rfl⟩
      go_wp2_with ((go_at_call 63; with_reducible refine Calls.mono (belowIn_ans h1 t hGa hGb _) ?_; rintro e w' ⟨rfl, yy, rfl⟩))
      go_ret
      exact fin_true HP ⟨⟨E0.out, hGa, hGb⟩, HL.out⟩ (hback yy)
  · have E0 := Lib.hid e0
    clear e0
    go_enter Try.func19, Try.ntmps19
    go_wp2_with fail
    generalize hW : (x.w.alloc _).alloc _ = W1
    generalize hB : x.w.heap.size = B
    obtain ⟨c0, c1, c2, c3, h1, hrow, hback, yy, hy0⟩ := boxedRow h x hB hW
    clear hW hB
    rw [← hy0]
    clear hy0
    (refine Calls.mono (areGrades_ans (l := [a, b]) h1 hrow (by simp) false (by refine iff_tf ?_; simp only [List.mem_cons, List.not_mem_nil, or_false, forall_eq_or_imp, forall_eq]; exact E0.out) yy) ?_)
    rintro e w' ⟨rfl, yy, rfl⟩
    go_wp2_with fail
    go_ret
    exact fin_false HP (fun q => E0.out q.1) (hback yy)

end Go.Proofs.Ytkokmpdmmfghhaa
