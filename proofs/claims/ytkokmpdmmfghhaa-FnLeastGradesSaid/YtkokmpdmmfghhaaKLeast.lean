
/- The program's least grade. -/
import Derived.Test.YtkokmpdmmfghhaaKSysA
import Derived.Test.YtkokmpdmmfghhaaKBits2
namespace Go.Proofs.Ytkokmpdmmfghhaa
open Go.RowKit

set_option maxHeartbeats 4000000 in
theorem leastGrade_ans {W : World} {r : Ref} {s : Sys} (h : SysIn W r s) (v : Int) (hv : (IsSys s ∧ v = s.least) ∨ (¬ IsSys s ∧ v = -1)) (x : Ext W) :
    Calls Try.prog 38 #[r.val s] x.w (Ans W (.int .i64 v)) := by
  unfold Ref.val
  rcases hv with ⟨is, hv⟩ | ⟨hn, hv⟩
  · have t := is.tab
    have HV := Lib.hid hv
    have IS := Lib.hid is
    clear hv is
    have h2 := t.lo
    have h16 := t.hi
    go_enter Try.func38, Try.ntmps38
    go_wp2_with fail
    generalize hW : x.w.alloc _ = W1
    generalize hB : x.w.heap.size = B
    obtain ⟨c0, c1, c2, c3, h1, hback, yy, hy0⟩ := boxed h x hB hW
    clear hW hB
    rw [← hy0]
    clear hy0
    (with_reducible refine Calls.mono (isSystem_ans h1 true (by refine iff_tf ?_; dsimp only; exact IS.out) _) ?_)
    rintro e w' ⟨rfl, yy, rfl⟩
    go_wp2_with fail
    have hS : 2 ^ s.n.toNat - 1 < 65536 := Nat.lt_of_lt_of_le (Nat.sub_lt (Nat.pow_pos (by omega)) (by omega)) (Nat.pow_le_pow_right (n := 2) (i := s.n.toNat) (j := 16) (by omega) (by omega))
    refine region_ext yy (by kernel_rfl) (by kernel_rfl) ?_
    repeat (go_big_quiet_step (first | (go_at_call 109; with_reducible exact allGrades_ans h1 t _) | (go_at_call 108; with_reducible exact leastOf_ans h1 t hS s.least (least_bits s (by omega)) _)))
    refine wpQuiet_nil ?_
    rintro _ ⟨yy, rfl⟩
    go_wp2_with fail
    go_ret
    exact fin_int HV.out.symm (hback yy)
  · have HV := Lib.hid hv
    have HN := Lib.hid hn
    clear hv hn
    go_enter Try.func38, Try.ntmps38
    go_wp2_with fail
    generalize hW : x.w.alloc _ = W1
    generalize hB : x.w.heap.size = B
    obtain ⟨c0, c1, c2, c3, h1, hback, yy, hy0⟩ := boxed h x hB hW
    clear hW hB
    rw [← hy0]
    clear hy0
    (with_reducible refine Calls.mono (isSystem_ans h1 false (by refine iff_tf ?_; dsimp only; exact HN.out) _) ?_)
    rintro e w' ⟨rfl, yy, rfl⟩
    go_wp2_with fail
    go_ret
    exact fin_int HV.out.symm (hback yy)

end Go.Proofs.Ytkokmpdmmfghhaa
