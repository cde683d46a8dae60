/- The program's functions of two grades. -/
import Derived.Test.YtkokmpdmmfghhaaZ2KSysA
import Derived.Test.YtkokmpdmmfghhaaZ2KBits
import Derived.Test.YtkokmpdmmfghhaaZ2HA
set_option linter.unusedVariables false
set_option linter.unusedSimpArgs false
namespace Go.Proofs.Ytkokmpdmmfghhaa
open Go.RowKit

/-- The answer of a function of two grades. -/
def Out2 (s : Sys) (a b f v : Int) : Prop := (IsSys s ∧ G s a ∧ G s b ∧ v = f) ∨ (¬ (IsSys s ∧ G s a ∧ G s b) ∧ v = -1)

set_option maxHeartbeats 1600000 in
theorem areGrades_ans {W : World} {r : Ref} {s : Sys} (h : SysIn W r s) {a : Option Addr} {c : Nat} {l : List Int} (hr : Row W (Value.int .i64) a l) (hl : l.length ≤ 1099511627776) (p : Bool)
    (hp : p = true ↔ IsSys s ∧ ∀ g ∈ l, G s g) (x : Ext W) :
    Calls Try.prog 59 #[r.val s, .slice a l.length c] x.w (Ans W (.bool p)) := by
  have HP := Lib.hid hp
  clear hp
  unfold Ref.val
  by_cases e0 : IsSys s
  · have E0 := Lib.hid e0
    clear e0
    by_cases e1 : ∀ g ∈ l, 0 ≤ g ∧ g < s.n
    · have E1 := Lib.hid e1
      clear e1
      go_enter Try.func59, Try.ntmps59
      go_wp2_with fail
      generalize hW : x.w.alloc _ = W1
      generalize hB : x.w.heap.size = B
      obtain ⟨c0, c1, c2, c3, h1, hback, yy, hy0⟩ := boxed h x hB hW
      clear hW hB
      rw [← hy0]
      clear hy0
      have HR : ∀ z : Ext W1, Row z.w (Value.int .i64) a l := fun z => by obtain ⟨u, hu⟩ := hback z; rw [hu]; exact hr.ext u
      (with_reducible refine Calls.mono (isSystem_ans h1 true (by simp only [true_iff]; exact E0.out) _) ?_)
      rintro e w' ⟨rfl, yy, rfl⟩
      go_wp2_with fail
      (with_reducible refine Calls.mono (allInRange_ans (HR yy) hl s.n true (by simp only [true_iff]; exact E1.out) (Ext.self yy.w)) ?_)
      rintro e w' ⟨rfl, zz, rfl⟩
      go_wp2_with fail
      go_ret
      exact fin_true HP ⟨E0.out, E1.out⟩ (hback (yy.trans zz))
    · have E1 := Lib.hid e1
      clear e1
      go_enter Try.func59, Try.ntmps59
      go_wp2_with fail
      generalize hW : x.w.alloc _ = W1
      generalize hB : x.w.heap.size = B
      obtain ⟨c0, c1, c2, c3, h1, hback, yy, hy0⟩ := boxed h x hB hW
      clear hW hB
      rw [← hy0]
      clear hy0
      have HR : ∀ z : Ext W1, Row z.w (Value.int .i64) a l := fun z => by obtain ⟨u, hu⟩ := hback z; rw [hu]; exact hr.ext u
      (with_reducible refine Calls.mono (isSystem_ans h1 true (by simp only [true_iff]; exact E0.out) _) ?_)
      rintro e w' ⟨rfl, yy, rfl⟩
      go_wp2_with fail
      (with_reducible refine Calls.mono (allInRange_ans (HR yy) hl s.n false (by simp only [Bool.false_eq_true, false_iff]; exact E1.out) (Ext.self yy.w)) ?_)
      rintro e w' ⟨rfl, zz, rfl⟩
      go_wp2_with fail
      go_ret
      exact fin_false HP (fun q => E1.out q.2) (hback (yy.trans zz))
  · have E0 := Lib.hid e0
    clear e0
    go_enter Try.func59, Try.ntmps59
    go_wp2_with fail
    generalize hW : x.w.alloc _ = W1
    generalize hB : x.w.heap.size = B
    obtain ⟨c0, c1, c2, c3, h1, hback, yy, hy0⟩ := boxed h x hB hW
    clear hW hB
    rw [← hy0]
    clear hy0
    have HR : ∀ z : Ext W1, Row z.w (Value.int .i64) a l := fun z => by obtain ⟨u, hu⟩ := hback z; rw [hu]; exact hr.ext u
    (with_reducible refine Calls.mono (isSystem_ans h1 false (by simp only [Bool.false_eq_true, false_iff]; exact E0.out) _) ?_)
    rintro e w' ⟨rfl, yy, rfl⟩
    go_wp2_with fail
    go_ret
    exact fin_false HP (fun q => E0.out q.1) (hback yy)

set_option maxHeartbeats 1600000 in
theorem joinGrades_ans {W : World} {r : Ref} {s : Sys} (h : SysIn W r s) (a b : Int) (v : Int) (hv : Out2 s a b (s.join a b) v) (x : Ext W) :
    Calls Try.prog 15 #[r.val s, .int .i64 a, .int .i64 b] x.w (Ans W (.int .i64 v)) := by
  unfold Ref.val
  rcases hv with ⟨is, hGa, hGb, hv⟩ | ⟨hn, hv⟩
  · have t := is.tab
    have HV := Lib.hid hv
    have IS := Lib.hid is
    clear hv is
    have h2 := t.lo
    have h16 := t.hi
    go_enter Try.func15, Try.ntmps15
    go_wp2_with fail
    generalize hW : (x.w.alloc _).alloc _ = W1
    generalize hB : x.w.heap.size = B
    obtain ⟨c0, c1, c2, c3, h1, hrow, hback, yy, hy0⟩ := boxedRow h x hB hW
    clear hW hB
    rw [← hy0]
    clear hy0
    (refine Calls.mono (areGrades_ans (l := [a, b]) h1 hrow (by simp) true (by refine iff_tf ?_; simp only [List.mem_cons, List.not_mem_nil, or_false, forall_eq_or_imp, forall_eq]; exact ⟨IS.out, hGa, hGb⟩) yy) ?_)
    rintro e w' ⟨rfl, yy, rfl⟩
    go_wp2_with ((go_at_call 61; with_reducible refine Calls.mono (joinIn_ans h1 t (by assumption) (by assumption) _) ?_; rintro e w' ⟨rfl, yy, rfl⟩))
    go_ret
    exact fin_int HV.out.symm (hback yy)
  · have HV := Lib.hid hv
    have HN := Lib.hid hn
    clear hv hn
    go_enter Try.func15, Try.ntmps15
    go_wp2_with fail
    generalize hW : (x.w.alloc _).alloc _ = W1
    generalize hB : x.w.heap.size = B
    obtain ⟨c0, c1, c2, c3, h1, hrow, hback, yy, hy0⟩ := boxedRow h x hB hW
    clear hW hB
    rw [← hy0]
    clear hy0
    (refine Calls.mono (areGrades_ans (l := [a, b]) h1 hrow (by simp) false (by refine iff_tf ?_; simp only [List.mem_cons, List.not_mem_nil, or_false, forall_eq_or_imp, forall_eq]; exact HN.out) yy) ?_)
    rintro e w' ⟨rfl, yy, rfl⟩
    go_wp2_with fail
    go_ret
    exact fin_int HV.out.symm (hback yy)

end Go.Proofs.Ytkokmpdmmfghhaa
