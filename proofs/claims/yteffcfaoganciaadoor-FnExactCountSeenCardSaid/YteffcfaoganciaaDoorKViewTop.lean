
/- The program's test of a view. -/
import Derived.Test.YteffcfaoganciaaDoorKView
set_option linter.unusedVariables false
set_option linter.unusedSimpArgs false
namespace Go.Proofs.YteffcfaoganciaaDoor
open Go.RowKit

set_option maxHeartbeats 4000000 in
theorem isView_ans {W : World} {r : Ref} {s : Sys} (h : SysIn W r s) {a : Option Addr} {c : Nat} {l : List Int} (hr : Row W (Value.int .i64) a l) (hl : l.length ≤ 1099511627776) (p : Bool) (hp : p = true ↔ IsViewP s l) (x : Ext W) :
    Calls Tryd.prog 75 #[r.val s, .slice a l.length c] x.w (Ans W (.bool p)) := by
  have HP := Lib.hid hp
  clear hp
  unfold Ref.val
  by_cases is : IsSys s
  · have t := is.tab
    have h2 := t.lo
    have h16 := t.hi
    have IS := Lib.hid is
    clear is
    by_cases ia : AscP s.n l
    · have IA := Lib.hid ia
      clear ia
      have hI : ∀ g ∈ l, 0 ≤ g ∧ g < 16 := fun g hg => by have := asc_range IA.out g hg; omega
      have hS : setL l < 65536 := setL_lt l hI
      have hcong : ViewP s (fun g => bitI (setL l) g = true) ↔ ViewP s (fun g => g ∈ l) := viewP_congr t (fun g hg => by
        have e : ((g.toNat : Nat) : Int) = g := by have := hg.1; omega
        unfold bitI
        rw [setL_bit l (fun g hg => (hI g hg).1), e])
      have HC := Lib.hid hcong
      have HI := Lib.hid hI
      clear hI hcong
      by_cases iv : ViewP s (fun g => bitI (setL l) g = true)
      · have IV := Lib.hid iv
        clear iv
        go_enter Tryd.func75, Tryd.ntmps75
        go_wp2_with fail
        generalize hW : x.w.alloc _ = W1
        generalize hB : x.w.heap.size = B
        have hrow : Row W1 (Value.int .i64) a l := by rw [← hW]; exact hr.ext (x.alloc _)
        obtain ⟨c0, c1, c2, c3, h1, hback, yy, hy0⟩ := boxed h x hB hW
        clear hW hB
        rw [← hy0]
        clear hy0
        refine region_ext yy (by kernel_rfl) (by kernel_rfl) ?_
        repeat (go_big_quiet_step (first | (go_at_call 102; with_reducible exact isSystem_ans h1 true (by refine iff_tf ?_; dsimp only; exact IS.out) _) | (go_at_call 120; with_reducible exact isAscending_ans hrow hl s.n true (by refine iff_tf ?_; dsimp only; exact IA.out) _) | (go_at_call 78; with_reducible exact setOf_ans hrow hl HI.out _) | (go_at_call 121; with_reducible exact isViewSet_ans h1 t hS true (by refine iff_tf ?_; dsimp only; exact IV.out) _)))
        refine wpQuiet_nil ?_
        rintro _ ⟨yy, rfl⟩
        go_wp2_with fail
        go_ret
        exact fin_true HP ⟨IS.out, IA.out, HC.out.1 IV.out⟩ (hback yy)
      · have IV := Lib.hid iv
        clear iv
        go_enter Tryd.func75, Tryd.ntmps75
        go_wp2_with fail
        generalize hW : x.w.alloc _ = W1
        generalize hB : x.w.heap.size = B
        have hrow : Row W1 (Value.int .i64) a l := by rw [← hW]; exact hr.ext (x.alloc _)
        obtain ⟨c0, c1, c2, c3, h1, hback, yy, hy0⟩ := boxed h x hB hW
        clear hW hB
        rw [← hy0]
        clear hy0
        refine region_ext yy (by kernel_rfl) (by kernel_rfl) ?_
        repeat (go_big_quiet_step (first | (go_at_call 102; with_reducible exact isSystem_ans h1 true (by refine iff_tf ?_; dsimp only; exact IS.out) _) | (go_at_call 120; with_reducible exact isAscending_ans hrow hl s.n true (by refine iff_tf ?_; dsimp only; exact IA.out) _) | (go_at_call 78; with_reducible exact setOf_ans hrow hl HI.out _) | (go_at_call 121; with_reducible exact isViewSet_ans h1 t hS false (by refine iff_tf ?_; dsimp only; exact IV.out) _)))
        refine wpQuiet_nil ?_
        rintro _ ⟨yy, rfl⟩
        go_wp2_with fail
        go_ret
        exact fin_false HP (fun q => IV.out (HC.out.2 q.2.2)) (hback yy)
    · have IA := Lib.hid ia
      clear ia
      go_enter Tryd.func75, Tryd.ntmps75
      go_wp2_with fail
      generalize hW : x.w.alloc _ = W1
      generalize hB : x.w.heap.size = B
      have hrow : Row W1 (Value.int .i64) a l := by rw [← hW]; exact hr.ext (x.alloc _)
      obtain ⟨c0, c1, c2, c3, h1, hback, yy, hy0⟩ := boxed h x hB hW
      clear hW hB
      rw [← hy0]
      clear hy0
      refine region_ext yy (by kernel_rfl) (by kernel_rfl) ?_
      repeat (go_big_quiet_step (first | (go_at_call 102; with_reducible exact isSystem_ans h1 true (by refine iff_tf ?_; dsimp only; exact IS.out) _) | (go_at_call 120; with_reducible exact isAscending_ans hrow hl s.n false (by refine iff_tf ?_; dsimp only; exact IA.out) _)))
      refine wpQuiet_nil ?_
      rintro _ ⟨yy, rfl⟩
      go_wp2_with fail
      go_ret
      exact fin_false HP (fun q => IA.out q.2.1) (hback yy)
  · have IS := Lib.hid is
    clear is
    go_enter Tryd.func75, Tryd.ntmps75
    go_wp2_with fail
    generalize hW : x.w.alloc _ = W1
    generalize hB : x.w.heap.size = B
    have hrow : Row W1 (Value.int .i64) a l := by rw [← hW]; exact hr.ext (x.alloc _)
    obtain ⟨c0, c1, c2, c3, h1, hback, yy, hy0⟩ := boxed h x hB hW
    clear hW hB
    rw [← hy0]
    clear hy0
    refine region_ext yy (by kernel_rfl) (by kernel_rfl) ?_
    repeat (go_big_quiet_step (first | (go_at_call 102; with_reducible exact isSystem_ans h1 false (by refine iff_tf ?_; dsimp only; exact IS.out) _) | fail))
    refine wpQuiet_nil ?_
    rintro _ ⟨yy, rfl⟩
    go_wp2_with fail
    go_ret
    exact fin_false HP (fun q => IS.out q.1) (hback yy)

end Go.Proofs.YteffcfaoganciaaDoor
