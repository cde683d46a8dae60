
/- The model's table of terms. -/
import Derived.Test.YtiekppegfocejaaDoorTermA
import Derived.Test.YtiekppegfocejaaDoorTermOk
namespace Go.Proofs.YtiekppegfocejaaDoor
open Go.RowKit

set_option maxHeartbeats 8000000 in
theorem l2Many_ans {W : World} (op : Int) (x : Ext W) : Calls Tryd.prog 87 #[.int .i64 op] x.w (Ans W (.int .i64 (manyO op))) := by
  obtain ⟨yy, hyy⟩ : ∃ y : Ext W, x = y := ⟨x, rfl⟩
  rw [hyy]
  clear hyy
  by_cases h : 0 ≤ op ∧ op ≤ 12
  · rcases ops13 h with rfl | rfl | rfl | rfl | rfl | rfl | rfl | rfl | rfl | rfl | rfl | rfl | rfl <;>
    · go_enter Tryd.func87, Tryd.ntmps87
      go_wp2_with ((go_at_call 77; with_reducible refine Calls.mono (l1In_ans _ 0 12 true (by simp) _) ?_; rintro e w' ⟨rfl, yy, rfl⟩))
      go_ret
      exact fin_int (by decide) ⟨yy.alloc _, rfl⟩
  · have HH := Lib.hid h
    have HV : Hid (-1 = manyO op) := by unfold manyO; rw [if_neg h]; exact rfl
    clear h
    go_enter Tryd.func87, Tryd.ntmps87
    go_wp2_with ((go_at_call 77; with_reducible refine Calls.mono (l1In_ans op 0 12 false (by refine iff_tf ?_; dsimp only; exact HH.out) _) ?_; rintro e w' ⟨rfl, yy, rfl⟩))
    go_ret
    exact fin_int HV.out ⟨yy, rfl⟩

theorem l2Has_ans {W : World} (op : Int) (p : Bool) (hp : p = true ↔ HasG op) (x : Ext W) : Calls Tryd.prog 80 #[.int .i64 op] x.w (Ans W (.bool p)) := by
  have HP := Lib.hid hp
  clear hp
  obtain ⟨yy, hyy⟩ : ∃ y : Ext W, x = y := ⟨x, rfl⟩
  rw [hyy]
  clear hyy
  by_cases e5 : op = 5
  · subst e5
    go_enter Tryd.func80, Tryd.ntmps80
    go_wp2
    go_ret
    exact fin_true HP (by decide) ⟨yy, rfl⟩
  by_cases e8 : op = 8
  · subst e8
    go_enter Tryd.func80, Tryd.ntmps80
    go_wp2
    go_ret
    exact fin_true HP (by decide) ⟨yy, rfl⟩
  by_cases e9 : op = 9
  · subst e9
    go_enter Tryd.func80, Tryd.ntmps80
    go_wp2
    go_ret
    exact fin_true HP (by decide) ⟨yy, rfl⟩
  by_cases e11 : op = 11
  · subst e11
    go_enter Tryd.func80, Tryd.ntmps80
    go_wp2
    go_ret
    exact fin_true HP (by decide) ⟨yy, rfl⟩
  by_cases e12 : op = 12
  · subst e12
    go_enter Tryd.func80, Tryd.ntmps80
    go_wp2
    go_ret
    exact fin_true HP (by decide) ⟨yy, rfl⟩
  have f5 : (op == 5) = false := by simpa using e5
  have f8 : (op == 8) = false := by simpa using e8
  have f9 : (op == 9) = false := by simpa using e9
  have f11 : (op == 11) = false := by simpa using e11
  have f12 : (op == 12) = false := by simpa using e12
  have HN : Hid (¬ HasG op) := by unfold HasG; show ¬ _; omega
  clear e5 e8 e9 e11 e12
  go_enter Tryd.func80, Tryd.ntmps80
  go_wp2
  go_ret
  exact fin_false HP HN.out ⟨yy, rfl⟩

theorem l2Typed_ans {W : World} (op : Int) (p : Bool) (hp : p = true ↔ TypedO op) (x : Ext W) : Calls Tryd.prog 81 #[.int .i64 op] x.w (Ans W (.bool p)) := by
  have HP := Lib.hid hp
  clear hp
  obtain ⟨yy, hyy⟩ : ∃ y : Ext W, x = y := ⟨x, rfl⟩
  rw [hyy]
  clear hyy
  by_cases e6 : op = 6
  · subst e6
    go_enter Tryd.func81, Tryd.ntmps81
    go_wp2
    go_ret
    exact fin_true HP (by decide) ⟨yy, rfl⟩
  by_cases e7 : op = 7
  · subst e7
    go_enter Tryd.func81, Tryd.ntmps81
    go_wp2
    go_ret
    exact fin_true HP (by decide) ⟨yy, rfl⟩
  by_cases e9 : op = 9
  · subst e9
    go_enter Tryd.func81, Tryd.ntmps81
    go_wp2
    go_ret
    exact fin_true HP (by decide) ⟨yy, rfl⟩
  have f6 : (op == 6) = false := by simpa using e6
  have f7 : (op == 7) = false := by simpa using e7
  have f9 : (op == 9) = false := by simpa using e9
  have HN : Hid (¬ TypedO op) := by unfold TypedO; show ¬ _; omega
  clear e6 e7 e9
  go_enter Tryd.func81, Tryd.ntmps81
  go_wp2
  go_ret
  exact fin_false HP HN.out ⟨yy, rfl⟩

set_option maxHeartbeats 8000000 in
theorem l2Adds_ans {W : World} (op : Int) (h : 0 ≤ op ∧ op ≤ 12) (k : Nat) (hk : k < 3) (x : Ext W) : Calls Tryd.prog 69 #[.int .i64 op, .int .i64 k] x.w (Ans W (.int .i64 (addsO op k))) := by
  obtain ⟨yy, hyy⟩ : ∃ y : Ext W, x = y := ⟨x, rfl⟩
  rw [hyy]
  clear hyy
  have hk3 : k = 0 ∨ k = 1 ∨ k = 2 := by omega
  rcases ops13 h with rfl | rfl | rfl | rfl | rfl | rfl | rfl | rfl | rfl | rfl | rfl | rfl | rfl <;> rcases hk3 with rfl | rfl | rfl <;>
  · go_enter Tryd.func69, Tryd.ntmps69
    go_wp2
    go_ret
    exact fin_int (by decide) ⟨yy, rfl⟩

end Go.Proofs.YtiekppegfocejaaDoor
