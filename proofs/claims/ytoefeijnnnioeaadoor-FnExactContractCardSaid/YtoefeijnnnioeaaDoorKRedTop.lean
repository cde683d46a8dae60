
/- IsRedex, of the program and of the model. -/
import Derived.Test.YtoefeijnnnioeaaDoorKCofA
import Derived.Test.YtoefeijnnnioeaaDoorKRedM
import Derived.Test.YtoefeijnnnioeaaDoorGH
import Derived.Test.YtoefeijnnnioeaaDoorGG
set_option linter.unusedVariables false
set_option linter.unusedSimpArgs false
namespace Go.Proofs.YtoefeijnnnioeaaDoor
open Go.RowKit

set_option maxHeartbeats 8000000 in
theorem specIsRedex_ans {W : World} {lo : Nat} {t : Tm} {r : TV} (h : TmIn W lo t r) (hwt : t.wt ≤ 1099511627776) (p : Bool) (hp : p = true ↔ (Written t ∧ Red t)) (x : Ext W) :
    Calls Tryd.prog 84 #[r.val t] x.w (Ans W (.bool p)) := by
  have HP := Lib.hid hp
  clear hp
  obtain ⟨ra, rc, rb, rd⟩ := r
  unfold TV.val
  by_cases hw : Written t
  · have HW := Lib.hid hw
    clear hw
    have hpr : p = true ↔ Red t := ⟨fun z => (HP.out.1 z).2, fun z => HP.out.2 ⟨HW.out, z⟩⟩
    go_enter Tryd.func84, Tryd.ntmps84
    go_wp2_with fail
    generalize hW : x.w.alloc _ = W1
    generalize hB : x.w.heap.size = B
    obtain ⟨c0, c1, c2, c3, h1, hback, yy, hy0⟩ := boxedT h x hB hW
    clear hW hB
    rw [← hy0]
    clear hy0
    have IW : ∀ y : Ext W1, Calls Tryd.prog 66 #[(TV.mk ra rc rb rd).val t] y.w (Ans W1 (.bool true)) := fun y => specIsWritten_ans h1 hwt true (by refine iff_tf ?_; exact HW.out) y
    have CC : ∀ y : Ext W1, Calls Tryd.prog 93 #[(TV.mk ra rc rb rd).val t] y.w (Ans W1 (.bool p)) := fun y => l4Redex_ans h1 HW.out.2.shape p hpr y
    clear hpr
    unfold TV.val at IW CC
    go_wp2_with (first | (go_at_call 66; (with_reducible refine Calls.mono (IW _) ?_); rintro e w' ⟨rfl, yy, rfl⟩) | (go_at_call 93; (with_reducible refine Calls.mono (CC _) ?_); rintro e w' ⟨rfl, yy, rfl⟩))
    go_ret
    exact ⟨by cases p <;> rfl, hback yy⟩
  · have HW := Lib.hid hw
    clear hw
    go_enter Tryd.func84, Tryd.ntmps84
    go_wp2_with fail
    generalize hW : x.w.alloc _ = W1
    generalize hB : x.w.heap.size = B
    obtain ⟨c0, c1, c2, c3, h1, hback, yy, hy0⟩ := boxedT h x hB hW
    clear hW hB
    rw [← hy0]
    clear hy0
    have IW : ∀ y : Ext W1, Calls Tryd.prog 66 #[(TV.mk ra rc rb rd).val t] y.w (Ans W1 (.bool false)) := fun y => specIsWritten_ans h1 hwt false (by refine iff_tf ?_; exact HW.out) y
    unfold TV.val at IW
    go_wp2_with (go_at_call 66; (with_reducible refine Calls.mono (IW _) ?_); rintro e w' ⟨rfl, yy, rfl⟩)
    go_ret
    exact fin_false HP (fun z => HW.out z.1) (hback yy)

end Go.Proofs.YtoefeijnnnioeaaDoor
