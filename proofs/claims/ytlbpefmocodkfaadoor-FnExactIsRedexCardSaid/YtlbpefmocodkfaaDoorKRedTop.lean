
/- IsRedex, of the program and of the model. -/
import Derived.Test.YtlbpefmocodkfaaDoorKCofA
import Derived.Test.YtlbpefmocodkfaaDoorKRedM
import Derived.Test.YtlbpefmocodkfaaDoorGH
import Derived.Test.YtlbpefmocodkfaaDoorGG
namespace Go.Proofs.YtlbpefmocodkfaaDoor
open Go.RowKit

set_option maxHeartbeats 8000000 in
theorem isRedex_ans {W : World} (F : Forms W) (TF : TForms W) {lo : Nat} {t : Tm} {r : TV} (h : TmIn W lo t r) (hTB : TmB t) (p : Bool) (hp : p = true ↔ (Written t ∧ Red t)) (x : Ext W) :
    Calls Tryd.prog 47 #[r.val t] x.w (Ans W (.bool p)) := by
  have HP := Lib.hid hp
  clear hp
  obtain ⟨ra, rc, rb, rd⟩ := r
  unfold TV.val
  by_cases hw : Written t
  · have HW := Lib.hid hw
    clear hw
    go_enter Tryd.func47, Tryd.ntmps47
    go_wp2_with fail
    generalize hW : x.w.alloc _ = W1
    generalize hB : x.w.heap.size = B
    obtain ⟨c0, c1, c2, c3, h1, hback, yy, hy0⟩ := boxedT h x hB hW
    clear hW hB
    rw [← hy0]
    clear hy0
    have FW := F.on hback
    have TW := TF.on hback
    have IW : ∀ y : Ext W1, Calls Tryd.prog 30 #[(TV.mk ra rc rb rd).val t] y.w (Ans W1 (.bool true)) := fun y => isWritten_ans FW TW h1 hTB true (by refine iff_tf ?_; exact HW.out) y
    have CC : ∀ y : Ext W1, Calls Tryd.prog 88 #[(TV.mk ra rc rb rd).val t] y.w (CofA W1 t) := fun y => contractionOf_ans h1 HW.out.2 y
    unfold TV.val at IW CC
    go_wp2_with (go_at_call 30; (with_reducible refine Calls.mono (IW _) ?_); rintro e w' ⟨rfl, yy, rfl⟩)
    refine Calls.mono (CC _) ?_
    rintro e w' ⟨body, put, qb, b', d', flag, y, rfl, rfl, hc⟩
    have hfl : p = flag := by
      rcases hc with ⟨rfl, hcof, _⟩ | ⟨rfl, hn⟩
      · exact HP.out.2 ⟨HW.out, hcof.red⟩
      · have := HP.out
        cases p
        · rfl
        · exact absurd (this.1 rfl).2 hn
    clear hc
    subst hfl
    clear HP
    go_wp2_with fail
    go_ret
    exact ⟨rfl, hback (y.alloc _)⟩
  · have HW := Lib.hid hw
    clear hw
    go_enter Tryd.func47, Tryd.ntmps47
    go_wp2_with fail
    generalize hW : x.w.alloc _ = W1
    generalize hB : x.w.heap.size = B
    obtain ⟨c0, c1, c2, c3, h1, hback, yy, hy0⟩ := boxedT h x hB hW
    clear hW hB
    rw [← hy0]
    clear hy0
    have FW := F.on hback
    have TW := TF.on hback
    have IW : ∀ y : Ext W1, Calls Tryd.prog 30 #[(TV.mk ra rc rb rd).val t] y.w (Ans W1 (.bool false)) := fun y => isWritten_ans FW TW h1 hTB false (by refine iff_tf ?_; exact HW.out) y
    unfold TV.val at IW
    go_wp2_with (go_at_call 30; (with_reducible refine Calls.mono (IW _) ?_); rintro e w' ⟨rfl, yy, rfl⟩)
    go_ret
    exact fin_false HP (fun z => HW.out z.1) (hback yy)

set_option maxHeartbeats 8000000 in
theorem specIsRedex_ans {W : World} {lo : Nat} {t : Tm} {r : TV} (h : TmIn W lo t r) (hwt : t.wt ≤ 1099511627776) (p : Bool) (hp : p = true ↔ (Written t ∧ Red t)) (x : Ext W) :
    Calls Tryd.prog 46 #[r.val t] x.w (Ans W (.bool p)) := by
  have HP := Lib.hid hp
  clear hp
  obtain ⟨ra, rc, rb, rd⟩ := r
  unfold TV.val
  by_cases hw : Written t
  · have HW := Lib.hid hw
    clear hw
    have hpr : p = true ↔ Red t := ⟨fun z => (HP.out.1 z).2, fun z => HP.out.2 ⟨HW.out, z⟩⟩
    go_enter Tryd.func46, Tryd.ntmps46
    go_wp2_with fail
    generalize hW : x.w.alloc _ = W1
    generalize hB : x.w.heap.size = B
    obtain ⟨c0, c1, c2, c3, h1, hback, yy, hy0⟩ := boxedT h x hB hW
    clear hW hB
    rw [← hy0]
    clear hy0
    have IW : ∀ y : Ext W1, Calls Tryd.prog 29 #[(TV.mk ra rc rb rd).val t] y.w (Ans W1 (.bool true)) := fun y => specIsWritten_ans h1 hwt true (by refine iff_tf ?_; exact HW.out) y
    have CC : ∀ y : Ext W1, Calls Tryd.prog 87 #[(TV.mk ra rc rb rd).val t] y.w (Ans W1 (.bool p)) := fun y => l4Redex_ans h1 HW.out.2.shape p hpr y
    clear hpr
    unfold TV.val at IW CC
    go_wp2_with (first | (go_at_call 29; (with_reducible refine Calls.mono (IW _) ?_); rintro e w' ⟨rfl, yy, rfl⟩) | (go_at_call 87; (with_reducible refine Calls.mono (CC _) ?_); rintro e w' ⟨rfl, yy, rfl⟩))
    go_ret
    exact ⟨by cases p <;> rfl, hback yy⟩
  · have HW := Lib.hid hw
    clear hw
    go_enter Tryd.func46, Tryd.ntmps46
    go_wp2_with fail
    generalize hW : x.w.alloc _ = W1
    generalize hB : x.w.heap.size = B
    obtain ⟨c0, c1, c2, c3, h1, hback, yy, hy0⟩ := boxedT h x hB hW
    clear hW hB
    rw [← hy0]
    clear hy0
    have IW : ∀ y : Ext W1, Calls Tryd.prog 29 #[(TV.mk ra rc rb rd).val t] y.w (Ans W1 (.bool false)) := fun y => specIsWritten_ans h1 hwt false (by refine iff_tf ?_; exact HW.out) y
    unfold TV.val at IW
    go_wp2_with (go_at_call 29; (with_reducible refine Calls.mono (IW _) ?_); rintro e w' ⟨rfl, yy, rfl⟩)
    go_ret
    exact fin_false HP (fun z => HW.out z.1) (hback yy)

end Go.Proofs.YtlbpefmocodkfaaDoor
