/- IsNormal, of the program and of the model. -/
import Derived.Test.YtncfbljablbglaaDoorZ3GX8
set_option linter.unusedVariables false
set_option linter.unusedSimpArgs false
namespace Go.Proofs.YtncfbljablbglaaDoor
open Go.RowKit

set_option maxHeartbeats 8000000 in
theorem isNormal_ans {W : World} (F : Forms W) (TF : TForms W) {lo : Nat} {t : Tm} {r : TV} (h : TmIn W lo t r) (hTB : TmB t) (p : Bool) (hp : p = true ↔ (Written t ∧ t.reds [] = [])) (x : Ext W) :
    Calls Tryd.prog 37 #[r.val t] x.w (Ans W (.bool p)) := by
  have HP := Lib.hid hp
  clear hp
  obtain ⟨ra, rc, rb, rd⟩ := r
  unfold TV.val
  by_cases hw : Written t
  · have HW := Lib.hid hw
    clear hw
    by_cases hn : t.reds [] = []
    · have HN := Lib.hid hn
      clear hn
      go_enter Tryd.func37, Tryd.ntmps37
      go_wp2_with fail
      generalize hW : x.w.alloc _ = W1
      generalize hB : x.w.heap.size = B
      obtain ⟨c0, c1, c2, c3, h1, hback, yy, hy0⟩ := boxedT h x hB hW
      clear hW hB
      rw [← hy0]
      clear hy0
      have FW := F.on hback
      have TW := TF.on hback
      have IW : ∀ y : Ext W1, Calls Tryd.prog 35 #[(TV.mk ra rc rb rd).val t] y.w (Ans W1 (.bool true)) := fun y => isWritten_ans FW TW h1 hTB true (by refine iff_tf ?_; exact HW.out) y
      have CC : ∀ y : Ext W1, Calls Tryd.prog 71 #[(TV.mk ra rc rb rd).val t] y.w (NewLs W1 (t.reds [])) := fun y => redexesOf_ans FW TW h1 hTB (t.reds []) (.inl ⟨HW.out, rfl⟩) y
      have f1 : (((t.reds []).length : Int) == 0) = true := by rw [HN.out]; rfl
      unfold TV.val at IW CC
      go_wp2_with (first | (go_at_call 35; (with_reducible refine Calls.mono (IW _) ?_); rintro e w' ⟨rfl, yy, rfl⟩) | (go_at_call 71; (with_reducible refine Calls.mono (CC _) ?_); rintro e w' ⟨a', c', hd', B', yz, rfl, rfl, -, -⟩))
      go_ret
      exact fin_true HP ⟨HW.out, HN.out⟩ (hback yz)
    · have HN := Lib.hid hn
      clear hn
      go_enter Tryd.func37, Tryd.ntmps37
      go_wp2_with fail
      generalize hW : x.w.alloc _ = W1
      generalize hB : x.w.heap.size = B
      obtain ⟨c0, c1, c2, c3, h1, hback, yy, hy0⟩ := boxedT h x hB hW
      clear hW hB
      rw [← hy0]
      clear hy0
      have FW := F.on hback
      have TW := TF.on hback
      have IW : ∀ y : Ext W1, Calls Tryd.prog 35 #[(TV.mk ra rc rb rd).val t] y.w (Ans W1 (.bool true)) := fun y => isWritten_ans FW TW h1 hTB true (by refine iff_tf ?_; exact HW.out) y
      have CC : ∀ y : Ext W1, Calls Tryd.prog 71 #[(TV.mk ra rc rb rd).val t] y.w (NewLs W1 (t.reds [])) := fun y => redexesOf_ans FW TW h1 hTB (t.reds []) (.inl ⟨HW.out, rfl⟩) y
      have f1 : (((t.reds []).length : Int) == 0) = false := by rw [beq_eq_false_iff_ne]; intro e; exact HN.out (List.eq_nil_of_length_eq_zero (by omega))
      unfold TV.val at IW CC
      go_wp2_with (first | (go_at_call 35; (with_reducible refine Calls.mono (IW _) ?_); rintro e w' ⟨rfl, yy, rfl⟩) | (go_at_call 71; (with_reducible refine Calls.mono (CC _) ?_); rintro e w' ⟨a', c', hd', B', yz, rfl, rfl, -, -⟩))
      go_ret
      exact fin_false HP (fun z => HN.out z.2) (hback yz)
  · have HW := Lib.hid hw
    clear hw
    go_enter Tryd.func37, Tryd.ntmps37
    go_wp2_with fail
    generalize hW : x.w.alloc _ = W1
    generalize hB : x.w.heap.size = B
    obtain ⟨c0, c1, c2, c3, h1, hback, yy, hy0⟩ := boxedT h x hB hW
    clear hW hB
    rw [← hy0]
    clear hy0
    have FW := F.on hback
    have TW := TF.on hback
    have IW : ∀ y : Ext W1, Calls Tryd.prog 35 #[(TV.mk ra rc rb rd).val t] y.w (Ans W1 (.bool false)) := fun y => isWritten_ans FW TW h1 hTB false (by refine iff_tf ?_; exact HW.out) y
    unfold TV.val at IW
    go_wp2_with (go_at_call 35; (with_reducible refine Calls.mono (IW _) ?_); rintro e w' ⟨rfl, yy, rfl⟩)
    go_ret
    exact fin_false HP (fun z => HW.out z.1) (hback yy)

set_option maxHeartbeats 8000000 in
theorem specIsNormal_ans {W : World} {lo : Nat} {t : Tm} {r : TV} (h : TmIn W lo t r) (hwt : t.wt ≤ 1099511627776) (p : Bool) (hp : p = true ↔ (Written t ∧ t.reds [] = [])) (x : Ext W) :
    Calls Tryd.prog 32 #[r.val t] x.w (Ans W (.bool p)) := by
  have HP := Lib.hid hp
  clear hp
  obtain ⟨ra, rc, rb, rd⟩ := r
  unfold TV.val
  by_cases hw : Written t
  · have HW := Lib.hid hw
    clear hw
    by_cases hn : t.reds [] = []
    · have HN := Lib.hid hn
      clear hn
      go_enter Tryd.func32, Tryd.ntmps32
      go_wp2_with fail
      generalize hW : x.w.alloc _ = W1
      generalize hB : x.w.heap.size = B
      obtain ⟨c0, c1, c2, c3, h1, hback, yy, hy0⟩ := boxedT h x hB hW
      clear hW hB
      rw [← hy0]
      clear hy0
      have IW : ∀ y : Ext W1, Calls Tryd.prog 29 #[(TV.mk ra rc rb rd).val t] y.w (Ans W1 (.bool true)) := fun y => specIsWritten_ans h1 hwt true (by refine iff_tf ?_; exact HW.out) y
      have CC : ∀ y : Ext W1, Calls Tryd.prog 66 #[(TV.mk ra rc rb rd).val t, .slice none 0 0] y.w (NewLs W1 (t.reds [])) := fun y => (l4Paths_ans t h1 HW.out.2 (by have := HW.out.1; omega) (p := []) (.inl rfl) (by have := HW.out.1; simp; omega) y).mono fun _ _ h => h.newLs
      have f1 : (((t.reds []).length : Int) == 0) = true := by rw [HN.out]; rfl
      unfold TV.val at IW CC
      go_wp2_with (first | (go_at_call 29; (with_reducible refine Calls.mono (IW _) ?_); rintro e w' ⟨rfl, yy, rfl⟩) | (go_at_call 66; (with_reducible refine Calls.mono (CC _) ?_); rintro e w' ⟨a', c', hd', B', yz, rfl, rfl, -, -⟩))
      go_ret
      exact fin_true HP ⟨HW.out, HN.out⟩ (hback yz)
    · have HN := Lib.hid hn
      clear hn
      go_enter Tryd.func32, Tryd.ntmps32
      go_wp2_with fail
      generalize hW : x.w.alloc _ = W1
      generalize hB : x.w.heap.size = B
      obtain ⟨c0, c1, c2, c3, h1, hback, yy, hy0⟩ := boxedT h x hB hW
      clear hW hB
      rw [← hy0]
      clear hy0
      have IW : ∀ y : Ext W1, Calls Tryd.prog 29 #[(TV.mk ra rc rb rd).val t] y.w (Ans W1 (.bool true)) := fun y => specIsWritten_ans h1 hwt true (by refine iff_tf ?_; exact HW.out) y
      have CC : ∀ y : Ext W1, Calls Tryd.prog 66 #[(TV.mk ra rc rb rd).val t, .slice none 0 0] y.w (NewLs W1 (t.reds [])) := fun y => (l4Paths_ans t h1 HW.out.2 (by have := HW.out.1; omega) (p := []) (.inl rfl) (by have := HW.out.1; simp; omega) y).mono fun _ _ h => h.newLs
      have f1 : (((t.reds []).length : Int) == 0) = false := by rw [beq_eq_false_iff_ne]; intro e; exact HN.out (List.eq_nil_of_length_eq_zero (by omega))
      unfold TV.val at IW CC
      go_wp2_with (first | (go_at_call 29; (with_reducible refine Calls.mono (IW _) ?_); rintro e w' ⟨rfl, yy, rfl⟩) | (go_at_call 66; (with_reducible refine Calls.mono (CC _) ?_); rintro e w' ⟨a', c', hd', B', yz, rfl, rfl, -, -⟩))
      go_ret
      exact fin_false HP (fun z => HN.out z.2) (hback yz)
  · have HW := Lib.hid hw
    clear hw
    go_enter Tryd.func32, Tryd.ntmps32
    go_wp2_with fail
    generalize hW : x.w.alloc _ = W1
    generalize hB : x.w.heap.size = B
    obtain ⟨c0, c1, c2, c3, h1, hback, yy, hy0⟩ := boxedT h x hB hW
    clear hW hB
    rw [← hy0]
    clear hy0
    have IW : ∀ y : Ext W1, Calls Tryd.prog 29 #[(TV.mk ra rc rb rd).val t] y.w (Ans W1 (.bool false)) := fun y => specIsWritten_ans h1 hwt false (by refine iff_tf ?_; exact HW.out) y
    unfold TV.val at IW
    go_wp2_with (go_at_call 29; (with_reducible refine Calls.mono (IW _) ?_); rintro e w' ⟨rfl, yy, rfl⟩)
    go_ret
    exact fin_false HP (fun z => HW.out z.1) (hback yy)

end Go.Proofs.YtncfbljablbglaaDoor
