
/- RedexesOf, of the program and of the model. -/
import Derived.Test.YtoefeijnnnioeaaDoorKRedsP
import Derived.Test.YtoefeijnnnioeaaDoorKRedsM
import Derived.Test.YtoefeijnnnioeaaDoorGH
import Derived.Test.YtoefeijnnnioeaaDoorGG
set_option linter.unusedVariables false
set_option linter.unusedSimpArgs false
namespace Go.Proofs.YtoefeijnnnioeaaDoor
open Go.RowKit

theorem NewLs.lift {W W1 : World} (hback : ∀ y : Ext W1, ∃ z : Ext W, y.w = z.w) (y0 : Ext W1) {ls : List (List Int)} {e : Ending} {w' : World} (h : NewLs y0.w ls e w') : NewLs W ls e w' := by
  obtain ⟨a, c, hd, B, y, h1, rfl, h3, h4⟩ := h
  obtain ⟨z0, hz0⟩ := hback y0
  obtain ⟨z, hz⟩ := hback (y0.trans y)
  have hz' : y.w = z.w := hz
  refine ⟨a, c, hd, B, z, h1, hz, by rw [← hz']; exact h3, fun q hq => ?_⟩
  have h5 := h4 q hq
  have h6 := z0.size
  rw [← hz0] at h6
  omega

set_option maxHeartbeats 8000000 in
theorem redexesOf_ans {W : World} (F : Forms W) (TF : TForms W) {lo : Nat} {t : Tm} {r : TV} (h : TmIn W lo t r) (hTB : TmB t) (o : List (List Int)) (ho : RedsV t o) (x : Ext W) :
    Calls Tryd.prog 36 #[r.val t] x.w (NewLs W o) := by
  obtain ⟨ra, rc, rb, rd⟩ := r
  unfold TV.val
  rcases ho with ⟨hw, rfl⟩ | ⟨hw, rfl⟩
  · have HW := Lib.hid hw
    clear hw
    go_enter Tryd.func36, Tryd.ntmps36
    go_wp2_with fail
    generalize hW : x.w.alloc _ = W1
    generalize hB : x.w.heap.size = B
    obtain ⟨c0, c1, c2, c3, h1, hback, yy, hy0⟩ := boxedT h x hB hW
    clear hW hB
    rw [← hy0]
    clear hy0
    have FW := F.on hback
    have TW := TF.on hback
    have IW : ∀ y : Ext W1, Calls Tryd.prog 69 #[(TV.mk ra rc rb rd).val t] y.w (Ans W1 (.bool true)) := fun y => isWritten_ans FW TW h1 hTB true (by refine iff_tf ?_; exact HW.out) y
    have CC : ∀ y : Ext W1, Calls Tryd.prog 87 #[.slice none 0 0, .slice none 0 0, (TV.mk ra rc rb rd).val t] y.w (RedA W1 y.w none [] (fun _ => (none, 0)) none 0 [] ([] ++ t.reds [])) := fun y => appRed_ans t h1 HW.out.2 (by have := HW.out.1; omega) (by have := HW.out.1; simp; omega) (by have := HW.out.1; simp; omega) (RP.start y.below _)
    unfold TV.val at IW CC
    go_wp2_with (go_at_call 69; (with_reducible refine Calls.mono (IW _) ?_); rintro e w' ⟨rfl, yy, rfl⟩)
    refine Calls.mono (CC _) ?_
    rintro e w' ⟨a', c', hd', rfl, rp, -, -⟩
    simp only [List.nil_append] at rp ⊢
    have N := rp.gl.newLs
    go_wp2_with fail
    go_ret
    exact NewLs.lift hback (Ext.self W1) N
  · have HW := Lib.hid hw
    clear hw
    go_enter Tryd.func36, Tryd.ntmps36
    go_wp2_with fail
    generalize hW : x.w.alloc _ = W1
    generalize hB : x.w.heap.size = B
    obtain ⟨c0, c1, c2, c3, h1, hback, yy, hy0⟩ := boxedT h x hB hW
    clear hW hB
    rw [← hy0]
    clear hy0
    have FW := F.on hback
    have TW := TF.on hback
    have IW : ∀ y : Ext W1, Calls Tryd.prog 69 #[(TV.mk ra rc rb rd).val t] y.w (Ans W1 (.bool false)) := fun y => isWritten_ans FW TW h1 hTB false (by refine iff_tf ?_; exact HW.out) y
    unfold TV.val at IW
    go_wp2_with (go_at_call 69; (with_reducible refine Calls.mono (IW _) ?_); rintro e w' ⟨rfl, yy, rfl⟩)
    go_ret
    obtain ⟨z, hz⟩ := hback yy
    rw [hz]
    exact newLs_nil z

set_option maxHeartbeats 8000000 in
theorem specRedexesOf_ans {W : World} {lo : Nat} {t : Tm} {r : TV} (h : TmIn W lo t r) (hwt : t.wt ≤ 1099511627776) (o : List (List Int)) (ho : RedsV t o) (x : Ext W) :
    Calls Tryd.prog 35 #[r.val t] x.w (NewLs W o) := by
  obtain ⟨ra, rc, rb, rd⟩ := r
  unfold TV.val
  rcases ho with ⟨hw, rfl⟩ | ⟨hw, rfl⟩
  · have HW := Lib.hid hw
    clear hw
    go_enter Tryd.func35, Tryd.ntmps35
    go_wp2_with fail
    generalize hW : x.w.alloc _ = W1
    generalize hB : x.w.heap.size = B
    obtain ⟨c0, c1, c2, c3, h1, hback, yy, hy0⟩ := boxedT h x hB hW
    clear hW hB
    rw [← hy0]
    clear hy0
    have IW : ∀ y : Ext W1, Calls Tryd.prog 66 #[(TV.mk ra rc rb rd).val t] y.w (Ans W1 (.bool true)) := fun y => specIsWritten_ans h1 hwt true (by refine iff_tf ?_; exact HW.out) y
    have CC : ∀ y : Ext W1, Calls Tryd.prog 86 #[(TV.mk ra rc rb rd).val t, .slice none 0 0] y.w (LsS y.w (t.reds [])) := fun y => l4Paths_ans t (h1.ext y) HW.out.2 (by have := HW.out.1; omega) (p := []) (.inl rfl) (by have := HW.out.1; simp; omega) (Ext.self y.w)
    unfold TV.val at IW CC
    go_wp2_with (go_at_call 66; (with_reducible refine Calls.mono (IW _) ?_); rintro e w' ⟨rfl, yy, rfl⟩)
    refine Calls.mono (CC _) ?_
    rintro e w' hS
    have N := hS.newLs
    obtain ⟨a', c', rfl⟩ := hS.val
    go_wp2_with fail
    go_ret
    exact NewLs.lift hback yy N
  · have HW := Lib.hid hw
    clear hw
    go_enter Tryd.func35, Tryd.ntmps35
    go_wp2_with fail
    generalize hW : x.w.alloc _ = W1
    generalize hB : x.w.heap.size = B
    obtain ⟨c0, c1, c2, c3, h1, hback, yy, hy0⟩ := boxedT h x hB hW
    clear hW hB
    rw [← hy0]
    clear hy0
    have IW : ∀ y : Ext W1, Calls Tryd.prog 66 #[(TV.mk ra rc rb rd).val t] y.w (Ans W1 (.bool false)) := fun y => specIsWritten_ans h1 hwt false (by refine iff_tf ?_; exact HW.out) y
    unfold TV.val at IW
    go_wp2_with (go_at_call 66; (with_reducible refine Calls.mono (IW _) ?_); rintro e w' ⟨rfl, yy, rfl⟩)
    go_ret
    obtain ⟨z, hz⟩ := hback yy
    rw [hz]
    exact newLs_nil z

end Go.Proofs.YtoefeijnnnioeaaDoor
