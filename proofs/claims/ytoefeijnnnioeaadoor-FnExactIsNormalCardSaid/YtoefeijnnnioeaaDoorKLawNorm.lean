
/- The law of IsNormal. -/
import Derived.Test.YtoefeijnnnioeaaDoorGE
import Derived.Test.YtoefeijnnnioeaaDoorKNormTop
import Derived.Test.YtoefeijnnnioeaaDoorGI
import Derived.Test.YtoefeijnnnioeaaDoorGF
set_option linter.unusedVariables false
set_option linter.unusedSimpArgs false
namespace Go.Proofs.YtoefeijnnnioeaaDoor
open Go.RowKit

set_option maxHeartbeats 8000000 in
theorem isNormal_law {W : World} (F : Forms W) (TF : TForms W) {lo : Nat} {t : Tm} {r : TV} (h : TmIn W lo t r) (hTB : TmB t) :
    Calls Tryd.prog 10 #[r.val t] W (LawEnd W) := by
  obtain ⟨x, hx⟩ : ∃ x : Ext W, x.w = W := ⟨Ext.self W, rfl⟩
  suffices hs : Calls Tryd.prog 10 #[r.val t] x.w (LawEnd W) by rw [hx] at hs; exact hs
  clear hx
  obtain ⟨ra, rc, rb, rd⟩ := r
  unfold TV.val
  by_cases hb : (1048576 : Int) < t.wt
  · skip
    go_enter Tryd.func10, Tryd.ntmps10
    go_wp2_with fail
    generalize hW : x.w.alloc _ = W1
    generalize hB : x.w.heap.size = B
    obtain ⟨c0, c1, c2, c3, h1, hback, yy, hy0⟩ := boxedT h x hB hW
    clear hW hB
    rw [← hy0]
    clear hy0
    have SZ : ∀ y : Ext W1, Calls Tryd.prog 21 #[(TV.mk ra rc rb rd).val t, .int .i64 1048576] y.w (Ans W1 (.int .i64 (-1))) := fun y => szTerm_ans t h1 1048576 (by omega) (by omega) (-1) (.inr ⟨hb, rfl⟩) y
    unfold TV.val at SZ
    refine Calls.mono (SZ _) ?_
    rintro e w' ⟨rfl, yy, rfl⟩
    go_wp2_with fail
    go_ret
    exact law_end (hback yy)
  · have hwt : t.wt ≤ 1048576 := by omega
    have hwt2 : t.wt ≤ 1099511627776 := by omega
    generalize hlf : (1048576 : Int) - t.wt = lft
    have hnb : (0 : Int) ≤ lft := by omega
    obtain ⟨p, hp⟩ := bool_of (Written t ∧ t.reds [] = [])
    have HP := Lib.hid hp
    clear hp
    go_enter Tryd.func10, Tryd.ntmps10
    go_wp2_with fail
    generalize hW : x.w.alloc _ = W1
    generalize hB : x.w.heap.size = B
    obtain ⟨c0, c1, c2, c3, h1, hback, yy, hy0⟩ := boxedT h x hB hW
    clear hW hB
    rw [← hy0]
    clear hy0
    have SZ : ∀ y : Ext W1, Calls Tryd.prog 21 #[(TV.mk ra rc rb rd).val t, .int .i64 1048576] y.w (Ans W1 (.int .i64 lft)) := fun y => szTerm_ans t h1 1048576 (by omega) (by omega) lft (.inl ⟨by omega, hlf.symm⟩) y
    unfold TV.val at SZ
    refine Calls.mono (SZ _) ?_
    rintro e w' ⟨rfl, yy, rfl⟩
    clear SZ hlf
    go_wp2_with fail
    refine Calls.mono (toTerm_ans t (r := ⟨ra, rc, rb, rd⟩) h1 hwt _) ?_
    rintro e w' ⟨r1, yy, rfl, rfl, k1⟩
    go_wp2_with fail
    (refine Calls.mono (specIsNormal_ans k1 hwt2 p HP.out (Ext.self _)) ?_)
    rintro e w' ⟨rfl, z, rfl⟩
    obtain ⟨yy2, hz⟩ : ∃ y2 : Ext W1, y2.w = z.w := ⟨yy.trans z, rfl⟩
    rw [← hz]
    clear hz z k1
    go_wp2_with fail
    refine Calls.mono (toTerm_ans t (r := ⟨ra, rc, rb, rd⟩) h1 hwt _) ?_
    rintro e w' ⟨r2, yy3, rfl, rfl, k2⟩
    go_wp2_with fail
    generalize hW : yy3.w.alloc _ = W3
    generalize hB3 : yy3.w.heap.size = B3
    obtain ⟨d0, d1, d2, d3, k3, hback3, zz, hy0⟩ := boxedT k2 (Ext.self yy3.w) hB3 hW
    have e0 := lift_fact yy3 hback3 c0
    have e1 := lift_fact yy3 hback3 c1
    have e2 := lift_fact yy3 hback3 c2
    have e3 := lift_fact yy3 hback3 c3
    have m1 : TmIn W3 lo t ⟨ra, rc, rb, rd⟩ := by obtain ⟨u, hu⟩ := hback3 zz; rw [← hy0, hu]; exact h1.ext (yy3.trans u)
    have hbk := lift_back yy3 hback3 hback
    have FW := F.on hbk
    have TW := TF.on hbk
    clear hW hB3 hback3 hback c0 c1 c2 c3 k2 h1
    rw [← hy0]
    clear hy0
    go_wp2_with fail
    (refine Calls.mono (isNormal_ans FW TW k3 hTB p HP.out zz) ?_)
    rintro e w' ⟨rfl, zz, rfl⟩
    go_wp2_with fail
    have TOT : ∀ y : Ext W3, Calls Tryd.prog 23 #[(TV.mk ra rc rb rd).val t] y.w (NewTm y.w t) := fun y => toTerm_ans t (m1.ext y) hwt (Ext.self y.w)
    unfold TV.val at TOT
    replace TOT := TOT zz.drew
    go_region_held3 (fun w' => (w'.cell? ⟨B3, 0, none⟩ = some (.int .i64 t.op) ∧ w'.cell? ⟨B3, 1, none⟩ = some (.int .i64 t.n) ∧ w'.cell? ⟨B3, 2, none⟩ = some (.slice r2.a t.ty.length r2.c) ∧ w'.cell? ⟨B3, 3, none⟩ = some (.slice r2.b t.kids.length r2.d)) ∧
        w'.cell? ⟨B, 0, none⟩ = some (.int .i64 t.op) ∧ w'.cell? ⟨B, 1, none⟩ = some (.int .i64 t.n) ∧ w'.cell? ⟨B, 2, none⟩ = some (.slice ra t.ty.length rc) ∧ w'.cell? ⟨B, 3, none⟩ = some (.slice rb t.kids.length rd))
      (first | exact ⟨⟨d0 zz.drew, d1 zz.drew, d2 zz.drew, d3 zz.drew⟩, e0 zz.drew, e1 zz.drew, e2 zz.drew, e3 zz.drew⟩ | exact ⟨⟨d0 (zz.drew.trans uu), d1 (zz.drew.trans uu), d2 (zz.drew.trans uu), d3 (zz.drew.trans uu)⟩, e0 (zz.drew.trans uu), e1 (zz.drew.trans uu), e2 (zz.drew.trans uu), e3 (zz.drew.trans uu)⟩ | exact ⟨⟨d0 (zz.drew.trans (uu.trans u2)), d1 (zz.drew.trans (uu.trans u2)), d2 (zz.drew.trans (uu.trans u2)), d3 (zz.drew.trans (uu.trans u2))⟩, e0 (zz.drew.trans (uu.trans u2)), e1 (zz.drew.trans (uu.trans u2)), e2 (zz.drew.trans (uu.trans u2)), e3 (zz.drew.trans (uu.trans u2))⟩)
      (first | (go_at_call 23; refine Calls.mono TOT ?_; rintro e w' ⟨r3, uu, rfl, rfl, k4⟩) | (go_at_call 25; refine Calls.mono (eqTerm_ans t ((k3.ext zz.drew).ext uu) k4 hwt true (by simp) (Ext.self uu.w)) ?_; rintro e w' ⟨rfl, u2, rfl⟩))
    go_wp2_with fail
    go_ret
    exact law_end (hbk (zz.drew.trans (uu.trans u2)))

end Go.Proofs.YtoefeijnnnioeaaDoor
