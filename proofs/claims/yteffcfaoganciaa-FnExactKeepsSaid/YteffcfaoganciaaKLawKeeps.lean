
/- The law of Keeps. -/
import Derived.Test.YteffcfaoganciaaHA
import Derived.Test.YteffcfaoganciaaKKeepsI
import Derived.Test.YteffcfaoganciaaKKeepsS
import Derived.Test.YteffcfaoganciaaKEqCell
namespace Go.Proofs.Yteffcfaoganciaa
open Go.RowKit

set_option maxHeartbeats 8000000 in
theorem keeps_law {W : World} {r : Ref} {s : Sys} (h : SysIn W r s) {a : Option Addr} {c : Nat} {l : List (Int × Int)} (hr : Row2 W a l) (hl9 : l.length ≤ 9223372036854775807) :
    Calls Try.prog 3 #[r.val s, .slice a l.length c] W (LawEnd W) := by
  obtain ⟨x, hx⟩ : ∃ x : Ext W, x.w = W := ⟨Ext.self W, rfl⟩
  suffices hs : Calls Try.prog 3 #[r.val s, .slice a l.length c] x.w (LawEnd W) by rw [hx] at hs; exact hs
  clear hx
  unfold Ref.val
  by_cases hb : (1048576 : Int) < s.plus.length + s.times.length + s.below.length
  · skip
    go_enter Try.func3, Try.ntmps3
    go_wp2_with fail
    generalize hW : x.w.alloc _ = W1
    generalize hB : x.w.heap.size = B
    obtain ⟨c0, c1, c2, c3, h1, hback, yy, hy0⟩ := boxed h x hB hW
    clear hW hB
    rw [← hy0]
    clear hy0
    (with_reducible refine Calls.mono (szSystem_ans h1 1048576 (by omega) (by omega) (-1) (by rw [if_pos (by omega)]) _) ?_)
    rintro e w' ⟨rfl, yy, rfl⟩
    go_wp2_with fail
    go_ret
    exact law_end (hback yy)
  · have sm : Small s := ⟨by omega, by omega, by omega⟩
    go_enter Try.func3, Try.ntmps3
    go_wp2_with fail
    generalize hW : x.w.alloc _ = W1
    generalize hB : x.w.heap.size = B
    obtain ⟨c0, c1, c2, c3, h1, hback, yy, hy0⟩ := boxed h x hB hW
    have hr1 : Row2 W1 a l := by rw [← hW]; exact hr.ext (x.alloc _)
    clear hW hB hr h
    rw [← hy0]
    clear hy0
    (with_reducible refine Calls.mono (szSystem_ans h1 1048576 (by omega) (by omega) (1048576 - (s.plus.length + s.times.length + s.below.length)) (by rw [if_neg (by omega)]) _) ?_)
    rintro e w' ⟨rfl, yy, rfl⟩
    obtain ⟨lft, hlft⟩ : ∃ lft : Int, (1048576 - ((s.plus.length : Int) + s.times.length + s.below.length)) = lft := ⟨_, rfl⟩
    have hnb : 0 ≤ lft ∧ lft ≤ 1048576 := by omega
    rw [hlft]
    clear hlft hb
    by_cases hlc : lft < l.length
    · have C := szCellS_ans (W := W1) a c l lft hnb.1 hnb.2 hl9 (-1) (by rw [if_pos hlc])
      have hn0 : ¬ lft < 0 := by omega
      go_wp2_with (go_at_call 6; refine Calls.mono (C yy) ?_; rintro e w' ⟨rfl, y2, rfl⟩)
      go_ret
      exact law_end (hback y2)
    have C := szCellS_ans (W := W1) a c l lft hnb.1 hnb.2 hl9 (lft - l.length) (by rw [if_neg hlc])
    have hn0 : ¬ lft < 0 := by omega
    have hn1 : ¬ lft - (l.length : Int) < 0 := by omega
    have hl : l.length ≤ 1048576 := by omega
    obtain ⟨p, hp⟩ := bool_of (KeepsP s l)
    have HP := Lib.hid hp
    clear hp
    go_wp2_with (go_at_call 6; refine Calls.mono (C yy) ?_; rintro e w' ⟨rfl, y2, rfl⟩)
    clear C
    refine Calls.mono (toSystem_ans h1 sm _) ?_
    rintro e w' ⟨r1, y3, rfl, rfl, k1⟩
    go_wp2_with fail
    refine Calls.mono (toCellS_ans (hr1.ext y3) hl (Ext.self y3.w)) ?_
    rintro e w' ⟨a4, c4, y4, rfl, rfl, row4⟩
    go_wp2_with fail
    (with_reducible refine Calls.mono (specKeeps_ans (k1.ext y4) row4 hl p HP.out (Ext.self y4.w)) ?_)
    rintro e w' ⟨rfl, y5, rfl⟩
    obtain ⟨z5, hz⟩ : ∃ z5 : Ext W1, z5.w = y5.w := ⟨(y3.trans y4).trans y5, rfl⟩
    rw [← hz]
    clear hz row4 k1
    go_wp2_with fail
    refine Calls.mono (toSystem_ans h1 sm _) ?_
    rintro e w' ⟨r2, y6, rfl, rfl, k2⟩
    go_wp2_with fail
    generalize hW : y6.w.alloc _ = W3
    generalize hB3 : y6.w.heap.size = B3
    obtain ⟨d0, d1, d2, d3, k3, hback3, zz, hy0⟩ := boxed k2 (Ext.self y6.w) hB3 hW
    have hr3 : Row2 W3 a l := by rw [← hW]; exact hr1.ext (y6.alloc _)
    have e0 := lift_fact y6 hback3 c0
    have e1 := lift_fact y6 hback3 c1
    have e2 := lift_fact y6 hback3 c2
    have e3 := lift_fact y6 hback3 c3
    have m1 := lift_sys y6 hback3 ⟨zz, hy0⟩ h1
    have hbk := lift_back y6 hback3 hback
    clear hW hB3 hback3 hback c0 c1 c2 c3 k2 h1 hr1
    rw [← hy0]
    clear hy0
    refine Calls.mono (toCellS_ans hr3 hl zz) ?_
    rintro e w' ⟨a7, c7, z7, rfl, rfl, row7⟩
    go_wp2_with fail
    (with_reducible refine Calls.mono (keeps_ans (k3.ext z7) row7 hl p HP.out (Ext.self z7.w)) ?_)
    rintro e w' ⟨rfl, z8, rfl⟩
    have row8 := row7.ext z8
    obtain ⟨z9, hz⟩ : ∃ z : Ext W3, z.w = z8.w := ⟨z7.trans z8, rfl⟩
    rw [← hz] at row8 ⊢
    clear hz row7
    have hpp : (p != p) = false := by simp
    go_wp2_with fail
    go_region_held3 (fun w' => (w'.cell? ⟨B3, 0, none⟩ = some (.int .i64 s.n) ∧ w'.cell? ⟨B3, 1, none⟩ = some (.slice r2.pa s.plus.length r2.pc) ∧ w'.cell? ⟨B3, 2, none⟩ = some (.slice r2.ta s.times.length r2.tc) ∧ w'.cell? ⟨B3, 3, none⟩ = some (.slice r2.ba s.below.length r2.bc)) ∧
        w'.cell? ⟨B, 0, none⟩ = some (.int .i64 s.n) ∧ w'.cell? ⟨B, 1, none⟩ = some (.slice r.pa s.plus.length r.pc) ∧ w'.cell? ⟨B, 2, none⟩ = some (.slice r.ta s.times.length r.tc) ∧ w'.cell? ⟨B, 3, none⟩ = some (.slice r.ba s.below.length r.bc))
      (first | exact ⟨⟨d0 z9.drew, d1 z9.drew, d2 z9.drew, d3 z9.drew⟩, e0 z9.drew, e1 z9.drew, e2 z9.drew, e3 z9.drew⟩ | exact ⟨⟨d0 (z9.trans uu), d1 (z9.trans uu), d2 (z9.trans uu), d3 (z9.trans uu)⟩, e0 (z9.trans uu), e1 (z9.trans uu), e2 (z9.trans uu), e3 (z9.trans uu)⟩ | exact ⟨⟨d0 ((z9.trans uu).trans u2), d1 ((z9.trans uu).trans u2), d2 ((z9.trans uu).trans u2), d3 ((z9.trans uu).trans u2)⟩, e0 ((z9.trans uu).trans u2), e1 ((z9.trans uu).trans u2), e2 ((z9.trans uu).trans u2), e3 ((z9.trans uu).trans u2)⟩)
      (first | (go_at_call 8; refine Calls.mono (toSystem_ans (m1.ext z9) sm (Ext.self z9.w).drew) ?_; rintro e w' ⟨r3, uu, rfl, rfl, k4⟩) | (go_at_call 11; (with_reducible refine Calls.mono (eqSystem_ans ((k3.ext z9).ext uu) k4 sm true (by simp) (Ext.self uu.w)) ?_); rintro e w' ⟨rfl, u2, rfl⟩))
    go_wp2_with fail
    obtain ⟨z10, hz⟩ : ∃ z : Ext z9.w, z.w = u2.w := ⟨uu.trans u2, rfl⟩
    rw [← hz]
    clear hz
    refine Calls.mono (toCellS_ans (hr3.ext z9) hl z10) ?_
    rintro e w' ⟨a10, c10, z11, rfl, rfl, row11⟩
    go_wp2_with fail
    (with_reducible refine Calls.mono (eqCellS_ans (row8.ext z11) row11 hl (Ext.self z11.w)) ?_)
    rintro e w' ⟨rfl, z12, rfl⟩
    go_wp2_with fail
    go_ret
    exact law_end (hbk (z9.trans (z11.trans z12)))

end Go.Proofs.Yteffcfaoganciaa
