/- The law of IsReliable. -/
import Derived.Test.YtjfpmjbfafeanaaLawHead
import Derived.Test.YtjfpmjbfafeanaaRel
import Derived.Test.YtjfpmjbfafeanaaRelS
namespace Go.Proofs.Ytjfpmjbfafeanaa
open Go.RowKit

set_option maxHeartbeats 8000000 in
theorem isReliable_law {W : World} {r : Ref} {s : Sys} (h : SysIn W r s) :
    Calls Try.prog 12 #[r.val s] W (LawEnd W) := by
  have x := Ext.self W
  obtain ⟨x, hx⟩ : ∃ x : Ext W, x.w = W := ⟨Ext.self W, rfl⟩
  suffices hs : Calls Try.prog 12 #[r.val s] x.w (LawEnd W) by rw [hx] at hs; exact hs
  clear hx
  unfold Ref.val
  by_cases hb : (1048576 : Int) < s.plus.length + s.times.length + s.below.length
  · skip
    go_enter Try.func12, Try.ntmps12
    go_wp2_with fail
    generalize hW : x.w.alloc _ = W1
    generalize hB : x.w.heap.size = B
    obtain ⟨c0, c1, c2, c3, h1, hback, yy, hy0⟩ := boxed h x hB hW
    clear hW hB
    rw [← hy0]
    clear hy0
    (with_reducible refine Calls.mono (szSystem_ans h1 1048576 (by omega) (by omega) (-1) (by rw [if_pos (by omega)]) _) ?_)
    rintro e w' ⟨rfl, yy, rfl⟩
    go_wp2_with fail
    go_ret
    exact law_end (hback yy)
  · have sm : Small s := ⟨by omega, by omega, by omega⟩
    obtain ⟨p, hp⟩ := bool_of (Reliable s)
    have HP := Lib.hid hp
    clear hp
    go_enter Try.func12, Try.ntmps12
    go_wp2_with fail
    generalize hW : x.w.alloc _ = W1
    generalize hB : x.w.heap.size = B
    obtain ⟨c0, c1, c2, c3, h1, hback, yy, hy0⟩ := boxed h x hB hW
    clear hW hB
    rw [← hy0]
    clear hy0
    (with_reducible refine Calls.mono (szSystem_ans h1 1048576 (by omega) (by omega) (1048576 - (s.plus.length + s.times.length + s.below.length)) (by rw [if_neg (by omega)]) _) ?_)
    rintro e w' ⟨rfl, yy, rfl⟩
    have hnb : (0 : Int) ≤ 1048576 - (s.plus.length + s.times.length + s.below.length) := by omega
    generalize (1048576 - ((s.plus.length : Int) + s.times.length + s.below.length)) = lft at *
    go_wp2_with fail
    refine Calls.mono (toSystem_ans h1 sm _) ?_
    rintro e w' ⟨r1, yy, rfl, rfl, k1⟩
    go_wp2_with fail
    (with_reducible refine Calls.mono (specIsReliable_ans k1 p HP.out (Ext.self _)) ?_)
    rintro e w' ⟨rfl, z, rfl⟩
    obtain ⟨yy2, hz⟩ : ∃ y2 : Ext W1, y2.w = z.w := ⟨yy.trans z, rfl⟩
    rw [← hz]
    clear hz z k1
    go_wp2_with fail
    refine Calls.mono (toSystem_ans h1 sm _) ?_
    rintro e w' ⟨r2, yy3, rfl, rfl, k2⟩
    go_wp2_with fail
    generalize hW : yy3.w.alloc _ = W3
    generalize hB3 : yy3.w.heap.size = B3
    obtain ⟨d0, d1, d2, d3, k3, hback3, zz, hy0⟩ := boxed k2 (Ext.self yy3.w) hB3 hW
    have e0 := lift_fact yy3 hback3 c0
    have e1 := lift_fact yy3 hback3 c1
    have e2 := lift_fact yy3 hback3 c2
    have e3 := lift_fact yy3 hback3 c3
    have m1 := lift_sys yy3 hback3 ⟨zz, hy0⟩ h1
    have hbk := lift_back yy3 hback3 hback
    clear hW hB3 hback3 hback c0 c1 c2 c3 k2 h1
    rw [← hy0]
    clear hy0
    (with_reducible refine Calls.mono (isReliable_ans k3 p HP.out zz) ?_)
    rintro e w' ⟨rfl, zz, rfl⟩
    go_wp2_with fail
    go_region_held3 (fun w' => (w'.cell? ⟨B3, 0, none⟩ = some (.int .i64 s.n) ∧ w'.cell? ⟨B3, 1, none⟩ = some (.slice r2.pa s.plus.length r2.pc) ∧ w'.cell? ⟨B3, 2, none⟩ = some (.slice r2.ta s.times.length r2.tc) ∧ w'.cell? ⟨B3, 3, none⟩ = some (.slice r2.ba s.below.length r2.bc)) ∧
        w'.cell? ⟨B, 0, none⟩ = some (.int .i64 s.n) ∧ w'.cell? ⟨B, 1, none⟩ = some (.slice r.pa s.plus.length r.pc) ∧ w'.cell? ⟨B, 2, none⟩ = some (.slice r.ta s.times.length r.tc) ∧ w'.cell? ⟨B, 3, none⟩ = some (.slice r.ba s.below.length r.bc))
      (first | exact ⟨⟨d0 zz.drew, d1 zz.drew, d2 zz.drew, d3 zz.drew⟩, e0 zz.drew, e1 zz.drew, e2 zz.drew, e3 zz.drew⟩ | exact ⟨⟨d0 uu, d1 uu, d2 uu, d3 uu⟩, e0 uu, e1 uu, e2 uu, e3 uu⟩ | exact ⟨⟨d0 (uu.trans u2), d1 (uu.trans u2), d2 (uu.trans u2), d3 (uu.trans u2)⟩, e0 (uu.trans u2), e1 (uu.trans u2), e2 (uu.trans u2), e3 (uu.trans u2)⟩)
      (first | (go_at_call 17; refine Calls.mono (toSystem_ans m1 sm zz.drew) ?_; rintro e w' ⟨r3, uu, rfl, rfl, k4⟩) | (go_at_call 19; (with_reducible refine Calls.mono (eqSystem_ans (k3.ext uu) k4 sm true (by simp) (Ext.self uu.w)) ?_); rintro e w' ⟨rfl, u2, rfl⟩))
    go_wp2_with fail
    go_ret
    exact law_end (hbk (uu.trans u2))

end Go.Proofs.Ytjfpmjbfafeanaa
