
/- The law of CountSeen. -/
import Derived.Test.YteffcfaoganciaaDoorKLawCnt
import Derived.Test.YteffcfaoganciaaDoorKSeenTop
set_option linter.unusedVariables false
set_option linter.unusedSimpArgs false
namespace Go.Proofs.YteffcfaoganciaaDoor
open Go.RowKit

set_option maxHeartbeats 16000000 in
theorem countSeen_law {W : World} {r : Ref} {s : Sys} (F : Forms W) (h : SysIn W r s) {aq : Option Addr} {cq : Nat} {q : List Int} (hq : Row W (Value.int .i64) aq q) (hqm : q.length ≤ 9223372036854775807) {a : Option Addr} {c : Nat} {l : List Int} (hr : Row W (Value.int .i64) a l) (hlm : l.length ≤ 9223372036854775807) (hcb : CodesB l) :
    Calls Tryd.prog 7 #[r.val s, .slice aq q.length cq, .slice a l.length c] W (LawEnd W) := by
  obtain ⟨x, hx⟩ : ∃ x : Ext W, x.w = W := ⟨Ext.self W, rfl⟩
  suffices hs : Calls Tryd.prog 7 #[r.val s, .slice aq q.length cq, .slice a l.length c] x.w (LawEnd W) by rw [hx] at hs; exact hs
  clear hx
  unfold Ref.val
  by_cases hq0 : (1048576 : Int) < q.length
  · skip
    go_enter Tryd.func7, Tryd.ntmps7
    go_wp2_with fail
    generalize hW : x.w.alloc _ = W1
    generalize hB : x.w.heap.size = B
    obtain ⟨c0, c1, c2, c3, h1, hback, yy, hy0⟩ := boxed h x hB hW
    clear hW hB
    rw [← hy0]
    clear hy0
    go_ret
    exact law_end (hback yy)
  by_cases hl0 : (1048576 : Int) < l.length
  · skip
    go_enter Tryd.func7, Tryd.ntmps7
    go_wp2_with fail
    generalize hW : x.w.alloc _ = W1
    generalize hB : x.w.heap.size = B
    obtain ⟨c0, c1, c2, c3, h1, hback, yy, hy0⟩ := boxed h x hB hW
    clear hW hB
    rw [← hy0]
    clear hy0
    go_ret
    exact law_end (hback yy)
  by_cases hb : (1048576 : Int) < s.plus.length + s.times.length + s.below.length
  · skip
    go_enter Tryd.func7, Tryd.ntmps7
    go_wp2_with fail
    generalize hW : x.w.alloc _ = W1
    generalize hB : x.w.heap.size = B
    obtain ⟨c0, c1, c2, c3, h1, hback, yy, hy0⟩ := boxed h x hB hW
    clear hW hB
    rw [← hy0]
    clear hy0
    (with_reducible refine Calls.mono (szSystem_ans h1 1048576 (by omega) (by omega) (-1) (by rw [if_pos (by omega)]) _) ?_)
    rintro e w' ⟨rfl, yy, rfl⟩
    go_wp2_with fail
    go_ret
    exact law_end (hback yy)
  · have sm : Small s := ⟨by omega, by omega, by omega⟩
    have hl : l.length ≤ 1099511627776 := by omega
    have hql : q.length ≤ 1099511627776 := by omega
    obtain ⟨v, hv⟩ := seenV_ex s q l
    have HV := Lib.hid hv
    clear hv
    go_enter Tryd.func7, Tryd.ntmps7
    go_wp2_with fail
    generalize hW : x.w.alloc _ = W1
    generalize hB : x.w.heap.size = B
    obtain ⟨c0, c1, c2, c3, h1, hback, yy, hy0⟩ := boxed h x hB hW
    clear hW hB
    rw [← hy0]
    clear hy0
    have hrow : ∀ y : Ext W1, Row y.w (Value.int .i64) a l := fun y => by obtain ⟨u, hu⟩ := hback y; rw [hu]; exact hr.ext u
    have hqrow : ∀ y : Ext W1, Row y.w (Value.int .i64) aq q := fun y => by obtain ⟨u, hu⟩ := hback y; rw [hu]; exact hq.ext u
    (with_reducible refine Calls.mono (szSystem_ans h1 1048576 (by omega) (by omega) (1048576 - (s.plus.length + s.times.length + s.below.length)) (by rw [if_neg (by omega)]) _) ?_)
    rintro e w' ⟨rfl, yy, rfl⟩
    have hnb : (0 : Int) ≤ 1048576 - (s.plus.length + s.times.length + s.below.length) := by omega
    generalize (1048576 - ((s.plus.length : Int) + s.times.length + s.below.length)) = lft at *
    go_wp2_with fail
    refine Calls.mono (toSystem_ans h1 sm _) ?_
    rintro e w' ⟨r1, yy, rfl, rfl, k1⟩
    go_wp2_with fail
    refine Calls.mono (toIntS_ans (hqrow yy) hql (Ext.self yy.w)) ?_
    rintro e w' ⟨v0, z0, rfl, rfl, own0⟩
    obtain ⟨a0, c0', rfl, row0, -, -, -⟩ := own_cap own0
    clear own0
    go_wp2_with fail
    refine Calls.mono (toIntS_ans (hrow (yy.trans z0)) hl (Ext.self z0.w)) ?_
    rintro e w' ⟨v1, zz, rfl, rfl, own1⟩
    obtain ⟨a1, c1', rfl, row1, cap1, b1, at1⟩ := own_cap own1
    go_wp2_with fail
    (refine Calls.mono (specCountSeen_ans (W := zz.w) (k1.ext (z0.trans zz)) (row0.ext zz) hql hl row1 cap1 at1 v HV.out (Ext.self _)) ?_)
    rintro e w' ⟨rfl, z, rfl⟩
    obtain ⟨yy2, hz⟩ : ∃ y2 : Ext W1, y2.w = z.w := ⟨yy.trans (z0.trans (zz.trans z)), rfl⟩
    rw [← hz]
    clear hz z own1 row1 row0 k1
    go_wp2_with fail
    refine Calls.mono (toSystem_ans h1 sm _) ?_
    rintro e w' ⟨r2, yy3, rfl, rfl, k2⟩
    go_wp2_with fail
    generalize hW : yy3.w.alloc _ = W3
    generalize hB3 : yy3.w.heap.size = B3
    obtain ⟨d0, d1, d2, d3, k3, hback3, zz, hy0⟩ := boxed k2 (Ext.self yy3.w) hB3 hW
    have e0 := lift_fact yy3 hback3 c0
    have e1 := lift_fact yy3 hback3 c1
    have e2 := lift_fact yy3 hback3 c2
    have e3 := lift_fact yy3 hback3 c3
    have m1 := lift_sys yy3 hback3 ⟨zz, hy0⟩ h1
    have hbk := lift_back yy3 hback3 hback
    have hrow3 : ∀ y : Ext W3, Row y.w (Value.int .i64) a l := fun y => by obtain ⟨u, hu⟩ := hbk y; rw [hu]; exact hr.ext u
    have hqrow3 : ∀ y : Ext W3, Row y.w (Value.int .i64) aq q := fun y => by obtain ⟨u, hu⟩ := hbk y; rw [hu]; exact hq.ext u
    clear hW hB3 hback3 hback hrow hqrow c0 c1 c2 c3 k2 h1
    rw [← hy0]
    clear hy0
    go_wp2_with fail
    refine Calls.mono (toIntS_ans (W := zz.w) (hqrow3 zz) hql (Ext.self zz.w)) ?_
    rintro e w' ⟨v2, w2, rfl, rfl, own2⟩
    obtain ⟨aq2, cq2, rfl, qrow2, -, -, -⟩ := own_cap own2
    clear own2
    go_wp2_with fail
    refine Calls.mono (toIntS_ans (W := w2.w) (hrow3 (zz.trans w2)) hl (Ext.self w2.w)) ?_
    rintro e w' ⟨v2, ww, rfl, rfl, own2⟩
    obtain ⟨a2, c2', rfl, row2, cap2, b2, at2⟩ := own_cap own2
    clear own2
    replace qrow2 := qrow2.ext ww
    obtain ⟨wv, hwv⟩ : ∃ wv : Ext zz.w, wv.w = ww.w := ⟨w2.trans ww, rfl⟩
    rw [← hwv] at row2 qrow2 ⊢
    clear hwv ww w2
    have k3 := k3.ext (zz.trans wv)
    have m1 := m1.ext (zz.trans wv)
    have d0 : ∀ u : Ext wv.w, _ := fun u => d0 (zz.trans (wv.trans u))
    have d1 : ∀ u : Ext wv.w, _ := fun u => d1 (zz.trans (wv.trans u))
    have d2 : ∀ u : Ext wv.w, _ := fun u => d2 (zz.trans (wv.trans u))
    have d3 : ∀ u : Ext wv.w, _ := fun u => d3 (zz.trans (wv.trans u))
    have e0 : ∀ u : Ext wv.w, _ := fun u => e0 (zz.trans (wv.trans u))
    have e1 : ∀ u : Ext wv.w, _ := fun u => e1 (zz.trans (wv.trans u))
    have e2 : ∀ u : Ext wv.w, _ := fun u => e2 (zz.trans (wv.trans u))
    have e3 : ∀ u : Ext wv.w, _ := fun u => e3 (zz.trans (wv.trans u))
    have hbk : ∀ u : Ext wv.w, ∃ z : Ext W, u.w = z.w := fun u => hbk (zz.trans (wv.trans u))
    have hrow4 : ∀ u : Ext wv.w, Row u.w (Value.int .i64) a l := fun u => hrow3 (zz.trans (wv.trans u))
    have hqrow4 : ∀ u : Ext wv.w, Row u.w (Value.int .i64) aq q := fun u => hqrow3 (zz.trans (wv.trans u))
    clear hrow3 hqrow3
    have FF : Forms wv.w := by obtain ⟨z, hz⟩ := hbk (Ext.self _); have := F.ext z; rw [← hz] at this; exact this
    replace k3 : SysIn wv.w r2 s := k3
    replace m1 : SysIn wv.w r s := m1
    obtain ⟨zz, hzz⟩ : ∃ u : Ext wv.w, u.w = wv.w := ⟨Ext.self _, rfl⟩
    rw [← hzz]
    clear hzz
    go_wp2_with fail
    (refine Calls.mono (countSeen_ans FF k3 qrow2 hql hl row2 hcb cap2 at2 v HV.out zz) ?_)
    rintro e w' ⟨rfl, zz, rfl⟩
    go_wp2_with fail
    go_region_held3 (fun w' => (w'.cell? ⟨B3, 0, none⟩ = some (.int .i64 s.n) ∧ w'.cell? ⟨B3, 1, none⟩ = some (.slice r2.pa s.plus.length r2.pc) ∧ w'.cell? ⟨B3, 2, none⟩ = some (.slice r2.ta s.times.length r2.tc) ∧ w'.cell? ⟨B3, 3, none⟩ = some (.slice r2.ba s.below.length r2.bc)) ∧
        w'.cell? ⟨B, 0, none⟩ = some (.int .i64 s.n) ∧ w'.cell? ⟨B, 1, none⟩ = some (.slice r.pa s.plus.length r.pc) ∧ w'.cell? ⟨B, 2, none⟩ = some (.slice r.ta s.times.length r.tc) ∧ w'.cell? ⟨B, 3, none⟩ = some (.slice r.ba s.below.length r.bc))
      (first | exact ⟨⟨d0 zz.drew, d1 zz.drew, d2 zz.drew, d3 zz.drew⟩, e0 zz.drew, e1 zz.drew, e2 zz.drew, e3 zz.drew⟩ | exact ⟨⟨d0 uu, d1 uu, d2 uu, d3 uu⟩, e0 uu, e1 uu, e2 uu, e3 uu⟩ | exact ⟨⟨d0 (uu.trans u2), d1 (uu.trans u2), d2 (uu.trans u2), d3 (uu.trans u2)⟩, e0 (uu.trans u2), e1 (uu.trans u2), e2 (uu.trans u2), e3 (uu.trans u2)⟩)
      (first | (go_at_call 33; refine Calls.mono (toSystem_ans m1 sm zz.drew) ?_; rintro e w' ⟨r3, uu, rfl, rfl, k4⟩) | (go_at_call 35; (with_reducible refine Calls.mono (eqSystem_ans (k3.ext uu) k4 sm true (by simp) (Ext.self uu.w)) ?_); rintro e w' ⟨rfl, u2, rfl⟩))
    go_wp2_with fail
    refine Calls.mono (toIntS_ans (W := u2.w) (hqrow4 (uu.trans u2)) hql (Ext.self u2.w)) ?_
    rintro e w' ⟨v3, u3, rfl, rfl, own3⟩
    obtain ⟨a3, c3', rfl, row3, -, -, -⟩ := own_cap own3
    clear own3
    go_wp2_with fail
    refine Calls.mono (eqIntS_ans (W := u3.w) (qrow2.ext (uu.trans (u2.trans u3))) row3 hql true (by simp) (Ext.self u3.w)) ?_
    rintro e w' ⟨rfl, u4, rfl⟩
    clear row3
    go_wp2_with fail
    refine Calls.mono (toIntS_ans (W := u4.w) (hrow4 (uu.trans (u2.trans (u3.trans u4)))) hl (Ext.self u4.w)) ?_
    rintro e w' ⟨v5, u5, rfl, rfl, own5⟩
    obtain ⟨a5, c5', rfl, row5, -, -, -⟩ := own_cap own5
    clear own5
    go_wp2_with fail
    refine Calls.mono (eqIntS_ans (W := u5.w) (row2.ext (uu.trans (u2.trans (u3.trans (u4.trans u5))))) row5 hl true (by simp) (Ext.self u5.w)) ?_
    rintro e w' ⟨rfl, u6, rfl⟩
    go_wp2_with fail
    go_ret
    exact law_end (hbk (uu.trans (u2.trans (u3.trans (u4.trans (u5.trans u6))))))

end Go.Proofs.YteffcfaoganciaaDoor
