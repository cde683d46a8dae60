
/- The law of PlaceOf. -/
import Derived.Test.YtoefeijnnnioeaaDoorGE
import Derived.Test.YtoefeijnnnioeaaDoorKPlaceTop
import Derived.Test.YtoefeijnnnioeaaDoorKLawVal
import Derived.Test.YtoefeijnnnioeaaDoorGI
import Derived.Test.YtoefeijnnnioeaaDoorGF
set_option linter.unusedVariables false
set_option linter.unusedSimpArgs false
namespace Go.Proofs.YtoefeijnnnioeaaDoor
open Go.RowKit

set_option maxRecDepth 100000 in
set_option maxHeartbeats 16000000 in
theorem placeOf_law {W : World} (F : Forms W) (TF : TForms W) {r : Ref} {s : Sys} (h : SysIn W r s) {a : Option Addr} {c : Nat} {l : List Int} (hr : Row W (Value.int .i64) a l) (hlm : l.length ≤ 9223372036854775807) (hcb : CodesB l) {lo : Nat} {t : Tm} {q : TV} (k : TmIn W lo t q) (hTB : TmB t) :
    Calls Tryd.prog 13 #[r.val s, .slice a l.length c, q.val t] W (LawEnd W) := by
  obtain ⟨x, hx⟩ : ∃ x : Ext W, x.w = W := ⟨Ext.self W, rfl⟩
  suffices hs : Calls Tryd.prog 13 #[r.val s, .slice a l.length c, q.val t] x.w (LawEnd W) by rw [hx] at hs; exact hs
  clear hx
  obtain ⟨ta, tc, tb, td⟩ := q
  unfold Ref.val TV.val
  by_cases hll : (1048576 : Int) < l.length
  · skip
    go_enter Tryd.func13, Tryd.ntmps13
    go_wp2_with fail
    generalize hW : (x.w.alloc _).alloc _ = W1
    generalize hB : x.w.heap.size = B0
    obtain ⟨c0, c1, c2, c3, d0, d1, d2, d3, h1, k1, hback, yy, hy0⟩ := boxedST h k x hB hW
    clear hW hB
    rw [← hy0]
    clear hy0
    go_wp2_with fail
    go_ret
    exact law_end (hback yy)
  have hl : l.length ≤ 1099511627776 := by omega
  by_cases hA : (1048576 : Int) < ((s.plus.length : Int) + s.times.length + s.below.length)
  · skip
    go_enter Tryd.func13, Tryd.ntmps13
    go_wp2_with fail
    generalize hW : (x.w.alloc _).alloc _ = W1
    generalize hB : x.w.heap.size = B0
    obtain ⟨c0, c1, c2, c3, d0, d1, d2, d3, h1, k1, hback, yy, hy0⟩ := boxedST h k x hB hW
    clear hW hB
    rw [← hy0]
    clear hy0
    (with_reducible refine Calls.mono (szSystem_ans h1 (1048576) (by omega) (by omega) (-1) (by rw [if_pos (by omega)]) _) ?_)
    rintro e w' ⟨rfl, yy, rfl⟩
    go_wp2_with fail
    go_ret
    exact law_end (hback yy)
  generalize hL : (1048576 : Int) - ((s.plus.length : Int) + s.times.length + s.below.length) = lft
  have hl0 : (0 : Int) ≤ lft := by omega
  have hl3 : lft ≤ 1048576 := by omega
  have sm : Small s := ⟨by omega, by omega, by omega⟩
  have HL := Lib.hid hL
  clear hL
  by_cases hB : lft < (t.wt : Int)
  · skip
    go_enter Tryd.func13, Tryd.ntmps13
    go_wp2_with fail
    generalize hW : (x.w.alloc _).alloc _ = W1
    generalize hB : x.w.heap.size = B0
    obtain ⟨c0, c1, c2, c3, d0, d1, d2, d3, h1, k1, hback, yy, hy0⟩ := boxedST h k x hB hW
    clear hW hB
    rw [← hy0]
    clear hy0
    (with_reducible refine Calls.mono (szSystem_ans h1 (1048576) (by omega) (by omega) (lft) (by rw [if_neg (by omega)]; exact HL.out.symm) _) ?_)
    rintro e w' ⟨rfl, yy, rfl⟩
    clear hA
    go_wp2_with fail
    have SZT : ∀ y : Ext W1, Calls Tryd.prog 21 #[(TV.mk ta tc tb td).val t, .int .i64 lft] y.w (Ans W1 (.int .i64 (-1))) := fun y => szTerm_ans t k1 lft hl0 hl3 (-1) (.inr ⟨hB, rfl⟩) y
    unfold TV.val at SZT
    refine Calls.mono (SZT _) ?_
    rintro e w' ⟨rfl, yy, rfl⟩
    clear SZT
    go_wp2_with fail
    go_ret
    exact law_end (hback yy)
  have hwt : t.wt ≤ 1048576 := by omega
  have hwt2 : t.wt ≤ 1099511627776 := by omega
  obtain ⟨p, hp⟩ := placeV_ex s l t
  have HP := Lib.hid hp
  clear hp
  go_enter Tryd.func13, Tryd.ntmps13
  go_wp2_with fail
  generalize hW : (x.w.alloc _).alloc _ = W1
  generalize hB : x.w.heap.size = B0
  obtain ⟨c0, c1, c2, c3, d0, d1, d2, d3, h1, k1, hback, yy, hy0⟩ := boxedST h k x hB hW
  clear hW hB
  rw [← hy0]
  clear hy0
  (with_reducible refine Calls.mono (szSystem_ans h1 (1048576) (by omega) (by omega) (lft) (by rw [if_neg (by omega)]; exact HL.out.symm) _) ?_)
  rintro e w' ⟨rfl, yy, rfl⟩
  clear hA
  go_wp2_with fail
  generalize hlu : lft - (t.wt : Int) = lfu
  have hlu0 : 0 ≤ lfu := by omega
  replace hlu := Lib.hid hlu
  have SZT : ∀ y : Ext W1, Calls Tryd.prog 21 #[(TV.mk ta tc tb td).val t, .int .i64 lft] y.w (Ans W1 (.int .i64 (lfu))) := fun y => szTerm_ans t k1 lft hl0 hl3 (lfu) (.inl ⟨by omega, hlu.out.symm⟩) y
  unfold TV.val at SZT
  refine Calls.mono (SZT _) ?_
  rintro e w' ⟨rfl, yy, rfl⟩
  clear SZT
  clear hB
  go_wp2_with fail
  have hrow : ∀ y : Ext W1, Row y.w (Value.int .i64) a l := fun y => by obtain ⟨u, hu⟩ := hback y; rw [hu]; exact hr.ext u
  go_region_held3 (fun w' => (w'.cell? ⟨B0, 0, none⟩ = some (.int .i64 s.n) ∧ w'.cell? ⟨B0, 1, none⟩ = some (.slice r.pa s.plus.length r.pc) ∧ w'.cell? ⟨B0, 2, none⟩ = some (.slice r.ta s.times.length r.tc) ∧ w'.cell? ⟨B0, 3, none⟩ = some (.slice r.ba s.below.length r.bc)) ∧ w'.cell? ⟨B0 + 1, 0, none⟩ = some (.int .i64 t.op) ∧ w'.cell? ⟨B0 + 1, 1, none⟩ = some (.int .i64 t.n) ∧ w'.cell? ⟨B0 + 1, 2, none⟩ = some (.slice ta t.ty.length tc) ∧ w'.cell? ⟨B0 + 1, 3, none⟩ = some (.slice tb t.kids.length td))
    (first | exact ⟨⟨c0 yy.drew, c1 yy.drew, c2 yy.drew, c3 yy.drew⟩, ⟨d0 yy.drew, d1 yy.drew, d2 yy.drew, d3 yy.drew⟩⟩ | exact ⟨⟨c0 u1, c1 u1, c2 u1, c3 u1⟩, ⟨d0 u1, d1 u1, d2 u1, d3 u1⟩⟩ | exact ⟨⟨c0 (u1.trans ui), c1 (u1.trans ui), c2 (u1.trans ui), c3 (u1.trans ui)⟩, ⟨d0 (u1.trans ui), d1 (u1.trans ui), d2 (u1.trans ui), d3 (u1.trans ui)⟩⟩ | exact ⟨⟨c0 (u1.trans (ui.trans u2)), c1 (u1.trans (ui.trans u2)), c2 (u1.trans (ui.trans u2)), c3 (u1.trans (ui.trans u2))⟩, ⟨d0 (u1.trans (ui.trans u2)), d1 (u1.trans (ui.trans u2)), d2 (u1.trans (ui.trans u2)), d3 (u1.trans (ui.trans u2))⟩⟩ | exact ⟨⟨c0 (u1.trans (ui.trans (u2.trans u3))), c1 (u1.trans (ui.trans (u2.trans u3))), c2 (u1.trans (ui.trans (u2.trans u3))), c3 (u1.trans (ui.trans (u2.trans u3)))⟩, ⟨d0 (u1.trans (ui.trans (u2.trans u3))), d1 (u1.trans (ui.trans (u2.trans u3))), d2 (u1.trans (ui.trans (u2.trans u3))), d3 (u1.trans (ui.trans (u2.trans u3)))⟩⟩)
    (first | (go_at_call 30; (with_reducible refine Calls.mono (toSystem_ans h1 sm yy.drew) ?_); rintro e w' ⟨ra, u1, rfl, rfl, ka⟩) | (go_at_call 16; refine Calls.mono (toIntS_ans (hrow u1) hl (Ext.self u1.w)) ?_; rintro e w' ⟨v1, ui, rfl, rfl, own1⟩; obtain ⟨a1, e1, rfl, row1, cap1, b1, at1⟩ := own_cap own1) | (go_at_call 23; refine Calls.mono (toTerm_ans t (r := ⟨ta, tc, tb, td⟩) ((k1.ext u1).ext ui) hwt (Ext.self ui.w)) ?_; rintro e w' ⟨rb, u2, rfl, rfl, kb⟩) | (go_at_call 51; refine Calls.mono (specPlaceOf_ans (W := u2.w) ((ka.ext ui).ext u2) hl (row1.ext u2) cap1 at1 kb hwt2 p HP.out (Ext.self u2.w)) ?_; rintro e w' ⟨rfl, u3, rfl⟩))
  obtain ⟨yy, hz⟩ : ∃ y2 : Ext W1, y2.w = u3.w := ⟨u1.trans (ui.trans (u2.trans u3)), rfl⟩
  rw [← hz]
  clear hz
  go_wp2_with fail
  refine Calls.mono (toSystem_ans h1 sm _) ?_
  rintro e w' ⟨r2, y3, rfl, rfl, k2⟩
  have dx0 := fun o => d0 (y3.alloc o)
  have dx1 := fun o => d1 (y3.alloc o)
  have dx2 := fun o => d2 (y3.alloc o)
  have dx3 := fun o => d3 (y3.alloc o)
  dsimp only at dx0 dx1 dx2 dx3
  go_wp2_with fail
  clear dx0 dx1 dx2 dx3
  generalize hW : y3.w.alloc _ = W3
  generalize hB3 : y3.w.heap.size = B3
  obtain ⟨e0, e1, e2, e3, k3, hb3, zz, hy0⟩ := boxed k2 (Ext.self y3.w) hB3 hW
  have c0 := lift_fact y3 hb3 c0
  have c1 := lift_fact y3 hb3 c1
  have c2 := lift_fact y3 hb3 c2
  have c3 := lift_fact y3 hb3 c3
  have d0 := lift_fact y3 hb3 d0
  have d1 := lift_fact y3 hb3 d1
  have d2 := lift_fact y3 hb3 d2
  have d3 := lift_fact y3 hb3 d3
  have h1 := lift_sys y3 hb3 ⟨zz, hy0⟩ h1
  have k1 := lift_tm y3 hb3 ⟨zz, hy0⟩ k1
  have hback := lift_back y3 hb3 hback
  clear hW hB3 hb3 k2
  rw [← hy0]
  clear hy0
  go_wp2_with fail
  have hrow3 : Row zz.w (Value.int .i64) a l := by obtain ⟨u, hu⟩ := hback zz; rw [hu]; exact hr.ext u
  refine Calls.mono (toIntS_ans (W := zz.w) hrow3 hl (Ext.self zz.w)) ?_
  rintro e w' ⟨v2, ww, rfl, rfl, own2⟩
  obtain ⟨a2, c2', rfl, row2, cap2, b2, at2⟩ := own_cap own2
  clear own2 hrow3
  obtain ⟨zi, hzi⟩ : ∃ y : Ext W3, y.w = ww.w := ⟨zz.trans ww, rfl⟩
  rw [← hzi] at row2 ⊢
  clear hzi
  have c0 : ∀ u : Ext zi.w, _ := fun u => c0 (zi.trans u)
  have c1 : ∀ u : Ext zi.w, _ := fun u => c1 (zi.trans u)
  have c2 : ∀ u : Ext zi.w, _ := fun u => c2 (zi.trans u)
  have c3 : ∀ u : Ext zi.w, _ := fun u => c3 (zi.trans u)
  have d0 : ∀ u : Ext zi.w, _ := fun u => d0 (zi.trans u)
  have d1 : ∀ u : Ext zi.w, _ := fun u => d1 (zi.trans u)
  have d2 : ∀ u : Ext zi.w, _ := fun u => d2 (zi.trans u)
  have d3 : ∀ u : Ext zi.w, _ := fun u => d3 (zi.trans u)
  have e0 : ∀ u : Ext zi.w, _ := fun u => e0 (zi.trans u)
  have e1 : ∀ u : Ext zi.w, _ := fun u => e1 (zi.trans u)
  have e2 : ∀ u : Ext zi.w, _ := fun u => e2 (zi.trans u)
  have e3 : ∀ u : Ext zi.w, _ := fun u => e3 (zi.trans u)
  have hback : ∀ u : Ext zi.w, ∃ z : Ext W, u.w = z.w := fun u => hback (zi.trans u)
  replace h1 : SysIn zi.w r s := h1.ext zi
  replace k1 : TmIn zi.w lo t ⟨ta, tc, tb, td⟩ := k1.ext zi
  replace k3 : SysIn zi.w r2 s := k3.ext zi
  obtain ⟨zj, hzj⟩ : ∃ u : Ext zi.w, u.w = zi.w := ⟨Ext.self _, rfl⟩
  rw [← hzj]
  clear hzj
  go_wp2_with fail
  refine Calls.mono (toTerm_ans t (r := ⟨ta, tc, tb, td⟩) k1 hwt _) ?_
  rintro e w' ⟨r4, y5, rfl, rfl, k4⟩
  have ex0 := fun o => e0 (y5.alloc o)
  have ex1 := fun o => e1 (y5.alloc o)
  have ex2 := fun o => e2 (y5.alloc o)
  have ex3 := fun o => e3 (y5.alloc o)
  dsimp only at ex0 ex1 ex2 ex3
  go_wp2_with fail
  clear ex0 ex1 ex2 ex3
  generalize hW : y5.w.alloc _ = W5
  generalize hB5 : y5.w.heap.size = B5
  obtain ⟨g0, g1, g2, g3, k5, hb5, zz, hy0⟩ := boxedT k4 (Ext.self y5.w) hB5 hW
  have c0 := lift_fact y5 hb5 c0
  have c1 := lift_fact y5 hb5 c1
  have c2 := lift_fact y5 hb5 c2
  have c3 := lift_fact y5 hb5 c3
  have d0 := lift_fact y5 hb5 d0
  have d1 := lift_fact y5 hb5 d1
  have d2 := lift_fact y5 hb5 d2
  have d3 := lift_fact y5 hb5 d3
  have e0 := lift_fact y5 hb5 e0
  have e1 := lift_fact y5 hb5 e1
  have e2 := lift_fact y5 hb5 e2
  have e3 := lift_fact y5 hb5 e3
  have h1 := lift_sys y5 hb5 ⟨zz, hy0⟩ h1
  have k1 := lift_tm y5 hb5 ⟨zz, hy0⟩ k1
  have k3 := lift_sys y5 hb5 ⟨zz, hy0⟩ k3
  have hback := lift_back y5 hb5 hback
  have row2 := lift_row y5 hb5 ⟨zz, hy0⟩ row2
  have FW := F.on hback
  have TW := TF.on hback
  clear hW hB5 hb5 k4
  rw [← hy0]
  clear hy0
  go_wp2_with fail
  (refine Calls.mono (placeTop_ans FW TW k3 hl row2 hcb cap2 at2 k5 hTB p HP.out zz) ?_)
  rintro e w' ⟨rfl, zz, rfl⟩
  go_wp2_with fail
  go_region_held3 (fun w' => (w'.cell? ⟨B3, 0, none⟩ = some (.int .i64 s.n) ∧ w'.cell? ⟨B3, 1, none⟩ = some (.slice r2.pa s.plus.length r2.pc) ∧ w'.cell? ⟨B3, 2, none⟩ = some (.slice r2.ta s.times.length r2.tc) ∧ w'.cell? ⟨B3, 3, none⟩ = some (.slice r2.ba s.below.length r2.bc)) ∧ w'.cell? ⟨B0, 0, none⟩ = some (.int .i64 s.n) ∧ w'.cell? ⟨B0, 1, none⟩ = some (.slice r.pa s.plus.length r.pc) ∧ w'.cell? ⟨B0, 2, none⟩ = some (.slice r.ta s.times.length r.tc) ∧ w'.cell? ⟨B0, 3, none⟩ = some (.slice r.ba s.below.length r.bc))
    (first | exact ⟨⟨e0 zz.drew, e1 zz.drew, e2 zz.drew, e3 zz.drew⟩, ⟨c0 zz.drew, c1 zz.drew, c2 zz.drew, c3 zz.drew⟩⟩ | exact ⟨⟨e0 uu, e1 uu, e2 uu, e3 uu⟩, ⟨c0 uu, c1 uu, c2 uu, c3 uu⟩⟩ | exact ⟨⟨e0 (uu.trans u2), e1 (uu.trans u2), e2 (uu.trans u2), e3 (uu.trans u2)⟩, ⟨c0 (uu.trans u2), c1 (uu.trans u2), c2 (uu.trans u2), c3 (uu.trans u2)⟩⟩)
    (first | (go_at_call 30; (with_reducible refine Calls.mono (toSystem_ans h1 sm zz.drew) ?_); rintro e w' ⟨rq, uu, rfl, rfl, kq⟩) | (go_at_call 32; (with_reducible refine Calls.mono (eqSystem_ans (k3.ext uu) kq sm true (by simp) (Ext.self uu.w)) ?_); rintro e w' ⟨rfl, u2, rfl⟩))
  obtain ⟨zz, hz⟩ : ∃ y2 : Ext W5, y2.w = u2.w := ⟨uu.trans u2, rfl⟩
  rw [← hz]
  clear hz
  go_wp2_with fail
  have hrow5 : Row zz.w (Value.int .i64) a l := by obtain ⟨u, hu⟩ := hback zz; rw [hu]; exact hr.ext u
  refine Calls.mono (toIntS_ans (W := zz.w) hrow5 hl (Ext.self zz.w)) ?_
  rintro e w' ⟨v3, u3, rfl, rfl, own3⟩
  obtain ⟨a3, c3', rfl, row3, _⟩ := owned_row own3
  go_wp2_with fail
  refine Calls.mono (eqIntS_ans (W := u3.w) ((row2.ext zz).ext u3) row3 hl true (by simp) (Ext.self u3.w)) ?_
  rintro e w' ⟨rfl, u4, rfl⟩
  clear own3 row3 hrow5
  obtain ⟨zz, hz⟩ : ∃ y2 : Ext W5, y2.w = u4.w := ⟨zz.trans (u3.trans u4), rfl⟩
  rw [← hz]
  clear hz
  go_wp2_with fail
  have TOT : Calls Tryd.prog 23 #[(TV.mk ta tc tb td).val t] zz.drew.w (NewTm zz.drew.w t) := toTerm_ans t (k1.ext zz.drew) hwt (Ext.self zz.drew.w)
  unfold TV.val at TOT
  go_region_held3 (fun w' => (w'.cell? ⟨B5, 0, none⟩ = some (.int .i64 t.op) ∧ w'.cell? ⟨B5, 1, none⟩ = some (.int .i64 t.n) ∧ w'.cell? ⟨B5, 2, none⟩ = some (.slice r4.a t.ty.length r4.c) ∧ w'.cell? ⟨B5, 3, none⟩ = some (.slice r4.b t.kids.length r4.d)) ∧ w'.cell? ⟨B0 + 1, 0, none⟩ = some (.int .i64 t.op) ∧ w'.cell? ⟨B0 + 1, 1, none⟩ = some (.int .i64 t.n) ∧ w'.cell? ⟨B0 + 1, 2, none⟩ = some (.slice ta t.ty.length tc) ∧ w'.cell? ⟨B0 + 1, 3, none⟩ = some (.slice tb t.kids.length td))
    (first | exact ⟨⟨g0 zz.drew, g1 zz.drew, g2 zz.drew, g3 zz.drew⟩, ⟨d0 zz.drew, d1 zz.drew, d2 zz.drew, d3 zz.drew⟩⟩ | exact ⟨⟨g0 (zz.drew.trans uu), g1 (zz.drew.trans uu), g2 (zz.drew.trans uu), g3 (zz.drew.trans uu)⟩, ⟨d0 (zz.drew.trans uu), d1 (zz.drew.trans uu), d2 (zz.drew.trans uu), d3 (zz.drew.trans uu)⟩⟩ | exact ⟨⟨g0 (zz.drew.trans (uu.trans u2)), g1 (zz.drew.trans (uu.trans u2)), g2 (zz.drew.trans (uu.trans u2)), g3 (zz.drew.trans (uu.trans u2))⟩, ⟨d0 (zz.drew.trans (uu.trans u2)), d1 (zz.drew.trans (uu.trans u2)), d2 (zz.drew.trans (uu.trans u2)), d3 (zz.drew.trans (uu.trans u2))⟩⟩)
    (first | (go_at_call 23; refine Calls.mono TOT ?_; rintro e w' ⟨rq, uu, rfl, rfl, kq⟩) | (go_at_call 25; refine Calls.mono (eqTerm_ans t ((k5.ext zz.drew).ext uu) kq hwt true (by simp) (Ext.self uu.w)) ?_; rintro e w' ⟨rfl, u2, rfl⟩))
  go_wp2_with fail
  go_ret
  exact law_end (hback (zz.drew.trans (uu.trans u2)))

end Go.Proofs.YtoefeijnnnioeaaDoor
