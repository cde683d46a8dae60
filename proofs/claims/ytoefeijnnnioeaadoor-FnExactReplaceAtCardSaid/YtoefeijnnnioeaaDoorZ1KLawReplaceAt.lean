/- The law of ReplaceAt. -/
import Derived.Test.YtoefeijnnnioeaaDoorZ1GI
import Derived.Test.YtoefeijnnnioeaaDoorZ1GF
import Derived.Test.YtoefeijnnnioeaaDoorZ1GX2
import Derived.Test.YtoefeijnnnioeaaDoorZ1GX7
import Derived.Test.YtoefeijnnnioeaaDoorZ1KShUM
import Derived.Deep.RegionHeld3
import Derived.Deep.Cut
import Derived.RegionTactic
import Derived.Outline
set_option linter.unusedVariables false
set_option linter.unusedSimpArgs false
namespace Go.Proofs.YtoefeijnnnioeaaDoor
open Go.RowKit

set_option maxRecDepth 100000 in
set_option maxHeartbeats 16000000 in
theorem replaceAt_law {W : World} (F : Forms W) (TF : TForms W) {lo0 : Nat} {t0 : Tm} {r0 : TV} (ht0 : TmIn W lo0 t0 r0) (hTB0 : TmB t0) {a1 : Option Addr} {p1 : Nat} {f1 : List Int} (hr1 : Row W (Value.int .i64) a1 f1) (kr1 : f1.length ≤ 9223372036854775807) {lo2 : Nat} {t2 : Tm} {r2 : TV} (ht2 : TmIn W lo2 t2 r2) (hTB2 : TmB t2) (hNB2 : TmNB t2) :
    Calls Tryd.prog 8 #[r0.val t0, .slice a1 f1.length p1, r2.val t2] W (LawEnd W) := by
  obtain ⟨x, hx⟩ : ∃ x : Ext W, x.w = W := ⟨Ext.self W, rfl⟩
  suffices hs : Calls Tryd.prog 8 #[r0.val t0, .slice a1 f1.length p1, r2.val t2] x.w (LawEnd W) by rw [hx] at hs; exact hs
  clear hx
  obtain ⟨ra0, rc0, rb0, rd0⟩ := r0
  obtain ⟨ra2, rc2, rb2, rd2⟩ := r2
  unfold TV.val
  by_cases bb1 : (1048576 : Int) < (f1.length : Int)
  · go_enter Tryd.func8, Tryd.ntmps8
    go_wp2
    go_ret
    exact law_end ⟨((x.alloc _).alloc _), rfl⟩
  by_cases hb0 : (1048576 : Int) < t0.wt
  · skip
    go_enter Tryd.func8, Tryd.ntmps8
    go_wp2_with fail
    have hxW := x.size
    generalize hW : (x.w.alloc _).alloc _ = Wb
    generalize hB : x.w.heap.size = B at *
    obtain ⟨bk0, bk2, -, bel⟩ := blocks2 hB hW
    have belW : Below W.heap.size W Wb := x.below.trans (bel.mono (by omega))
    clear hW bel hB hxW
    have h10 : TmIn Wb lo0 t0 (TV.mk ra0 rc0 rb0 rd0) := ht0.ext ⟨Wb, belW⟩
    have c00 : ∀ y : Ext Wb, y.w.cell? ⟨B, 0, none⟩ = some (.int .i64 t0.op) := fun y => blk_cell (y.blk bk0) 0
    have c01 : ∀ y : Ext Wb, y.w.cell? ⟨B, 1, none⟩ = some (.int .i64 t0.n) := fun y => blk_cell (y.blk bk0) 1
    have c02 : ∀ y : Ext Wb, y.w.cell? ⟨B, 2, none⟩ = some (.slice ra0 t0.ty.length rc0) := fun y => blk_cell (y.blk bk0) 2
    have c03 : ∀ y : Ext Wb, y.w.cell? ⟨B, 3, none⟩ = some (.slice rb0 t0.kids.length rd0) := fun y => blk_cell (y.blk bk0) 3
    have h12 : TmIn Wb lo2 t2 (TV.mk ra2 rc2 rb2 rd2) := ht2.ext ⟨Wb, belW⟩
    have c20 : ∀ y : Ext Wb, y.w.cell? ⟨B + 1, 0, none⟩ = some (.int .i64 t2.op) := fun y => blk_cell (y.blk bk2) 0
    have c21 : ∀ y : Ext Wb, y.w.cell? ⟨B + 1, 1, none⟩ = some (.int .i64 t2.n) := fun y => blk_cell (y.blk bk2) 1
    have c22 : ∀ y : Ext Wb, y.w.cell? ⟨B + 1, 2, none⟩ = some (.slice ra2 t2.ty.length rc2) := fun y => blk_cell (y.blk bk2) 2
    have c23 : ∀ y : Ext Wb, y.w.cell? ⟨B + 1, 3, none⟩ = some (.slice rb2 t2.kids.length rd2) := fun y => blk_cell (y.blk bk2) 3
    have hback : ∀ y : Ext Wb, ∃ z : Ext W, y.w = z.w := fun y => ⟨⟨y.w, belW.trans (y.below.mono belW.size)⟩, rfl⟩
    obtain ⟨yy, hy0⟩ : ∃ y : Ext Wb, y.w = Wb := ⟨Ext.self Wb, rfl⟩
    rw [← hy0]
    clear hy0 belW bk0 bk2
    have SZT : ∀ y : Ext Wb, Calls Tryd.prog 21 #[(TV.mk ra0 rc0 rb0 rd0).val t0, .int .i64 1048576] y.w (Ans Wb (.int .i64 (-1))) := fun y => szTerm_ans t0 h10 1048576 (by omega) (by omega) (-1) (.inr ⟨hb0, rfl⟩) y
    unfold TV.val at SZT
    refine Calls.mono (SZT _) ?_
    rintro e w' ⟨rfl, yy, rfl⟩
    clear SZT
    go_wp2_with fail
    go_ret
    exact law_end (hback yy)
  have hwt0 : t0.wt ≤ 1048576 := by omega
  generalize hlf0 : (1048576 : Int) - t0.wt = lft0
  have hnb0 : (0 : Int) ≤ lft0 := by omega
  have hlb0 : lft0 ≤ 1048576 := by omega
  by_cases hb2 : (lft0 : Int) < t2.wt
  · skip
    go_enter Tryd.func8, Tryd.ntmps8
    go_wp2_with fail
    have hxW := x.size
    generalize hW : (x.w.alloc _).alloc _ = Wb
    generalize hB : x.w.heap.size = B at *
    obtain ⟨bk0, bk2, -, bel⟩ := blocks2 hB hW
    have belW : Below W.heap.size W Wb := x.below.trans (bel.mono (by omega))
    clear hW bel hB hxW
    have h10 : TmIn Wb lo0 t0 (TV.mk ra0 rc0 rb0 rd0) := ht0.ext ⟨Wb, belW⟩
    have c00 : ∀ y : Ext Wb, y.w.cell? ⟨B, 0, none⟩ = some (.int .i64 t0.op) := fun y => blk_cell (y.blk bk0) 0
    have c01 : ∀ y : Ext Wb, y.w.cell? ⟨B, 1, none⟩ = some (.int .i64 t0.n) := fun y => blk_cell (y.blk bk0) 1
    have c02 : ∀ y : Ext Wb, y.w.cell? ⟨B, 2, none⟩ = some (.slice ra0 t0.ty.length rc0) := fun y => blk_cell (y.blk bk0) 2
    have c03 : ∀ y : Ext Wb, y.w.cell? ⟨B, 3, none⟩ = some (.slice rb0 t0.kids.length rd0) := fun y => blk_cell (y.blk bk0) 3
    have h12 : TmIn Wb lo2 t2 (TV.mk ra2 rc2 rb2 rd2) := ht2.ext ⟨Wb, belW⟩
    have c20 : ∀ y : Ext Wb, y.w.cell? ⟨B + 1, 0, none⟩ = some (.int .i64 t2.op) := fun y => blk_cell (y.blk bk2) 0
    have c21 : ∀ y : Ext Wb, y.w.cell? ⟨B + 1, 1, none⟩ = some (.int .i64 t2.n) := fun y => blk_cell (y.blk bk2) 1
    have c22 : ∀ y : Ext Wb, y.w.cell? ⟨B + 1, 2, none⟩ = some (.slice ra2 t2.ty.length rc2) := fun y => blk_cell (y.blk bk2) 2
    have c23 : ∀ y : Ext Wb, y.w.cell? ⟨B + 1, 3, none⟩ = some (.slice rb2 t2.kids.length rd2) := fun y => blk_cell (y.blk bk2) 3
    have hback : ∀ y : Ext Wb, ∃ z : Ext W, y.w = z.w := fun y => ⟨⟨y.w, belW.trans (y.below.mono belW.size)⟩, rfl⟩
    obtain ⟨yy, hy0⟩ : ∃ y : Ext Wb, y.w = Wb := ⟨Ext.self Wb, rfl⟩
    rw [← hy0]
    clear hy0 belW bk0 bk2
    have SZT : ∀ y : Ext Wb, Calls Tryd.prog 21 #[(TV.mk ra0 rc0 rb0 rd0).val t0, .int .i64 1048576] y.w (Ans Wb (.int .i64 lft0)) := fun y => szTerm_ans t0 h10 1048576 (by omega) (by omega) lft0 (.inl ⟨by omega, hlf0.symm⟩) y
    unfold TV.val at SZT
    refine Calls.mono (SZT _) ?_
    rintro e w' ⟨rfl, yy, rfl⟩
    clear SZT
    go_wp2_with fail
    have SZT : ∀ y : Ext Wb, Calls Tryd.prog 21 #[(TV.mk ra2 rc2 rb2 rd2).val t2, .int .i64 lft0] y.w (Ans Wb (.int .i64 (-1))) := fun y => szTerm_ans t2 h12 lft0 (by omega) (by omega) (-1) (.inr ⟨hb2, rfl⟩) y
    unfold TV.val at SZT
    refine Calls.mono (SZT _) ?_
    rintro e w' ⟨rfl, yy, rfl⟩
    clear SZT
    go_wp2_with fail
    go_ret
    exact law_end (hback yy)
  have hwt2 : t2.wt ≤ 1048576 := by omega
  generalize hlf2 : (lft0 : Int) - t2.wt = lft2
  have hnb2 : (0 : Int) ≤ lft2 := by omega
  have hlb2 : lft2 ≤ 1048576 := by omega
  have hwu0 : t0.wt ≤ 1099511627776 := by omega
  have hwu2 : t2.wt ≤ 1099511627776 := by omega
  have hff1 : f1.length ≤ 1099511627776 := by omega
  obtain ⟨o, b, ho⟩ := replV_ex t0 f1 t2
  have hwo : o.wt ≤ 1048576 := by have := ho.wt; omega
  have HO := Lib.hid ho
  clear ho
  go_enter Tryd.func8, Tryd.ntmps8
  go_wp2_with fail
  have hxW := x.size
  generalize hW : (x.w.alloc _).alloc _ = Wb
  generalize hB : x.w.heap.size = B at *
  obtain ⟨bk0, bk2, -, bel⟩ := blocks2 hB hW
  have belW : Below W.heap.size W Wb := x.below.trans (bel.mono (by omega))
  clear hW bel hB hxW
  have h10 : TmIn Wb lo0 t0 (TV.mk ra0 rc0 rb0 rd0) := ht0.ext ⟨Wb, belW⟩
  have c00 : ∀ y : Ext Wb, y.w.cell? ⟨B, 0, none⟩ = some (.int .i64 t0.op) := fun y => blk_cell (y.blk bk0) 0
  have c01 : ∀ y : Ext Wb, y.w.cell? ⟨B, 1, none⟩ = some (.int .i64 t0.n) := fun y => blk_cell (y.blk bk0) 1
  have c02 : ∀ y : Ext Wb, y.w.cell? ⟨B, 2, none⟩ = some (.slice ra0 t0.ty.length rc0) := fun y => blk_cell (y.blk bk0) 2
  have c03 : ∀ y : Ext Wb, y.w.cell? ⟨B, 3, none⟩ = some (.slice rb0 t0.kids.length rd0) := fun y => blk_cell (y.blk bk0) 3
  have h12 : TmIn Wb lo2 t2 (TV.mk ra2 rc2 rb2 rd2) := ht2.ext ⟨Wb, belW⟩
  have c20 : ∀ y : Ext Wb, y.w.cell? ⟨B + 1, 0, none⟩ = some (.int .i64 t2.op) := fun y => blk_cell (y.blk bk2) 0
  have c21 : ∀ y : Ext Wb, y.w.cell? ⟨B + 1, 1, none⟩ = some (.int .i64 t2.n) := fun y => blk_cell (y.blk bk2) 1
  have c22 : ∀ y : Ext Wb, y.w.cell? ⟨B + 1, 2, none⟩ = some (.slice ra2 t2.ty.length rc2) := fun y => blk_cell (y.blk bk2) 2
  have c23 : ∀ y : Ext Wb, y.w.cell? ⟨B + 1, 3, none⟩ = some (.slice rb2 t2.kids.length rd2) := fun y => blk_cell (y.blk bk2) 3
  have hback : ∀ y : Ext Wb, ∃ z : Ext W, y.w = z.w := fun y => ⟨⟨y.w, belW.trans (y.below.mono belW.size)⟩, rfl⟩
  obtain ⟨yy, hy0⟩ : ∃ y : Ext Wb, y.w = Wb := ⟨Ext.self Wb, rfl⟩
  rw [← hy0]
  clear hy0 belW bk0 bk2
  have SZT : ∀ y : Ext Wb, Calls Tryd.prog 21 #[(TV.mk ra0 rc0 rb0 rd0).val t0, .int .i64 1048576] y.w (Ans Wb (.int .i64 lft0)) := fun y => szTerm_ans t0 h10 1048576 (by omega) (by omega) lft0 (.inl ⟨by omega, hlf0.symm⟩) y
  unfold TV.val at SZT
  refine Calls.mono (SZT _) ?_
  rintro e w' ⟨rfl, yy, rfl⟩
  clear SZT
  go_wp2_with fail
  have SZT : ∀ y : Ext Wb, Calls Tryd.prog 21 #[(TV.mk ra2 rc2 rb2 rd2).val t2, .int .i64 lft0] y.w (Ans Wb (.int .i64 lft2)) := fun y => szTerm_ans t2 h12 lft0 (by omega) (by omega) lft2 (.inl ⟨by omega, hlf2.symm⟩) y
  unfold TV.val at SZT
  refine Calls.mono (SZT _) ?_
  rintro e w' ⟨rfl, yy, rfl⟩
  clear SZT
  clear hlf0 hlf2
  go_upto_region 10 with fail
  obtain ⟨U0, hU0⟩ : ∃ U0 : World, U0 = yy.w := ⟨_, rfl⟩
  have bel0 : Below Wb.heap.size Wb U0 := by rw [hU0]; exact yy.below
  rw [← hU0]
  clear hU0 yy
  have HKT0 : Hid (∀ w, Below Wb.heap.size Wb w → w.cell? ⟨B, 0, none⟩ = some (.int .i64 t0.op) ∧ w.cell? ⟨B, 1, none⟩ = some (.int .i64 t0.n) ∧ w.cell? ⟨B, 2, none⟩ = some (.slice ra0 t0.ty.length rc0) ∧ w.cell? ⟨B, 3, none⟩ = some (.slice rb0 t0.kids.length rd0)) := fun w q => ⟨c00 ⟨w, q⟩, c01 ⟨w, q⟩, c02 ⟨w, q⟩, c03 ⟨w, q⟩⟩
  have HKT2 : Hid (∀ w, Below Wb.heap.size Wb w → w.cell? ⟨B + 1, 0, none⟩ = some (.int .i64 t2.op) ∧ w.cell? ⟨B + 1, 1, none⟩ = some (.int .i64 t2.n) ∧ w.cell? ⟨B + 1, 2, none⟩ = some (.slice ra2 t2.ty.length rc2) ∧ w.cell? ⟨B + 1, 3, none⟩ = some (.slice rb2 t2.kids.length rd2)) := fun w q => ⟨c20 ⟨w, q⟩, c21 ⟨w, q⟩, c22 ⟨w, q⟩, c23 ⟨w, q⟩⟩
  obtain ⟨zb, hzb⟩ := hback (Ext.self Wb)
  replace hzb : Wb = zb.w := hzb
  have hrb1 : Row Wb (Value.int .i64) a1 f1 := by rw [hzb]; exact hr1.ext zb
  have Fb : Forms Wb := by rw [hzb]; exact F.ext zb
  have TFb : TForms Wb := by rw [hzb]; exact TF.ext zb
  clear hzb zb
  have TO0 : Hid (∀ w, Below Wb.heap.size Wb w → Calls Tryd.prog 23 #[.agg #[.int .i64 t0.op, .int .i64 t0.n, .slice ra0 t0.ty.length rc0, .slice rb0 t0.kids.length rd0]] w (NewTmO w t0)) := fun w q => toTermO_ans t0 (r := (TV.mk ra0 rc0 rb0 rd0)) (h10.ext ⟨w, q⟩) hwt0 (Ext.self w)
  have TO1 : Hid (∀ w, Below Wb.heap.size Wb w → Calls Tryd.prog 16 #[.slice a1 f1.length p1] w (NewRow w 22 3 (Value.int .i64) f1)) := fun w q => toIntS_ans (hrb1.ext ⟨w, q⟩) hff1 (Ext.self w)
  have TO2 : Hid (∀ w, Below Wb.heap.size Wb w → Calls Tryd.prog 23 #[.agg #[.int .i64 t2.op, .int .i64 t2.n, .slice ra2 t2.ty.length rc2, .slice rb2 t2.kids.length rd2]] w (NewTmO w t2)) := fun w q => toTermO_ans t2 (r := (TV.mk ra2 rc2 rb2 rd2)) (h12.ext ⟨w, q⟩) hwt2 (Ext.self w)
  have SPC : Hid (∀ w r'0 c1 (d1 : Nat) r'2, Below Wb.heap.size Wb w → TmIn w 0 t0 r'0 → Row w (Value.int .i64) c1 f1 → TmIn w 0 t2 r'2 → f1.length ≤ d1 → Calls Tryd.prog 40 #[TV.val r'0 t0, .slice c1 f1.length d1, TV.val r'2 t2] w (NewTmB w o b)) := fun w r'0 c1 d1 r'2 q e0 e1 e2 k1 => specReplaceAt_ans e0 hwu0 e2 hwt2 (fun hs => Lib.hid fun w2 b4 => l2ShiftU_ans t2 (e2.ext ⟨w2, b4⟩) hNB2 (by omega) hwu2 0 (by omega) (by omega) (Ext.self w2)) e1 hff1 k1 o b HO.out (Ext.self w)
  have IMP : Hid (∀ w r'0 c1 (d1 : Nat) r'2, Below Wb.heap.size Wb w → TmIn w 0 t0 r'0 → Row w (Value.int .i64) c1 f1 → TmIn w 0 t2 r'2 → f1.length ≤ d1 → Calls Tryd.prog 41 #[TV.val r'0 t0, .slice c1 f1.length d1, TV.val r'2 t2] w (NewTmB w o b)) := fun w r'0 c1 d1 r'2 q e0 e1 e2 k1 => replaceAt_ans (Fb.ext ⟨w, q⟩) (TFb.ext ⟨w, q⟩) e0 hTB0 e2 hTB2 e1 hff1 k1 o b HO.out (Ext.self w)
  clear c00 c01 c02 c03 c20 c21 c22 c23 Fb TFb hrb1
  go_cut [8, 9] from 33 (fun s6 s7 wc => GotT U0 o b s6 s7 wc)
  case first =>
    go_region_held3 (fun w' => (w'.cell? ⟨B, 0, none⟩ = some (.int .i64 t0.op) ∧ w'.cell? ⟨B, 1, none⟩ = some (.int .i64 t0.n) ∧ w'.cell? ⟨B, 2, none⟩ = some (.slice ra0 t0.ty.length rc0) ∧ w'.cell? ⟨B, 3, none⟩ = some (.slice rb0 t0.kids.length rd0)) ∧ (w'.cell? ⟨B + 1, 0, none⟩ = some (.int .i64 t2.op) ∧ w'.cell? ⟨B + 1, 1, none⟩ = some (.int .i64 t2.n) ∧ w'.cell? ⟨B + 1, 2, none⟩ = some (.slice ra2 t2.ty.length rc2) ∧ w'.cell? ⟨B + 1, 3, none⟩ = some (.slice rb2 t2.kids.length rd2))) ((exact ⟨HKT0.out _ (by (with_reducible (repeat (first | exact Below.refl _ _ | exact bel0 | refine below_set ?_ ?_ | refine below_alloc ?_ _ | refine below_drew ?_ | refine below_ext ?_ _)))), HKT2.out _ (by (with_reducible (repeat (first | exact Below.refl _ _ | exact bel0 | refine below_set ?_ ?_ | refine below_alloc ?_ _ | refine below_drew ?_ | refine below_ext ?_ _))))⟩))
      (first | (go_at_call 16; refine Calls.mono (TO1.out _ (by (with_reducible (repeat (first | exact Below.refl _ _ | exact bel0 | refine below_set ?_ ?_ | refine below_alloc ?_ _ | refine below_drew ?_ | refine below_ext ?_ _))))) ?_; rintro e w' ⟨v, y1, rfl, rfl, own0⟩; obtain ⟨c1, d1, rfl, row1, -⟩ := owned_row own0; have cp1 := owns_cap own0; clear own0) | (go_at_call 23; (with_reducible refine Calls.mono (TO0.out _ (by (with_reducible (repeat (first | exact Below.refl _ _ | exact bel0 | refine below_set ?_ ?_ | refine below_alloc ?_ _ | refine below_drew ?_ | refine below_ext ?_ _))))) ?_); rintro e w' ⟨rr0, NBB0, y0, rfl, rfl, hn1, -⟩; have tmm0 := hn1.tm (fun g _ => Nat.zero_le g); clear hn1) | (go_at_call 23; (with_reducible refine Calls.mono (TO2.out _ (by (with_reducible (repeat (first | exact Below.refl _ _ | exact bel0 | refine below_set ?_ ?_ | refine below_alloc ?_ _ | refine below_drew ?_ | refine below_ext ?_ _))))) ?_); rintro e w' ⟨rr2, NBB2, y2, rfl, rfl, hn1, -⟩; have tmm2 := hn1.tm (fun g _ => Nat.zero_le g); clear hn1) | (go_at_call 40; refine Calls.mono (SPC.out _ _ _ _ _ (by (with_reducible (repeat (first | exact Below.refl _ _ | exact bel0 | refine below_set ?_ ?_ | refine below_alloc ?_ _ | refine below_drew ?_ | refine below_ext ?_ _)))) (by (with_reducible (repeat (first | exact tmm0 | refine tm_alloc ?_ _ | refine tm_drew ?_ | refine TmIn.ext ?_ _)))) (by (with_reducible (repeat (first | exact row1 | refine row_alloc ?_ _ | refine row_drew ?_ | refine Row.ext ?_ _)))) (by (with_reducible (repeat (first | exact tmm2 | refine tm_alloc ?_ _ | refine tm_drew ?_ | refine TmIn.ext ?_ _)))) cp1) ?_; rintro e w' ⟨rw, NBw, yc, rfl, rfl, hnw, hlow⟩; (first | (have hz9 := yc.blk (y2.blk (y1.blk (y0.blk (new_blk_drew U0 zbox)))); obtain ⟨n0, n1, n2, n3, p0, p1, p2, p3⟩ := zfacts hz9; clear hz9) | (have hz9 := yc.blk (y2.blk (y1.blk (new_blk_at y0.w zbox))); obtain ⟨n0, n1, n2, n3, p0, p1, p2, p3⟩ := zfacts hz9; clear hz9) | (have hz9 := yc.blk (y2.blk (new_blk_at y1.w zbox)); obtain ⟨n0, n1, n2, n3, p0, p1, p2, p3⟩ := zfacts hz9; clear hz9) | (have hz9 := yc.blk (new_blk_at y2.w zbox); obtain ⟨n0, n1, n2, n3, p0, p1, p2, p3⟩ := zfacts hz9; clear hz9) | skip)))
    all_goals (
      go_wp2_with fail
      go_meet
      case rel =>
        first
          | exact got_new (by (with_reducible (repeat (first | exact Below.refl _ _ | exact bel0 | refine below_set ?_ ?_ | refine below_alloc ?_ _ | refine below_drew ?_ | refine below_ext ?_ _)))) hnw rfl
          | exact got_set (by (with_reducible (repeat (first | exact Below.refl _ _ | exact bel0 | refine below_set ?_ ?_ | refine below_alloc ?_ _ | refine below_drew ?_ | refine below_ext ?_ _)))) (Nat.le_refl _) (yc.blk (y2.blk (y1.blk (y0.blk (new_blk_drew U0 zbox))))) hnw (fun g hg e => by have a := hlow g hg; have b0 := y0.size; have b1 := y1.size; have b2 := y2.size; simp at *; omega) rfl
          | exact got_set (by (with_reducible (repeat (first | exact Below.refl _ _ | exact bel0 | refine below_set ?_ ?_ | refine below_alloc ?_ _ | refine below_drew ?_ | refine below_ext ?_ _)))) (Below.size (by (with_reducible (repeat (first | exact Below.refl _ _ | exact bel0 | refine below_set ?_ ?_ | refine below_alloc ?_ _ | refine below_drew ?_ | refine below_ext ?_ _))))) (yc.blk (y2.blk (y1.blk (new_blk_at y0.w zbox)))) hnw (fun g hg e => by have a := hlow g hg; have b0 := y0.size; have b1 := y1.size; have b2 := y2.size; simp at *; omega) rfl
          | exact got_set (by (with_reducible (repeat (first | exact Below.refl _ _ | exact bel0 | refine below_set ?_ ?_ | refine below_alloc ?_ _ | refine below_drew ?_ | refine below_ext ?_ _)))) (Below.size (by (with_reducible (repeat (first | exact Below.refl _ _ | exact bel0 | refine below_set ?_ ?_ | refine below_alloc ?_ _ | refine below_drew ?_ | refine below_ext ?_ _))))) (yc.blk (y2.blk (new_blk_at y1.w zbox))) hnw (fun g hg e => by have a := hlow g hg; have b0 := y0.size; have b1 := y1.size; have b2 := y2.size; simp at *; omega) rfl
          | exact got_set (by (with_reducible (repeat (first | exact Below.refl _ _ | exact bel0 | refine below_set ?_ ?_ | refine below_alloc ?_ _ | refine below_drew ?_ | refine below_ext ?_ _)))) (Below.size (by (with_reducible (repeat (first | exact Below.refl _ _ | exact bel0 | refine below_set ?_ ?_ | refine below_alloc ?_ _ | refine below_drew ?_ | refine below_ext ?_ _))))) (yc.blk (new_blk_at y2.w zbox)) hnw (fun g hg e => by have a := hlow g hg; have b0 := y0.size; have b1 := y1.size; have b2 := y2.size; simp at *; omega) rfl)
  case rest =>
    obtain ⟨DD, rr, rfl, rfl, bel6, hD6, box6, tm6⟩ := hcut
    obtain ⟨U, hU⟩ : ∃ U : World, U = wc := ⟨_, rfl⟩
    rw [← hU] at bel6 box6 tm6 ⊢
    clear hU
    have belU : Below Wb.heap.size Wb U := bel0.trans (bel6.mono bel0.size)
    clear bel6 hD6
    have W6 : Hid (∀ z, Below U.heap.size U z → Box4 z DD o rr ∧ TmIn z 0 o rr) := fun z b => ⟨box6.ext ⟨z, b⟩, tm6.ext ⟨z, b⟩⟩
    have toWb : Hid (∀ z, Below U.heap.size U z → Below Wb.heap.size Wb z) := fun z b => belU.trans (b.mono belU.size)
    clear box6 tm6 bel0
    obtain ⟨L0, eL⟩ : ∃ L, L = U.heap.size := ⟨_, rfl⟩
    have hLU : U.heap.size ≤ L0 := by omega
    have bU : Below U.heap.size U U := Below.refl _ _
    -- an argument, in blocks of its own
    have C := TO0.out U (toWb.out _ bU)
    obtain ⟨m0, m1, m2, m3⟩ := HKT0.out U (toWb.out _ bU)
    go_wp2_with fail
    clear m0 m1 m2 m3
    refine Calls.mono C ?_
    clear C
    rintro e w' ⟨rx0, BX, y, rfl, rfl, own, l⟩
    replace bU := below_ext bU y
    have q := y.size
    go_upto_region 12 with fail
    generalize hV : World.alloc _ _ = Z1
    have X0 := HoldT.new own l q hV
    obtain ⟨zv, hzv⟩ : ∃ z : Ext y.w, z.w = Z1 := ⟨(Ext.self y.w).alloc _, hV⟩
    replace bU := below_ext bU zv
    have qV : y.w.heap.size < Z1.heap.size := by rw [← hV]; simp
    rw [hzv] at bU
    clear hV hzv zv own l
    rw [← eL] at X0
    generalize y.w.heap.size = DXX0 at *
    obtain ⟨L1, eL2⟩ : ∃ L, L = Z1.heap.size := ⟨_, rfl⟩
    rw [← eL2] at X0
    have hL1 : L0 ≤ L1 := by omega
    clear eL q qV y
    have eL := eL2
    clear eL2
    -- an argument, in blocks of its own
    go_wp2_with fail
    refine Calls.mono (TO1.out Z1 (toWb.out _ bU)) ?_
    rintro e w' ⟨v, y, rfl, rfl, own⟩
    obtain ⟨cx1, dx1, rfl, -, l⟩ := owned_row own
    have X1 : HoldR y.w Z1.heap.size y.w.heap.size cx1 dx1 f1 := HoldR.new own (fun p e => ⟨(l p e).1, (l p e).2⟩)
    replace X0 := X0.ext y
    replace bU := below_ext bU y
    have q := y.size
    go_upto_region 13 with fail
    obtain ⟨Z2, hZ⟩ : ∃ Z : World, Z = y.w := ⟨_, rfl⟩
    rw [← hZ] at X0 X1 q bU ⊢
    clear hZ own l y
    rw [← eL] at X1
    obtain ⟨L2, eL2⟩ : ∃ L, L = Z2.heap.size := ⟨_, rfl⟩
    rw [← eL2] at X1
    have hL2 : L1 ≤ L2 := by omega
    clear eL q
    have eL := eL2
    clear eL2
    -- an argument, in blocks of its own
    have C := TO2.out Z2 (toWb.out _ bU)
    obtain ⟨m0, m1, m2, m3⟩ := HKT2.out Z2 (toWb.out _ bU)
    go_wp2_with fail
    clear m0 m1 m2 m3
    refine Calls.mono C ?_
    clear C
    rintro e w' ⟨rx2, BX, y, rfl, rfl, own, l⟩
    replace X0 := X0.ext y
    replace X1 := X1.ext y
    replace bU := below_ext bU y
    have q := y.size
    go_upto_region 14 with fail
    generalize hV : World.alloc _ _ = Z3
    have X2 := HoldT.new own l q hV
    obtain ⟨zv, hzv⟩ : ∃ z : Ext y.w, z.w = Z3 := ⟨(Ext.self y.w).alloc _, hV⟩
    replace X0 := X0.ext zv
    replace X1 := X1.ext zv
    replace bU := below_ext bU zv
    have qV : y.w.heap.size < Z3.heap.size := by rw [← hV]; simp
    rw [hzv] at X0 X1 bU
    clear hV hzv zv own l
    rw [← eL] at X2
    generalize y.w.heap.size = DXX2 at *
    obtain ⟨L3, eL2⟩ : ∃ L, L = Z3.heap.size := ⟨_, rfl⟩
    rw [← eL2] at X2
    have hL3 : L2 ≤ L3 := by omega
    clear eL q qV y
    have eL := eL2
    clear eL2
    -- the call
    have C := IMP.out Z3 rx0 cx1 dx1 rx2 (toWb.out _ bU) X0.tm X1.row X2.tm X1.cap
    obtain ⟨m00, m01, m02, m03⟩ := X0.box
    obtain ⟨m20, m21, m22, m23⟩ := X2.box
    go_wp2_with fail
    clear m00 m01 m02 m03 m20 m21 m22 m23
    refine Calls.mono C ?_
    clear C
    rintro e w' ⟨rg, NB, y, rfl, rfl, own, l⟩
    replace X0 := X0.ext y
    replace X1 := X1.ext y
    replace X2 := X2.ext y
    replace bU := below_ext bU y
    have q := y.size
    go_upto_region 15 with fail
    generalize hV : World.alloc _ _ = Z4
    have XG := HoldT.new own l q hV
    obtain ⟨zv, hzv⟩ : ∃ z : Ext y.w, z.w = Z4 := ⟨(Ext.self y.w).alloc _, hV⟩
    replace X0 := X0.ext zv
    replace X1 := X1.ext zv
    replace X2 := X2.ext zv
    replace bU := below_ext bU zv
    have qV : y.w.heap.size < Z4.heap.size := by rw [← hV]; simp
    rw [hzv] at X0 X1 X2 bU
    clear hV hzv zv own l
    rw [← eL] at XG
    generalize y.w.heap.size = DXXG at *
    obtain ⟨L4, eL2⟩ : ∃ L, L = Z4.heap.size := ⟨_, rfl⟩
    rw [← eL2] at XG
    have hL4 : L3 ≤ L4 := by omega
    clear eL q qV y
    have eL := eL2
    clear eL2
    clear eL
    -- it is what the model says
    obtain ⟨m0, m1, m2, m3⟩ := XG.box
    obtain ⟨n0, n1, n2, n3⟩ := (W6.out Z4 bU).1
    have C := eqTerm_ans o XG.tm (W6.out Z4 bU).2 hwo true (by simp) (Ext.self Z4)
    go_wp2_with fail
    clear m0 m1 m2 m3 n0 n1 n2 n3
    refine Calls.mono C ?_
    clear C
    rintro e w' ⟨rfl, y, rfl⟩
    replace X0 := X0.ext y
    replace X1 := X1.ext y
    replace X2 := X2.ext y
    replace XG := XG.ext y
    replace bU := below_ext bU y
    go_upto_region 17 with fail
    obtain ⟨Z5, hZ⟩ : ∃ Z : World, Z = y.w := ⟨_, rfl⟩
    rw [← hZ] at X0 X1 X2 XG bU ⊢
    clear hZ
    have K15 : Hid (∀ w', Below Z5.heap.size Z5 w' → (w'.cell? ⟨DXX0, 0, none⟩ = some (.int .i64 t0.op) ∧ w'.cell? ⟨DXX0, 1, none⟩ = some (.int .i64 t0.n) ∧ w'.cell? ⟨DXX0, 2, none⟩ = some (.slice rx0.a t0.ty.length rx0.c) ∧ w'.cell? ⟨DXX0, 3, none⟩ = some (.slice rx0.b t0.kids.length rx0.d)) ∧ w'.cell? ⟨B, 0, none⟩ = some (.int .i64 t0.op) ∧ w'.cell? ⟨B, 1, none⟩ = some (.int .i64 t0.n) ∧ w'.cell? ⟨B, 2, none⟩ = some (.slice ra0 t0.ty.length rc0) ∧ w'.cell? ⟨B, 3, none⟩ = some (.slice rb0 t0.kids.length rd0)) := fun w' q => ⟨X0.box.ext ⟨w', q⟩, HKT0.out w' ((toWb.out _ bU).trans (q.mono (toWb.out _ bU).size))⟩
    have C := TO0.out Z5.drew (toWb.out _ (below_drew bU))
    go_region_held3 (fun w' => (w'.cell? ⟨DXX0, 0, none⟩ = some (.int .i64 t0.op) ∧ w'.cell? ⟨DXX0, 1, none⟩ = some (.int .i64 t0.n) ∧ w'.cell? ⟨DXX0, 2, none⟩ = some (.slice rx0.a t0.ty.length rx0.c) ∧ w'.cell? ⟨DXX0, 3, none⟩ = some (.slice rx0.b t0.kids.length rx0.d)) ∧ w'.cell? ⟨B, 0, none⟩ = some (.int .i64 t0.op) ∧ w'.cell? ⟨B, 1, none⟩ = some (.int .i64 t0.n) ∧ w'.cell? ⟨B, 2, none⟩ = some (.slice ra0 t0.ty.length rc0) ∧ w'.cell? ⟨B, 3, none⟩ = some (.slice rb0 t0.kids.length rd0)) ((refine K15.out _ ?_; (with_reducible (repeat (first | exact Below.refl _ _ | refine below_drew ?_ | refine below_ext ?_ _)))))
      (first | (go_at_call 23; refine Calls.mono C ?_; rintro e w' ⟨r3, NB3, uu, rfl, rfl, hn3, -⟩) | (go_at_call 25; refine Calls.mono (eqTerm_ans t0 ((X0.tm.ext (Ext.self Z5).drew).ext uu) (hn3.tm (fun g _ => Nat.zero_le g)) hwt0 true (by simp) (Ext.self uu.w)) ?_; rintro e w' ⟨rfl, u2, rfl⟩))
    obtain ⟨y, hy⟩ : ∃ y : Ext Z5, y.w = u2.w := ⟨((Ext.self Z5).drew.trans uu).trans u2, rfl⟩
    rw [← hy]
    clear hy hn3 K15 C
    replace X0 := X0.ext y
    replace X1 := X1.ext y
    replace X2 := X2.ext y
    replace XG := XG.ext y
    replace bU := below_ext bU y
    go_upto_region 19 with fail
    obtain ⟨Z6, hZ⟩ : ∃ Z : World, Z = y.w := ⟨_, rfl⟩
    rw [← hZ] at X0 X1 X2 XG bU ⊢
    clear hZ
    go_wp2_with fail
    refine Calls.mono (TO1.out Z6 (toWb.out _ bU)) ?_
    rintro e w' ⟨v, y, rfl, rfl, ow⟩
    obtain ⟨ct, dt, rfl, rt, -⟩ := owned_row ow
    clear ow
    replace X0 := X0.ext y
    replace X1 := X1.ext y
    replace X2 := X2.ext y
    replace XG := XG.ext y
    replace bU := below_ext bU y
    go_wp2_with fail
    refine Calls.mono (eqIntS_ans X1.row rt hff1 true (by simp) (Ext.self y.w)) ?_
    clear rt
    rintro e w' ⟨rfl, y2, rfl⟩
    replace X0 := X0.ext y2
    replace X1 := X1.ext y2
    replace X2 := X2.ext y2
    replace XG := XG.ext y2
    replace bU := below_ext bU y2
    obtain ⟨y, hy⟩ : ∃ y : Ext y.w, y.w = y2.w := ⟨y2, rfl⟩
    rw [← hy] at X0 X1 X2 XG bU ⊢
    clear hy y2
    go_upto_region 21 with fail
    obtain ⟨Z7, hZ⟩ : ∃ Z : World, Z = y.w := ⟨_, rfl⟩
    rw [← hZ] at X0 X1 X2 XG bU ⊢
    clear hZ
    have K15 : Hid (∀ w', Below Z7.heap.size Z7 w' → (w'.cell? ⟨DXX2, 0, none⟩ = some (.int .i64 t2.op) ∧ w'.cell? ⟨DXX2, 1, none⟩ = some (.int .i64 t2.n) ∧ w'.cell? ⟨DXX2, 2, none⟩ = some (.slice rx2.a t2.ty.length rx2.c) ∧ w'.cell? ⟨DXX2, 3, none⟩ = some (.slice rx2.b t2.kids.length rx2.d)) ∧ w'.cell? ⟨B + 1, 0, none⟩ = some (.int .i64 t2.op) ∧ w'.cell? ⟨B + 1, 1, none⟩ = some (.int .i64 t2.n) ∧ w'.cell? ⟨B + 1, 2, none⟩ = some (.slice ra2 t2.ty.length rc2) ∧ w'.cell? ⟨B + 1, 3, none⟩ = some (.slice rb2 t2.kids.length rd2)) := fun w' q => ⟨X2.box.ext ⟨w', q⟩, HKT2.out w' ((toWb.out _ bU).trans (q.mono (toWb.out _ bU).size))⟩
    have C := TO2.out Z7.drew (toWb.out _ (below_drew bU))
    go_region_held3 (fun w' => (w'.cell? ⟨DXX2, 0, none⟩ = some (.int .i64 t2.op) ∧ w'.cell? ⟨DXX2, 1, none⟩ = some (.int .i64 t2.n) ∧ w'.cell? ⟨DXX2, 2, none⟩ = some (.slice rx2.a t2.ty.length rx2.c) ∧ w'.cell? ⟨DXX2, 3, none⟩ = some (.slice rx2.b t2.kids.length rx2.d)) ∧ w'.cell? ⟨B + 1, 0, none⟩ = some (.int .i64 t2.op) ∧ w'.cell? ⟨B + 1, 1, none⟩ = some (.int .i64 t2.n) ∧ w'.cell? ⟨B + 1, 2, none⟩ = some (.slice ra2 t2.ty.length rc2) ∧ w'.cell? ⟨B + 1, 3, none⟩ = some (.slice rb2 t2.kids.length rd2)) ((refine K15.out _ ?_; (with_reducible (repeat (first | exact Below.refl _ _ | refine below_drew ?_ | refine below_ext ?_ _)))))
      (first | (go_at_call 23; refine Calls.mono C ?_; rintro e w' ⟨r3, NB3, uu, rfl, rfl, hn3, -⟩) | (go_at_call 25; refine Calls.mono (eqTerm_ans t2 ((X2.tm.ext (Ext.self Z7).drew).ext uu) (hn3.tm (fun g _ => Nat.zero_le g)) hwt2 true (by simp) (Ext.self uu.w)) ?_; rintro e w' ⟨rfl, u2, rfl⟩))
    obtain ⟨y, hy⟩ : ∃ y : Ext Z7, y.w = u2.w := ⟨((Ext.self Z7).drew.trans uu).trans u2, rfl⟩
    rw [← hy]
    clear hy hn3 K15 C
    replace X0 := X0.ext y
    replace X1 := X1.ext y
    replace X2 := X2.ext y
    replace XG := XG.ext y
    replace bU := below_ext bU y
    -- the arguments are marked
    obtain ⟨Z8, hZ⟩ : ∃ Z : World, Z = y.w := ⟨_, rfl⟩
    rw [← hZ] at X0 X1 X2 XG bU ⊢
    clear hZ
    have hce0 := Tm.cnt_le t0
    have C := X0.mark (1) (by omega) (by omega)
    obtain ⟨m0, m1, m2, m3⟩ := X0.box
    go_wp2_with fail
    clear m0 m1 m2 m3
    refine Calls.mono C ?_
    clear C
    rintro e M0 ⟨rfl, on, -⟩
    replace X1 := X1.only on (by omega)
    replace X2 := X2.only on (by omega)
    replace XG := XG.only on (by omega)
    replace bU := on.str_below bU (by omega)
    clear X0 on
    go_wp2_with fail
    refine Calls.mono (X1.mark (by omega) (1 + (t0.cnt : Nat)) (by omega) (by omega)) ?_
    rintro e M1 ⟨rfl, on⟩
    replace X2 := X2.only on (by omega)
    replace XG := XG.only on (by omega)
    replace bU := on.str_below bU (by omega)
    clear X1 on
    have hce2 := Tm.cnt_le t2
    have C := X2.mark (1 + (t0.cnt : Nat) + f1.length) (by omega) (by omega)
    obtain ⟨m0, m1, m2, m3⟩ := X2.box
    go_wp2_with fail
    clear m0 m1 m2 m3
    refine Calls.mono C ?_
    clear C
    rintro e M2 ⟨rfl, on, -⟩
    replace XG := XG.only on (by omega)
    replace bU := on.str_below bU (by omega)
    clear X2 on
    obtain ⟨m0, m1, m2, m3⟩ := XG.box
    obtain ⟨n0, n1, n2, n3⟩ := (W6.out M2 bU).1
    have C := eqTerm_ans o XG.tm (W6.out M2 bU).2 hwo true (by simp) (Ext.self M2)
    go_wp2_with fail
    clear m0 m1 m2 m3 n0 n1 n2 n3
    refine Calls.mono C ?_
    clear C
    rintro e w' ⟨rfl, y, rfl⟩
    replace XG := XG.ext y
    replace bU := below_ext bU y
    -- the answer is marked
    have hceo := Tm.cnt_le o
    have C := XG.mark 1 (by omega) (by omega)
    obtain ⟨m0, m1, m2, m3⟩ := XG.box
    go_wp2_with fail
    clear m0 m1 m2 m3
    refine Calls.mono C ?_
    clear C
    rintro e MG ⟨rfl, on, XM⟩
    replace bU := on.str_below bU (by omega)
    clear XG on
    have C := XM.held (by omega) (by omega)
    obtain ⟨m0, m1, m2, m3⟩ := XM.box
    go_wp2_with fail
    clear m0 m1 m2 m3
    refine Calls.mono C ?_
    clear C
    rintro e w' ⟨rfl, y, rfl⟩
    replace XM := XM.ext y
    replace bU := below_ext bU y
    go_upto_region 37 with fail
    obtain ⟨U1, hU1⟩ : ∃ U1 : World, U1 = y.w := ⟨_, rfl⟩
    rw [← hU1] at XM bU ⊢
    clear hU1 y
    have bel0 := toWb.out _ bU
    go_cut [18, 19] from 113 (fun s6 s7 wc => GotT U1 o b s6 s7 wc)
    case first =>
      go_region_held3 (fun w' => (w'.cell? ⟨B, 0, none⟩ = some (.int .i64 t0.op) ∧ w'.cell? ⟨B, 1, none⟩ = some (.int .i64 t0.n) ∧ w'.cell? ⟨B, 2, none⟩ = some (.slice ra0 t0.ty.length rc0) ∧ w'.cell? ⟨B, 3, none⟩ = some (.slice rb0 t0.kids.length rd0)) ∧ (w'.cell? ⟨B + 1, 0, none⟩ = some (.int .i64 t2.op) ∧ w'.cell? ⟨B + 1, 1, none⟩ = some (.int .i64 t2.n) ∧ w'.cell? ⟨B + 1, 2, none⟩ = some (.slice ra2 t2.ty.length rc2) ∧ w'.cell? ⟨B + 1, 3, none⟩ = some (.slice rb2 t2.kids.length rd2))) ((exact ⟨HKT0.out _ (by (with_reducible (repeat (first | exact Below.refl _ _ | exact bel0 | refine below_set ?_ ?_ | refine below_alloc ?_ _ | refine below_drew ?_ | refine below_ext ?_ _)))), HKT2.out _ (by (with_reducible (repeat (first | exact Below.refl _ _ | exact bel0 | refine below_set ?_ ?_ | refine below_alloc ?_ _ | refine below_drew ?_ | refine below_ext ?_ _))))⟩))
        (first | (go_at_call 16; refine Calls.mono (TO1.out _ (by (with_reducible (repeat (first | exact Below.refl _ _ | exact bel0 | refine below_set ?_ ?_ | refine below_alloc ?_ _ | refine below_drew ?_ | refine below_ext ?_ _))))) ?_; rintro e w' ⟨v, y1, rfl, rfl, own0⟩; obtain ⟨c1, d1, rfl, row1, -⟩ := owned_row own0; have cp1 := owns_cap own0; clear own0) | (go_at_call 23; (with_reducible refine Calls.mono (TO0.out _ (by (with_reducible (repeat (first | exact Below.refl _ _ | exact bel0 | refine below_set ?_ ?_ | refine below_alloc ?_ _ | refine below_drew ?_ | refine below_ext ?_ _))))) ?_); rintro e w' ⟨rr0, NBB0, y0, rfl, rfl, hn1, -⟩; have tmm0 := hn1.tm (fun g _ => Nat.zero_le g); clear hn1) | (go_at_call 23; (with_reducible refine Calls.mono (TO2.out _ (by (with_reducible (repeat (first | exact Below.refl _ _ | exact bel0 | refine below_set ?_ ?_ | refine below_alloc ?_ _ | refine below_drew ?_ | refine below_ext ?_ _))))) ?_); rintro e w' ⟨rr2, NBB2, y2, rfl, rfl, hn1, -⟩; have tmm2 := hn1.tm (fun g _ => Nat.zero_le g); clear hn1) | (go_at_call 41; refine Calls.mono (IMP.out _ _ _ _ _ (by (with_reducible (repeat (first | exact Below.refl _ _ | exact bel0 | refine below_set ?_ ?_ | refine below_alloc ?_ _ | refine below_drew ?_ | refine below_ext ?_ _)))) (by (with_reducible (repeat (first | exact tmm0 | refine tm_alloc ?_ _ | refine tm_drew ?_ | refine TmIn.ext ?_ _)))) (by (with_reducible (repeat (first | exact row1 | refine row_alloc ?_ _ | refine row_drew ?_ | refine Row.ext ?_ _)))) (by (with_reducible (repeat (first | exact tmm2 | refine tm_alloc ?_ _ | refine tm_drew ?_ | refine TmIn.ext ?_ _)))) cp1) ?_; rintro e w' ⟨rw, NBw, yc, rfl, rfl, hnw, hlow⟩; (first | (have hz9 := yc.blk (y2.blk (y1.blk (y0.blk (new_blk_drew U1 zbox)))); obtain ⟨n0, n1, n2, n3, p0, p1, p2, p3⟩ := zfacts hz9; clear hz9) | (have hz9 := yc.blk (y2.blk (y1.blk (new_blk_at y0.w zbox))); obtain ⟨n0, n1, n2, n3, p0, p1, p2, p3⟩ := zfacts hz9; clear hz9) | (have hz9 := yc.blk (y2.blk (new_blk_at y1.w zbox)); obtain ⟨n0, n1, n2, n3, p0, p1, p2, p3⟩ := zfacts hz9; clear hz9) | (have hz9 := yc.blk (new_blk_at y2.w zbox); obtain ⟨n0, n1, n2, n3, p0, p1, p2, p3⟩ := zfacts hz9; clear hz9) | skip)))
      all_goals (
        go_wp2_with fail
        go_meet
        case rel =>
          first
            | exact got_new (by (with_reducible (repeat (first | exact Below.refl _ _ | exact bel0 | refine below_set ?_ ?_ | refine below_alloc ?_ _ | refine below_drew ?_ | refine below_ext ?_ _)))) hnw rfl
            | exact got_set (by (with_reducible (repeat (first | exact Below.refl _ _ | exact bel0 | refine below_set ?_ ?_ | refine below_alloc ?_ _ | refine below_drew ?_ | refine below_ext ?_ _)))) (Nat.le_refl _) (yc.blk (y2.blk (y1.blk (y0.blk (new_blk_drew U1 zbox))))) hnw (fun g hg e => by have a := hlow g hg; have b0 := y0.size; have b1 := y1.size; have b2 := y2.size; simp at *; omega) rfl
            | exact got_set (by (with_reducible (repeat (first | exact Below.refl _ _ | exact bel0 | refine below_set ?_ ?_ | refine below_alloc ?_ _ | refine below_drew ?_ | refine below_ext ?_ _)))) (Below.size (by (with_reducible (repeat (first | exact Below.refl _ _ | exact bel0 | refine below_set ?_ ?_ | refine below_alloc ?_ _ | refine below_drew ?_ | refine below_ext ?_ _))))) (yc.blk (y2.blk (y1.blk (new_blk_at y0.w zbox)))) hnw (fun g hg e => by have a := hlow g hg; have b0 := y0.size; have b1 := y1.size; have b2 := y2.size; simp at *; omega) rfl
            | exact got_set (by (with_reducible (repeat (first | exact Below.refl _ _ | exact bel0 | refine below_set ?_ ?_ | refine below_alloc ?_ _ | refine below_drew ?_ | refine below_ext ?_ _)))) (Below.size (by (with_reducible (repeat (first | exact Below.refl _ _ | exact bel0 | refine below_set ?_ ?_ | refine below_alloc ?_ _ | refine below_drew ?_ | refine below_ext ?_ _))))) (yc.blk (y2.blk (new_blk_at y1.w zbox))) hnw (fun g hg e => by have a := hlow g hg; have b0 := y0.size; have b1 := y1.size; have b2 := y2.size; simp at *; omega) rfl
            | exact got_set (by (with_reducible (repeat (first | exact Below.refl _ _ | exact bel0 | refine below_set ?_ ?_ | refine below_alloc ?_ _ | refine below_drew ?_ | refine below_ext ?_ _)))) (Below.size (by (with_reducible (repeat (first | exact Below.refl _ _ | exact bel0 | refine below_set ?_ ?_ | refine below_alloc ?_ _ | refine below_drew ?_ | refine below_ext ?_ _))))) (yc.blk (new_blk_at y2.w zbox)) hnw (fun g hg e => by have a := hlow g hg; have b0 := y0.size; have b1 := y1.size; have b2 := y2.size; simp at *; omega) rfl)
    case rest =>
      obtain ⟨D7, rh, rfl, rfl, bel7, hD7, box7, tm7⟩ := hcut
      have XM2 : HoldT wc _ _ _ _ _ := XM.ext ⟨_, bel7⟩
      have bU2 := bU.trans (bel7.mono bU.size)
      clear hD7 bel0 XM bU
      obtain ⟨U2, hU2⟩ : ∃ U2 : World, U2 = wc := ⟨_, rfl⟩
      rw [← hU2] at box7 tm7 bU2 XM2 ⊢
      clear hU2 bel7
      obtain ⟨m0, m1, m2, m3⟩ := box7
      obtain ⟨n0, n1, n2, n3⟩ := (W6.out _ bU2).1
      have C := eqTerm_ans o tm7 (W6.out _ bU2).2 hwo true (by simp) (Ext.self U2)
      go_wp2_with fail
      clear m0 m1 m2 m3 n0 n1 n2 n3
      refine Calls.mono C ?_
      clear C tm7
      rintro e w' ⟨rfl, y8, rfl⟩
      have XM := XM2.ext y8
      have bU := below_ext bU2 y8
      have C := XM.held (by omega) (by omega)
      obtain ⟨m0, m1, m2, m3⟩ := XM.box
      go_wp2_with fail
      clear m0 m1 m2 m3
      refine Calls.mono C ?_
      clear C
      rintro e w' ⟨rfl, y9, rfl⟩
      have bU := below_ext bU y9
      go_wp2_with fail
      go_ret
      exact law_end (hback ⟨_, toWb.out _ bU⟩)

end Go.Proofs.YtoefeijnnnioeaaDoor
