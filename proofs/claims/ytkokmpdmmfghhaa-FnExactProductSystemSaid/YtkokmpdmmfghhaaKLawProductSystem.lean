
/- The law of ProductSystem. -/
import Derived.Test.YtkokmpdmmfghhaaHB
import Derived.Test.YtkokmpdmmfghhaaKProdM
import Derived.Test.YtkokmpdmmfghhaaKProdSys
import Derived.Deep.RegionHeld3
import Derived.Deep.Cut
import Derived.RegionTactic
import Derived.Outline
namespace Go.Proofs.Ytkokmpdmmfghhaa
open Go.RowKit

set_option maxRecDepth 100000 in
set_option maxHeartbeats 16000000 in
theorem productSystem_law {W : World} {t0 : Sys} {r0 : Ref} (ht0 : SysIn W r0 t0) {t1 : Sys} {r1 : Ref} (ht1 : SysIn W r1 t1) :
    Calls Try.prog 9 #[r0.val t0, r1.val t1] W (LawEnd W) := by
  obtain ⟨x, hx⟩ : ∃ x : Ext W, x.w = W := ⟨Ext.self W, rfl⟩
  suffices hs : Calls Try.prog 9 #[r0.val t0, r1.val t1] x.w (LawEnd W) by rw [hx] at hs; exact hs
  clear hx
  unfold Ref.val
  by_cases hb0 : (1048576 : Int) < t0.wt
  · skip
    go_enter Try.func9, Try.ntmps9
    go_wp2_with fail
    have hxW := x.size
    generalize hW : (x.w.alloc _).alloc _ = Wb
    generalize hB : x.w.heap.size = B at *
    obtain ⟨bk0, bk1, -, bel⟩ := blocks2 hB hW
    have belW : Below W.heap.size W Wb := x.below.trans (bel.mono (by omega))
    clear hW bel hB hxW
    have h10 : SysIn Wb r0 t0 := ht0.ext ⟨Wb, belW⟩
    have c00 : ∀ y : Ext Wb, y.w.cell? ⟨B, 0, none⟩ = some (.int .i64 t0.n) := fun y => blk_cell (y.blk bk0) 0
    have c01 : ∀ y : Ext Wb, y.w.cell? ⟨B, 1, none⟩ = some (.slice r0.pa t0.plus.length r0.pc) := fun y => blk_cell (y.blk bk0) 1
    have c02 : ∀ y : Ext Wb, y.w.cell? ⟨B, 2, none⟩ = some (.slice r0.ta t0.times.length r0.tc) := fun y => blk_cell (y.blk bk0) 2
    have c03 : ∀ y : Ext Wb, y.w.cell? ⟨B, 3, none⟩ = some (.slice r0.ba t0.below.length r0.bc) := fun y => blk_cell (y.blk bk0) 3
    have h11 : SysIn Wb r1 t1 := ht1.ext ⟨Wb, belW⟩
    have c10 : ∀ y : Ext Wb, y.w.cell? ⟨B + 1, 0, none⟩ = some (.int .i64 t1.n) := fun y => blk_cell (y.blk bk1) 0
    have c11 : ∀ y : Ext Wb, y.w.cell? ⟨B + 1, 1, none⟩ = some (.slice r1.pa t1.plus.length r1.pc) := fun y => blk_cell (y.blk bk1) 1
    have c12 : ∀ y : Ext Wb, y.w.cell? ⟨B + 1, 2, none⟩ = some (.slice r1.ta t1.times.length r1.tc) := fun y => blk_cell (y.blk bk1) 2
    have c13 : ∀ y : Ext Wb, y.w.cell? ⟨B + 1, 3, none⟩ = some (.slice r1.ba t1.below.length r1.bc) := fun y => blk_cell (y.blk bk1) 3
    have hback : ∀ y : Ext Wb, ∃ z : Ext W, y.w = z.w := fun y => ⟨⟨y.w, belW.trans (y.below.mono belW.size)⟩, rfl⟩
    obtain ⟨yy, hy0⟩ : ∃ y : Ext Wb, y.w = Wb := ⟨Ext.self Wb, rfl⟩
    rw [← hy0]
    clear hy0 belW bk0 bk1
    have SZT : ∀ y : Ext Wb, Calls Try.prog 40 #[r0.val t0, .int .i64 1048576] y.w (Ans Wb (.int .i64 (-1))) := fun y => szSys_ans t0 h10 1048576 (by omega) (by omega) (-1) (.inr ⟨hb0, rfl⟩) y
    unfold Ref.val at SZT
    refine Calls.mono (SZT _) ?_
    rintro e w' ⟨rfl, yy, rfl⟩
    clear SZT
    go_wp2_with fail
    go_ret
    exact law_end (hback yy)
  have hwt0 : t0.wt ≤ 1048576 := by omega
  generalize hlf0 : (1048576 : Int) - t0.wt = lft0
  have hnb0 : (0 : Int) ≤ lft0 := by omega
  have hlb0 : lft0 ≤ 1048576 := by omega
  by_cases hb1 : (lft0 : Int) < t1.wt
  · skip
    go_enter Try.func9, Try.ntmps9
    go_wp2_with fail
    have hxW := x.size
    generalize hW : (x.w.alloc _).alloc _ = Wb
    generalize hB : x.w.heap.size = B at *
    obtain ⟨bk0, bk1, -, bel⟩ := blocks2 hB hW
    have belW : Below W.heap.size W Wb := x.below.trans (bel.mono (by omega))
    clear hW bel hB hxW
    have h10 : SysIn Wb r0 t0 := ht0.ext ⟨Wb, belW⟩
    have c00 : ∀ y : Ext Wb, y.w.cell? ⟨B, 0, none⟩ = some (.int .i64 t0.n) := fun y => blk_cell (y.blk bk0) 0
    have c01 : ∀ y : Ext Wb, y.w.cell? ⟨B, 1, none⟩ = some (.slice r0.pa t0.plus.length r0.pc) := fun y => blk_cell (y.blk bk0) 1
    have c02 : ∀ y : Ext Wb, y.w.cell? ⟨B, 2, none⟩ = some (.slice r0.ta t0.times.length r0.tc) := fun y => blk_cell (y.blk bk0) 2
    have c03 : ∀ y : Ext Wb, y.w.cell? ⟨B, 3, none⟩ = some (.slice r0.ba t0.below.length r0.bc) := fun y => blk_cell (y.blk bk0) 3
    have h11 : SysIn Wb r1 t1 := ht1.ext ⟨Wb, belW⟩
    have c10 : ∀ y : Ext Wb, y.w.cell? ⟨B + 1, 0, none⟩ = some (.int .i64 t1.n) := fun y => blk_cell (y.blk bk1) 0
    have c11 : ∀ y : Ext Wb, y.w.cell? ⟨B + 1, 1, none⟩ = some (.slice r1.pa t1.plus.length r1.pc) := fun y => blk_cell (y.blk bk1) 1
    have c12 : ∀ y : Ext Wb, y.w.cell? ⟨B + 1, 2, none⟩ = some (.slice r1.ta t1.times.length r1.tc) := fun y => blk_cell (y.blk bk1) 2
    have c13 : ∀ y : Ext Wb, y.w.cell? ⟨B + 1, 3, none⟩ = some (.slice r1.ba t1.below.length r1.bc) := fun y => blk_cell (y.blk bk1) 3
    have hback : ∀ y : Ext Wb, ∃ z : Ext W, y.w = z.w := fun y => ⟨⟨y.w, belW.trans (y.below.mono belW.size)⟩, rfl⟩
    obtain ⟨yy, hy0⟩ : ∃ y : Ext Wb, y.w = Wb := ⟨Ext.self Wb, rfl⟩
    rw [← hy0]
    clear hy0 belW bk0 bk1
    have SZT : ∀ y : Ext Wb, Calls Try.prog 40 #[r0.val t0, .int .i64 1048576] y.w (Ans Wb (.int .i64 lft0)) := fun y => szSys_ans t0 h10 1048576 (by omega) (by omega) lft0 (.inl ⟨by omega, hlf0.symm⟩) y
    unfold Ref.val at SZT
    refine Calls.mono (SZT _) ?_
    rintro e w' ⟨rfl, yy, rfl⟩
    clear SZT
    go_wp2_with fail
    have SZT : ∀ y : Ext Wb, Calls Try.prog 40 #[r1.val t1, .int .i64 lft0] y.w (Ans Wb (.int .i64 (-1))) := fun y => szSys_ans t1 h11 lft0 (by omega) (by omega) (-1) (.inr ⟨hb1, rfl⟩) y
    unfold Ref.val at SZT
    refine Calls.mono (SZT _) ?_
    rintro e w' ⟨rfl, yy, rfl⟩
    clear SZT
    go_wp2_with fail
    go_ret
    exact law_end (hback yy)
  have hwt1 : t1.wt ≤ 1048576 := by omega
  generalize hlf1 : (lft0 : Int) - t1.wt = lft1
  have hnb1 : (0 : Int) ≤ lft1 := by omega
  have hlb1 : lft1 ≤ 1048576 := by omega
  have hwu0 : t0.wt ≤ 1099511627776 := by omega
  have hwu1 : t1.wt ≤ 1099511627776 := by omega
  obtain ⟨o, b, ho⟩ := prodV_ex t0 t1
  have hwo : o.wt ≤ 1048576 := by obtain ⟨h1, h2, h3⟩ := prodV_small ho; unfold Sys.wt; omega
  have HO := Lib.hid ho
  clear ho
  go_enter Try.func9, Try.ntmps9
  go_wp2_with fail
  have hxW := x.size
  generalize hW : (x.w.alloc _).alloc _ = Wb
  generalize hB : x.w.heap.size = B at *
  obtain ⟨bk0, bk1, -, bel⟩ := blocks2 hB hW
  have belW : Below W.heap.size W Wb := x.below.trans (bel.mono (by omega))
  clear hW bel hB hxW
  have h10 : SysIn Wb r0 t0 := ht0.ext ⟨Wb, belW⟩
  have c00 : ∀ y : Ext Wb, y.w.cell? ⟨B, 0, none⟩ = some (.int .i64 t0.n) := fun y => blk_cell (y.blk bk0) 0
  have c01 : ∀ y : Ext Wb, y.w.cell? ⟨B, 1, none⟩ = some (.slice r0.pa t0.plus.length r0.pc) := fun y => blk_cell (y.blk bk0) 1
  have c02 : ∀ y : Ext Wb, y.w.cell? ⟨B, 2, none⟩ = some (.slice r0.ta t0.times.length r0.tc) := fun y => blk_cell (y.blk bk0) 2
  have c03 : ∀ y : Ext Wb, y.w.cell? ⟨B, 3, none⟩ = some (.slice r0.ba t0.below.length r0.bc) := fun y => blk_cell (y.blk bk0) 3
  have h11 : SysIn Wb r1 t1 := ht1.ext ⟨Wb, belW⟩
  have c10 : ∀ y : Ext Wb, y.w.cell? ⟨B + 1, 0, none⟩ = some (.int .i64 t1.n) := fun y => blk_cell (y.blk bk1) 0
  have c11 : ∀ y : Ext Wb, y.w.cell? ⟨B + 1, 1, none⟩ = some (.slice r1.pa t1.plus.length r1.pc) := fun y => blk_cell (y.blk bk1) 1
  have c12 : ∀ y : Ext Wb, y.w.cell? ⟨B + 1, 2, none⟩ = some (.slice r1.ta t1.times.length r1.tc) := fun y => blk_cell (y.blk bk1) 2
  have c13 : ∀ y : Ext Wb, y.w.cell? ⟨B + 1, 3, none⟩ = some (.slice r1.ba t1.below.length r1.bc) := fun y => blk_cell (y.blk bk1) 3
  have hback : ∀ y : Ext Wb, ∃ z : Ext W, y.w = z.w := fun y => ⟨⟨y.w, belW.trans (y.below.mono belW.size)⟩, rfl⟩
  obtain ⟨yy, hy0⟩ : ∃ y : Ext Wb, y.w = Wb := ⟨Ext.self Wb, rfl⟩
  rw [← hy0]
  clear hy0 belW bk0 bk1
  have SZT : ∀ y : Ext Wb, Calls Try.prog 40 #[r0.val t0, .int .i64 1048576] y.w (Ans Wb (.int .i64 lft0)) := fun y => szSys_ans t0 h10 1048576 (by omega) (by omega) lft0 (.inl ⟨by omega, hlf0.symm⟩) y
  unfold Ref.val at SZT
  refine Calls.mono (SZT _) ?_
  rintro e w' ⟨rfl, yy, rfl⟩
  clear SZT
  go_wp2_with fail
  have SZT : ∀ y : Ext Wb, Calls Try.prog 40 #[r1.val t1, .int .i64 lft0] y.w (Ans Wb (.int .i64 lft1)) := fun y => szSys_ans t1 h11 lft0 (by omega) (by omega) lft1 (.inl ⟨by omega, hlf1.symm⟩) y
  unfold Ref.val at SZT
  refine Calls.mono (SZT _) ?_
  rintro e w' ⟨rfl, yy, rfl⟩
  clear SZT
  clear hlf0 hlf1
  go_upto_region 8 with fail
  obtain ⟨U0, hU0⟩ : ∃ U0 : World, U0 = yy.w := ⟨_, rfl⟩
  have bel0 : Below Wb.heap.size Wb U0 := by rw [hU0]; exact yy.below
  rw [← hU0]
  clear hU0 yy
  have HKT0 : Hid (∀ w, Below Wb.heap.size Wb w → w.cell? ⟨B, 0, none⟩ = some (.int .i64 t0.n) ∧ w.cell? ⟨B, 1, none⟩ = some (.slice r0.pa t0.plus.length r0.pc) ∧ w.cell? ⟨B, 2, none⟩ = some (.slice r0.ta t0.times.length r0.tc) ∧ w.cell? ⟨B, 3, none⟩ = some (.slice r0.ba t0.below.length r0.bc)) := fun w q => ⟨c00 ⟨w, q⟩, c01 ⟨w, q⟩, c02 ⟨w, q⟩, c03 ⟨w, q⟩⟩
  have HKT1 : Hid (∀ w, Below Wb.heap.size Wb w → w.cell? ⟨B + 1, 0, none⟩ = some (.int .i64 t1.n) ∧ w.cell? ⟨B + 1, 1, none⟩ = some (.slice r1.pa t1.plus.length r1.pc) ∧ w.cell? ⟨B + 1, 2, none⟩ = some (.slice r1.ta t1.times.length r1.tc) ∧ w.cell? ⟨B + 1, 3, none⟩ = some (.slice r1.ba t1.below.length r1.bc)) := fun w q => ⟨c10 ⟨w, q⟩, c11 ⟨w, q⟩, c12 ⟨w, q⟩, c13 ⟨w, q⟩⟩
  have TO0 : Hid (∀ w, Below Wb.heap.size Wb w → Calls Try.prog 42 #[.agg #[.int .i64 t0.n, .slice r0.pa t0.plus.length r0.pc, .slice r0.ta t0.times.length r0.tc, .slice r0.ba t0.below.length r0.bc]] w (NewSysO w t0)) := fun w q => toSystemO_ans t0 (r := r0) (h10.ext ⟨w, q⟩) hwt0 (Ext.self w)
  have TO1 : Hid (∀ w, Below Wb.heap.size Wb w → Calls Try.prog 42 #[.agg #[.int .i64 t1.n, .slice r1.pa t1.plus.length r1.pc, .slice r1.ta t1.times.length r1.tc, .slice r1.ba t1.below.length r1.bc]] w (NewSysO w t1)) := fun w q => toSystemO_ans t1 (r := r1) (h11.ext ⟨w, q⟩) hwt1 (Ext.self w)
  have SPC : Hid (∀ w r'0 r'1, Below Wb.heap.size Wb w → SysIn w r'0 t0 → SysIn w r'1 t1 → Calls Try.prog 41 #[Ref.val r'0 t0, Ref.val r'1 t1] w (NewSysLB w o b)) := fun w r'0 r'1 q e0 e1 => (specProduct_ans e0 e1 o b HO.out (Ext.self w)).mono fun _ _ ⟨r', y, h1, h2, h3, h4⟩ => ⟨r', fun g => w.heap.size ≤ g, y, h1, h2, ⟨h4, fun g e => by rcases e with e | e | e <;> (obtain ⟨p, hp, rfl⟩ := ob_some e; exact (h3 p (by simp [hp])).1)⟩, fun g q => q⟩
  have IMP : Hid (∀ w r'0 r'1, Below Wb.heap.size Wb w → SysIn w r'0 t0 → SysIn w r'1 t1 → Calls Try.prog 34 #[Ref.val r'0 t0, Ref.val r'1 t1] w (NewSysOB w o b)) := fun w r'0 r'1 q e0 e1 => (product_ans e0 e1 o b HO.out (Ext.self w)).mono fun _ _ ⟨r', y, h1, h2, h3⟩ => by obtain ⟨NB, k1, k2⟩ := sysOwn_of h3; exact ⟨r', NB, y, h1, h2, k1, k2⟩
  have IMQ : Hid (∀ w r'0 r'1, Below Wb.heap.size Wb w → SysIn w r'0 t0 → SysIn w r'1 t1 → Calls Try.prog 34 #[Ref.val r'0 t0, Ref.val r'1 t1] w (NewSysLB w o b)) := fun w r'0 r'1 q e0 e1 => (product_ans e0 e1 o b HO.out (Ext.self w)).mono fun _ _ ⟨r', y, h1, h2, h3⟩ => by obtain ⟨NB, k1, k2⟩ := sysOwn_of h3; exact ⟨r', NB, y, h1, h2, k1.lite, k2⟩
  clear c00 c01 c02 c03 c10 c11 c12 c13
  go_cut [6, 7] from 27 (fun s6 s7 wc => GotS U0 o b s6 s7 wc)
  case first =>
    go_region_held3 (fun w' => (w'.cell? ⟨B, 0, none⟩ = some (.int .i64 t0.n) ∧ w'.cell? ⟨B, 1, none⟩ = some (.slice r0.pa t0.plus.length r0.pc) ∧ w'.cell? ⟨B, 2, none⟩ = some (.slice r0.ta t0.times.length r0.tc) ∧ w'.cell? ⟨B, 3, none⟩ = some (.slice r0.ba t0.below.length r0.bc)) ∧ (w'.cell? ⟨B + 1, 0, none⟩ = some (.int .i64 t1.n) ∧ w'.cell? ⟨B + 1, 1, none⟩ = some (.slice r1.pa t1.plus.length r1.pc) ∧ w'.cell? ⟨B + 1, 2, none⟩ = some (.slice r1.ta t1.times.length r1.tc) ∧ w'.cell? ⟨B + 1, 3, none⟩ = some (.slice r1.ba t1.below.length r1.bc))) ((exact ⟨HKT0.out _ (by (with_reducible (repeat (first | exact Below.refl _ _ | exact bel0 | refine below_set ?_ ?_ | refine below_alloc ?_ _ | refine below_drew ?_ | refine below_ext ?_ _)))), HKT1.out _ (by (with_reducible (repeat (first | exact Below.refl _ _ | exact bel0 | refine below_set ?_ ?_ | refine below_alloc ?_ _ | refine below_drew ?_ | refine below_ext ?_ _))))⟩))
      (first | (go_at_call 42; (with_reducible refine Calls.mono (TO0.out _ (by (with_reducible (repeat (first | exact Below.refl _ _ | exact bel0 | refine below_set ?_ ?_ | refine below_alloc ?_ _ | refine below_drew ?_ | refine below_ext ?_ _))))) ?_); rintro e w' ⟨rr0, NBB0, y0, rfl, rfl, hn1, -⟩; have tmm0 := hn1.tm (fun g _ => Nat.zero_le g); clear hn1) | (go_at_call 42; (with_reducible refine Calls.mono (TO1.out _ (by (with_reducible (repeat (first | exact Below.refl _ _ | exact bel0 | refine below_set ?_ ?_ | refine below_alloc ?_ _ | refine below_drew ?_ | refine below_ext ?_ _))))) ?_); rintro e w' ⟨rr1, NBB1, y1, rfl, rfl, hn1, -⟩; have tmm1 := hn1.tm (fun g _ => Nat.zero_le g); clear hn1) | (go_at_call 41; refine Calls.mono (SPC.out _ _ _ (by (with_reducible (repeat (first | exact Below.refl _ _ | exact bel0 | refine below_set ?_ ?_ | refine below_alloc ?_ _ | refine below_drew ?_ | refine below_ext ?_ _)))) (by (with_reducible (repeat (first | exact tmm0 | refine sys_alloc ?_ _ | refine sys_drew ?_ | refine SysIn.ext ?_ _)))) (by (with_reducible (repeat (first | exact tmm1 | refine sys_alloc ?_ _ | refine sys_drew ?_ | refine SysIn.ext ?_ _))))) ?_; rintro e w' ⟨rw, NBw, yc, rfl, rfl, hnw, hlow⟩; (first | (have hz9 := yc.blk (y1.blk (y0.blk (new_blk_drew U0 zboxS))); obtain ⟨n0, n1, n2, n3, p0, p1, p2, p3⟩ := zfactsS hz9; clear hz9) | (have hz9 := yc.blk (y1.blk (new_blk_at y0.w zboxS)); obtain ⟨n0, n1, n2, n3, p0, p1, p2, p3⟩ := zfactsS hz9; clear hz9) | (have hz9 := yc.blk (new_blk_at y1.w zboxS); obtain ⟨n0, n1, n2, n3, p0, p1, p2, p3⟩ := zfactsS hz9; clear hz9) | skip)))
    all_goals (
      go_wp2_with fail
      go_meet
      case rel =>
        first
          | exact gotS_new (by (with_reducible (repeat (first | exact Below.refl _ _ | exact bel0 | refine below_set ?_ ?_ | refine below_alloc ?_ _ | refine below_drew ?_ | refine below_ext ?_ _)))) hnw rfl
          | exact gotS_set (by (with_reducible (repeat (first | exact Below.refl _ _ | exact bel0 | refine below_set ?_ ?_ | refine below_alloc ?_ _ | refine below_drew ?_ | refine below_ext ?_ _)))) (Nat.le_refl _) (yc.blk (y1.blk (y0.blk (new_blk_drew U0 zboxS)))) hnw (fun g hg e => by have a := hlow g hg; have b0 := y0.size; have b1 := y1.size; simp at *; omega) rfl
          | exact gotS_set (by (with_reducible (repeat (first | exact Below.refl _ _ | exact bel0 | refine below_set ?_ ?_ | refine below_alloc ?_ _ | refine below_drew ?_ | refine below_ext ?_ _)))) (Below.size (by (with_reducible (repeat (first | exact Below.refl _ _ | exact bel0 | refine below_set ?_ ?_ | refine below_alloc ?_ _ | refine below_drew ?_ | refine below_ext ?_ _))))) (yc.blk (y1.blk (new_blk_at y0.w zboxS))) hnw (fun g hg e => by have a := hlow g hg; have b0 := y0.size; have b1 := y1.size; simp at *; omega) rfl
          | exact gotS_set (by (with_reducible (repeat (first | exact Below.refl _ _ | exact bel0 | refine below_set ?_ ?_ | refine below_alloc ?_ _ | refine below_drew ?_ | refine below_ext ?_ _)))) (Below.size (by (with_reducible (repeat (first | exact Below.refl _ _ | exact bel0 | refine below_set ?_ ?_ | refine below_alloc ?_ _ | refine below_drew ?_ | refine below_ext ?_ _))))) (yc.blk (new_blk_at y1.w zboxS)) hnw (fun g hg e => by have a := hlow g hg; have b0 := y0.size; have b1 := y1.size; simp at *; omega) rfl)
  case rest =>
    obtain ⟨DD, rr, rfl, rfl, bel6, hD6, box6, tm6⟩ := hcut
    obtain ⟨U, hU⟩ : ∃ U : World, U = wc := ⟨_, rfl⟩
    rw [← hU] at bel6 box6 tm6 ⊢
    clear hU
    have belU : Below Wb.heap.size Wb U := bel0.trans (bel6.mono bel0.size)
    clear bel6 hD6
    have W6 : Hid (∀ z, Below U.heap.size U z → Box4S z DD o rr ∧ SysIn z rr o) := fun z b => ⟨box6.ext ⟨z, b⟩, tm6.ext ⟨z, b⟩⟩
    have toWb : Hid (∀ z, Below U.heap.size U z → Below Wb.heap.size Wb z) := fun z b => belU.trans (b.mono belU.size)
    clear box6 tm6 bel0
    obtain ⟨L0, eL⟩ : ∃ L, L = U.heap.size := ⟨_, rfl⟩
    have hLU : U.heap.size ≤ L0 := by omega
    have bU : Below U.heap.size U U := Below.refl _ _
    -- an argument, in blocks of its own
    have C := TO0.out U (toWb.out _ bU)
    obtain ⟨m0, m1, m2, m3⟩ := HKT0.out U (toWb.out _ bU)
    go_wp2_with fail
    clear m0 m1 m2 m3
    refine Calls.mono C ?_
    clear C
    rintro e w' ⟨rx0, BX, y, rfl, rfl, own, l⟩
    replace bU := below_ext bU y
    have q := y.size
    go_upto_region 10 with fail
    generalize hV : World.alloc _ _ = Z1
    have X0 := HoldS.new own l q hV
    obtain ⟨zv, hzv⟩ : ∃ z : Ext y.w, z.w = Z1 := ⟨(Ext.self y.w).alloc _, hV⟩
    replace bU := below_ext bU zv
    have qV : y.w.heap.size < Z1.heap.size := by rw [← hV]; simp
    rw [hzv] at bU
    clear hV hzv zv own l
    rw [← eL] at X0
    generalize y.w.heap.size = DXX0 at *
    obtain ⟨L1, eL2⟩ : ∃ L, L = Z1.heap.size := ⟨_, rfl⟩
    rw [← eL2] at X0
    have hL1 : L0 ≤ L1 := by omega
    clear eL q qV y
    have eL := eL2
    clear eL2
    -- an argument, in blocks of its own
    have C := TO1.out Z1 (toWb.out _ bU)
    obtain ⟨m0, m1, m2, m3⟩ := HKT1.out Z1 (toWb.out _ bU)
    go_wp2_with fail
    clear m0 m1 m2 m3
    refine Calls.mono C ?_
    clear C
    rintro e w' ⟨rx1, BX, y, rfl, rfl, own, l⟩
    replace X0 := X0.ext y
    replace bU := below_ext bU y
    have q := y.size
    go_upto_region 11 with fail
    generalize hV : World.alloc _ _ = Z2
    have X1 := HoldS.new own l q hV
    obtain ⟨zv, hzv⟩ : ∃ z : Ext y.w, z.w = Z2 := ⟨(Ext.self y.w).alloc _, hV⟩
    replace X0 := X0.ext zv
    replace bU := below_ext bU zv
    have qV : y.w.heap.size < Z2.heap.size := by rw [← hV]; simp
    rw [hzv] at X0 bU
    clear hV hzv zv own l
    rw [← eL] at X1
    generalize y.w.heap.size = DXX1 at *
    obtain ⟨L2, eL2⟩ : ∃ L, L = Z2.heap.size := ⟨_, rfl⟩
    rw [← eL2] at X1
    have hL2 : L1 ≤ L2 := by omega
    clear eL q qV y
    have eL := eL2
    clear eL2
    -- the call
    have C := IMP.out Z2 rx0 rx1 (toWb.out _ bU) X0.tm X1.tm
    obtain ⟨m00, m01, m02, m03⟩ := X0.box
    obtain ⟨m10, m11, m12, m13⟩ := X1.box
    go_wp2_with fail
    clear m00 m01 m02 m03 m10 m11 m12 m13
    refine Calls.mono C ?_
    clear C
    rintro e w' ⟨rg, NB, y, rfl, rfl, own, l⟩
    replace X0 := X0.ext y
    replace X1 := X1.ext y
    replace bU := below_ext bU y
    have q := y.size
    go_upto_region 12 with fail
    generalize hV : World.alloc _ _ = Z3
    have XG := HoldS.new own l q hV
    obtain ⟨zv, hzv⟩ : ∃ z : Ext y.w, z.w = Z3 := ⟨(Ext.self y.w).alloc _, hV⟩
    replace X0 := X0.ext zv
    replace X1 := X1.ext zv
    replace bU := below_ext bU zv
    have qV : y.w.heap.size < Z3.heap.size := by rw [← hV]; simp
    rw [hzv] at X0 X1 bU
    clear hV hzv zv own l
    rw [← eL] at XG
    generalize y.w.heap.size = DXXG at *
    obtain ⟨L3, eL2⟩ : ∃ L, L = Z3.heap.size := ⟨_, rfl⟩
    rw [← eL2] at XG
    have hL3 : L2 ≤ L3 := by omega
    clear eL q qV y
    have eL := eL2
    clear eL2
    clear eL
    -- it is what the model says
    obtain ⟨m0, m1, m2, m3⟩ := XG.box
    obtain ⟨n0, n1, n2, n3⟩ := (W6.out Z3 bU).1
    have C := eqSys_ans o XG.tm (W6.out Z3 bU).2 hwo true (by simp) (Ext.self Z3)
    go_wp2_with fail
    clear m0 m1 m2 m3 n0 n1 n2 n3
    refine Calls.mono C ?_
    clear C
    rintro e w' ⟨rfl, y, rfl⟩
    replace X0 := X0.ext y
    replace X1 := X1.ext y
    replace XG := XG.ext y
    replace bU := below_ext bU y
    go_upto_region 14 with fail
    obtain ⟨Z4, hZ⟩ : ∃ Z : World, Z = y.w := ⟨_, rfl⟩
    rw [← hZ] at X0 X1 XG bU ⊢
    clear hZ
    have K15 : Hid (∀ w', Below Z4.heap.size Z4 w' → (w'.cell? ⟨DXX0, 0, none⟩ = some (.int .i64 t0.n) ∧ w'.cell? ⟨DXX0, 1, none⟩ = some (.slice rx0.pa t0.plus.length rx0.pc) ∧ w'.cell? ⟨DXX0, 2, none⟩ = some (.slice rx0.ta t0.times.length rx0.tc) ∧ w'.cell? ⟨DXX0, 3, none⟩ = some (.slice rx0.ba t0.below.length rx0.bc)) ∧ w'.cell? ⟨B, 0, none⟩ = some (.int .i64 t0.n) ∧ w'.cell? ⟨B, 1, none⟩ = some (.slice r0.pa t0.plus.length r0.pc) ∧ w'.cell? ⟨B, 2, none⟩ = some (.slice r0.ta t0.times.length r0.tc) ∧ w'.cell? ⟨B, 3, none⟩ = some (.slice r0.ba t0.below.length r0.bc)) := fun w' q => ⟨X0.box.ext ⟨w', q⟩, HKT0.out w' ((toWb.out _ bU).trans (q.mono (toWb.out _ bU).size))⟩
    have C := TO0.out Z4.drew (toWb.out _ (below_drew bU))
    go_region_held3 (fun w' => (w'.cell? ⟨DXX0, 0, none⟩ = some (.int .i64 t0.n) ∧ w'.cell? ⟨DXX0, 1, none⟩ = some (.slice rx0.pa t0.plus.length rx0.pc) ∧ w'.cell? ⟨DXX0, 2, none⟩ = some (.slice rx0.ta t0.times.length rx0.tc) ∧ w'.cell? ⟨DXX0, 3, none⟩ = some (.slice rx0.ba t0.below.length rx0.bc)) ∧ w'.cell? ⟨B, 0, none⟩ = some (.int .i64 t0.n) ∧ w'.cell? ⟨B, 1, none⟩ = some (.slice r0.pa t0.plus.length r0.pc) ∧ w'.cell? ⟨B, 2, none⟩ = some (.slice r0.ta t0.times.length r0.tc) ∧ w'.cell? ⟨B, 3, none⟩ = some (.slice r0.ba t0.below.length r0.bc)) ((refine K15.out _ ?_; (with_reducible (repeat (first | exact Below.refl _ _ | refine below_drew ?_ | refine below_ext ?_ _)))))
      (first | (go_at_call 42; refine Calls.mono C ?_; rintro e w' ⟨r3, NB3, uu, rfl, rfl, hn3, -⟩) | (go_at_call 43; refine Calls.mono (eqSys_ans t0 ((X0.tm.ext (Ext.self Z4).drew).ext uu) (hn3.tm (fun g _ => Nat.zero_le g)) hwt0 true (by simp) (Ext.self uu.w)) ?_; rintro e w' ⟨rfl, u2, rfl⟩))
    obtain ⟨y, hy⟩ : ∃ y : Ext Z4, y.w = u2.w := ⟨((Ext.self Z4).drew.trans uu).trans u2, rfl⟩
    rw [← hy]
    clear hy hn3 K15 C
    replace X0 := X0.ext y
    replace X1 := X1.ext y
    replace XG := XG.ext y
    replace bU := below_ext bU y
    go_upto_region 16 with fail
    obtain ⟨Z5, hZ⟩ : ∃ Z : World, Z = y.w := ⟨_, rfl⟩
    rw [← hZ] at X0 X1 XG bU ⊢
    clear hZ
    have K15 : Hid (∀ w', Below Z5.heap.size Z5 w' → (w'.cell? ⟨DXX1, 0, none⟩ = some (.int .i64 t1.n) ∧ w'.cell? ⟨DXX1, 1, none⟩ = some (.slice rx1.pa t1.plus.length rx1.pc) ∧ w'.cell? ⟨DXX1, 2, none⟩ = some (.slice rx1.ta t1.times.length rx1.tc) ∧ w'.cell? ⟨DXX1, 3, none⟩ = some (.slice rx1.ba t1.below.length rx1.bc)) ∧ w'.cell? ⟨B + 1, 0, none⟩ = some (.int .i64 t1.n) ∧ w'.cell? ⟨B + 1, 1, none⟩ = some (.slice r1.pa t1.plus.length r1.pc) ∧ w'.cell? ⟨B + 1, 2, none⟩ = some (.slice r1.ta t1.times.length r1.tc) ∧ w'.cell? ⟨B + 1, 3, none⟩ = some (.slice r1.ba t1.below.length r1.bc)) := fun w' q => ⟨X1.box.ext ⟨w', q⟩, HKT1.out w' ((toWb.out _ bU).trans (q.mono (toWb.out _ bU).size))⟩
    have C := TO1.out Z5.drew (toWb.out _ (below_drew bU))
    go_region_held3 (fun w' => (w'.cell? ⟨DXX1, 0, none⟩ = some (.int .i64 t1.n) ∧ w'.cell? ⟨DXX1, 1, none⟩ = some (.slice rx1.pa t1.plus.length rx1.pc) ∧ w'.cell? ⟨DXX1, 2, none⟩ = some (.slice rx1.ta t1.times.length rx1.tc) ∧ w'.cell? ⟨DXX1, 3, none⟩ = some (.slice rx1.ba t1.below.length rx1.bc)) ∧ w'.cell? ⟨B + 1, 0, none⟩ = some (.int .i64 t1.n) ∧ w'.cell? ⟨B + 1, 1, none⟩ = some (.slice r1.pa t1.plus.length r1.pc) ∧ w'.cell? ⟨B + 1, 2, none⟩ = some (.slice r1.ta t1.times.length r1.tc) ∧ w'.cell? ⟨B + 1, 3, none⟩ = some (.slice r1.ba t1.below.length r1.bc)) ((refine K15.out _ ?_; (with_reducible (repeat (first | exact Below.refl _ _ | refine below_drew ?_ | refine below_ext ?_ _)))))
      (first | (go_at_call 42; refine Calls.mono C ?_; rintro e w' ⟨r3, NB3, uu, rfl, rfl, hn3, -⟩) | (go_at_call 43; refine Calls.mono (eqSys_ans t1 ((X1.tm.ext (Ext.self Z5).drew).ext uu) (hn3.tm (fun g _ => Nat.zero_le g)) hwt1 true (by simp) (Ext.self uu.w)) ?_; rintro e w' ⟨rfl, u2, rfl⟩))
    obtain ⟨y, hy⟩ : ∃ y : Ext Z5, y.w = u2.w := ⟨((Ext.self Z5).drew.trans uu).trans u2, rfl⟩
    rw [← hy]
    clear hy hn3 K15 C
    replace X0 := X0.ext y
    replace X1 := X1.ext y
    replace XG := XG.ext y
    replace bU := below_ext bU y
    -- the arguments are marked
    obtain ⟨Z6, hZ⟩ : ∃ Z : World, Z = y.w := ⟨_, rfl⟩
    rw [← hZ] at X0 X1 XG bU ⊢
    clear hZ
    have hce0 := Sys.cnt_le t0
    have C := X0.mark (1) (by omega) (by omega)
    obtain ⟨m0, m1, m2, m3⟩ := X0.box
    go_wp2_with fail
    clear m0 m1 m2 m3
    refine Calls.mono C ?_
    clear C
    rintro e M0 ⟨rfl, on, -⟩
    replace X1 := X1.only on (by omega)
    replace XG := XG.only on (by omega)
    replace bU := on.str_below bU (by omega)
    clear X0 on
    have hce1 := Sys.cnt_le t1
    have C := X1.mark (1 + (t0.cnt : Nat)) (by omega) (by omega)
    obtain ⟨m0, m1, m2, m3⟩ := X1.box
    go_wp2_with fail
    clear m0 m1 m2 m3
    refine Calls.mono C ?_
    clear C
    rintro e M1 ⟨rfl, on, -⟩
    replace XG := XG.only on (by omega)
    replace bU := on.str_below bU (by omega)
    clear X1 on
    obtain ⟨m0, m1, m2, m3⟩ := XG.box
    obtain ⟨n0, n1, n2, n3⟩ := (W6.out M1 bU).1
    have C := eqSys_ans o XG.tm (W6.out M1 bU).2 hwo true (by simp) (Ext.self M1)
    go_wp2_with fail
    clear m0 m1 m2 m3 n0 n1 n2 n3
    refine Calls.mono C ?_
    clear C
    rintro e w' ⟨rfl, y, rfl⟩
    replace XG := XG.ext y
    replace bU := below_ext bU y
    -- the answer is marked
    have hceo := Sys.cnt_le o
    have C := XG.mark 1 (by omega) (by omega)
    obtain ⟨m0, m1, m2, m3⟩ := XG.box
    go_wp2_with fail
    clear m0 m1 m2 m3
    refine Calls.mono C ?_
    clear C
    rintro e MG ⟨rfl, on, XM⟩
    replace bU := on.str_below bU (by omega)
    clear XG on
    have C := XM.held (by omega) (by omega)
    obtain ⟨m0, m1, m2, m3⟩ := XM.box
    go_wp2_with fail
    clear m0 m1 m2 m3
    refine Calls.mono C ?_
    clear C
    rintro e w' ⟨rfl, y, rfl⟩
    replace XM := XM.ext y
    replace bU := below_ext bU y
    go_upto_region 31 with fail
    obtain ⟨U1, hU1⟩ : ∃ U1 : World, U1 = y.w := ⟨_, rfl⟩
    rw [← hU1] at XM bU ⊢
    clear hU1 y
    have bel0 := toWb.out _ bU
    go_cut [15, 16] from 94 (fun s6 s7 wc => GotS U1 o b s6 s7 wc)
    case first =>
      go_region_held3 (fun w' => (w'.cell? ⟨B, 0, none⟩ = some (.int .i64 t0.n) ∧ w'.cell? ⟨B, 1, none⟩ = some (.slice r0.pa t0.plus.length r0.pc) ∧ w'.cell? ⟨B, 2, none⟩ = some (.slice r0.ta t0.times.length r0.tc) ∧ w'.cell? ⟨B, 3, none⟩ = some (.slice r0.ba t0.below.length r0.bc)) ∧ (w'.cell? ⟨B + 1, 0, none⟩ = some (.int .i64 t1.n) ∧ w'.cell? ⟨B + 1, 1, none⟩ = some (.slice r1.pa t1.plus.length r1.pc) ∧ w'.cell? ⟨B + 1, 2, none⟩ = some (.slice r1.ta t1.times.length r1.tc) ∧ w'.cell? ⟨B + 1, 3, none⟩ = some (.slice r1.ba t1.below.length r1.bc))) ((exact ⟨HKT0.out _ (by (with_reducible (repeat (first | exact Below.refl _ _ | exact bel0 | refine below_set ?_ ?_ | refine below_alloc ?_ _ | refine below_drew ?_ | refine below_ext ?_ _)))), HKT1.out _ (by (with_reducible (repeat (first | exact Below.refl _ _ | exact bel0 | refine below_set ?_ ?_ | refine below_alloc ?_ _ | refine below_drew ?_ | refine below_ext ?_ _))))⟩))
        (first | (go_at_call 42; (with_reducible refine Calls.mono (TO0.out _ (by (with_reducible (repeat (first | exact Below.refl _ _ | exact bel0 | refine below_set ?_ ?_ | refine below_alloc ?_ _ | refine below_drew ?_ | refine below_ext ?_ _))))) ?_); rintro e w' ⟨rr0, NBB0, y0, rfl, rfl, hn1, -⟩; have tmm0 := hn1.tm (fun g _ => Nat.zero_le g); clear hn1) | (go_at_call 42; (with_reducible refine Calls.mono (TO1.out _ (by (with_reducible (repeat (first | exact Below.refl _ _ | exact bel0 | refine below_set ?_ ?_ | refine below_alloc ?_ _ | refine below_drew ?_ | refine below_ext ?_ _))))) ?_); rintro e w' ⟨rr1, NBB1, y1, rfl, rfl, hn1, -⟩; have tmm1 := hn1.tm (fun g _ => Nat.zero_le g); clear hn1) | (go_at_call 34; refine Calls.mono (IMQ.out _ _ _ (by (with_reducible (repeat (first | exact Below.refl _ _ | exact bel0 | refine below_set ?_ ?_ | refine below_alloc ?_ _ | refine below_drew ?_ | refine below_ext ?_ _)))) (by (with_reducible (repeat (first | exact tmm0 | refine sys_alloc ?_ _ | refine sys_drew ?_ | refine SysIn.ext ?_ _)))) (by (with_reducible (repeat (first | exact tmm1 | refine sys_alloc ?_ _ | refine sys_drew ?_ | refine SysIn.ext ?_ _))))) ?_; rintro e w' ⟨rw, NBw, yc, rfl, rfl, hnw, hlow⟩; (first | (have hz9 := yc.blk (y1.blk (y0.blk (new_blk_drew U1 zboxS))); obtain ⟨n0, n1, n2, n3, p0, p1, p2, p3⟩ := zfactsS hz9; clear hz9) | (have hz9 := yc.blk (y1.blk (new_blk_at y0.w zboxS)); obtain ⟨n0, n1, n2, n3, p0, p1, p2, p3⟩ := zfactsS hz9; clear hz9) | (have hz9 := yc.blk (new_blk_at y1.w zboxS); obtain ⟨n0, n1, n2, n3, p0, p1, p2, p3⟩ := zfactsS hz9; clear hz9) | skip)))
      all_goals (
        go_wp2_with fail
        go_meet
        case rel =>
          first
            | exact gotS_new (by (with_reducible (repeat (first | exact Below.refl _ _ | exact bel0 | refine below_set ?_ ?_ | refine below_alloc ?_ _ | refine below_drew ?_ | refine below_ext ?_ _)))) hnw rfl
            | exact gotS_set (by (with_reducible (repeat (first | exact Below.refl _ _ | exact bel0 | refine below_set ?_ ?_ | refine below_alloc ?_ _ | refine below_drew ?_ | refine below_ext ?_ _)))) (Nat.le_refl _) (yc.blk (y1.blk (y0.blk (new_blk_drew U1 zboxS)))) hnw (fun g hg e => by have a := hlow g hg; have b0 := y0.size; have b1 := y1.size; simp at *; omega) rfl
            | exact gotS_set (by (with_reducible (repeat (first | exact Below.refl _ _ | exact bel0 | refine below_set ?_ ?_ | refine below_alloc ?_ _ | refine below_drew ?_ | refine below_ext ?_ _)))) (Below.size (by (with_reducible (repeat (first | exact Below.refl _ _ | exact bel0 | refine below_set ?_ ?_ | refine below_alloc ?_ _ | refine below_drew ?_ | refine below_ext ?_ _))))) (yc.blk (y1.blk (new_blk_at y0.w zboxS))) hnw (fun g hg e => by have a := hlow g hg; have b0 := y0.size; have b1 := y1.size; simp at *; omega) rfl
            | exact gotS_set (by (with_reducible (repeat (first | exact Below.refl _ _ | exact bel0 | refine below_set ?_ ?_ | refine below_alloc ?_ _ | refine below_drew ?_ | refine below_ext ?_ _)))) (Below.size (by (with_reducible (repeat (first | exact Below.refl _ _ | exact bel0 | refine below_set ?_ ?_ | refine below_alloc ?_ _ | refine below_drew ?_ | refine below_ext ?_ _))))) (yc.blk (new_blk_at y1.w zboxS)) hnw (fun g hg e => by have a := hlow g hg; have b0 := y0.size; have b1 := y1.size; simp at *; omega) rfl)
    case rest =>
      obtain ⟨D7, rh, rfl, rfl, bel7, hD7, box7, tm7⟩ := hcut
      have XM2 : HoldS wc _ _ _ _ _ := XM.ext ⟨_, bel7⟩
      have bU2 := bU.trans (bel7.mono bU.size)
      clear hD7 bel0 XM bU
      obtain ⟨U2, hU2⟩ : ∃ U2 : World, U2 = wc := ⟨_, rfl⟩
      rw [← hU2] at box7 tm7 bU2 XM2 ⊢
      clear hU2 bel7
      obtain ⟨m0, m1, m2, m3⟩ := box7
      obtain ⟨n0, n1, n2, n3⟩ := (W6.out _ bU2).1
      have C := eqSys_ans o tm7 (W6.out _ bU2).2 hwo true (by simp) (Ext.self U2)
      go_wp2_with fail
      clear m0 m1 m2 m3 n0 n1 n2 n3
      refine Calls.mono C ?_
      clear C tm7
      rintro e w' ⟨rfl, y8, rfl⟩
      have XM := XM2.ext y8
      have bU := below_ext bU2 y8
      have C := XM.held (by omega) (by omega)
      obtain ⟨m0, m1, m2, m3⟩ := XM.box
      go_wp2_with fail
      clear m0 m1 m2 m3
      refine Calls.mono C ?_
      clear C
      rintro e w' ⟨rfl, y9, rfl⟩
      have bU := below_ext bU y9
      go_wp2_with fail
      go_ret
      exact law_end (hback ⟨_, toWb.out _ bU⟩)

end Go.Proofs.Ytkokmpdmmfghhaa
