
/- The model's ShiftTerm. -/
import Derived.Test.YtlbpefmocodkfaaDoorKShM
import Derived.Test.YtlbpefmocodkfaaDoorKShT
import Derived.Test.YtlbpefmocodkfaaDoorGG
import Derived.Test.YtlbpefmocodkfaaDoorGI
namespace Go.Proofs.YtlbpefmocodkfaaDoor
open Go.RowKit

theorem l1Min_v (a b : Int) (w : World) : Calls Tryd.prog 77 #[.int .i64 a, .int .i64 b] w (fun e w' => e = .returned (.int .i64 (min a b)) ∧ w' = w) := by
  by_cases h : a < b
  · have e : min a b = a := by omega
    rw [e]
    go_enter Tryd.func77, Tryd.ntmps77
    go_wp2
    go_ret
    exact ⟨rfl, rfl⟩
  · have e : min a b = b := by omega
    have h' : b ≤ a := by omega
    rw [e]
    go_enter Tryd.func77, Tryd.ntmps77
    go_wp2
    go_ret
    exact ⟨rfl, rfl⟩

set_option maxRecDepth 100000 in
set_option maxHeartbeats 8000000 in
theorem specShiftTerm_ans {W : World} {lo : Nat} {t : Tm} {r : TV} (h : TmIn W lo t r) (hwt : t.wt ≤ 1099511627776) (by' from' : Int) (o : Tm) (b : Bool) (ho : ShiftV t by' from' o b) (x : Ext W) :
    Calls Tryd.prog 37 #[r.val t, .int .i64 by', .int .i64 from'] x.w (NewTmB W o b) := by
  obtain ⟨ra, rc, rb, rd⟩ := r
  unfold TV.val
  have HO := Lib.hid ho
  clear ho
  by_cases hw : Written t
  · have HW := Lib.hid hw
    clear hw
    by_cases hby : 0 ≤ by'
    · by_cases hfr : 0 ≤ from'
      · skip
        go_enter Tryd.func37, Tryd.ntmps37
        go_upto_region 1 with fail
        have hxW := x.size
        generalize hWa : (x.w.alloc _).alloc _ = Wa
        generalize hB : x.w.heap.size = B at *
        obtain ⟨bA, bR, sA, bel⟩ := blocks2 hB hWa
        have belA : Below W.heap.size W Wa := x.below.trans (bel.mono (by omega))
        clear hWa bel
        have hA := h.ext ⟨Wa, belA⟩
        have c0 := blk_cell bA 0
        have c1 := blk_cell bA 1
        have c2 := blk_cell bA 2
        have c3 := blk_cell bA 3
        simp at c0 c1 c2 c3
        have ISW := specIsWritten_ans (W := Wa) hA hwt true (by refine iff_tf ?_; exact HW.out) (Ext.self Wa)
        go_wp2_with fail
        refine Calls.mono ISW ?_
        clear ISW c0 c1 c2 c3
        rintro e w' ⟨rfl, y, rfl⟩
        obtain ⟨Wb, hWb⟩ : ∃ Wb : World, Wb = y.w := ⟨_, rfl⟩
        have belb : Below W.heap.size W Wb := by rw [hWb]; exact belA.trans (y.below.mono belA.size)
        have bAb := y.blk bA
        have bRb := y.blk bR
        have sb : Wa.heap.size ≤ Wb.heap.size := by rw [hWb]; exact y.size
        rw [← hWb] at bAb bRb ⊢
        clear hWb
        have KEEP : Hid (∀ w', Below Wb.heap.size Wb w' → w'.cell? ⟨B, 0, none⟩ = some (.int .i64 t.op) ∧ w'.cell? ⟨B, 1, none⟩ = some (.int .i64 t.n) ∧ w'.cell? ⟨B, 2, none⟩ = some (.slice ra t.ty.length rc) ∧ w'.cell? ⟨B, 3, none⟩ = some (.slice rb t.kids.length rd)) := fun w' b =>
          ⟨blk_cell ((Ext.mk w' b).blk bAb) 0, blk_cell ((Ext.mk w' b).blk bAb) 1, blk_cell ((Ext.mk w' b).blk bAb) 2, blk_cell ((Ext.mk w' b).blk bAb) 3⟩
        have hW8 := HW.out
        have hsz : t.sz ≤ 400 := hW8.1
        obtain ⟨s, hs⟩ : ∃ s, s = t.rv (shf (min by' 8) from') 0 := ⟨_, rfl⟩
        have HS := Lib.hid hs
        have hws3 : s.wt ≤ 1099511627776 := by
          have h1 := Tm.rv_wt (K := 0) (f := shf (min by' 8) from') (fun i a => Tm.shf_wt _ _ i a) t 0
          have h2 := HW.out.wt
          rw [hs]
          omega
        clear hs
        have CC : Hid (∀ w', Below Wb.heap.size Wb w' → Calls Tryd.prog 76 #[.agg #[.int .i64 t.op, .int .i64 t.n, .slice ra t.ty.length rc, .slice rb t.kids.length rd], .int .i64 (min by' 8), .int .i64 (min from' 8)] w' (NewTmO w' s)) := fun w' b => by
          have e := l2Shift_ans t (W := w') (h.ext ⟨w', belb.trans (b.mono belb.size)⟩) hW8.2 (by omega) (by omega) (min by' 8) (min from' 8) (by omega) (by omega) (by omega) 0 (by omega) (by omega) (Ext.self w')
          rw [Int.add_zero, shift_min hW8, ← HS.out] at e
          exact e
        clear hW8
        go_upto_region 3 with fail
        go_cut [8] from 21 (fun s8 wc => GotO Wb s true s8 (.bool true) wc)
        case first =>
          go_region_held3 (fun w' => w'.cell? ⟨B, 0, none⟩ = some (.int .i64 t.op) ∧ w'.cell? ⟨B, 1, none⟩ = some (.int .i64 t.n) ∧ w'.cell? ⟨B, 2, none⟩ = some (.slice ra t.ty.length rc) ∧ w'.cell? ⟨B, 3, none⟩ = some (.slice rb t.kids.length rd)) ((refine KEEP.out _ ?_; (with_reducible (repeat (first | exact Below.refl _ _ | refine below_alloc ?_ _ | refine below_drew ?_ | refine below_ext ?_ _ | refine below_set ?_ ?_)))))
            (first | (go_at_call 77; refine Calls.mono (l1Min_v _ _ _) ?_; rintro e w' ⟨rfl, rfl⟩) | (go_at_call 76; refine Calls.mono (CC.out _ (by (with_reducible (repeat (first | exact Below.refl _ _ | refine below_alloc ?_ _ | refine below_drew ?_ | refine below_ext ?_ _ | refine below_set ?_ ?_))))) ?_; rintro e w' ⟨r', NB, z, rfl, rfl, hnew, hlo⟩; (first | (have hz9 := z.blk (new_blk_drew Wb zbox); obtain ⟨n0, n1, n2, n3, p0, p1, p2, p3⟩ := zfacts hz9; clear hz9) | skip)))
          all_goals (
            go_wp2_with fail
            go_meet
            case rel =>
              first
                | exact gotO_new (by (with_reducible (repeat (first | exact Below.refl _ _ | refine below_alloc ?_ _ | refine below_drew ?_ | refine below_ext ?_ _ | refine below_set ?_ ?_)))) hnew (fun g hg => by have h1 := hlo g hg; simp at h1; omega) rfl
                | exact gotO_set (by (with_reducible (repeat (first | exact Below.refl _ _ | refine below_alloc ?_ _ | refine below_drew ?_ | refine below_ext ?_ _ | refine below_set ?_ ?_)))) (Nat.le_refl _) (z.blk (new_blk_drew Wb zbox)) hnew (fun g hg => by have h1 := hlo g hg; simp at h1; omega) rfl)
        case rest =>
          obtain ⟨D, r', rfl, -, bel3, HOLD⟩ := hcut
          obtain ⟨W3, hW3⟩ : ∃ W3 : World, W3 = wc := ⟨_, rfl⟩
          rw [← hW3] at bel3 HOLD ⊢
          clear hW3
          have belW3 : Below W.heap.size W W3 := belb.trans (bel3.mono belb.size)
          have b3R := (Ext.mk W3 bel3).blk bRb
          obtain ⟨hbox, hD, NB, hn3, hlo⟩ := HOLD
          have HL := Lib.hid hlo
          have HDD := Lib.hid hD
          clear hlo hD
          obtain ⟨c0, c1, c2, c3⟩ := hbox
          by_cases hws : Written s
          · have HWS := Lib.hid hws
            clear hws
            have ho := HO.out.yes ⟨HW.out, hby, hfr, by rw [← HS.out]; exact HWS.out⟩
            rw [← HS.out] at ho
            obtain ⟨rfl, rfl⟩ := ho
            have ISW := specIsWritten_ans (W := W3) (hn3.tm (fun g _ => Nat.zero_le g)) hws3 true (by refine iff_tf ?_; exact HWS.out) (Ext.self W3)
            unfold TV.val at ISW
            go_wp2_with fail
            refine Calls.mono ISW ?_
            clear ISW
            rintro e w' ⟨rfl, z2, rfl⟩
            have bRz := z2.blk b3R
            replace c0 := z2.cell c0
            replace c1 := z2.cell c1
            replace c2 := z2.cell c2
            replace c3 := z2.cell c3
            have n0 := blk_cell bRz 0
            have n1 := blk_cell bRz 1
            have n2 := blk_cell bRz 2
            have n3 := blk_cell bRz 3
            have p0 := blk_free bRz 0
            have p1 := blk_free bRz 1
            have p2 := blk_free bRz 2
            have p3 := blk_free bRz 3
            simp at n0 n1 n2 n3
            have hsz2 := z2.size
            go_wp2
            clear n0 n1 n2 n3 p0 p1 p2 p3 c0 c1 c2 c3
            generalize hY4 : World.setCell _ _ _ = Y4
            obtain ⟨belD, hsame, hgr, r0, r1, r2, r3⟩ := ret4 (W := W) (belW3.trans (z2.below.mono belW3.size)) (by omega) bRz hY4
            refine bodyPost_ret (v := .tuple #[r'.val o, .bool true]) (by simp [TV.val, results, Tryd.results37, go_sem, r0, r1, r2, r3]) rfl ?_
            exact ⟨r', NB, ⟨Y4, belD⟩, rfl, rfl, (hn3.ext z2).keep (fun g hg => hsame g (by have h1 := HL.out g hg; omega)), fun g hg => by have h1 := HL.out g hg; omega⟩
          · have HWS := Lib.hid hws
            clear hws
            obtain ⟨rfl, rfl⟩ := HO.out.no (fun q => HWS.out (by rw [HS.out]; exact q.2.2.2))
            have ISW := specIsWritten_ans (W := W3) (hn3.tm (fun g _ => Nat.zero_le g)) hws3 false (by refine iff_tf ?_; exact HWS.out) (Ext.self W3)
            unfold TV.val at ISW
            go_wp2_with fail
            clear c0 c1 c2 c3
            refine Calls.mono ISW ?_
            clear ISW
            rintro e w' ⟨rfl, z2, rfl⟩
            have bRz := z2.blk b3R
            have hsz2 := z2.size
            have n0 := blk_cell bRz 0
            have n1 := blk_cell bRz 1
            have n2 := blk_cell bRz 2
            have n3 := blk_cell bRz 3
            have p0 := blk_free bRz 0
            have p1 := blk_free bRz 1
            have p2 := blk_free bRz 2
            have p3 := blk_free bRz 3
            simp at n0 n1 n2 n3
            go_wp2
            clear n0 n1 n2 n3 p0 p1 p2 p3
            generalize hY4 : World.setCell _ _ _ = Y4
            obtain ⟨belD, hsame, hgr, r0, r1, r2, r3⟩ := ret4 (W := W) (belW3.trans (z2.below.mono belW3.size)) (by omega) bRz hY4
            refine bodyPost_ret (v := .tuple #[TV.val ⟨none, 0, none, 0⟩ zeroT, .bool false]) (by simp [TV.val, Tm.op, Tm.n, Tm.ty, Tm.kids, results, Tryd.results37, go_sem, r0, r1, r2, r3]) rfl ?_
            exact ⟨_, _, ⟨Y4, belD⟩, rfl, rfl, zero_own _, fun q hq => hq.elim⟩
      · have g2 : from' < 0 := by omega
        obtain ⟨rfl, rfl⟩ := HO.out.no (fun q => by have := q.2.2.1; omega)
        go_enter Tryd.func37, Tryd.ntmps37
        go_upto_region 1 with fail
        have hxW := x.size
        generalize hWa : (x.w.alloc _).alloc _ = Wa
        generalize hB : x.w.heap.size = B at *
        obtain ⟨bA, bR, sA, bel⟩ := blocks2 hB hWa
        have belA : Below W.heap.size W Wa := x.below.trans (bel.mono (by omega))
        clear hWa bel
        have hA := h.ext ⟨Wa, belA⟩
        have c0 := blk_cell bA 0
        have c1 := blk_cell bA 1
        have c2 := blk_cell bA 2
        have c3 := blk_cell bA 3
        simp at c0 c1 c2 c3
        have ISW := specIsWritten_ans (W := Wa) hA hwt true (by refine iff_tf ?_; exact HW.out) (Ext.self Wa)
        go_wp2_with fail
        refine Calls.mono ISW ?_
        clear ISW
        rintro e w' ⟨rfl, y, rfl⟩
        have bRy := y.blk bR
        have n0 := blk_cell bRy 0
        have n1 := blk_cell bRy 1
        have n2 := blk_cell bRy 2
        have n3 := blk_cell bRy 3
        have p0 := blk_free bRy 0
        have p1 := blk_free bRy 1
        have p2 := blk_free bRy 2
        have p3 := blk_free bRy 3
        simp at n0 n1 n2 n3
        go_wp2
        clear n0 n1 n2 n3 p0 p1 p2 p3
        generalize hY4 : World.setCell _ _ _ = Y4
        obtain ⟨belD, hsame, hgr, r0, r1, r2, r3⟩ := ret4 (W := W) (belA.trans (y.below.mono belA.size)) (by omega) bRy hY4
        refine bodyPost_ret (v := .tuple #[TV.val ⟨none, 0, none, 0⟩ zeroT, .bool false]) (by simp [TV.val, Tm.op, Tm.n, Tm.ty, Tm.kids, results, Tryd.results37, go_sem, r0, r1, r2, r3]) rfl ?_
        exact ⟨_, _, ⟨Y4, belD⟩, rfl, rfl, zero_own _, fun q hq => hq.elim⟩
    · have g1 : by' < 0 := by omega
      obtain ⟨rfl, rfl⟩ := HO.out.no (fun q => by have := q.2.1; omega)
      go_enter Tryd.func37, Tryd.ntmps37
      go_upto_region 1 with fail
      have hxW := x.size
      generalize hWa : (x.w.alloc _).alloc _ = Wa
      generalize hB : x.w.heap.size = B at *
      obtain ⟨bA, bR, sA, bel⟩ := blocks2 hB hWa
      have belA : Below W.heap.size W Wa := x.below.trans (bel.mono (by omega))
      clear hWa bel
      have hA := h.ext ⟨Wa, belA⟩
      have c0 := blk_cell bA 0
      have c1 := blk_cell bA 1
      have c2 := blk_cell bA 2
      have c3 := blk_cell bA 3
      simp at c0 c1 c2 c3
      have ISW := specIsWritten_ans (W := Wa) hA hwt true (by refine iff_tf ?_; exact HW.out) (Ext.self Wa)
      go_wp2_with fail
      refine Calls.mono ISW ?_
      clear ISW
      rintro e w' ⟨rfl, y, rfl⟩
      have bRy := y.blk bR
      have n0 := blk_cell bRy 0
      have n1 := blk_cell bRy 1
      have n2 := blk_cell bRy 2
      have n3 := blk_cell bRy 3
      have p0 := blk_free bRy 0
      have p1 := blk_free bRy 1
      have p2 := blk_free bRy 2
      have p3 := blk_free bRy 3
      simp at n0 n1 n2 n3
      go_wp2
      clear n0 n1 n2 n3 p0 p1 p2 p3
      generalize hY4 : World.setCell _ _ _ = Y4
      obtain ⟨belD, hsame, hgr, r0, r1, r2, r3⟩ := ret4 (W := W) (belA.trans (y.below.mono belA.size)) (by omega) bRy hY4
      refine bodyPost_ret (v := .tuple #[TV.val ⟨none, 0, none, 0⟩ zeroT, .bool false]) (by simp [TV.val, Tm.op, Tm.n, Tm.ty, Tm.kids, results, Tryd.results37, go_sem, r0, r1, r2, r3]) rfl ?_
      exact ⟨_, _, ⟨Y4, belD⟩, rfl, rfl, zero_own _, fun q hq => hq.elim⟩
  · have HW := Lib.hid hw
    clear hw
    obtain ⟨rfl, rfl⟩ := HO.out.no (fun q => HW.out q.1)
    go_enter Tryd.func37, Tryd.ntmps37
    go_upto_region 1 with fail
    have hxW := x.size
    generalize hWa : (x.w.alloc _).alloc _ = Wa
    generalize hB : x.w.heap.size = B at *
    obtain ⟨bA, bR, sA, bel⟩ := blocks2 hB hWa
    have belA : Below W.heap.size W Wa := x.below.trans (bel.mono (by omega))
    clear hWa bel
    have hA := h.ext ⟨Wa, belA⟩
    have c0 := blk_cell bA 0
    have c1 := blk_cell bA 1
    have c2 := blk_cell bA 2
    have c3 := blk_cell bA 3
    simp at c0 c1 c2 c3
    have ISW := specIsWritten_ans (W := Wa) hA hwt false (by refine iff_tf ?_; exact HW.out) (Ext.self Wa)
    go_wp2_with fail
    refine Calls.mono ISW ?_
    clear ISW
    rintro e w' ⟨rfl, y, rfl⟩
    have bRy := y.blk bR
    have n0 := blk_cell bRy 0
    have n1 := blk_cell bRy 1
    have n2 := blk_cell bRy 2
    have n3 := blk_cell bRy 3
    have p0 := blk_free bRy 0
    have p1 := blk_free bRy 1
    have p2 := blk_free bRy 2
    have p3 := blk_free bRy 3
    simp at n0 n1 n2 n3
    go_wp2
    clear n0 n1 n2 n3 p0 p1 p2 p3
    generalize hY4 : World.setCell _ _ _ = Y4
    obtain ⟨belD, hsame, hgr, r0, r1, r2, r3⟩ := ret4 (W := W) (belA.trans (y.below.mono belA.size)) (by omega) bRy hY4
    refine bodyPost_ret (v := .tuple #[TV.val ⟨none, 0, none, 0⟩ zeroT, .bool false]) (by simp [TV.val, Tm.op, Tm.n, Tm.ty, Tm.kids, results, Tryd.results37, go_sem, r0, r1, r2, r3]) rfl ?_
    exact ⟨_, _, ⟨Y4, belD⟩, rfl, rfl, zero_own _, fun q hq => hq.elim⟩

end Go.Proofs.YtlbpefmocodkfaaDoor
