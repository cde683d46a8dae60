
/- The model's SubstituteTerm. -/
import Derived.Test.YtlbpefmocodkfaaDoorKPutM
import Derived.Test.YtlbpefmocodkfaaDoorKShU
import Derived.Test.YtlbpefmocodkfaaDoorKFits
import Derived.Test.YtlbpefmocodkfaaDoorGG
import Derived.Test.YtlbpefmocodkfaaDoorGI
namespace Go.Proofs.YtlbpefmocodkfaaDoor
open Go.RowKit

set_option maxRecDepth 100000 in
set_option maxHeartbeats 8000000 in
theorem specSubstTerm_ans {W : World} {lo lo2 : Nat} {t u : Tm} {r q : TV} (h : TmIn W lo t r) (hwt : t.wt ≤ 1099511627776) (hu : TmIn W lo2 u q) (hwu : u.wt ≤ 1099511627776) (i : Int) (o : Tm) (b : Bool) (ho : SubstV t i u o b) (x : Ext W) :
    Calls Tryd.prog 41 #[r.val t, .int .i64 i, q.val u] x.w (NewTmB W o b) := by
  obtain ⟨ra, rc, rb, rd⟩ := r
  obtain ⟨va, vc, vb, vd⟩ := q
  unfold TV.val
  have HO := Lib.hid ho
  clear ho
  by_cases hw : Written t
  · have HWT := Lib.hid hw
    clear hw
    by_cases hwu2 : Written u
    · have HWU := Lib.hid hwu2
      clear hwu2
      by_cases hi0 : 0 ≤ i
      · skip
        go_enter Tryd.func41, Tryd.ntmps41
        go_upto_region 1 with fail
        have hxW := x.size
        generalize hWa : ((x.w.alloc _).alloc _).alloc _ = Wa
        generalize hB : x.w.heap.size = B at *
        obtain ⟨bA, bU, bR, sA, bel⟩ := blocks3 hB hWa
        have belA : Below W.heap.size W Wa := x.below.trans (bel.mono (by omega))
        clear hWa bel
        have hA := h.ext ⟨Wa, belA⟩
        have hU := hu.ext ⟨Wa, belA⟩
        have c0 := blk_cell bA 0
        have c1 := blk_cell bA 1
        have c2 := blk_cell bA 2
        have c3 := blk_cell bA 3
        simp at c0 c1 c2 c3
        have ISW := specIsWritten_ans (W := Wa) hA hwt true (by refine iff_tf ?_; exact HWT.out) (Ext.self Wa)
        unfold TV.val at ISW
        go_wp2_with fail
        refine Calls.mono ISW ?_
        clear ISW
        rintro e w' ⟨rfl, y, rfl⟩
        have d0 : y.w.cell? ⟨B + 1, 0, none⟩ = some (.int .i64 u.op) := blk_cell (y.blk bU) 0
        have d1 : y.w.cell? ⟨B + 1, 1, none⟩ = some (.int .i64 u.n) := blk_cell (y.blk bU) 1
        have d2 : y.w.cell? ⟨B + 1, 2, none⟩ = some (.slice va u.ty.length vc) := blk_cell (y.blk bU) 2
        have d3 : y.w.cell? ⟨B + 1, 3, none⟩ = some (.slice vb u.kids.length vd) := blk_cell (y.blk bU) 3
        have ISW := specIsWritten_ans (W := y.w) (hU.ext y) hwu true (by refine iff_tf ?_; exact HWU.out) (Ext.self y.w)
        unfold TV.val at ISW
        go_wp2_with fail
        refine Calls.mono ISW ?_
        clear ISW
        rintro e w' ⟨rfl, y2, rfl⟩
        clear d0 d1 d2 d3 c0 c1 c2 c3
        have hst := HWT.out.1
        have hsu := HWU.out.1
        have hmn0 : 0 ≤ min i 8 ∧ min i 8 ≤ 8 := by omega
        go_wp2_with fail
        refine Calls.mono (l1Min_v _ _ _) ?_
        rintro e w' ⟨rfl, rfl⟩
        obtain ⟨em, em2⟩ := subst_min (u := u) HWT.out hi0
        obtain ⟨j, hj⟩ : ∃ j, j = min i 8 := ⟨_, rfl⟩
        rw [← hj] at em em2 hmn0 ⊢
        have HJ := Lib.hid (⟨em, em2⟩ : _ ∧ _)
        clear em em2 hj
        obtain ⟨Wb, hWb⟩ : ∃ Wb : World, Wb = y2.w := ⟨_, rfl⟩
        have belb : Below W.heap.size W Wb := by rw [hWb]; exact (belA.trans (y.below.mono belA.size)).trans (y2.below.mono (Nat.le_trans belA.size y.size))
        have bAb := y2.blk (y.blk bA)
        have bUb := y2.blk (y.blk bU)
        have bRb := y2.blk (y.blk bR)
        have sb : Wa.heap.size ≤ Wb.heap.size := by rw [hWb]; exact Nat.le_trans y.size y2.size
        rw [← hWb] at bAb bUb bRb ⊢
        clear hWb y2
        have KEEP : Hid (∀ w', Below Wb.heap.size Wb w' → (w'.cell? ⟨B, 0, none⟩ = some (.int .i64 t.op) ∧ w'.cell? ⟨B, 1, none⟩ = some (.int .i64 t.n) ∧ w'.cell? ⟨B, 2, none⟩ = some (.slice ra t.ty.length rc) ∧ w'.cell? ⟨B, 3, none⟩ = some (.slice rb t.kids.length rd)) ∧ w'.cell? ⟨B + 1, 0, none⟩ = some (.int .i64 u.op) ∧ w'.cell? ⟨B + 1, 1, none⟩ = some (.int .i64 u.n) ∧ w'.cell? ⟨B + 1, 2, none⟩ = some (.slice va u.ty.length vc) ∧ w'.cell? ⟨B + 1, 3, none⟩ = some (.slice vb u.kids.length vd)) := fun w' b => ⟨⟨blk_cell ((Ext.mk w' b).blk bAb) 0, blk_cell ((Ext.mk w' b).blk bAb) 1, blk_cell ((Ext.mk w' b).blk bAb) 2, blk_cell ((Ext.mk w' b).blk bAb) 3⟩, blk_cell ((Ext.mk w' b).blk bUb) 0, blk_cell ((Ext.mk w' b).blk bUb) 1, blk_cell ((Ext.mk w' b).blk bUb) 2, blk_cell ((Ext.mk w' b).blk bUb) 3⟩
        by_cases hfit : (t.sz : Int) + (t.uses i : Int) * ((u.sz : Int) - 1) ≤ 400
        · have HF := Lib.hid hfit
          clear hfit
          have HG : SubstG t i u := ⟨HWT.out, HWU.out, hi0, HF.out⟩
          have FT := l2Fits_ans (W := Wb) (h.ext ⟨Wb, belb⟩) (hu.ext ⟨Wb, belb⟩) HWT.out HWU.out j (by omega) true (by refine iff_tf ?_; rw [HJ.out.1]; exact HF.out) (Ext.self Wb)
          unfold TV.val at FT
          obtain ⟨⟨n1, n2, n3, n4⟩, q1, q2, q3, q4⟩ := KEEP.out Wb (Below.refl _ _)
          go_wp2_with fail
          refine Calls.mono FT ?_
          clear FT n1 n2 n3 n4 q1 q2 q3 q4
          rintro e w' ⟨rfl, y3, rfl⟩
          obtain ⟨⟨n1, n2, n3, n4⟩, q1, q2, q3, q4⟩ := KEEP.out y3.w y3.below
          have CC := l2Put_ans t (W := y3.w) (h.ext ⟨y3.w, belb.trans (y3.below.mono belb.size)⟩) HWT.out.2 (by omega) (by omega) (hu.ext ⟨y3.w, belb.trans (y3.below.mono belb.size)⟩) HWU.out.2 (by omega) (by omega) j (by omega) (by omega) 0 (by omega) (by omega) (Ext.self y3.w)
          rw [HJ.out.2] at CC
          unfold TV.val at CC
          go_wp2_with fail
          refine Calls.mono CC ?_
          clear CC n1 n2 n3 n4 q1 q2 q3 q4
          rintro e w' ⟨r', NB, z, rfl, rfl, hnew, hlo⟩
          obtain ⟨s, hs⟩ : ∃ s, s = t.rv (putf i u) 0 := ⟨_, rfl⟩
          have hws3 : s.wt ≤ 1099511627776 := by have := HG.written.wt; rw [hs]; omega
          have hws : Written s := by rw [hs]; exact HG.written
          have ho := HO.out.yes HG
          rw [← hs] at hnew ho ⊢
          obtain ⟨rfl, rfl⟩ := ho
          clear hs HG
          have HWS := Lib.hid hws
          clear hws
          go_upto_region 7 with fail
          generalize hV : World.alloc _ _ = W3
          have hcut := gotO_new (M := Wb) (b := true) (below_ext y3.below z) hnew (fun g hg => by have h1 := hlo g hg; have h2 := y3.size; omega) hV
          generalize z.w.heap.size = D at *
          obtain ⟨D', r2', hpp, -, bel3, HOLD⟩ := hcut
          obtain rfl : D' = D := by cases hpp; rfl
          clear hpp hV hnew hlo z
          have belW3 : Below W.heap.size W W3 := belb.trans (bel3.mono belb.size)
          have b3R := (Ext.mk W3 bel3).blk bRb
          obtain ⟨hbox, hD, NB, hn3, hlo⟩ := HOLD
          have HL := Lib.hid hlo
          have HDD := Lib.hid hD
          clear hlo hD
          obtain ⟨c0, c1, c2, c3⟩ := hbox
          have ISW := specIsWritten_ans (W := W3) (hn3.tm (fun g _ => Nat.zero_le g)) hws3 true (by refine iff_tf ?_; exact HWS.out) (Ext.self W3)
          unfold TV.val at ISW
          go_wp2_with fail
          refine Calls.mono ISW ?_
          clear ISW
          rintro e w' ⟨rfl, z2, rfl⟩
          have bRz := z2.blk b3R
          replace c0 := z2.cell c0
          replace c1 := z2.cell c1
          replace c2 := z2.cell c2
          replace c3 := z2.cell c3
          have n0 := blk_cell bRz 0
          have n1 := blk_cell bRz 1
          have n2 := blk_cell bRz 2
          have n3 := blk_cell bRz 3
          have p0 := blk_free bRz 0
          have p1 := blk_free bRz 1
          have p2 := blk_free bRz 2
          have p3 := blk_free bRz 3
          simp at n0 n1 n2 n3
          have hsz2 := z2.size
          go_wp2
          clear n0 n1 n2 n3 p0 p1 p2 p3 c0 c1 c2 c3
          generalize hY4 : World.setCell _ _ _ = Y4
          obtain ⟨belD, hsame, hgr, r0, r1, r2, r3⟩ := ret4 (W := W) (belW3.trans (z2.below.mono belW3.size)) (by omega) bRz hY4
          refine bodyPost_ret (v := .tuple #[r2'.val o, .bool true]) (by simp [TV.val, results, Tryd.results41, go_sem, r0, r1, r2, r3]) rfl ?_
          exact ⟨r2', NB, ⟨Y4, belD⟩, rfl, rfl, (hn3.ext z2).keep (fun g hg => hsame g (by have h1 := HL.out g hg; omega)), fun g hg => by have h1 := HL.out g hg; have h2 := belb.size; omega⟩
        · have HF := Lib.hid hfit
          clear hfit
          obtain ⟨rfl, rfl⟩ := HO.out.no (fun q => HF.out q.2.2.2)
          have FT := l2Fits_ans (W := Wb) (h.ext ⟨Wb, belb⟩) (hu.ext ⟨Wb, belb⟩) HWT.out HWU.out j (by omega) false (by refine iff_tf ?_; rw [HJ.out.1]; exact HF.out) (Ext.self Wb)
          unfold TV.val at FT
          obtain ⟨⟨n1, n2, n3, n4⟩, q1, q2, q3, q4⟩ := KEEP.out Wb (Below.refl _ _)
          go_wp2_with fail
          refine Calls.mono FT ?_
          clear FT n1 n2 n3 n4 q1 q2 q3 q4
          rintro e w' ⟨rfl, y3, rfl⟩
          have bRy := y3.blk bRb
          have n0 := blk_cell bRy 0
          have n1 := blk_cell bRy 1
          have n2 := blk_cell bRy 2
          have n3 := blk_cell bRy 3
          have p0 := blk_free bRy 0
          have p1 := blk_free bRy 1
          have p2 := blk_free bRy 2
          have p3 := blk_free bRy 3
          simp at n0 n1 n2 n3
          go_wp2
          clear n0 n1 n2 n3 p0 p1 p2 p3
          generalize hY4 : World.setCell _ _ _ = Y4
          obtain ⟨belD, hsame, hgr, r0, r1, r2, r3⟩ := ret4 (W := W) (belb.trans (y3.below.mono belb.size)) (by omega) bRy hY4
          refine bodyPost_ret (v := .tuple #[TV.val ⟨none, 0, none, 0⟩ zeroT, .bool false]) (by simp [TV.val, Tm.op, Tm.n, Tm.ty, Tm.kids, results, Tryd.results41, go_sem, r0, r1, r2, r3]) rfl ?_
          exact ⟨_, _, ⟨Y4, belD⟩, rfl, rfl, zero_own _, fun q hq => hq.elim⟩
      · have hi1 : i < 0 := by omega
        obtain ⟨rfl, rfl⟩ := HO.out.no (fun q => by have := q.2.2.1; omega)
        go_enter Tryd.func41, Tryd.ntmps41
        go_upto_region 1 with fail
        have hxW := x.size
        generalize hWa : ((x.w.alloc _).alloc _).alloc _ = Wa
        generalize hB : x.w.heap.size = B at *
        obtain ⟨bA, bU, bR, sA, bel⟩ := blocks3 hB hWa
        have belA : Below W.heap.size W Wa := x.below.trans (bel.mono (by omega))
        clear hWa bel
        have hA := h.ext ⟨Wa, belA⟩
        have hU := hu.ext ⟨Wa, belA⟩
        have c0 := blk_cell bA 0
        have c1 := blk_cell bA 1
        have c2 := blk_cell bA 2
        have c3 := blk_cell bA 3
        simp at c0 c1 c2 c3
        have ISW := specIsWritten_ans (W := Wa) hA hwt true (by refine iff_tf ?_; exact HWT.out) (Ext.self Wa)
        unfold TV.val at ISW
        go_wp2_with fail
        refine Calls.mono ISW ?_
        clear ISW
        rintro e w' ⟨rfl, y, rfl⟩
        have d0 : y.w.cell? ⟨B + 1, 0, none⟩ = some (.int .i64 u.op) := blk_cell (y.blk bU) 0
        have d1 : y.w.cell? ⟨B + 1, 1, none⟩ = some (.int .i64 u.n) := blk_cell (y.blk bU) 1
        have d2 : y.w.cell? ⟨B + 1, 2, none⟩ = some (.slice va u.ty.length vc) := blk_cell (y.blk bU) 2
        have d3 : y.w.cell? ⟨B + 1, 3, none⟩ = some (.slice vb u.kids.length vd) := blk_cell (y.blk bU) 3
        have ISW := specIsWritten_ans (W := y.w) (hU.ext y) hwu true (by refine iff_tf ?_; exact HWU.out) (Ext.self y.w)
        unfold TV.val at ISW
        go_wp2_with fail
        refine Calls.mono ISW ?_
        clear ISW
        rintro e w' ⟨rfl, y2, rfl⟩
        have bRy := y2.blk (y.blk bR)
        clear d0 d1 d2 d3
        have n0 := blk_cell bRy 0
        have n1 := blk_cell bRy 1
        have n2 := blk_cell bRy 2
        have n3 := blk_cell bRy 3
        have p0 := blk_free bRy 0
        have p1 := blk_free bRy 1
        have p2 := blk_free bRy 2
        have p3 := blk_free bRy 3
        simp at n0 n1 n2 n3
        go_wp2
        clear n0 n1 n2 n3 p0 p1 p2 p3
        generalize hY4 : World.setCell _ _ _ = Y4
        obtain ⟨belD, hsame, hgr, r0, r1, r2, r3⟩ := ret4 (W := W) ((belA.trans (y.below.mono belA.size)).trans (y2.below.mono (Nat.le_trans belA.size y.size))) (by omega) bRy hY4
        refine bodyPost_ret (v := .tuple #[TV.val ⟨none, 0, none, 0⟩ zeroT, .bool false]) (by simp [TV.val, Tm.op, Tm.n, Tm.ty, Tm.kids, results, Tryd.results41, go_sem, r0, r1, r2, r3]) rfl ?_
        exact ⟨_, _, ⟨Y4, belD⟩, rfl, rfl, zero_own _, fun q hq => hq.elim⟩
    · have HWU := Lib.hid hwu2
      clear hwu2
      obtain ⟨rfl, rfl⟩ := HO.out.no (fun q => HWU.out q.2.1)
      go_enter Tryd.func41, Tryd.ntmps41
      go_upto_region 1 with fail
      have hxW := x.size
      generalize hWa : ((x.w.alloc _).alloc _).alloc _ = Wa
      generalize hB : x.w.heap.size = B at *
      obtain ⟨bA, bU, bR, sA, bel⟩ := blocks3 hB hWa
      have belA : Below W.heap.size W Wa := x.below.trans (bel.mono (by omega))
      clear hWa bel
      have hA := h.ext ⟨Wa, belA⟩
      have hU := hu.ext ⟨Wa, belA⟩
      have c0 := blk_cell bA 0
      have c1 := blk_cell bA 1
      have c2 := blk_cell bA 2
      have c3 := blk_cell bA 3
      simp at c0 c1 c2 c3
      have ISW := specIsWritten_ans (W := Wa) hA hwt true (by refine iff_tf ?_; exact HWT.out) (Ext.self Wa)
      unfold TV.val at ISW
      go_wp2_with fail
      refine Calls.mono ISW ?_
      clear ISW
      rintro e w' ⟨rfl, y, rfl⟩
      have d0 : y.w.cell? ⟨B + 1, 0, none⟩ = some (.int .i64 u.op) := blk_cell (y.blk bU) 0
      have d1 : y.w.cell? ⟨B + 1, 1, none⟩ = some (.int .i64 u.n) := blk_cell (y.blk bU) 1
      have d2 : y.w.cell? ⟨B + 1, 2, none⟩ = some (.slice va u.ty.length vc) := blk_cell (y.blk bU) 2
      have d3 : y.w.cell? ⟨B + 1, 3, none⟩ = some (.slice vb u.kids.length vd) := blk_cell (y.blk bU) 3
      have ISW := specIsWritten_ans (W := y.w) (hU.ext y) hwu false (by refine iff_tf ?_; exact HWU.out) (Ext.self y.w)
      unfold TV.val at ISW
      go_wp2_with fail
      refine Calls.mono ISW ?_
      clear ISW
      rintro e w' ⟨rfl, y2, rfl⟩
      have bRy := y2.blk (y.blk bR)
      clear d0 d1 d2 d3
      have n0 := blk_cell bRy 0
      have n1 := blk_cell bRy 1
      have n2 := blk_cell bRy 2
      have n3 := blk_cell bRy 3
      have p0 := blk_free bRy 0
      have p1 := blk_free bRy 1
      have p2 := blk_free bRy 2
      have p3 := blk_free bRy 3
      simp at n0 n1 n2 n3
      go_wp2
      clear n0 n1 n2 n3 p0 p1 p2 p3
      generalize hY4 : World.setCell _ _ _ = Y4
      obtain ⟨belD, hsame, hgr, r0, r1, r2, r3⟩ := ret4 (W := W) ((belA.trans (y.below.mono belA.size)).trans (y2.below.mono (Nat.le_trans belA.size y.size))) (by omega) bRy hY4
      refine bodyPost_ret (v := .tuple #[TV.val ⟨none, 0, none, 0⟩ zeroT, .bool false]) (by simp [TV.val, Tm.op, Tm.n, Tm.ty, Tm.kids, results, Tryd.results41, go_sem, r0, r1, r2, r3]) rfl ?_
      exact ⟨_, _, ⟨Y4, belD⟩, rfl, rfl, zero_own _, fun q hq => hq.elim⟩
  · have HWT := Lib.hid hw
    clear hw
    obtain ⟨rfl, rfl⟩ := HO.out.no (fun q => HWT.out q.1)
    go_enter Tryd.func41, Tryd.ntmps41
    go_upto_region 1 with fail
    have hxW := x.size
    generalize hWa : ((x.w.alloc _).alloc _).alloc _ = Wa
    generalize hB : x.w.heap.size = B at *
    obtain ⟨bA, bU, bR, sA, bel⟩ := blocks3 hB hWa
    have belA : Below W.heap.size W Wa := x.below.trans (bel.mono (by omega))
    clear hWa bel
    have hA := h.ext ⟨Wa, belA⟩
    have hU := hu.ext ⟨Wa, belA⟩
    have c0 := blk_cell bA 0
    have c1 := blk_cell bA 1
    have c2 := blk_cell bA 2
    have c3 := blk_cell bA 3
    simp at c0 c1 c2 c3
    have ISW := specIsWritten_ans (W := Wa) hA hwt false (by refine iff_tf ?_; exact HWT.out) (Ext.self Wa)
    unfold TV.val at ISW
    go_wp2_with fail
    refine Calls.mono ISW ?_
    clear ISW
    rintro e w' ⟨rfl, y, rfl⟩
    have bRy := y.blk bR
    have n0 := blk_cell bRy 0
    have n1 := blk_cell bRy 1
    have n2 := blk_cell bRy 2
    have n3 := blk_cell bRy 3
    have p0 := blk_free bRy 0
    have p1 := blk_free bRy 1
    have p2 := blk_free bRy 2
    have p3 := blk_free bRy 3
    simp at n0 n1 n2 n3
    go_wp2
    clear n0 n1 n2 n3 p0 p1 p2 p3
    generalize hY4 : World.setCell _ _ _ = Y4
    obtain ⟨belD, hsame, hgr, r0, r1, r2, r3⟩ := ret4 (W := W) (belA.trans (y.below.mono belA.size)) (by omega) bRy hY4
    refine bodyPost_ret (v := .tuple #[TV.val ⟨none, 0, none, 0⟩ zeroT, .bool false]) (by simp [TV.val, Tm.op, Tm.n, Tm.ty, Tm.kids, results, Tryd.results41, go_sem, r0, r1, r2, r3]) rfl ?_
    exact ⟨_, _, ⟨Y4, belD⟩, rfl, rfl, zero_own _, fun q hq => hq.elim⟩

end Go.Proofs.YtlbpefmocodkfaaDoor
