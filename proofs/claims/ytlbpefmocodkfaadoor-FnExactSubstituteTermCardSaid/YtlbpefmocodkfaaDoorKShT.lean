
/- The program's ShiftTerm. -/
import Derived.Test.YtlbpefmocodkfaaDoorGQ
import Derived.Test.YtlbpefmocodkfaaDoorGH
namespace Go.Proofs.YtlbpefmocodkfaaDoor
open Go.RowKit

/-- What ShiftTerm answers. -/
def ShiftG (t : Tm) (by' from' : Int) : Prop := Written t ∧ 0 ≤ by' ∧ 0 ≤ from' ∧ Written (t.rv (shf (min by' 8) from') 0)
def ShiftV (t : Tm) (by' from' : Int) (o : Tm) (b : Bool) : Prop := (ShiftG t by' from' ∧ o = t.rv (shf (min by' 8) from') 0 ∧ b = true) ∨ (¬ ShiftG t by' from' ∧ o = zeroT ∧ b = false)
theorem shiftV_ex (t : Tm) (by' from' : Int) : ∃ o b, ShiftV t by' from' o b := by
  by_cases h : ShiftG t by' from'
  · exact ⟨_, true, .inl ⟨h, rfl, rfl⟩⟩
  · exact ⟨zeroT, false, .inr ⟨h, rfl, rfl⟩⟩
theorem ShiftV.no {t o : Tm} {by' from' : Int} {b : Bool} (h : ShiftV t by' from' o b) (hn : ¬ ShiftG t by' from') : o = zeroT ∧ b = false := by
  rcases h with ⟨g, _⟩ | ⟨_, e⟩
  · exact absurd g hn
  · exact e
theorem ShiftV.yes {t o : Tm} {by' from' : Int} {b : Bool} (h : ShiftV t by' from' o b) (g : ShiftG t by' from') : o = t.rv (shf (min by' 8) from') 0 ∧ b = true := by
  rcases h with ⟨_, e⟩ | ⟨hn, _⟩
  · exact e
  · exact absurd g hn
theorem ShiftV.wt {t o : Tm} {by' from' : Int} {b : Bool} (h : ShiftV t by' from' o b) : o.wt ≤ 16400 := by
  rcases h with ⟨g, rfl, _⟩ | ⟨_, rfl, _⟩
  · exact g.2.2.2.wt
  · simp [Tm.wt, Tm.wtL]
/-- A written term's variables are below eight. -/
theorem shift_min {t : Tm} (h : Written t) (by' from' : Int) : t.rv (shf by' (min from' 8)) 0 = t.rv (shf by' from') 0 := by
  refine Tm.rv_congr (V := 8) (fun j a h0 h1 h2 => ?_) t h.2 (Int.le_refl _) (by omega)
  rw [Tm.shf_min (from' := from') h1]
  congr 1
  split <;> omega

set_option maxRecDepth 100000 in
set_option maxHeartbeats 8000000 in
theorem shiftTerm_ans {W : World} (F : Forms W) (TF : TForms W) {lo : Nat} {t : Tm} {r : TV} (h : TmIn W lo t r) (hTB : TmB t) (by' from' : Int) (o : Tm) (b : Bool) (ho : ShiftV t by' from' o b) (x : Ext W) :
    Calls Tryd.prog 38 #[r.val t, .int .i64 by', .int .i64 from'] x.w (NewTmB W o b) := by
  obtain ⟨ra, rc, rb, rd⟩ := r
  unfold TV.val
  have HO := Lib.hid ho
  clear ho
  by_cases hw : Written t
  · have HW := Lib.hid hw
    clear hw
    by_cases hby : 0 ≤ by'
    · by_cases hfr : 0 ≤ from'
      · skip
        go_enter Tryd.func38, Tryd.ntmps38
        go_upto_region 1 with fail
        have hxW := x.size
        generalize hWa : (x.w.alloc _).alloc _ = Wa
        generalize hB : x.w.heap.size = B at *
        obtain ⟨bA, bR, sA, bel⟩ := blocks2 hB hWa
        have belA : Below W.heap.size W Wa := x.below.trans (bel.mono (by omega))
        clear hWa bel
        have FA : Forms Wa := F.ext ⟨Wa, belA⟩
        have TA : TForms Wa := TF.ext ⟨Wa, belA⟩
        have hA := h.ext ⟨Wa, belA⟩
        have c0 := blk_cell bA 0
        have c1 := blk_cell bA 1
        have c2 := blk_cell bA 2
        have c3 := blk_cell bA 3
        simp at c0 c1 c2 c3
        have ISW := isWritten_ans (W := Wa) FA TA hA hTB true (by refine iff_tf ?_; exact HW.out) (Ext.self Wa)
        obtain ⟨bm, hbm⟩ : ∃ bm, (if 8 < by' then (8 : Int) else by') = bm := ⟨_, rfl⟩
        have hbm0 : 0 ≤ bm ∧ bm ≤ 8 := by rw [← hbm]; split <;> omega
        have HBM : Hid (min by' 8 = bm) := by show _ = _; rw [← hbm]; split <;> omega
        go_wp2_with fail
        refine Calls.mono ISW ?_
        clear ISW c0 c1 c2 c3
        rintro e w' ⟨rfl, y, rfl⟩
        go_upto_region 4 with fail
        obtain ⟨W2, hW2⟩ : ∃ W2 : World, W2 = y.w := ⟨_, rfl⟩
        have b2A := y.blk bA
        have b2R := y.blk bR
        have s2 : Wa.heap.size ≤ y.w.heap.size := y.size
        have bel2 : Below W.heap.size W y.w := belA.trans (y.below.mono belA.size)
        rw [← hW2] at b2A b2R s2 bel2 ⊢
        clear hW2 y
        have c0 := blk_cell b2A 0
        have c1 := blk_cell b2A 1
        have c2 := blk_cell b2A 2
        have c3 := blk_cell b2A 3
        simp at c0 c1 c2 c3
        try rw [hbm]
        clear hbm
        have hW8 := HW.out
        have hsz : t.sz ≤ 400 := hW8.1
        have CC := shift_ans (W := W2) (TF.ext ⟨W2, bel2⟩) (h.ext ⟨W2, bel2⟩) hW8.2 (by omega) (by omega) bm from' ⟨hbm0.1, by omega⟩ (Ext.self W2)
        clear hW8
        unfold TV.val at CC
        go_wp2_with fail
        clear c0 c1 c2 c3
        refine Calls.mono CC ?_
        clear CC
        rintro e w' ⟨r', NB, z, rfl, rfl, hnew, hlo⟩
        obtain ⟨s, hs⟩ : ∃ s, s = t.rv (shf bm from') 0 := ⟨_, rfl⟩
        rw [← hs] at hnew ⊢
        have HS := Lib.hid hs
        have hTBs : TmB s := by rw [hs]; exact shf_tmB t hTB bm from' 0
        clear hs
        go_upto_region 5 with fail
        generalize hW3 : World.alloc _ _ = W3
        have bD := new_blk hW3
        have bel3 : Below W2.heap.size W2 W3 := by rw [← hW3]; exact z.below.alloc z.size _
        have b3R := (Ext.mk W3 bel3).blk b2R
        have hn3 : TmOwn W3 s r' NB := by rw [← hW3]; exact hnew.ext ((Ext.self z.w).alloc _)
        have hlt := fun g (hg : NB g) => hnew.lt g hg
        have szz := z.size
        clear hW3 hnew
        generalize hD : z.w.heap.size = D at *
        have c0 := blk_cell bD 0
        have c1 := blk_cell bD 1
        have c2 := blk_cell bD 2
        have c3 := blk_cell bD 3
        simp at c0 c1 c2 c3
        have belW3 : Below W.heap.size W W3 := bel2.trans (bel3.mono bel2.size)
        have F3 := F.ext ⟨W3, belW3⟩
        have T3 := TF.ext ⟨W3, belW3⟩
        have es : t.rv (shf (min by' 8) from') 0 = s := by rw [HBM.out, HS.out]
        by_cases hws : Written s
        · have HWS := Lib.hid hws
          clear hws
          have ho := HO.out.yes ⟨HW.out, hby, hfr, by rw [es]; exact HWS.out⟩
          rw [es] at ho
          obtain ⟨rfl, rfl⟩ := ho
          have ISW := isWritten_ans (W := W3) F3 T3 (hn3.tm (fun g _ => Nat.zero_le g)) hTBs true (by refine iff_tf ?_; exact HWS.out) (Ext.self W3)
          unfold TV.val at ISW
          clear es
          go_wp2_with fail
          clear c0 c1 c2 c3
          refine Calls.mono ISW ?_
          clear ISW
          rintro e w' ⟨rfl, z2, rfl⟩
          have bDz := z2.blk bD
          have bRz := z2.blk b3R
          have c0 := blk_cell bDz 0
          have c1 := blk_cell bDz 1
          have c2 := blk_cell bDz 2
          have c3 := blk_cell bDz 3
          simp at c0 c1 c2 c3
          have n0 := blk_cell bRz 0
          have n1 := blk_cell bRz 1
          have n2 := blk_cell bRz 2
          have n3 := blk_cell bRz 3
          have p0 := blk_free bRz 0
          have p1 := blk_free bRz 1
          have p2 := blk_free bRz 2
          have p3 := blk_free bRz 3
          simp at n0 n1 n2 n3
          have hsz2 := z2.size
          go_wp2
          clear n0 n1 n2 n3 p0 p1 p2 p3 c0 c1 c2 c3
          generalize hY4 : World.setCell _ _ _ = Y4
          obtain ⟨belD, hsame, hgr, r0, r1, r2, r3⟩ := ret4 (W := W) (belW3.trans (z2.below.mono belW3.size)) (by omega) bRz hY4
          refine bodyPost_ret (v := .tuple #[r'.val o, .bool true]) (by simp [TV.val, results, Tryd.results38, go_sem, r0, r1, r2, r3]) rfl ?_
          exact ⟨r', NB, ⟨Y4, belD⟩, rfl, rfl, (hn3.ext z2).keep (fun g hg => hsame g (by have h1 := hlo g hg; have h2 : W2.heap.size ≤ g := h1; omega)), fun g hg => by have h1 := hlo g hg; have h2 : W2.heap.size ≤ g := h1; omega⟩
        · have HWS := Lib.hid hws
          clear hws
          have ho := HO.out.no (fun q => HWS.out (by rw [← es]; exact q.2.2.2))
          obtain ⟨rfl, rfl⟩ := ho
          have ISW := isWritten_ans (W := W3) F3 T3 (hn3.tm (fun g _ => Nat.zero_le g)) hTBs false (by refine iff_tf ?_; exact HWS.out) (Ext.self W3)
          unfold TV.val at ISW
          clear es
          go_wp2_with fail
          clear c0 c1 c2 c3
          refine Calls.mono ISW ?_
          clear ISW
          rintro e w' ⟨rfl, z2, rfl⟩
          have bRz := z2.blk b3R
          have hsz2 := z2.size
          have n0 := blk_cell bRz 0
          have n1 := blk_cell bRz 1
          have n2 := blk_cell bRz 2
          have n3 := blk_cell bRz 3
          have p0 := blk_free bRz 0
          have p1 := blk_free bRz 1
          have p2 := blk_free bRz 2
          have p3 := blk_free bRz 3
          simp at n0 n1 n2 n3
          go_wp2
          clear n0 n1 n2 n3 p0 p1 p2 p3
          generalize hY4 : World.setCell _ _ _ = Y4
          obtain ⟨belD, hsame, hgr, r0, r1, r2, r3⟩ := ret4 (W := W) (belW3.trans (z2.below.mono belW3.size)) (by omega) bRz hY4
          refine bodyPost_ret (v := .tuple #[TV.val ⟨none, 0, none, 0⟩ zeroT, .bool false]) (by simp [TV.val, Tm.op, Tm.n, Tm.ty, Tm.kids, results, Tryd.results38, go_sem, r0, r1, r2, r3]) rfl ?_
          exact ⟨_, _, ⟨Y4, belD⟩, rfl, rfl, zero_own _, fun q hq => hq.elim⟩
      · have g2 : from' < 0 := by omega
        obtain ⟨rfl, rfl⟩ := HO.out.no (fun q => by have := q.2.2.1; omega)
        go_enter Tryd.func38, Tryd.ntmps38
        go_upto_region 1 with fail
        have hxW := x.size
        generalize hWa : (x.w.alloc _).alloc _ = Wa
        generalize hB : x.w.heap.size = B at *
        obtain ⟨bA, bR, sA, bel⟩ := blocks2 hB hWa
        have belA : Below W.heap.size W Wa := x.below.trans (bel.mono (by omega))
        clear hWa bel
        have FA : Forms Wa := F.ext ⟨Wa, belA⟩
        have TA : TForms Wa := TF.ext ⟨Wa, belA⟩
        have hA := h.ext ⟨Wa, belA⟩
        have c0 := blk_cell bA 0
        have c1 := blk_cell bA 1
        have c2 := blk_cell bA 2
        have c3 := blk_cell bA 3
        simp at c0 c1 c2 c3
        have ISW := isWritten_ans (W := Wa) FA TA hA hTB true (by refine iff_tf ?_; exact HW.out) (Ext.self Wa)
        go_wp2_with fail
        refine Calls.mono ISW ?_
        clear ISW
        rintro e w' ⟨rfl, y, rfl⟩
        have bRy := y.blk bR
        have n0 := blk_cell bRy 0
        have n1 := blk_cell bRy 1
        have n2 := blk_cell bRy 2
        have n3 := blk_cell bRy 3
        have p0 := blk_free bRy 0
        have p1 := blk_free bRy 1
        have p2 := blk_free bRy 2
        have p3 := blk_free bRy 3
        simp at n0 n1 n2 n3
        go_wp2
        clear n0 n1 n2 n3 p0 p1 p2 p3
        generalize hY4 : World.setCell _ _ _ = Y4
        obtain ⟨belD, hsame, hgr, r0, r1, r2, r3⟩ := ret4 (W := W) (belA.trans (y.below.mono belA.size)) (by omega) bRy hY4
        refine bodyPost_ret (v := .tuple #[TV.val ⟨none, 0, none, 0⟩ zeroT, .bool false]) (by simp [TV.val, Tm.op, Tm.n, Tm.ty, Tm.kids, results, Tryd.results38, go_sem, r0, r1, r2, r3]) rfl ?_
        exact ⟨_, _, ⟨Y4, belD⟩, rfl, rfl, zero_own _, fun q hq => hq.elim⟩
    · have g1 : by' < 0 := by omega
      obtain ⟨rfl, rfl⟩ := HO.out.no (fun q => by have := q.2.1; omega)
      go_enter Tryd.func38, Tryd.ntmps38
      go_upto_region 1 with fail
      have hxW := x.size
      generalize hWa : (x.w.alloc _).alloc _ = Wa
      generalize hB : x.w.heap.size = B at *
      obtain ⟨bA, bR, sA, bel⟩ := blocks2 hB hWa
      have belA : Below W.heap.size W Wa := x.below.trans (bel.mono (by omega))
      clear hWa bel
      have FA : Forms Wa := F.ext ⟨Wa, belA⟩
      have TA : TForms Wa := TF.ext ⟨Wa, belA⟩
      have hA := h.ext ⟨Wa, belA⟩
      have c0 := blk_cell bA 0
      have c1 := blk_cell bA 1
      have c2 := blk_cell bA 2
      have c3 := blk_cell bA 3
      simp at c0 c1 c2 c3
      have ISW := isWritten_ans (W := Wa) FA TA hA hTB true (by refine iff_tf ?_; exact HW.out) (Ext.self Wa)
      go_wp2_with fail
      refine Calls.mono ISW ?_
      clear ISW
      rintro e w' ⟨rfl, y, rfl⟩
      have bRy := y.blk bR
      have n0 := blk_cell bRy 0
      have n1 := blk_cell bRy 1
      have n2 := blk_cell bRy 2
      have n3 := blk_cell bRy 3
      have p0 := blk_free bRy 0
      have p1 := blk_free bRy 1
      have p2 := blk_free bRy 2
      have p3 := blk_free bRy 3
      simp at n0 n1 n2 n3
      go_wp2
      clear n0 n1 n2 n3 p0 p1 p2 p3
      generalize hY4 : World.setCell _ _ _ = Y4
      obtain ⟨belD, hsame, hgr, r0, r1, r2, r3⟩ := ret4 (W := W) (belA.trans (y.below.mono belA.size)) (by omega) bRy hY4
      refine bodyPost_ret (v := .tuple #[TV.val ⟨none, 0, none, 0⟩ zeroT, .bool false]) (by simp [TV.val, Tm.op, Tm.n, Tm.ty, Tm.kids, results, Tryd.results38, go_sem, r0, r1, r2, r3]) rfl ?_
      exact ⟨_, _, ⟨Y4, belD⟩, rfl, rfl, zero_own _, fun q hq => hq.elim⟩
  · have HW := Lib.hid hw
    clear hw
    obtain ⟨rfl, rfl⟩ := HO.out.no (fun q => HW.out q.1)
    go_enter Tryd.func38, Tryd.ntmps38
    go_upto_region 1 with fail
    have hxW := x.size
    generalize hWa : (x.w.alloc _).alloc _ = Wa
    generalize hB : x.w.heap.size = B at *
    obtain ⟨bA, bR, sA, bel⟩ := blocks2 hB hWa
    have belA : Below W.heap.size W Wa := x.below.trans (bel.mono (by omega))
    clear hWa bel
    have FA : Forms Wa := F.ext ⟨Wa, belA⟩
    have TA : TForms Wa := TF.ext ⟨Wa, belA⟩
    have hA := h.ext ⟨Wa, belA⟩
    have c0 := blk_cell bA 0
    have c1 := blk_cell bA 1
    have c2 := blk_cell bA 2
    have c3 := blk_cell bA 3
    simp at c0 c1 c2 c3
    have ISW := isWritten_ans (W := Wa) FA TA hA hTB false (by refine iff_tf ?_; exact HW.out) (Ext.self Wa)
    go_wp2_with fail
    refine Calls.mono ISW ?_
    clear ISW
    rintro e w' ⟨rfl, y, rfl⟩
    have bRy := y.blk bR
    have n0 := blk_cell bRy 0
    have n1 := blk_cell bRy 1
    have n2 := blk_cell bRy 2
    have n3 := blk_cell bRy 3
    have p0 := blk_free bRy 0
    have p1 := blk_free bRy 1
    have p2 := blk_free bRy 2
    have p3 := blk_free bRy 3
    simp at n0 n1 n2 n3
    go_wp2
    clear n0 n1 n2 n3 p0 p1 p2 p3
    generalize hY4 : World.setCell _ _ _ = Y4
    obtain ⟨belD, hsame, hgr, r0, r1, r2, r3⟩ := ret4 (W := W) (belA.trans (y.below.mono belA.size)) (by omega) bRy hY4
    refine bodyPost_ret (v := .tuple #[TV.val ⟨none, 0, none, 0⟩ zeroT, .bool false]) (by simp [TV.val, Tm.op, Tm.n, Tm.ty, Tm.kids, results, Tryd.results38, go_sem, r0, r1, r2, r3]) rfl ?_
    exact ⟨_, _, ⟨Y4, belD⟩, rfl, rfl, zero_own _, fun q hq => hq.elim⟩

end Go.Proofs.YtlbpefmocodkfaaDoor
