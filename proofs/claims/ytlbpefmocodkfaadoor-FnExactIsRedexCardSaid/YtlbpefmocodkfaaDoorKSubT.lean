
/- The program's SubstituteTerm. -/
import Derived.Test.YtlbpefmocodkfaaDoorGQ
import Derived.Test.YtlbpefmocodkfaaDoorGH
import Derived.Test.YtlbpefmocodkfaaDoorKPutSpec
import Derived.Test.YtlbpefmocodkfaaDoorKUsesB
import Derived.Test.YtlbpefmocodkfaaDoorGI
namespace Go.Proofs.YtlbpefmocodkfaaDoor
open Go.RowKit

theorem one_kid {w : World} {D : Nat} {u : Tm} {q : TV} {lo : Nat} (hD : w.heap[D]? = some (boxT u.op u.n q.a u.ty.length q.c q.b u.kids.length q.d)) (h : TmIn w lo u q) (d : Nat) : TmIn w 0 (.mk 0 0 [] [u]) ⟨none, 0, some ⟨D, 0, none⟩, d⟩ := by
  refine .mk _ _ (fun _ => q) (.inl rfl) (fun p hp => by cases hp) (by simp [Tm.ty]) (by simp [Tm.kids]) (.inr ⟨D, 0, rfl, Nat.zero_le _, fun i k hi => ?_⟩) (fun i k hi => ?_)
  · match i, hi with
    | 0, hi =>
      simp [Tm.kids] at hi
      subst hi
      exact ⟨blk_cell hD 0, blk_cell hD 1, blk_cell hD 2, blk_cell hD 3⟩
    | i + 1, hi => simp [Tm.kids] at hi
  · match i, hi with
    | 0, hi =>
      simp [Tm.kids] at hi
      subst hi
      exact h.lower (Nat.zero_le _)
    | i + 1, hi => simp [Tm.kids] at hi
theorem subf_one (i : Int) (u : Tm) : subf i [u] = putf i u := by
  funext j a
  unfold subf putf
  by_cases h1 : j - i < 0
  · rw [if_pos h1, if_neg (by omega), if_neg (by omega)]
  · by_cases h2 : j = i
    · rw [if_neg h1, if_pos (by simp; omega), if_pos h2, h2]
      simp
    · rw [if_neg h1, if_neg (by simp; omega), if_neg h2, if_pos (by omega)]
      rfl

set_option maxRecDepth 100000 in
set_option maxHeartbeats 8000000 in
theorem substTerm_ans {W : World} (F : Forms W) (TF : TForms W) {lo lo2 : Nat} {t u : Tm} {r q : TV} (h : TmIn W lo t r) (hu : TmIn W lo2 u q) (hTB : TmB t) (hTBu : TmB u) (i : Int) (hi : i ≤ 9223372036854775807) (o : Tm) (b : Bool) (ho : SubstV t i u o b) (x : Ext W) :
    Calls Tryd.prog 42 #[r.val t, .int .i64 i, q.val u] x.w (NewTmB W o b) := by
  obtain ⟨ra, rc, rb, rd⟩ := r
  obtain ⟨va, vc, vb, vd⟩ := q
  unfold TV.val
  have HO := Lib.hid ho
  clear ho
  go_enter Tryd.func42, Tryd.ntmps42
  go_upto_region 1 with fail
  have hxW := x.size
  generalize hWa : ((x.w.alloc _).alloc _).alloc _ = Wa
  generalize hB : x.w.heap.size = B at *
  obtain ⟨bA, bU, bR, sA, bel⟩ := blocks3 hB hWa
  have belA : Below W.heap.size W Wa := x.below.trans (bel.mono (by omega))
  clear hWa bel
  generalize hRR : B + 1 + 1 = R at *
  have KEEP : Hid (∀ w', Below Wa.heap.size Wa w' → (w'.cell? ⟨B, 0, none⟩ = some (.int .i64 t.op) ∧ w'.cell? ⟨B, 1, none⟩ = some (.int .i64 t.n) ∧ w'.cell? ⟨B, 2, none⟩ = some (.slice ra t.ty.length rc) ∧ w'.cell? ⟨B, 3, none⟩ = some (.slice rb t.kids.length rd)) ∧ w'.cell? ⟨B + 1, 0, none⟩ = some (.int .i64 u.op) ∧ w'.cell? ⟨B + 1, 1, none⟩ = some (.int .i64 u.n) ∧ w'.cell? ⟨B + 1, 2, none⟩ = some (.slice va u.ty.length vc) ∧ w'.cell? ⟨B + 1, 3, none⟩ = some (.slice vb u.kids.length vd)) := fun w' b => ⟨⟨blk_cell ((Ext.mk w' b).blk bA) 0, blk_cell ((Ext.mk w' b).blk bA) 1, blk_cell ((Ext.mk w' b).blk bA) 2, blk_cell ((Ext.mk w' b).blk bA) 3⟩, blk_cell ((Ext.mk w' b).blk bU) 0, blk_cell ((Ext.mk w' b).blk bU) 1, blk_cell ((Ext.mk w' b).blk bU) 2, blk_cell ((Ext.mk w' b).blk bU) 3⟩
  obtain ⟨v1, hv1⟩ := sizeV_ex t
  obtain ⟨v2, hv2⟩ := sizeV_ex u
  have HV1 := Lib.hid hv1
  have HV2 := Lib.hid hv2
  have C1 : Hid (∀ w', Below Wa.heap.size Wa w' → Calls Tryd.prog 32 #[.agg #[.int .i64 t.op, .int .i64 t.n, .slice ra t.ty.length rc, .slice rb t.kids.length rd]] w' (Ans w' (.int .i64 v1))) := fun w' b => sizeOfTerm_ans (W := w') (F.ext ⟨w', belA.trans (b.mono belA.size)⟩) (TF.ext ⟨w', belA.trans (b.mono belA.size)⟩) (h.ext ⟨w', belA.trans (b.mono belA.size)⟩) hTB v1 HV1.out (Ext.self w')
  have C2 : Hid (∀ w', Below Wa.heap.size Wa w' → Calls Tryd.prog 32 #[.agg #[.int .i64 u.op, .int .i64 u.n, .slice va u.ty.length vc, .slice vb u.kids.length vd]] w' (Ans w' (.int .i64 v2))) := fun w' b => sizeOfTerm_ans (W := w') (F.ext ⟨w', belA.trans (b.mono belA.size)⟩) (TF.ext ⟨w', belA.trans (b.mono belA.size)⟩) (hu.ext ⟨w', belA.trans (b.mono belA.size)⟩) hTBu v2 HV2.out (Ext.self w')
  clear hv1 hv2
  go_cut [8, 9] from 10 (fun s8 s9 wc => s8 = .int .i64 v1 ∧ s9 = .int .i64 v2 ∧ Below Wa.heap.size Wa wc)
  case first =>
    go_region_held3 (fun w' => (w'.cell? ⟨B, 0, none⟩ = some (.int .i64 t.op) ∧ w'.cell? ⟨B, 1, none⟩ = some (.int .i64 t.n) ∧ w'.cell? ⟨B, 2, none⟩ = some (.slice ra t.ty.length rc) ∧ w'.cell? ⟨B, 3, none⟩ = some (.slice rb t.kids.length rd)) ∧ w'.cell? ⟨B + 1, 0, none⟩ = some (.int .i64 u.op) ∧ w'.cell? ⟨B + 1, 1, none⟩ = some (.int .i64 u.n) ∧ w'.cell? ⟨B + 1, 2, none⟩ = some (.slice va u.ty.length vc) ∧ w'.cell? ⟨B + 1, 3, none⟩ = some (.slice vb u.kids.length vd)) ((refine KEEP.out _ ?_; (with_reducible (repeat (first | exact Below.refl _ _ | refine below_alloc ?_ _ | refine below_drew ?_ | refine below_ext ?_ _ | refine below_set ?_ ?_)))))
      ((go_at_call 32; (first | (with_reducible refine Calls.mono (C1.out _ (by (with_reducible (repeat (first | exact Below.refl _ _ | refine below_alloc ?_ _ | refine below_drew ?_ | refine below_ext ?_ _ | refine below_set ?_ ?_))))) ?_; rintro e w' ⟨rfl, y1, rfl⟩) | (with_reducible refine Calls.mono (C2.out _ (by (with_reducible (repeat (first | exact Below.refl _ _ | refine below_alloc ?_ _ | refine below_drew ?_ | refine below_ext ?_ _ | refine below_set ?_ ?_))))) ?_; rintro e w' ⟨rfl, y2, rfl⟩))))
    all_goals (
      go_wp2_with fail
      go_meet
      case rel => exact ⟨rfl, rfl, by (with_reducible (repeat (first | exact Below.refl _ _ | refine below_alloc ?_ _ | refine below_drew ?_ | refine below_ext ?_ _ | refine below_set ?_ ?_)))⟩)
  case rest =>
    obtain ⟨rfl, rfl, belc⟩ := hcut
    clear C1 C2
    have belW : Below W.heap.size W wc := belA.trans (belc.mono belA.size)
    have bRc := (Ext.mk wc belc).blk bR
    by_cases hw : Written t
    · have e1 : v1 = (t.sz : Int) := by rcases HV1.out with ⟨_, e⟩ | ⟨hn, _⟩; exact e; exact absurd hw hn
      subst e1
      by_cases hwu : Written u
      · have e2 : v2 = (u.sz : Int) := by rcases HV2.out with ⟨_, e⟩ | ⟨hn, _⟩; exact e; exact absurd hwu hn
        subst e2
        clear HV1 HV2
        have HWT := Lib.hid hw
        have HWU := Lib.hid hwu
        clear hw hwu
        by_cases hi0 : 0 ≤ i
        · skip
          have hst := HWT.out.1
          have hsu := HWU.out.1
          have hu1 := Tm.uses_le t i
          have hsup := u.sz_pos
          obtain ⟨m, hm⟩ : ∃ m, m = (t.uses i : Int) * ((u.sz : Int) - 1) := ⟨_, rfl⟩
          have hmb : 0 ≤ m ∧ m ≤ 160000 := by
            rw [hm]
            have h1 : (t.uses i : Int) * ((u.sz : Int) - 1) ≤ 400 * ((u.sz : Int) - 1) := Int.mul_le_mul_of_nonneg_right (by omega) (by omega)
            exact ⟨Int.mul_nonneg (by omega) (by omega), by omega⟩
          have HM := Lib.hid hm
          obtain ⟨n1, n2, n3, n4⟩ := (KEEP.out wc belc).1
          have US := usesOf_ans (W := wc) (F.ext ⟨wc, belW⟩) (TF.ext ⟨wc, belW⟩) (h.ext ⟨wc, belW⟩) hTB i hi (t.uses i : Int) (.inl ⟨⟨HWT.out, hi0⟩, rfl⟩) (Ext.self wc)
          unfold TV.val at US
          go_wp2_with fail
          refine Calls.mono US ?_
          clear US n1 n2 n3 n4
          rintro e w' ⟨rfl, y, rfl⟩
          have bely : Below Wa.heap.size Wa y.w := belc.trans (y.below.mono belc.size)
          have belWy : Below W.heap.size W y.w := belW.trans (y.below.mono belW.size)
          have bRy := y.blk bRc
          obtain ⟨n1, n2, n3, n4⟩ := (KEEP.out y.w bely).1
          obtain ⟨q1, q2, q3, q4⟩ := (KEEP.out y.w bely).2
          have f1 : IntKind.i64.wrap ((t.uses i : Int) * ((u.sz : Int) - 1)) = m := by rw [HM.out]; exact IntWalk.i64_in _ (by rw [← HM.out]; omega)
          clear hm
          by_cases hfit : (t.sz : Int) + m ≤ 400
          · have HG : SubstG t i u := ⟨HWT.out, HWU.out, hi0, by rw [← HM.out]; exact hfit⟩
            obtain ⟨rfl, rfl⟩ := HO.out.yes HG
            have f2 : decide (400 < (t.sz : Int) + m) = false := by rw [decide_eq_false_iff_not]; omega
            clear HG hu1
            go_wp2_with fail
            clear f1 f2 n1 n2 n3 n4 q1 q2 q3 q4
            generalize hV : World.alloc _ _ = V
            have bD := new_blk hV
            have sD : y.w.heap.size < V.heap.size := by rw [← hV]; simp
            have bRv := blk_of_alloc bRy hV
            have belV : Below W.heap.size W V := by rw [← hV]; exact belWy.alloc belWy.size _
            have CC := substitute_ans (W := V) (TF.ext ⟨V, belV⟩) (h.ext ⟨V, belV⟩) HWT.out.2 (by omega) (by omega) (i0 := i) ⟨hi0, hi⟩ (us := [u]) (d := 1) (one_kid bD (hu.ext ⟨V, belV⟩) 1) (by simp) (fun k hk => by simp at hk; subst hk; exact ⟨16, 8, false, HWU.out.2, by omega, by omega⟩) (Ext.self V)
            rw [subf_one] at CC
            unfold TV.val at CC
            have hB2 : W.heap.size ≤ R := by omega
            have hB3 : R < y.w.heap.size := (Array.getElem?_eq_some_iff.1 bRy).1
            clear hV bD
            refine Calls.mono CC ?_
            clear CC
            rintro e w' ⟨r', NB, z, rfl, rfl, hnew, hlo⟩
            have bRz := z.blk bRv
            have n0 := blk_cell bRz 0
            have n1 := blk_cell bRz 1
            have n2 := blk_cell bRz 2
            have n3 := blk_cell bRz 3
            have p0 := blk_free bRz 0
            have p1 := blk_free bRz 1
            have p2 := blk_free bRz 2
            have p3 := blk_free bRz 3
            simp at n0 n1 n2 n3
            go_wp2
            clear n0 n1 n2 n3 p0 p1 p2 p3
            generalize hY4 : World.setCell _ _ _ = Y4
            obtain ⟨belD, hsame, hgr, r0, r1, r2, r3⟩ := ret4 (W := W) (belV.trans (z.below.mono belV.size)) hB2 bRz hY4
            refine bodyPost_ret (v := .tuple #[r'.val (t.rv (putf i u) 0), .bool true]) (by simp [TV.val, results, Tryd.results42, go_sem, r0, r1, r2, r3]) rfl ?_
            exact ⟨r', NB, ⟨Y4, belD⟩, rfl, rfl, hnew.keep (fun g hg => hsame g (by have h1 := hlo g hg; omega)), fun g hg => by have h1 := hlo g hg; have h2 := belV.size; omega⟩
          · have f2 : decide (400 < (t.sz : Int) + m) = true := by rw [decide_eq_true_iff]; omega
            obtain ⟨rfl, rfl⟩ := HO.out.no (fun q => hfit (by rw [HM.out]; exact q.2.2.2))
            clear hu1
            have n0 := blk_cell bRy 0
            have n1 := blk_cell bRy 1
            have n2 := blk_cell bRy 2
            have n3 := blk_cell bRy 3
            have p0 := blk_free bRy 0
            have p1 := blk_free bRy 1
            have p2 := blk_free bRy 2
            have p3 := blk_free bRy 3
            simp at n0 n1 n2 n3
            go_wp2
            clear n0 n1 n2 n3 p0 p1 p2 p3
            generalize hY4 : World.setCell _ _ _ = Y4
            obtain ⟨belD, hsame, hgr, r0, r1, r2, r3⟩ := ret4 (W := W) (belWy) (by omega) bRy hY4
            refine bodyPost_ret (v := .tuple #[TV.val ⟨none, 0, none, 0⟩ zeroT, .bool false]) (by simp [TV.val, Tm.op, Tm.n, Tm.ty, Tm.kids, results, Tryd.results42, go_sem, r0, r1, r2, r3]) rfl ?_
            exact ⟨_, _, ⟨Y4, belD⟩, rfl, rfl, zero_own _, fun q hq => hq.elim⟩
        · have hi1 : i < 0 := by omega
          obtain ⟨rfl, rfl⟩ := HO.out.no (fun q => by have := q.2.2.1; omega)
          have n0 := blk_cell bRc 0
          have n1 := blk_cell bRc 1
          have n2 := blk_cell bRc 2
          have n3 := blk_cell bRc 3
          have p0 := blk_free bRc 0
          have p1 := blk_free bRc 1
          have p2 := blk_free bRc 2
          have p3 := blk_free bRc 3
          simp at n0 n1 n2 n3
          go_wp2
          clear n0 n1 n2 n3 p0 p1 p2 p3
          generalize hY4 : World.setCell _ _ _ = Y4
          obtain ⟨belD, hsame, hgr, r0, r1, r2, r3⟩ := ret4 (W := W) (belW) (by omega) bRc hY4
          refine bodyPost_ret (v := .tuple #[TV.val ⟨none, 0, none, 0⟩ zeroT, .bool false]) (by simp [TV.val, Tm.op, Tm.n, Tm.ty, Tm.kids, results, Tryd.results42, go_sem, r0, r1, r2, r3]) rfl ?_
          exact ⟨_, _, ⟨Y4, belD⟩, rfl, rfl, zero_own _, fun q hq => hq.elim⟩
      · have e2 : v2 = -1 := by rcases HV2.out with ⟨hn, _⟩ | ⟨_, e⟩; exact absurd hn hwu; exact e
        subst e2
        obtain ⟨rfl, rfl⟩ := HO.out.no (fun q => hwu q.2.1)
        clear hw hwu HV1 HV2
        have n0 := blk_cell bRc 0
        have n1 := blk_cell bRc 1
        have n2 := blk_cell bRc 2
        have n3 := blk_cell bRc 3
        have p0 := blk_free bRc 0
        have p1 := blk_free bRc 1
        have p2 := blk_free bRc 2
        have p3 := blk_free bRc 3
        simp at n0 n1 n2 n3
        go_wp2
        clear n0 n1 n2 n3 p0 p1 p2 p3
        generalize hY4 : World.setCell _ _ _ = Y4
        obtain ⟨belD, hsame, hgr, r0, r1, r2, r3⟩ := ret4 (W := W) (belW) (by omega) bRc hY4
        refine bodyPost_ret (v := .tuple #[TV.val ⟨none, 0, none, 0⟩ zeroT, .bool false]) (by simp [TV.val, Tm.op, Tm.n, Tm.ty, Tm.kids, results, Tryd.results42, go_sem, r0, r1, r2, r3]) rfl ?_
        exact ⟨_, _, ⟨Y4, belD⟩, rfl, rfl, zero_own _, fun q hq => hq.elim⟩
    · have e1 : v1 = -1 := by rcases HV1.out with ⟨hn, _⟩ | ⟨_, e⟩; exact absurd hn hw; exact e
      subst e1
      obtain ⟨rfl, rfl⟩ := HO.out.no (fun q => hw q.1)
      clear hw HV1 HV2
      have n0 := blk_cell bRc 0
      have n1 := blk_cell bRc 1
      have n2 := blk_cell bRc 2
      have n3 := blk_cell bRc 3
      have p0 := blk_free bRc 0
      have p1 := blk_free bRc 1
      have p2 := blk_free bRc 2
      have p3 := blk_free bRc 3
      simp at n0 n1 n2 n3
      go_wp2
      clear n0 n1 n2 n3 p0 p1 p2 p3
      generalize hY4 : World.setCell _ _ _ = Y4
      obtain ⟨belD, hsame, hgr, r0, r1, r2, r3⟩ := ret4 (W := W) (belW) (by omega) bRc hY4
      refine bodyPost_ret (v := .tuple #[TV.val ⟨none, 0, none, 0⟩ zeroT, .bool false]) (by simp [TV.val, Tm.op, Tm.n, Tm.ty, Tm.kids, results, Tryd.results42, go_sem, r0, r1, r2, r3]) rfl ?_
      exact ⟨_, _, ⟨Y4, belD⟩, rfl, rfl, zero_own _, fun q hq => hq.elim⟩
end Go.Proofs.YtlbpefmocodkfaaDoor
