/- NormalForm, by the program. -/
import Derived.Test.YtncfbljablbglaaDoorZ3KNormSpec
import Derived.Test.YtncfbljablbglaaDoorZ3KNormTop
import Derived.Test.YtncfbljablbglaaDoorZ3GX8
set_option linter.unusedVariables false
set_option linter.unusedSimpArgs false
namespace Go.Proofs.YtncfbljablbglaaDoor
open Go.RowKit

set_option maxRecDepth 100000 in
set_option maxHeartbeats 16000000 in
theorem normalForm_ans {W : World} (F : Forms W) (TF : TForms W) {lo : Nat} {t : Tm} {r : TV} (h : TmIn W lo t r) (hTB : TmB t) (most : Int) (o : Tm) (n : Int) (b : Bool) (ho : NormV t most o n b) (x : Ext W) :
    Calls Tryd.prog 11 #[r.val t, .int .i64 most] x.w (NewTmIB W o n b) := by
  obtain ⟨ra, rc, rb, rd⟩ := r
  unfold TV.val
  obtain ⟨xx, hxx⟩ : ∃ y : Ext W, x = y := ⟨x, rfl⟩
  rw [hxx]
  clear hxx x
  have HO := Lib.hid ho
  clear ho
  by_cases hw : Written t
  · have HW := Lib.hid hw
    clear hw
    by_cases hm : 0 ≤ most ∧ most ≤ 300
    · have HM := Lib.hid hm
      obtain ⟨M, hM⟩ : ∃ M : Nat, most = (M : Int) := ⟨most.toNat, by omega⟩
      subst hM
      go_enter Tryd.func11, Tryd.ntmps11
      go_upto_region 1 with fail
      have hxW := xx.size
      generalize hWa : (xx.w.alloc _).alloc _ = Wa
      generalize hB : xx.w.heap.size = B at *
      obtain ⟨bT, bR, sA, bel⟩ := blocks2 hB hWa
      have belA : Below W.heap.size W Wa := xx.below.trans (bel.mono (by omega))
      clear hWa bel
      have t0 := blk_cell bT 0
      have t1 := blk_cell bT 1
      have t2 := blk_cell bT 2
      have t3 := blk_cell bT 3
      simp at t0 t1 t2 t3
      have IWC := isWritten_ans (F.ext ⟨_, belA⟩) (TF.ext ⟨_, belA⟩) (h.ext ⟨Wa, belA⟩) hTB true (by refine iff_tf ?_; exact HW.out) (Ext.self Wa)
      unfold TV.val at IWC
      go_wp2_with fail
      refine Calls.mono IWC ?_
      clear IWC
      rintro e w' ⟨rfl, y1, rfl⟩
      go_wp2_with fail
      have IRC : ∀ (U : World) (y : Ext U), Calls Tryd.prog 36 #[.int .i64 (M : Int), .int .i64 301] y.w (Ans U (.bool true)) := fun U y => inRange_ans (M : Int) 301 true (by refine iff_tf ?_; dsimp only; omega) y
      refine Calls.mono (IRC _ y1) ?_
      clear IRC t0 t1 t2 t3
      rintro e w' ⟨rfl, y2, rfl⟩
      have bT1 := y2.blk bT
      have bR1 := y2.blk bR
      have belU : Below W.heap.size W y2.w := below_ext belA y2
      have hWB : W.heap.size ≤ B := by omega
      have GM : Hid (Written t ∧ 0 ≤ (M : Int) ∧ (M : Int) ≤ 300) := ⟨HW.out, HM.out⟩
      have hMt : (M : Int).toNat = M := by omega
      have hM3 : M ≤ 300 := by omega
      have HMT := Lib.hid hMt
      clear hm hMt
      go_wp2_with fail
      go_loopw [7] (fun i wr => ∃ (k : Nat) (x : Tm) (q : TV), i = .int .i64 k ∧ Hid (NormR M t k x) ∧ wr.heap[B]? = some (boxT x.op x.n q.a x.ty.length q.c q.b x.kids.length q.d) ∧ wr.heap[B + 1]? = some zbox ∧ Below W.heap.size W wr ∧ Hid (TmK wr x q (fun g => g ≠ B))) (fun i _ => M + 1 - (intOf i).toNat)
      case atStart => exact ⟨0, t, ⟨ra, rc, rb, rd⟩, rfl, NormR.start HW.out, bT1, bR1, belU, ((TmK.of h).step belU.size fun g hg _ => belU.block g hg).mono fun g (hg : g < W.heap.size) => by omega⟩
      case round =>
        obtain ⟨k, X, q, rfl, HR, bT2, bR2, bel2, HK⟩ := hrel
        obtain ⟨qa, qc, qb, qd⟩ := q
        have hkM : k ≤ M := HR.out.1
        have hBl : B + 1 < wr.heap.size := (Array.getElem?_eq_some_iff.1 bR2).1
        by_cases hn : X.reds [] = []
        · have HN := Lib.hid hn
          clear hn
          obtain ⟨rfl, rfl, rfl⟩ := HO.out.fin GM.out (k := k) (x := X) (by rw [HMT.out]; exact HR.out) HN.out
          have t0 := blk_cell bT2 0
          have t1 := blk_cell bT2 1
          have t2 := blk_cell bT2 2
          have t3 := blk_cell bT2 3
          simp at t0 t1 t2 t3
          have INC := isNormal_ans (F.ext ⟨wr, bel2⟩) (TF.ext ⟨wr, bel2⟩) HK.out.here HR.out.2.1.tmB true (by simp [HR.out.2.1, HN.out]) (Ext.self wr)
          unfold TV.val at INC
          go_wp2_with fail
          refine Calls.mono INC ?_
          clear INC t0 t1 t2 t3
          rintro e w' ⟨rfl, y3, rfl⟩
          have bT3 := y3.blk bT2
          have bR3 := y3.blk bR2
          have bel3 : Below W.heap.size W y3.w := below_ext bel2 y3
          have hs3 : wr.heap.size ≤ y3.w.heap.size := y3.size
          have t0 := blk_cell bT3 0
          have t1 := blk_cell bT3 1
          have t2 := blk_cell bT3 2
          have t3 := blk_cell bT3 3
          simp at t0 t1 t2 t3
          have CC := copyTerm_ans (TF.ext ⟨y3.w, bel3⟩) (HK.out.ext y3).here HR.out.2.1.2 (by have := HR.out.2.1.1; omega) (by have := HR.out.2.1.1; omega) (Ext.self y3.w)
          unfold TV.val at CC
          go_wp2_with fail
          refine Calls.mono CC ?_
          clear CC t0 t1 t2 t3
          rintro e w' ⟨r4, K4, y4, rfl, rfl, own4, lo4⟩
          have bR4 := y4.blk bR3
          have bel4 : Below W.heap.size W y4.w := below_ext bel3 y4
          unfold TV.val
          have n0 := blk_cell bR4 0
          have n1 := blk_cell bR4 1
          have n2 := blk_cell bR4 2
          have n3 := blk_cell bR4 3
          have p0 := blk_free bR4 0
          have p1 := blk_free bR4 1
          have p2 := blk_free bR4 2
          have p3 := blk_free bR4 3
          simp at n0 n1 n2 n3
          go_wp2_with fail
          clear n0 n1 n2 n3 p0 p1 p2 p3
          generalize hY : World.setCell _ _ _ = Y
          obtain ⟨⟨NB9, y9, rfl, own9, lo9⟩, r0, r1, r2, r3⟩ := dft_end (W := W) bR4 own4 (fun g h => by have := lo4 g h; exact ⟨by omega, by omega⟩) bel4 (by omega) hY
          refine bodyPost_ret (v := .tuple #[TV.val r4 o, .int .i64 k, .bool true]) (by simp [TV.val, results, Tryd.results11, go_sem, r0, r1, r2, r3]) rfl ?_
          exact ⟨_, NB9, y9, rfl, rfl, own9, lo9⟩
        · have HN := Lib.hid hn
          clear hn
          have SV := step_is X
          obtain ⟨Z, hZ⟩ : ∃ z, z = stepO X := ⟨_, rfl⟩
          obtain ⟨sb, hsb⟩ : ∃ z, z = stepB X := ⟨_, rfl⟩
          rw [← hZ, ← hsb] at SV
          have HZ := Lib.hid (⟨hZ, hsb⟩ : _ ∧ _)
          clear hZ hsb
          have t0 := blk_cell bT2 0
          have t1 := blk_cell bT2 1
          have t2 := blk_cell bT2 2
          have t3 := blk_cell bT2 3
          simp at t0 t1 t2 t3
          have INC := isNormal_ans (F.ext ⟨wr, bel2⟩) (TF.ext ⟨wr, bel2⟩) HK.out.here HR.out.2.1.tmB false (by simp; exact fun _ => HN.out) (Ext.self wr)
          unfold TV.val at INC
          go_wp2_with fail
          refine Calls.mono INC ?_
          clear INC t0 t1 t2 t3
          rintro e w' ⟨rfl, y3, rfl⟩
          have bT3 := y3.blk bT2
          have bR3 := y3.blk bR2
          have bel3 : Below W.heap.size W y3.w := below_ext bel2 y3
          have hs3 : wr.heap.size ≤ y3.w.heap.size := y3.size
          have HK3 := Lib.hid (HK.out.ext y3)
          clear HK
          obtain ⟨U, hU⟩ : ∃ U, U = y3.w := ⟨_, rfl⟩
          rw [← hU] at bT3 bR3 bel3 hs3 HK3 ⊢
          clear hU y3 bT2 bR2 bel2
          have t0 := blk_cell bT3 0
          have t1 := blk_cell bT3 1
          have t2 := blk_cell bT3 2
          have t3 := blk_cell bT3 3
          simp at t0 t1 t2 t3
          have SC := stepTerm_ans (F.ext ⟨U, bel3⟩) (TF.ext ⟨U, bel3⟩) HK3.out.here HR.out.2.1.tmB Z sb SV (Ext.self U)
          unfold TV.val at SC
          go_wp2_with fail
          refine Calls.mono SC ?_
          clear SC t0 t1 t2 t3
          rintro e w' ⟨r4, K4, y4, rfl, rfl, own4, lo4⟩
          unfold TV.val
          go_upto_region 7 with fail
          generalize hV : y4.w.alloc _ = V
          have bD := new_blk hV
          obtain ⟨yV, hyV⟩ : ∃ y : Ext U, y.w = V := ⟨y4.alloc _, hV⟩
          have own5 : TmOwn V Z r4 K4 := by rw [← hV]; exact own4.ext ((Ext.self y4.w).alloc _)
          have bel4 : Below W.heap.size W V := by rw [← hyV]; exact below_ext bel3 yV
          have bT4 : V.heap[B]? = some (boxT X.op X.n qa X.ty.length qc qb X.kids.length qd) := by rw [← hyV]; exact yV.blk bT3
          have bR4 : V.heap[B + 1]? = some zbox := by rw [← hyV]; exact yV.blk bR3
          have hs4 : U.heap.size ≤ V.heap.size := by rw [← hyV]; exact yV.size
          have hDB : U.heap.size ≤ y4.w.heap.size := y4.size
          generalize y4.w.heap.size = D at *
          clear hV hyV yV own4 bT3 bR3
          by_cases hgo : sb = true ∧ k ≠ M
          · obtain ⟨rfl, hkn⟩ := hgo
            have fkm : ((k : Int) == (M : Int)) = false := by rw [beq_eq_false_iff_ne]; omega
            go_upto_region 9 with fail
            have d0 := blk_cell bD 0
            have d1 := blk_cell bD 1
            have d2 := blk_cell bD 2
            have d3 := blk_cell bD 3
            simp at d0 d1 d2 d3
            have f0 := blk_free bT4 0
            have f1 := blk_free bT4 1
            have f2 := blk_free bT4 2
            have f3 := blk_free bT4 3
            have e0 := blk_cell bT4 0
            have e1 := blk_cell bT4 1
            have e2 := blk_cell bT4 2
            have e3 := blk_cell bT4 3
            simp at e0 e1 e2 e3
            have hwk : IntKind.i64.wrap ((k : Int) + 1) = (k : Int) + 1 := IntWalk.i64_in _ (by omega)
            go_wp2_with fail
            clear d0 d1 d2 d3 e0 e1 e2 e3 f0 f1 f2 f3
            go_roundw
            case rel =>
              obtain ⟨bB, hoth, hsz, hbl⟩ := set4_blk bT4 (show _ = _ from rfl)
              exact ⟨k + 1, Z, r4, by go_num, by rw [HZ.out.1]; exact HR.out.next HN.out HZ.out.2.symm hkn, bB, (hoth _ (by omega)).trans bR4, hbl bel4 (by omega), (own_k own5 (P := fun g => g ≠ B) fun g hg => by have := lo4 g hg; omega).step (by omega) fun g hg _ => hoth g hg⟩
            case measure => simp [intOf]; omega
          · have hst : sb = false ∨ k = M := by
              cases sb
              · exact .inl rfl
              · exact .inr (Classical.byContradiction fun q => hgo ⟨rfl, q⟩)
            have HST : Hid (stepB X = false ∨ k = ((M : Int)).toNat) := by rw [HMT.out, ← HZ.out.2]; exact hst
            have fkm : sb = true → ((k : Int) == (M : Int)) = true := fun e => by rw [beq_iff_eq]; rcases hst with q | q; rw [e] at q; cases q; omega
            clear hgo hst
            cases sb with
            | false =>
              clear fkm
              go_upto_region 8 with fail
              have n0 := blk_cell bR4 0
              have n1 := blk_cell bR4 1
              have n2 := blk_cell bR4 2
              have n3 := blk_cell bR4 3
              have p0 := blk_free bR4 0
              have p1 := blk_free bR4 1
              have p2 := blk_free bR4 2
              have p3 := blk_free bR4 3
              simp at n0 n1 n2 n3
              go_wp2_with fail
              clear n0 n1 n2 n3 p0 p1 p2 p3
              generalize hY4 : World.setCell _ _ _ = Y4
              obtain ⟨belD, hsame, hgr, r0, r1, r2, r3⟩ := ret4 (W := W) bel4 (by omega) bR4 hY4
              refine bodyPost_ret (v := .tuple #[TV.val ⟨none, 0, none, 0⟩ zeroT, .int .i64 0, .bool false]) (by simp [TV.val, Tm.op, Tm.n, Tm.ty, Tm.kids, results, Tryd.results11, go_sem, r0, r1, r2, r3]) rfl ?_
              obtain ⟨rfl, rfl, rfl⟩ := HO.out.stop (by rw [HMT.out]; exact HR.out) HN.out HST.out
              exact ⟨_, _, ⟨Y4, belD⟩, rfl, rfl, zero_own _, fun q hq => hq.elim⟩
            | true =>
              have fkm' := fkm rfl
              clear fkm
              go_upto_region 8 with fail
              have n0 := blk_cell bR4 0
              have n1 := blk_cell bR4 1
              have n2 := blk_cell bR4 2
              have n3 := blk_cell bR4 3
              have p0 := blk_free bR4 0
              have p1 := blk_free bR4 1
              have p2 := blk_free bR4 2
              have p3 := blk_free bR4 3
              simp at n0 n1 n2 n3
              go_wp2_with fail
              clear n0 n1 n2 n3 p0 p1 p2 p3
              generalize hY4 : World.setCell _ _ _ = Y4
              obtain ⟨belD, hsame, hgr, r0, r1, r2, r3⟩ := ret4 (W := W) bel4 (by omega) bR4 hY4
              refine bodyPost_ret (v := .tuple #[TV.val ⟨none, 0, none, 0⟩ zeroT, .int .i64 0, .bool false]) (by simp [TV.val, Tm.op, Tm.n, Tm.ty, Tm.kids, results, Tryd.results11, go_sem, r0, r1, r2, r3]) rfl ?_
              obtain ⟨rfl, rfl, rfl⟩ := HO.out.stop (by rw [HMT.out]; exact HR.out) HN.out HST.out
              exact ⟨_, _, ⟨Y4, belD⟩, rfl, rfl, zero_own _, fun q hq => hq.elim⟩
    · have HM := Lib.hid hm
      go_enter Tryd.func11, Tryd.ntmps11
      go_upto_region 1 with fail
      have hxW := xx.size
      generalize hWa : (xx.w.alloc _).alloc _ = Wa
      generalize hB : xx.w.heap.size = B at *
      obtain ⟨bT, bR, sA, bel⟩ := blocks2 hB hWa
      have belA : Below W.heap.size W Wa := xx.below.trans (bel.mono (by omega))
      clear hWa bel
      have t0 := blk_cell bT 0
      have t1 := blk_cell bT 1
      have t2 := blk_cell bT 2
      have t3 := blk_cell bT 3
      simp at t0 t1 t2 t3
      have IWC := isWritten_ans (F.ext ⟨_, belA⟩) (TF.ext ⟨_, belA⟩) (h.ext ⟨Wa, belA⟩) hTB true (by refine iff_tf ?_; exact HW.out) (Ext.self Wa)
      unfold TV.val at IWC
      go_wp2_with fail
      refine Calls.mono IWC ?_
      clear IWC
      rintro e w' ⟨rfl, y1, rfl⟩
      go_wp2_with fail
      have IRC : ∀ (U : World) (y : Ext U), Calls Tryd.prog 36 #[.int .i64 most, .int .i64 301] y.w (Ans U (.bool false)) := fun U y => inRange_ans most 301 false (by refine iff_tf ?_; dsimp only; omega) y
      refine Calls.mono (IRC _ y1) ?_
      clear IRC t0 t1 t2 t3
      rintro e w' ⟨rfl, y2, rfl⟩
      go_upto_region 2 with fail
      have bR1 := y2.blk bR
      have hs1 : Wa.heap.size ≤ y2.w.heap.size := y2.size
      have n0 := blk_cell bR1 0
      have n1 := blk_cell bR1 1
      have n2 := blk_cell bR1 2
      have n3 := blk_cell bR1 3
      have p0 := blk_free bR1 0
      have p1 := blk_free bR1 1
      have p2 := blk_free bR1 2
      have p3 := blk_free bR1 3
      simp at n0 n1 n2 n3
      go_wp2_with fail
      clear n0 n1 n2 n3 p0 p1 p2 p3
      generalize hY4 : World.setCell _ _ _ = Y4
      obtain ⟨belD, hsame, hgr, r0, r1, r2, r3⟩ := ret4 (W := W) (below_ext belA y2) (by omega) bR1 hY4
      refine bodyPost_ret (v := .tuple #[TV.val ⟨none, 0, none, 0⟩ zeroT, .int .i64 0, .bool false]) (by simp [TV.val, Tm.op, Tm.n, Tm.ty, Tm.kids, results, Tryd.results11, go_sem, r0, r1, r2, r3]) rfl ?_
      obtain ⟨rfl, rfl, rfl⟩ := HO.out.no (fun z => HM.out z.1.2)
      exact ⟨_, _, ⟨Y4, belD⟩, rfl, rfl, zero_own _, fun q hq => hq.elim⟩
  · have HW := Lib.hid hw
    clear hw
    go_enter Tryd.func11, Tryd.ntmps11
    go_upto_region 1 with fail
    have hxW := xx.size
    generalize hWa : (xx.w.alloc _).alloc _ = Wa
    generalize hB : xx.w.heap.size = B at *
    obtain ⟨bT, bR, sA, bel⟩ := blocks2 hB hWa
    have belA : Below W.heap.size W Wa := xx.below.trans (bel.mono (by omega))
    clear hWa bel
    have t0 := blk_cell bT 0
    have t1 := blk_cell bT 1
    have t2 := blk_cell bT 2
    have t3 := blk_cell bT 3
    simp at t0 t1 t2 t3
    have IWC := isWritten_ans (F.ext ⟨_, belA⟩) (TF.ext ⟨_, belA⟩) (h.ext ⟨Wa, belA⟩) hTB false (by refine iff_tf ?_; exact HW.out) (Ext.self Wa)
    unfold TV.val at IWC
    go_wp2_with fail
    refine Calls.mono IWC ?_
    clear IWC
    rintro e w' ⟨rfl, y1, rfl⟩
    go_upto_region 2 with fail
    clear t0 t1 t2 t3
    have bR1 := y1.blk bR
    have hs1 : Wa.heap.size ≤ y1.w.heap.size := y1.size
    have n0 := blk_cell bR1 0
    have n1 := blk_cell bR1 1
    have n2 := blk_cell bR1 2
    have n3 := blk_cell bR1 3
    have p0 := blk_free bR1 0
    have p1 := blk_free bR1 1
    have p2 := blk_free bR1 2
    have p3 := blk_free bR1 3
    simp at n0 n1 n2 n3
    go_wp2_with fail
    clear n0 n1 n2 n3 p0 p1 p2 p3
    generalize hY4 : World.setCell _ _ _ = Y4
    obtain ⟨belD, hsame, hgr, r0, r1, r2, r3⟩ := ret4 (W := W) (below_ext belA y1) (by omega) bR1 hY4
    refine bodyPost_ret (v := .tuple #[TV.val ⟨none, 0, none, 0⟩ zeroT, .int .i64 0, .bool false]) (by simp [TV.val, Tm.op, Tm.n, Tm.ty, Tm.kids, results, Tryd.results11, go_sem, r0, r1, r2, r3]) rfl ?_
    obtain ⟨rfl, rfl, rfl⟩ := HO.out.no (fun z => HW.out z.1.1)
    exact ⟨_, _, ⟨Y4, belD⟩, rfl, rfl, zero_own _, fun q hq => hq.elim⟩

end Go.Proofs.YtncfbljablbglaaDoor
