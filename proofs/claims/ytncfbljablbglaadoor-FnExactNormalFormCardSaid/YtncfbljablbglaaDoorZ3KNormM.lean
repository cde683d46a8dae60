/- NormalForm, by the model. -/
import Derived.Test.YtncfbljablbglaaDoorZ3KNormSpec
import Derived.Test.YtncfbljablbglaaDoorZ3KNormTop
import Derived.Test.YtncfbljablbglaaDoorZ3GX8
set_option linter.unusedVariables false
set_option linter.unusedSimpArgs false
namespace Go.Proofs.YtncfbljablbglaaDoor
open Go.RowKit

set_option maxRecDepth 100000 in
set_option maxHeartbeats 16000000 in
theorem specNormalForm_ans {W : World} {lo : Nat} {t : Tm} {r : TV} (h : TmIn W lo t r) (hwt : t.wt ≤ 1099511627776) (most : Int) (o : Tm) (n : Int) (b : Bool) (ho : NormV t most o n b) (x : Ext W) :
    Calls Tryd.prog 9 #[r.val t, .int .i64 most] x.w (NewTmIB W o n b) := by
  obtain ⟨ra, rc, rb, rd⟩ := r
  unfold TV.val
  obtain ⟨xx, hxx⟩ : ∃ y : Ext W, x = y := ⟨x, rfl⟩
  rw [hxx]
  clear hxx x
  have HO := Lib.hid ho
  clear ho
  by_cases hw : Written t
  · have HW := Lib.hid hw
    clear hw
    by_cases hm : 0 ≤ most ∧ most ≤ 300
    · have HM := Lib.hid hm
      obtain ⟨M, hM⟩ : ∃ M : Nat, most = (M : Int) := ⟨most.toNat, by omega⟩
      subst hM
      go_enter Tryd.func9, Tryd.ntmps9
      go_upto_region 1 with fail
      have hxW := xx.size
      generalize hWa : (xx.w.alloc _).alloc _ = Wa
      generalize hB : xx.w.heap.size = B at *
      obtain ⟨bT, bR, sA, bel⟩ := blocks2 hB hWa
      have belA : Below W.heap.size W Wa := xx.below.trans (bel.mono (by omega))
      clear hWa bel
      have t0 := blk_cell bT 0
      have t1 := blk_cell bT 1
      have t2 := blk_cell bT 2
      have t3 := blk_cell bT 3
      simp at t0 t1 t2 t3
      have IWC := specIsWritten_ans (h.ext ⟨Wa, belA⟩) hwt true (by refine iff_tf ?_; exact HW.out) (Ext.self Wa)
      unfold TV.val at IWC
      go_wp2_with fail
      refine Calls.mono IWC ?_
      clear IWC
      rintro e w' ⟨rfl, y1, rfl⟩
      go_wp2_with fail
      have IRC : ∀ (U : World) (y : Ext U), Calls Tryd.prog 30 #[.int .i64 (M : Int), .int .i64 0, .int .i64 300] y.w (Ans U (.bool true)) := fun U y => l1In_ans (M : Int) 0 300 true (by refine iff_tf ?_; dsimp only; omega) y
      refine Calls.mono (IRC _ y1) ?_
      clear IRC t0 t1 t2 t3
      rintro e w' ⟨rfl, y2, rfl⟩
      have bT1 := y2.blk bT
      have bR1 := y2.blk bR
      have belU : Below W.heap.size W y2.w := below_ext belA y2
      have hWB : W.heap.size ≤ B := by omega
      have GM : Hid (Written t ∧ 0 ≤ (M : Int) ∧ (M : Int) ≤ 300) := ⟨HW.out, HM.out⟩
      have hMt : (M : Int).toNat = M := by omega
      have hM3 : M ≤ 300 := by omega
      have HMT := Lib.hid hMt
      clear hm hMt
      go_upto_region 4 with fail
      have t0 := blk_cell bT1 0
      have t1 := blk_cell bT1 1
      have t2 := blk_cell bT1 2
      have t3 := blk_cell bT1 3
      simp at t0 t1 t2 t3
      have SHC := l2Shift_ans t (h.ext ⟨y2.w, belU⟩) HW.out.2 (by have := HW.out.1; omega) (by have := HW.out.1; omega) 0 0 (by omega) (by omega) (by omega) 0 (by omega) (by have := HW.out.1; omega) (Ext.self y2.w)
      rw [show (0 : Int) + 0 = 0 from rfl, Tm.shf_id HW.out.2] at SHC
      unfold TV.val at SHC
      go_wp2_with fail
      refine Calls.mono SHC ?_
      clear SHC t0 t1 t2 t3
      rintro e w' ⟨q0, K0, y3, rfl, rfl, own0, lo0⟩
      unfold TV.val
      go_upto_region 5 with fail
      generalize hV : y3.w.alloc _ = V
      have bD0 := new_blk hV
      obtain ⟨yV, hyV⟩ : ∃ y : Ext y2.w, y.w = V := ⟨y3.alloc _, hV⟩
      have own1 : TmOwn V t q0 K0 := by rw [← hV]; exact own0.ext ((Ext.self y3.w).alloc _)
      have belV : Below W.heap.size W V := by rw [← hyV]; exact below_ext belU yV
      have bR2 : V.heap[B + 1]? = some zbox := by rw [← hyV]; exact yV.blk bR1
      have hsV : Wa.heap.size ≤ y2.w.heap.size := y2.size
      have hDB : y2.w.heap.size ≤ y3.w.heap.size := y3.size
      have lo1 : ∀ g, K0 g → W.heap.size ≤ g ∧ g ≠ y3.w.heap.size ∧ g ≠ B + 1 := fun g hg => by have h1 := lo0 g hg; have h2 := own0.lt g hg; omega
      generalize y3.w.heap.size = D at *
      clear hV hyV yV own0 lo0 bT1 bR1
      have hDR : D ≠ B + 1 := by omega
      have hWD : W.heap.size ≤ D := by omega
      obtain ⟨q0a, q0c, q0b, q0d⟩ := q0
      go_loopw [7] (fun i wr => ∃ (k : Nat) (x : Tm) (q : TV) (NB : Nat → Prop), i = .int .i64 k ∧ Hid (NormR M t k x) ∧ wr.heap[D]? = some (boxT x.op x.n q.a x.ty.length q.c q.b x.kids.length q.d) ∧ wr.heap[B + 1]? = some zbox ∧ Below W.heap.size W wr ∧ Hid (TmOwn wr x q NB ∧ ∀ g, NB g → W.heap.size ≤ g ∧ g ≠ D ∧ g ≠ B + 1)) (fun i _ => M + 1 - (intOf i).toNat)
      case atStart => exact ⟨0, t, _, K0, rfl, NormR.start HW.out, bD0, bR2, belV, own1, lo1⟩
      case round =>
        obtain ⟨k, X, q, NB, rfl, HR, bT2, bR2, bel2, HK⟩ := hrel
        obtain ⟨qa, qc, qb, qd⟩ := q
        have hkM : k ≤ M := HR.out.1
        have hDl : D < wr.heap.size := (Array.getElem?_eq_some_iff.1 bT2).1
        by_cases hn : X.reds [] = []
        · have HN := Lib.hid hn
          clear hn
          obtain ⟨rfl, rfl, rfl⟩ := HO.out.fin GM.out (k := k) (x := X) (by rw [HMT.out]; exact HR.out) HN.out
          have t0 := blk_cell bT2 0
          have t1 := blk_cell bT2 1
          have t2 := blk_cell bT2 2
          have t3 := blk_cell bT2 3
          simp at t0 t1 t2 t3
          have INC := specIsNormal_ans (HK.out.1.tm (fun _ _ => Nat.zero_le _)) (by have := HR.out.2.1.wt; omega) true (by simp [HR.out.2.1, HN.out]) (Ext.self wr)
          unfold TV.val at INC
          go_wp2_with fail
          refine Calls.mono INC ?_
          clear INC t0 t1 t2 t3
          rintro e w' ⟨rfl, y3, rfl⟩
          go_upto_region 11 with fail
          have bT3 := y3.blk bT2
          have bR3 := y3.blk bR2
          have bel3 : Below W.heap.size W y3.w := below_ext bel2 y3
          have own3 := HK.out.1.ext y3
          have t0 := blk_cell bT3 0
          have t1 := blk_cell bT3 1
          have t2 := blk_cell bT3 2
          have t3 := blk_cell bT3 3
          simp at t0 t1 t2 t3
          have n0 := blk_cell bR3 0
          have n1 := blk_cell bR3 1
          have n2 := blk_cell bR3 2
          have n3 := blk_cell bR3 3
          have p0 := blk_free bR3 0
          have p1 := blk_free bR3 1
          have p2 := blk_free bR3 2
          have p3 := blk_free bR3 3
          simp at n0 n1 n2 n3
          go_wp2_with fail
          clear n0 n1 n2 n3 p0 p1 p2 p3
          clear t0 t1 t2 t3
          generalize hY : World.setCell _ _ _ = Y
          obtain ⟨⟨NB9, y9, rfl, own9, lo9⟩, r0, r1, r2, r3⟩ := dft_end (W := W) bR3 own3 (fun g h => by have := HK.out.2 g h; exact ⟨by omega, by omega⟩) bel3 (by omega) hY
          refine bodyPost_ret (v := .tuple #[TV.val ⟨qa, qc, qb, qd⟩ o, .int .i64 k, .bool true]) (by simp [TV.val, results, Tryd.results9, go_sem, r0, r1, r2, r3]) rfl ?_
          exact ⟨_, NB9, y9, rfl, rfl, own9, lo9⟩
        · have HN := Lib.hid hn
          clear hn
          have SV := step_is X
          obtain ⟨Z, hZ⟩ : ∃ z, z = stepO X := ⟨_, rfl⟩
          obtain ⟨sb, hsb⟩ : ∃ z, z = stepB X := ⟨_, rfl⟩
          rw [← hZ, ← hsb] at SV
          have HZ := Lib.hid (⟨hZ, hsb⟩ : _ ∧ _)
          clear hZ hsb
          have t0 := blk_cell bT2 0
          have t1 := blk_cell bT2 1
          have t2 := blk_cell bT2 2
          have t3 := blk_cell bT2 3
          simp at t0 t1 t2 t3
          have INC := specIsNormal_ans (HK.out.1.tm (fun _ _ => Nat.zero_le _)) (by have := HR.out.2.1.wt; omega) false (by simp; exact fun _ => HN.out) (Ext.self wr)
          unfold TV.val at INC
          go_wp2_with fail
          refine Calls.mono INC ?_
          clear INC t0 t1 t2 t3
          rintro e w' ⟨rfl, y3, rfl⟩
          have bT3 := y3.blk bT2
          have bR3 := y3.blk bR2
          have bel3 : Below W.heap.size W y3.w := below_ext bel2 y3
          have hs3 : wr.heap.size ≤ y3.w.heap.size := y3.size
          have HK3 : Hid (TmOwn y3.w X ⟨qa, qc, qb, qd⟩ NB) := HK.out.1.ext y3
          clear HK
          obtain ⟨U, hU⟩ : ∃ U, U = y3.w := ⟨_, rfl⟩
          rw [← hU] at bT3 bR3 bel3 hs3 HK3 ⊢
          clear hU y3 bT2 bR2 bel2
          have t0 := blk_cell bT3 0
          have t1 := blk_cell bT3 1
          have t2 := blk_cell bT3 2
          have t3 := blk_cell bT3 3
          simp at t0 t1 t2 t3
          have SC := specStepTerm_ans (HK3.out.tm (fun _ _ => Nat.zero_le _)) (by have := HR.out.2.1.wt; omega) Z sb SV (Ext.self U)
          unfold TV.val at SC
          go_wp2_with fail
          refine Calls.mono SC ?_
          clear SC t0 t1 t2 t3
          rintro e w' ⟨r4, K4, y4, rfl, rfl, own4, lo4⟩
          unfold TV.val
          go_upto_region 7 with fail
          generalize hV : y4.w.alloc _ = V
          have bD := new_blk hV
          obtain ⟨yV, hyV⟩ : ∃ y : Ext U, y.w = V := ⟨y4.alloc _, hV⟩
          have own5 : TmOwn V Z r4 K4 := by rw [← hV]; exact own4.ext ((Ext.self y4.w).alloc _)
          have bel4 : Below W.heap.size W V := by rw [← hyV]; exact below_ext bel3 yV
          have bT4 : V.heap[D]? = some (boxT X.op X.n qa X.ty.length qc qb X.kids.length qd) := by rw [← hyV]; exact yV.blk bT3
          have bR4 : V.heap[B + 1]? = some zbox := by rw [← hyV]; exact yV.blk bR3
          have hs4 : U.heap.size ≤ V.heap.size := by rw [← hyV]; exact yV.size
          have hEB : U.heap.size ≤ y4.w.heap.size := y4.size
          have hDU : D < U.heap.size := by omega
          have loE : ∀ g, K4 g → W.heap.size ≤ g ∧ g ≠ D ∧ g ≠ B + 1 ∧ g ≠ y4.w.heap.size := fun g hg => by have h1 := lo4 g hg; have h2 := own4.lt g hg; have h3 : D < U.heap.size := hDU; have h4 : B + 1 < U.heap.size := (Array.getElem?_eq_some_iff.1 bR3).1; have := bel3.size; omega
          generalize y4.w.heap.size = E at *
          clear hV hyV yV own4 bT3 bR3
          by_cases hgo : sb = true ∧ k ≠ M
          · obtain ⟨rfl, hkn⟩ := hgo
            have fkm : ((k : Int) == (M : Int)) = false := by rw [beq_eq_false_iff_ne]; omega
            go_upto_region 9 with fail
            have d0 := blk_cell bD 0
            have d1 := blk_cell bD 1
            have d2 := blk_cell bD 2
            have d3 := blk_cell bD 3
            simp at d0 d1 d2 d3
            have f0 := blk_free bT4 0
            have f1 := blk_free bT4 1
            have f2 := blk_free bT4 2
            have f3 := blk_free bT4 3
            have e0 := blk_cell bT4 0
            have e1 := blk_cell bT4 1
            have e2 := blk_cell bT4 2
            have e3 := blk_cell bT4 3
            simp at e0 e1 e2 e3
            have hwk : IntKind.i64.wrap ((k : Int) + 1) = (k : Int) + 1 := IntWalk.i64_in _ (by omega)
            go_wp2_with fail
            clear d0 d1 d2 d3 e0 e1 e2 e3 f0 f1 f2 f3
            go_roundw
            case rel =>
              obtain ⟨bB, hoth, hsz, hbl⟩ := set4_blk bT4 (show _ = _ from rfl)
              exact ⟨k + 1, Z, r4, K4, by go_num, by rw [HZ.out.1]; exact HR.out.next HN.out HZ.out.2.symm hkn, bB, (hoth _ (by omega)).trans bR4, hbl bel4 (by omega), own5.keep fun g hg => hoth g (loE g hg).2.1, fun g hg => ⟨(loE g hg).1, (loE g hg).2.1, (loE g hg).2.2.1⟩⟩
            case measure => simp [intOf]; omega
          · have hst : sb = false ∨ k = M := by
              cases sb
              · exact .inl rfl
              · exact .inr (Classical.byContradiction fun q => hgo ⟨rfl, q⟩)
            have HST : Hid (stepB X = false ∨ k = ((M : Int)).toNat) := by rw [HMT.out, ← HZ.out.2]; exact hst
            have fkm : sb = true → ((k : Int) == (M : Int)) = true := fun e => by rw [beq_iff_eq]; rcases hst with q | q; rw [e] at q; cases q; omega
            clear hgo hst
            cases sb with
            | false =>
              clear fkm
              go_upto_region 8 with fail
              have n0 := blk_cell bR4 0
              have n1 := blk_cell bR4 1
              have n2 := blk_cell bR4 2
              have n3 := blk_cell bR4 3
              have p0 := blk_free bR4 0
              have p1 := blk_free bR4 1
              have p2 := blk_free bR4 2
              have p3 := blk_free bR4 3
              simp at n0 n1 n2 n3
              go_wp2_with fail
              clear n0 n1 n2 n3 p0 p1 p2 p3
              generalize hY4 : World.setCell _ _ _ = Y4
              obtain ⟨belD, hsame, hgr, r0, r1, r2, r3⟩ := ret4 (W := W) bel4 (by omega) bR4 hY4
              refine bodyPost_ret (v := .tuple #[TV.val ⟨none, 0, none, 0⟩ zeroT, .int .i64 0, .bool false]) (by simp [TV.val, Tm.op, Tm.n, Tm.ty, Tm.kids, results, Tryd.results9, go_sem, r0, r1, r2, r3]) rfl ?_
              obtain ⟨rfl, rfl, rfl⟩ := HO.out.stop (by rw [HMT.out]; exact HR.out) HN.out HST.out
              exact ⟨_, _, ⟨Y4, belD⟩, rfl, rfl, zero_own _, fun q hq => hq.elim⟩
            | true =>
              have fkm' := fkm rfl
              clear fkm
              go_upto_region 8 with fail
              have n0 := blk_cell bR4 0
              have n1 := blk_cell bR4 1
              have n2 := blk_cell bR4 2
              have n3 := blk_cell bR4 3
              have p0 := blk_free bR4 0
              have p1 := blk_free bR4 1
              have p2 := blk_free bR4 2
              have p3 := blk_free bR4 3
              simp at n0 n1 n2 n3
              go_wp2_with fail
              clear n0 n1 n2 n3 p0 p1 p2 p3
              generalize hY4 : World.setCell _ _ _ = Y4
              obtain ⟨belD, hsame, hgr, r0, r1, r2, r3⟩ := ret4 (W := W) bel4 (by omega) bR4 hY4
              refine bodyPost_ret (v := .tuple #[TV.val ⟨none, 0, none, 0⟩ zeroT, .int .i64 0, .bool false]) (by simp [TV.val, Tm.op, Tm.n, Tm.ty, Tm.kids, results, Tryd.results9, go_sem, r0, r1, r2, r3]) rfl ?_
              obtain ⟨rfl, rfl, rfl⟩ := HO.out.stop (by rw [HMT.out]; exact HR.out) HN.out HST.out
              exact ⟨_, _, ⟨Y4, belD⟩, rfl, rfl, zero_own _, fun q hq => hq.elim⟩
    · have HM := Lib.hid hm
      go_enter Tryd.func9, Tryd.ntmps9
      go_upto_region 1 with fail
      have hxW := xx.size
      generalize hWa : (xx.w.alloc _).alloc _ = Wa
      generalize hB : xx.w.heap.size = B at *
      obtain ⟨bT, bR, sA, bel⟩ := blocks2 hB hWa
      have belA : Below W.heap.size W Wa := xx.below.trans (bel.mono (by omega))
      clear hWa bel
      have t0 := blk_cell bT 0
      have t1 := blk_cell bT 1
      have t2 := blk_cell bT 2
      have t3 := blk_cell bT 3
      simp at t0 t1 t2 t3
      have IWC := specIsWritten_ans (h.ext ⟨Wa, belA⟩) hwt true (by refine iff_tf ?_; exact HW.out) (Ext.self Wa)
      unfold TV.val at IWC
      go_wp2_with fail
      refine Calls.mono IWC ?_
      clear IWC
      rintro e w' ⟨rfl, y1, rfl⟩
      go_wp2_with fail
      have IRC : ∀ (U : World) (y : Ext U), Calls Tryd.prog 30 #[.int .i64 most, .int .i64 0, .int .i64 300] y.w (Ans U (.bool false)) := fun U y => l1In_ans most 0 300 false (by refine iff_tf ?_; dsimp only; omega) y
      refine Calls.mono (IRC _ y1) ?_
      clear IRC t0 t1 t2 t3
      rintro e w' ⟨rfl, y2, rfl⟩
      go_upto_region 2 with fail
      have bR1 := y2.blk bR
      have hs1 : Wa.heap.size ≤ y2.w.heap.size := y2.size
      have n0 := blk_cell bR1 0
      have n1 := blk_cell bR1 1
      have n2 := blk_cell bR1 2
      have n3 := blk_cell bR1 3
      have p0 := blk_free bR1 0
      have p1 := blk_free bR1 1
      have p2 := blk_free bR1 2
      have p3 := blk_free bR1 3
      simp at n0 n1 n2 n3
      go_wp2_with fail
      clear n0 n1 n2 n3 p0 p1 p2 p3
      generalize hY4 : World.setCell _ _ _ = Y4
      obtain ⟨belD, hsame, hgr, r0, r1, r2, r3⟩ := ret4 (W := W) (below_ext belA y2) (by omega) bR1 hY4
      refine bodyPost_ret (v := .tuple #[TV.val ⟨none, 0, none, 0⟩ zeroT, .int .i64 0, .bool false]) (by simp [TV.val, Tm.op, Tm.n, Tm.ty, Tm.kids, results, Tryd.results9, go_sem, r0, r1, r2, r3]) rfl ?_
      obtain ⟨rfl, rfl, rfl⟩ := HO.out.no (fun z => HM.out z.1.2)
      exact ⟨_, _, ⟨Y4, belD⟩, rfl, rfl, zero_own _, fun q hq => hq.elim⟩
  · have HW := Lib.hid hw
    clear hw
    go_enter Tryd.func9, Tryd.ntmps9
    go_upto_region 1 with fail
    have hxW := xx.size
    generalize hWa : (xx.w.alloc _).alloc _ = Wa
    generalize hB : xx.w.heap.size = B at *
    obtain ⟨bT, bR, sA, bel⟩ := blocks2 hB hWa
    have belA : Below W.heap.size W Wa := xx.below.trans (bel.mono (by omega))
    clear hWa bel
    have t0 := blk_cell bT 0
    have t1 := blk_cell bT 1
    have t2 := blk_cell bT 2
    have t3 := blk_cell bT 3
    simp at t0 t1 t2 t3
    have IWC := specIsWritten_ans (h.ext ⟨Wa, belA⟩) hwt false (by refine iff_tf ?_; exact HW.out) (Ext.self Wa)
    unfold TV.val at IWC
    go_wp2_with fail
    refine Calls.mono IWC ?_
    clear IWC
    rintro e w' ⟨rfl, y1, rfl⟩
    go_upto_region 2 with fail
    clear t0 t1 t2 t3
    have bR1 := y1.blk bR
    have hs1 : Wa.heap.size ≤ y1.w.heap.size := y1.size
    have n0 := blk_cell bR1 0
    have n1 := blk_cell bR1 1
    have n2 := blk_cell bR1 2
    have n3 := blk_cell bR1 3
    have p0 := blk_free bR1 0
    have p1 := blk_free bR1 1
    have p2 := blk_free bR1 2
    have p3 := blk_free bR1 3
    simp at n0 n1 n2 n3
    go_wp2_with fail
    clear n0 n1 n2 n3 p0 p1 p2 p3
    generalize hY4 : World.setCell _ _ _ = Y4
    obtain ⟨belD, hsame, hgr, r0, r1, r2, r3⟩ := ret4 (W := W) (below_ext belA y1) (by omega) bR1 hY4
    refine bodyPost_ret (v := .tuple #[TV.val ⟨none, 0, none, 0⟩ zeroT, .int .i64 0, .bool false]) (by simp [TV.val, Tm.op, Tm.n, Tm.ty, Tm.kids, results, Tryd.results9, go_sem, r0, r1, r2, r3]) rfl ?_
    obtain ⟨rfl, rfl, rfl⟩ := HO.out.no (fun z => HW.out z.1.1)
    exact ⟨_, _, ⟨Y4, belD⟩, rfl, rfl, zero_own _, fun q hq => hq.elim⟩

end Go.Proofs.YtncfbljablbglaaDoor
