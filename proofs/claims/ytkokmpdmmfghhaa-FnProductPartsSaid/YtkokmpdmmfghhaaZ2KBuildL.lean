/- The program's building of the system of levels. -/
import Derived.Test.YtkokmpdmmfghhaaZ2KBuildS
import Derived.RegionTactic
import Derived.BigRegion
import Derived.Deep.Cut
import Derived.Deep.RegionHeld3
import Derived.StillTailTactics
set_option linter.unusedVariables false
set_option linter.unusedSimpArgs false
namespace Go.Proofs.Ytkokmpdmmfghhaa
open Go.RowKit

set_option maxRecDepth 100000 in
set_option maxHeartbeats 16000000 in
theorem buildLevel {W : World} (N : Nat) (hN : N ≤ 16) (mc : Nat) (f1 f2 : Nat → Nat → Int) (f3 : Nat → Nat → Bool)
    (h1 : ∀ (y : Ext W) (a b : Nat), a < N → b < N → Calls Try.prog 74 #[.int .i64 a, .int .i64 b, .pointer (some ⟨mc, 0, none⟩)] y.w (Ans y.w (.int .i64 (f1 a b))))
    (h2 : ∀ (y : Ext W) (a b : Nat), a < N → b < N → Calls Try.prog 75 #[.int .i64 a, .int .i64 b, .pointer (some ⟨mc, 0, none⟩)] y.w (Ans y.w (.int .i64 (f2 a b))))
    (h3 : ∀ (y : Ext W) (a b : Nat), a < N → b < N → Calls Try.prog 76 #[.int .i64 a, .int .i64 b, .pointer (some ⟨mc, 0, none⟩)] y.w (Ans y.w (.bool (f3 a b)))) (x : Ext W) :
    Calls Try.prog 73 #[.int .i64 N, .func (.func 74) #[] #[.pointer (some ⟨mc, 0, none⟩)], .func (.func 75) #[] #[.pointer (some ⟨mc, 0, none⟩)], .func (.func 76) #[] #[.pointer (some ⟨mc, 0, none⟩)]] x.w (NewOwn W ⟨N, grid N f1, grid N f2, grid N f3⟩) := by
  have hNN : N * N ≤ 1000 := by have := Nat.mul_le_mul hN hN; omega
  have e0 : (N : Int) * (N : Int) = ((N * N : Nat) : Int) := by simp
  have hpl : ∀ a b : Nat, a < N → b < N → a * N + b < N * N := fun a b ha hb => pair_lt ha hb
  have hg1 : grid N f1 = (List.range (N * N)).map fun i => f1 (i / N) (i % N) := rfl
  have hg2 : grid N f2 = (List.range (N * N)).map fun i => f2 (i / N) (i % N) := rfl
  have hg3 : grid N f3 = (List.range (N * N)).map fun i => f3 (i / N) (i % N) := rfl
  obtain ⟨cI, sI, rI⟩ := make_int (N * N) hNN
  obtain ⟨cB, sB, rB⟩ := make_bool (N * N) hNN
  have e1 : IntKind.i64.wrap ((N : Int) * (N : Int)) = ((N * N : Nat) : Int) := by rw [e0]; exact IntWalk.i64_in _ (by omega)
  have e2 : wrap64 ((N : Int) * (N : Int)) = ((N * N : Nat) : Int) := by rw [← IntWalk.i64_left]; exact e1
  have hNNe : N * N = N * N := rfl
  generalize hQ : N * N = NN at *
  replace sI := Lib.hid sI
  replace sB := Lib.hid sB
  have G1 := Lib.hid hg1
  have G2 := Lib.hid hg2
  have G3 := Lib.hid hg3
  have HPL := Lib.hid hpl
  have HQ := Lib.hid hQ
  have H1 := Lib.hid h1
  have H2 := Lib.hid h2
  have H3 := Lib.hid h3
  clear hg1 hg2 hg3 hpl hNNe hQ h1 h2 h3
  go_enter Try.func73, Try.ntmps73
  go_wp2_with fail
  generalize hY : x.w.alloc _ = Y
  go_cut [9] from 12 (fun s9 wc => ∃ C g1 g2 g3 : Nat, s9 = .pointer (some ⟨C, 0, none⟩) ∧ Made Y wc N NN cI cB C g1 g2 g3)
  case first =>
    go_region
    all_goals (go_wp2_with fail; go_meet; case rel =>
      obtain ⟨h0, h1, h2, h3, hb⟩ := four Y _ _ _ _
      first | exact made_mk h0 h1 h2 h3 (by omega) (by omega) hb | exact made_mk h0 h1 h3 h2 (by omega) (by omega) hb | exact made_mk h0 h2 h1 h3 (by omega) (by omega) hb | exact made_mk h0 h2 h3 h1 (by omega) (by omega) hb | exact made_mk h0 h3 h1 h2 (by omega) (by omega) hb | exact made_mk h0 h3 h2 h1 (by omega) (by omega) hb | exact made_mk h1 h0 h2 h3 (by omega) (by omega) hb | exact made_mk h1 h0 h3 h2 (by omega) (by omega) hb | exact made_mk h1 h2 h0 h3 (by omega) (by omega) hb | exact made_mk h1 h2 h3 h0 (by omega) (by omega) hb | exact made_mk h1 h3 h0 h2 (by omega) (by omega) hb | exact made_mk h1 h3 h2 h0 (by omega) (by omega) hb | exact made_mk h2 h0 h1 h3 (by omega) (by omega) hb | exact made_mk h2 h0 h3 h1 (by omega) (by omega) hb | exact made_mk h2 h1 h0 h3 (by omega) (by omega) hb | exact made_mk h2 h1 h3 h0 (by omega) (by omega) hb | exact made_mk h2 h3 h0 h1 (by omega) (by omega) hb | exact made_mk h2 h3 h1 h0 (by omega) (by omega) hb | exact made_mk h3 h0 h1 h2 (by omega) (by omega) hb | exact made_mk h3 h0 h2 h1 (by omega) (by omega) hb | exact made_mk h3 h1 h0 h2 (by omega) (by omega) hb | exact made_mk h3 h1 h2 h0 (by omega) (by omega) hb | exact made_mk h3 h2 h0 h1 (by omega) (by omega) hb | exact made_mk h3 h2 h1 h0 (by omega) (by omega) hb)
  case rest =>
    obtain ⟨C, g1, g2, g3, rfl, hM⟩ := hcut
    obtain ⟨ma, mb1, mb2, mb3, ml, md, me⟩ := hM
    obtain ⟨bB, hYs, belY⟩ : Y.heap[x.w.heap.size]? = some (.cells #[.int .i64 0, .slice none 0 0, .slice none 0 0, .slice none 0 0] 27 (0, 0)) ∧ x.w.heap.size ≤ Y.heap.size ∧ Below x.w.heap.size x.w Y := by
      subst hY
      refine ⟨?_, by simp, (Below.refl _ _).alloc (Nat.le_refl _) _⟩
      show (x.w.heap.push _)[x.w.heap.size]? = _
      rw [Array.getElem?_push, if_pos rfl]
    have hxW := x.size
    generalize hBB : x.w.heap.size = B at *
    obtain ⟨F1, hF1⟩ : ∃ F : Nat → Value, F = fun i => .int .i64 (f1 (i / N) (i % N)) := ⟨_, rfl⟩
    obtain ⟨F2, hF2⟩ : ∃ F : Nat → Value, F = fun i => .int .i64 (f2 (i / N) (i % N)) := ⟨_, rfl⟩
    obtain ⟨F3, hF3⟩ : ∃ F : Nat → Value, F = fun i => .bool (f3 (i / N) (i % N)) := ⟨_, rfl⟩
    have st0 : Bld Y wc C g1 g2 g3 N NN 0 0 0 F1 F2 F3 :=
      ⟨ma, ⟨cI, mb1, sI.out, fun i hi => by omega⟩, ⟨cI, mb2, sI.out, fun i hi => by omega⟩, ⟨cB, mb3, sB.out, fun i hi => by omega⟩, ml, md, me⟩
    clear ma mb1 mb2 mb3 ml me sI sB hY e0 rI rB e1 e2
    have n1 : C ≠ g1 := md.2.2.2.1
    have n2 : C ≠ g2 := md.2.2.2.2.1
    have n3 : C ≠ g3 := md.2.2.2.2.2
    have FV1 : Hid (∀ a b, b < N → F1 (a * N + b) = .int .i64 (f1 a b)) := fun a b hb => by rw [hF1]; obtain ⟨p, q⟩ := pair_div (a := a) hb; show Value.int .i64 (f1 ((a * N + b) / N) ((a * N + b) % N)) = _; rw [p, q]
    have FV2 : Hid (∀ a b, b < N → F2 (a * N + b) = .int .i64 (f2 a b)) := fun a b hb => by rw [hF2]; obtain ⟨p, q⟩ := pair_div (a := a) hb; show Value.int .i64 (f2 ((a * N + b) / N) ((a * N + b) % N)) = _; rw [p, q]
    have FV3 : Hid (∀ a b, b < N → F3 (a * N + b) = .bool (f3 a b)) := fun a b hb => by rw [hF3]; obtain ⟨p, q⟩ := pair_div (a := a) hb; show Value.bool (f3 ((a * N + b) / N) ((a * N + b) % N)) = _; rw [p, q]
    replace hF1 := Lib.hid hF1
    replace hF2 := Lib.hid hF2
    replace hF3 := Lib.hid hF3
    go_wp2_with fail
    go_loopw [27] (fun i wr => ∃ k1 : Nat, i = .int .i64 k1 ∧ k1 ≤ N ∧ Hid (Bld Y wr C g1 g2 g3 N NN (k1 * N) (k1 * N) (k1 * N) F1 F2 F3)) (fun i _ => N - (intOf i).toNat)
    case atStart => exact ⟨0, rfl, by omega, by rw [Nat.zero_mul]; exact st0⟩
    case round =>
      obtain ⟨k1, rfl, hk1, ST⟩ := hrel
      by_cases hlt1 : k1 < N
      · have hlt1' : (k1 : Int) < (N : Int) := by omega
        go_wp2_with fail
        go_loopw [31] (fun i wr => ∃ k2 : Nat, i = .int .i64 k2 ∧ k2 ≤ N ∧ Hid (Bld Y wr C g1 g2 g3 N NN (k1 * N + k2) (k1 * N + k2) (k1 * N + k2) F1 F2 F3)) (fun i _ => N - (intOf i).toNat)
        case atStart => exact ⟨0, rfl, by omega, by rw [Nat.add_zero]; exact ST.out⟩
        case round =>
          obtain ⟨k2, rfl, hk2, ST2⟩ := hrel
          by_cases hlt2 : k2 < N
          · have hlt2' : (k2 : Int) < (N : Int) := by omega
            obtain ⟨PP, hPP⟩ : ∃ PP, k1 * N = PP := ⟨_, rfl⟩
            have hlt3 : PP + k2 < NN := hPP ▸ HPL.out k1 k2 hlt1 hlt2
            have hpm : (k1 : Int) * (N : Int) = (PP : Int) := by rw [← hPP]; simp
            have fm1 : F1 (PP + k2) = .int .i64 (f1 k1 k2) := hPP ▸ FV1.out k1 k2 hlt2
            have fm2 : F2 (PP + k2) = .int .i64 (f2 k1 k2) := hPP ▸ FV2.out k1 k2 hlt2
            have fm3 : F3 (PP + k2) = .bool (f3 k1 k2) := hPP ▸ FV3.out k1 k2 hlt2
            have sa : Bld Y wr C g1 g2 g3 N NN (PP + k2) (PP + k2) (PP + k2) F1 F2 F3 := hPP ▸ ST2.out
            have hp1 : PP ≤ 1000 := by omega
            have HPP := Lib.hid hPP
            have ix1 : (PP : Int) + (k2 : Int) < (NN : Int) := by omega
            have ix2 : 0 ≤ (PP : Int) + (k2 : Int) := by omega
            have ix3 : ((PP : Int) + (k2 : Int)).toNat = PP + k2 := by omega
            have hb3 : -9223372036854775808 ≤ (k2 : Int) + 1 ∧ (k2 : Int) + 1 ≤ 9223372036854775807 := ⟨by omega, by omega⟩
            have b1 : -9223372036854775808 ≤ (PP : Int) ∧ (PP : Int) ≤ 9223372036854775807 := ⟨by omega, by omega⟩
            have b2 : -9223372036854775808 ≤ (PP : Int) + (k2 : Int) ∧ (PP : Int) + (k2 : Int) ≤ 9223372036854775807 := ⟨by omega, by omega⟩
            have w1 : IntKind.i64.wrap ((k1 : Int) * (N : Int)) = (PP : Int) := by rw [hpm]; exact IntWalk.i64_in _ b1
            have w2 : wrap64 ((k1 : Int) * (N : Int)) = (PP : Int) := by rw [← IntWalk.i64_left]; exact w1
            have w3 : IntKind.i64.wrap ((PP : Int) + (k2 : Int)) = (PP : Int) + (k2 : Int) := IntWalk.i64_in _ b2
            have b3 : -9223372036854775808 ≤ (k2 : Int) + 1 ∧ (k2 : Int) + 1 ≤ 9223372036854775807 := hb3
            have w4 : IntKind.i64.wrap ((k2 : Int) + 1) = (k2 : Int) + 1 := IntWalk.i64_in _ b3
            have w5 : wrap64 ((k2 : Int) + 1) = (k2 : Int) + 1 := by rw [← IntWalk.i64_left]; exact w4
            have HK2 : Hid (k2 + 1 ≤ N ∧ (k2 : Int) < (N : Int)) := ⟨hlt2, hlt2'⟩
            clear b1 b2 b3 hb3
            clear hPP hpm ST ST2
            obtain ⟨yb, rfl⟩ : ∃ y : Ext W, wr = y.w := ⟨x.on (by rw [hBB]; exact belY.trans (sa.bel.mono hYs)), rfl⟩
            go_wp2_with fail
            obtain ⟨v0, ho⟩ := sa.t1.old hlt3
            have hz := sa.t1.free
            have hf := sa.f1
            have hcl : ∀ y : Ext yb.w, Calls Try.prog 74 #[.int .i64 k1, .int .i64 k2, .pointer (some ⟨mc, 0, none⟩)] y.w (Ans yb.w (.int .i64 (f1 k1 k2))) := fun y => (H1.out (yb.trans y) k1 k2 hlt1 hlt2).mono fun _ _ ⟨he, z, hw⟩ => ⟨he, y.trans z, hw⟩
            go_region_held3 (fun w' => w'.cell? ⟨C, 1, none⟩ = some (.slice (some ⟨g1, 0, none⟩) NN NN)) (first | exact hf (Ext.self yb.w).drew | exact hf yd | exact (World.cell?_of_block (a := ⟨C, 1, none⟩) (set_other rfl n1)).trans (hf yd))
              ((go_at_call 74; (with_reducible refine Calls.mono (hcl (Ext.self yb.w).drew) ?_); rintro e w' ⟨rfl, yd, rfl⟩))
            go_wp2_with fail
            generalize hw1 : World.setCell _ _ _ = w1
            have sb := sa.set1 hlt3 yd (w' := w1) (by rw [← hw1, fm1])
            clear hw1 ho hz hf hcl v0 sa
            obtain ⟨yb, rfl⟩ : ∃ y : Ext W, w1 = y.w := ⟨x.on (by rw [hBB]; exact belY.trans (sb.bel.mono hYs)), rfl⟩
            obtain ⟨v0, ho⟩ := sb.t2.old hlt3
            have hz := sb.t2.free
            have hf := sb.f2
            have hcl : ∀ y : Ext yb.w, Calls Try.prog 75 #[.int .i64 k1, .int .i64 k2, .pointer (some ⟨mc, 0, none⟩)] y.w (Ans yb.w (.int .i64 (f2 k1 k2))) := fun y => (H2.out (yb.trans y) k1 k2 hlt1 hlt2).mono fun _ _ ⟨he, z, hw⟩ => ⟨he, y.trans z, hw⟩
            go_region_held3 (fun w' => w'.cell? ⟨C, 2, none⟩ = some (.slice (some ⟨g2, 0, none⟩) NN NN)) (first | exact hf (Ext.self yb.w).drew | exact hf yd | exact (World.cell?_of_block (a := ⟨C, 2, none⟩) (set_other rfl n2)).trans (hf yd))
              ((go_at_call 75; (with_reducible refine Calls.mono (hcl (Ext.self yb.w).drew) ?_); rintro e w' ⟨rfl, yd, rfl⟩))
            go_wp2_with fail
            generalize hw2 : World.setCell _ _ _ = w2
            have sc := sb.set2 hlt3 yd (w' := w2) (by rw [← hw2, fm2])
            clear hw2 ho hz hf hcl v0 sb
            obtain ⟨yb, rfl⟩ : ∃ y : Ext W, w2 = y.w := ⟨x.on (by rw [hBB]; exact belY.trans (sc.bel.mono hYs)), rfl⟩
            obtain ⟨v0, ho⟩ := sc.t3.old hlt3
            have hz := sc.t3.free
            have hf := sc.f3
            have hcl : ∀ y : Ext yb.w, Calls Try.prog 76 #[.int .i64 k1, .int .i64 k2, .pointer (some ⟨mc, 0, none⟩)] y.w (Ans yb.w (.bool (f3 k1 k2))) := fun y => (H3.out (yb.trans y) k1 k2 hlt1 hlt2).mono fun _ _ ⟨he, z, hw⟩ => ⟨he, y.trans z, hw⟩
            go_region_held3 (fun w' => w'.cell? ⟨C, 3, none⟩ = some (.slice (some ⟨g3, 0, none⟩) NN NN)) (first | exact hf (Ext.self yb.w).drew | exact hf yd | exact (World.cell?_of_block (a := ⟨C, 3, none⟩) (set_other rfl n3)).trans (hf yd))
              ((go_at_call 76; (with_reducible refine Calls.mono (hcl (Ext.self yb.w).drew) ?_); rintro e w' ⟨rfl, yd, rfl⟩))
            go_wp2_with fail
            generalize hw3 : World.setCell _ _ _ = w3
            have sd := sc.set3 hlt3 yd (w' := w3) (by rw [← hw3, fm3])
            clear hw3 ho hz hf hcl v0 sc
            obtain ⟨yb, rfl⟩ : ∃ y : Ext W, w3 = y.w := ⟨x.on (by rw [hBB]; exact belY.trans (sd.bel.mono hYs)), rfl⟩
            clear w1 w2 w3 w4 w5
            obtain ⟨r1, r2⟩ := HK2.out
            go_roundw
            case rel => exact ⟨k2 + 1, by go_num, r1, by have e := HPP.out; subst e; exact sd⟩
            case measure => simp [intOf]; omega
          · have hlt2' : ¬ (k2 : Int) < (N : Int) := by omega
            go_wp2_with fail
            go_roundw
            case rel =>
              refine ⟨k1 + 1, by go_num, by omega, ?_⟩
              have e : (k1 + 1) * N = k1 * N + k2 := by rw [Nat.add_mul, Nat.one_mul]; omega
              rw [e]
              exact ST2.out
            case measure => simp [intOf]; omega
      · have hlt1' : ¬ (k1 : Int) < (N : Int) := by omega
        have hk : k1 = N := by omega
        have st : Bld Y wr C g1 g2 g3 N NN NN NN NN F1 F2 F3 := by
          have := ST.out
          rw [hk, HQ.out] at this
          exact this
        clear ST hk
        have bBw : wr.heap[B]? = some (.cells #[.int .i64 0, .slice none 0 0, .slice none 0 0, .slice none 0 0] 27 (0, 0)) := (st.bel.block B (Array.getElem?_eq_some_iff.1 bB).1).trans bB
        have hBlt : B < Y.heap.size := (Array.getElem?_eq_some_iff.1 bB).1
        have c0 := blk_cell st.blk 0
        have c1 := blk_cell st.blk 1
        have c2 := blk_cell st.blk 2
        have c3 := blk_cell st.blk 3
        have n0 := blk_cell bBw 0
        have n1 := blk_cell bBw 1
        have n2 := blk_cell bBw 2
        have n3 := blk_cell bBw 3
        have p0 := blk_free bBw 0
        have p1 := blk_free bBw 1
        have p2 := blk_free bBw 2
        have p3 := blk_free bBw 3
        simp at c0 c1 c2 c3 n0 n1 n2 n3
        have ST := Lib.hid st
        have HBB := Lib.hid hBB
        clear st
        go_wp2
        clear c0 c1 c2 c3 n0 n1 n2 n3 p0 p1 p2 p3
        generalize hY1 : wr.setCell _ _ = Y1
        generalize hY2 : Y1.setCell _ _ = Y2
        generalize hY3 : Y2.setCell _ _ = Y3
        generalize hY4 : Y3.setCell _ _ = Y4
        have q5 := set_blk (set_blk (set_blk (set_blk bBw 0 _ hY1) 1 _ hY2) 2 _ hY3) 3 _ hY4
        simp at q5
        have r0 := blk_cell q5 0
        have r1 := blk_cell q5 1
        have r2 := blk_cell q5 2
        have r3 := blk_cell q5 3
        simp at r0 r1 r2 r3
        have hsame : ∀ k, k ≠ B → Y4.heap[k]? = wr.heap[k]? := fun k hk => by
          rw [set_other hY4 hk, set_other hY3 hk, set_other hY2 hk, set_other hY1 hk]
        have belW : Below W.heap.size W wr := x.below.trans ((belY.trans (ST.out.bel.mono hYs)).mono hxW)
        have belD : Below W.heap.size W Y4 := by
          subst hY4; subst hY3; subst hY2; subst hY1
          exact ((((belW.setCell hxW _).setCell hxW _).setCell hxW _).setCell hxW _)
        have L1 : (grid N f1).length = NN := by rw [G1.out]; simp
        have L2 : (grid N f2).length = NN := by rw [G2.out]; simp
        have L3 : (grid N f3).length = NN := by rw [G3.out]; simp
        obtain ⟨lo0, lo1, lo2, lo3⟩ := ST.out.lo
        have o1 := (ST.out.t1.keep (hsame g1 (by omega))).own (base := W.heap.size) (by omega) hNN
        have o2 := (ST.out.t2.keep (hsame g2 (by omega))).own (base := W.heap.size) (by omega) hNN
        have o3 := (ST.out.t3.keep (hsame g3 (by omega))).own (base := W.heap.size) (by omega) hNN
        refine bodyPost_ret (v := .agg #[.int .i64 N, .slice (some ⟨g1, 0, none⟩) NN NN, .slice (some ⟨g2, 0, none⟩) NN NN, .slice (some ⟨g3, 0, none⟩) NN NN]) (by simp [results, Try.results73, go_sem, r0, r1, r2, r3]) rfl ?_
        refine ⟨⟨some ⟨g1, 0, none⟩, some ⟨g2, 0, none⟩, some ⟨g3, 0, none⟩, NN, NN, NN⟩, ⟨Y4, belD⟩, by simp only [Ref.val, L1, L2, L3], rfl, ?_⟩
        dsimp only
        rw [L1, L2, L3]
        have m1 : (grid N f1).map (Value.int .i64) = (List.range NN).map F1 := by rw [G1.out, hF1.out, List.map_map]; rfl
        have m2 : (grid N f2).map (Value.int .i64) = (List.range NN).map F2 := by rw [G2.out, hF2.out, List.map_map]; rfl
        have m3 : (grid N f3).map Value.bool = (List.range NN).map F3 := by rw [G3.out, hF3.out, List.map_map]; rfl
        rw [m1, m2, m3]
        obtain ⟨e1, e2, e3, _⟩ := md
        exact ⟨o1, o2, o3, .inr (by simp [Value.ownBlock]; exact e1), .inr (by simp [Value.ownBlock]; exact e2), .inr (by simp [Value.ownBlock]; exact e3)⟩

end Go.Proofs.Ytkokmpdmmfghhaa
