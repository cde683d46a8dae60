
/- The model's default terms. -/
import Derived.Test.YtjknnlnkgpoceaaDoorKDefS
import Derived.Test.YtjknnlnkgpoceaaDoorKKidsM
import Derived.Test.YtjknnlnkgpoceaaDoorGD
import Derived.Deep.RegionHeld3
import Derived.RegionTactic
import Derived.Outline
import Derived.Deep.Cut
set_option linter.unusedVariables false
set_option linter.unusedSimpArgs false
namespace Go.Proofs.YtjknnlnkgpoceaaDoor
open Go.RowKit

theorem bare_own (w : World) (op n : Int) : TmOwn w (.mk op n [] []) ⟨none, 0, none, 0⟩ (fun _ => False) :=
  .mk _ _ (fun _ => ⟨none, 0, none, 0⟩) [] (fun _ _ => False) _ (World.ownsRow_nil _ _ _ _) (World.ownsRow_nil _ _ _ _) (fun i k h => by simp [Tm.kids] at h) (fun i k h => by simp [Tm.kids] at h) (fun _ _ _ h => by simp [Tm.kids] at h) (fun _ _ h => by simp [Tm.kids] at h) (fun g h => by simp [ob] at h) (fun g => by simp [ob, Tm.kids])
/-- The result's box is filled. -/
theorem dft_end {W V Y : World} {BB : Nat} {T : TypeId} {z0 z1 z2 z3 : Value} {t : Tm} {r : TV} {NB : Nat → Prop} (bV : V.heap[BB]? = some (.cells #[z0, z1, z2, z3] T (0, 0))) (own : TmOwn V t r NB) (hlo : ∀ g, NB g → W.heap.size ≤ g ∧ g ≠ BB) (bel : Below W.heap.size W V) (hBB : W.heap.size ≤ BB)
    (hY : (((V.setCell ⟨BB, 0, none⟩ (.int .i64 t.op)).setCell ⟨BB, 1, none⟩ (.int .i64 t.n)).setCell ⟨BB, 2, none⟩ (.slice r.a t.ty.length r.c)).setCell ⟨BB, 3, none⟩ (.slice r.b t.kids.length r.d) = Y) :
    (∃ (NB : Nat → Prop) (y : Ext W), Y = y.w ∧ TmOwn y.w t r NB ∧ ∀ g, NB g → W.heap.size ≤ g) ∧ Y.cell? ⟨BB, 0, none⟩ = some (.int .i64 t.op) ∧ Y.cell? ⟨BB, 1, none⟩ = some (.int .i64 t.n) ∧ Y.cell? ⟨BB, 2, none⟩ = some (.slice r.a t.ty.length r.c) ∧ Y.cell? ⟨BB, 3, none⟩ = some (.slice r.b t.kids.length r.d) := by
  obtain ⟨b1, same, -, c0, c1, c2, c3⟩ := ret4 (W := W) bel hBB bV hY
  exact ⟨⟨NB, ⟨Y, b1⟩, rfl, own.keep fun g hg => same g (hlo g hg).2, fun g hg => (hlo g hg).1⟩, c0, c1, c2, c3⟩

set_option maxRecDepth 20000 in
set_option maxHeartbeats 8000000 in
theorem l5Default_ans (T : Ty) : ∀ (_ : T.Ok) {W : World} {b o c : Nat} (_ : Row W (Value.int .i64) (some ⟨b, o, none⟩) T.enc) (_ : T.enc.length ≤ 40) (_ : T.enc.length ≤ c) (x : Ext W),
    Calls Tryd.prog 105 #[.slice (some ⟨b, o, none⟩) T.enc.length c] x.w (NewTmO W T.dft) := by
  induction T with
  | leaf =>
    intro hok W b o c hr hl hc x
    obtain ⟨xx, hxx⟩ : ∃ y : Ext W, x = y := ⟨x, rfl⟩
    rw [hxx]
    clear hxx x
    have m0 : ∀ y : Ext W, y.w.cell? ⟨b, o, none⟩ = some (.int .i64 0) := fun y => y.cell (row_head hr (l' := []) rfl)
    have hlp : 0 < Ty.leaf.enc.length := Ty.enc_pos _
    generalize Ty.leaf.enc.length = len at *
    have hlp' : (0 : Int) < (len : Int) := by omega
    clear hr hok
    go_enter Tryd.func105, Tryd.ntmps105
    go_upto_region 1 with fail
    have hxW := xx.size
    generalize hWa : xx.w.alloc _ = Wa
    generalize hB : xx.w.heap.size = BB at *
    obtain ⟨bA, sA, bel⟩ := blocks1 hB hWa
    have belA : Below W.heap.size W Wa := xx.below.trans (bel.mono (by omega))
    clear hWa bel
    have m1 : Wa.cell? ⟨b, o, none⟩ = some (.int .i64 0) := m0 ⟨Wa, belA⟩
    clear m0
    have n0 := blk_cell bA 0
    have n1 := blk_cell bA 1
    have n2 := blk_cell bA 2
    have n3 := blk_cell bA 3
    have p0 := blk_free bA 0
    have p1 := blk_free bA 1
    have p2 := blk_free bA 2
    have p3 := blk_free bA 3
    simp at n0 n1 n2 n3
    go_wp2
    clear n0 n1 n2 n3 p0 p1 p2 p3
    clear m1
    generalize hY : World.setCell _ _ _ = Y
    obtain ⟨⟨NB9, y9, rfl, own9, lo9⟩, r0, r1, r2, r3⟩ := dft_end (W := W) bA (bare_own Wa 1 0) (fun g h => h.elim) (belA) hxW hY
    simp only [Tm.op, Tm.n, Tm.ty, Tm.kids, List.length_cons, List.length_nil] at r0 r1 r2 r3
    refine bodyPost_ret (v := TV.val ⟨none, 0, none, 0⟩ (.mk 1 0 [] [])) (by simp [results, Tryd.results105, go_sem, r0, r1, r2, r3, TV.val, Tm.op, Tm.n, Tm.ty, Tm.kids]) rfl ?_
    exact ⟨_, NB9, y9, rfl, rfl, own9, lo9⟩
  | one cc A ihA =>
    intro hok W b o c hr hl hc x
    obtain ⟨xx, hxx⟩ : ∃ y : Ext W, x = y := ⟨x, rfl⟩
    rw [hxx]
    clear hxx x
    have m0 : ∀ y : Ext W, y.w.cell? ⟨b, o, none⟩ = some (.int .i64 cc) := fun y => y.cell (row_head hr (l' := A.enc) rfl)
    have hlp : 0 < (Ty.one cc A).enc.length := Ty.enc_pos _
    have c36 : 0 ≤ cc ∧ cc ≤ 36 := kidsOf_in (by rw [hok.1]; omega)
    have GC : ∀ (U : World) (y : Ext U), Calls Tryd.prog 57 #[.int .i64 cc] y.w (Ans U (.int .i64 (gradeOf cc))) := fun U y => l2Grade_ans (W := U) cc c36.1 (by omega) y
    have PK : Hid (∀ (U : Ext W) (k : Nat) (p : Ty), (Ty.one cc A).parts[k]? = some p → Calls Tryd.prog 79 #[.slice (some ⟨b, o, none⟩) (Ty.one cc A).enc.length c, .int .i64 k] U.w (NewRow U.w 22 3 (Value.int .i64) p.enc)) := fun U k p hp => l2PartK_ans (W := U.w) hok (hr.ext U) (by omega) hc hp (Ext.self U.w)
    have hlA : A.enc.length ≤ 40 := by have := Ty.len_one cc A; omega
    have IH : Hid (∀ {U : World} {b o c : Nat} (_ : Row U (Value.int .i64) (some ⟨b, o, none⟩) A.enc) (_ : A.enc.length ≤ c), Calls Tryd.prog 105 #[.slice (some ⟨b, o, none⟩) A.enc.length c] U (NewTmO U A.dft)) := fun {U} {b o c} hr hc => ihA hok.2 hr hlA hc (Ext.self U)
    have hbx := Ty.bx_of hok.1
    have HBC : ∀ (U : World) (y : Ext U), Calls Tryd.prog 109 #[.int .i64 cc] y.w (Ans U (.bool true)) := fun U y => l2Box_ans (W := U) cc true (by simpa using hbx) y
    have f0 : (cc == 0) = false := by rw [beq_eq_false_iff_ne]; unfold Bx at hbx; omega
    generalize (Ty.one cc A).enc.length = len at *
    have hlp' : (0 : Int) < (len : Int) := by omega
    clear hr hok ihA hbx c36 hl
    show Calls _ _ _ _ (NewTmO W (.mk 11 (gradeOf cc) [] [A.dft]))
    generalize gradeOf cc = gg at *
    go_enter Tryd.func105, Tryd.ntmps105
    go_upto_region 1 with fail
    have hxW := xx.size
    generalize hWa : xx.w.alloc _ = Wa
    generalize hB : xx.w.heap.size = BB at *
    obtain ⟨bA, sA, bel⟩ := blocks1 hB hWa
    have belA : Below W.heap.size W Wa := xx.below.trans (bel.mono (by omega))
    clear hWa bel
    have m1 : Wa.cell? ⟨b, o, none⟩ = some (.int .i64 cc) := m0 ⟨Wa, belA⟩
    go_wp2_with fail
    refine Calls.mono (PK.out ⟨Wa, belA⟩ 0 A rfl) ?_
    rintro e w' ⟨v, y1, rfl, rfl, own1⟩
    obtain ⟨g1, d1, rfl, row1, cap1, -, -⟩ := own_some own1 A.enc_pos
    clear own1 m1
    go_wp2_with fail
    refine Calls.mono (HBC _ (Ext.self y1.w)) ?_
    rintro e w' ⟨rfl, y2, rfl⟩
    go_wp2_with fail
    refine Calls.mono (GC _ y2) ?_
    rintro e w' ⟨rfl, y3, rfl⟩
    go_wp2_with fail
    refine Calls.mono (IH.out (row1.ext y3) cap1) ?_
    rintro e w' ⟨r4, K4, y4, rfl, rfl, own4, lo4⟩
    unfold TV.val
    have bA4 := y4.blk (y3.blk (y1.blk bA))
    have bel4 : Below W.heap.size W y4.w := (belA.trans (y1.below.mono belA.size)).trans ((y3.below.mono (Nat.le_trans belA.size y1.size)).trans (y4.below.mono (Nat.le_trans belA.size (Nat.le_trans y1.size y3.size))))
    have s4 : BB < y4.w.heap.size := (Array.getElem?_eq_some_iff.1 bA4).1
    have z1 : Wa.heap.size ≤ y1.w.heap.size := y1.size
    have z3 : y1.w.heap.size ≤ y3.w.heap.size := y3.size
    have k4 : ∀ g, K4 g → BB < g ∧ g < y4.w.heap.size := fun g h => ⟨by have := lo4 g h; omega, own4.lt g h⟩
    generalize hV : y4.w.alloc (.cells #[.int .i64 A.dft.op, .int .i64 A.dft.n, .slice r4.a A.dft.ty.length r4.c, .slice r4.b A.dft.kids.length r4.d] 43) = V
    have ownV := own_one (op := 11) (n := gg) (l := []) (a := none) (c := 0) own4 (World.ownsRow_nil _ _ _ _) (fun g h => by simp [ob]) hV
    have bV : V.heap[BB]? = some (.cells #[.int .i64 0, .int .i64 0, .slice none 0 0, .slice none 0 0] 43 (0, 0)) := by rw [← hV]; exact ((Ext.self y4.w).alloc _).blk bA4
    have belV : Below W.heap.size W V := by rw [← hV]; exact bel4.alloc bel4.size _
    have n0 := blk_cell bV 0
    have n1 := blk_cell bV 1
    have n2 := blk_cell bV 2
    have n3 := blk_cell bV 3
    have p0 := blk_free bV 0
    have p1 := blk_free bV 1
    have p2 := blk_free bV 2
    have p3 := blk_free bV 3
    simp at n0 n1 n2 n3
    go_wp2
    clear n0 n1 n2 n3 p0 p1 p2 p3
    generalize hY : World.setCell _ _ _ = Y
    obtain ⟨⟨NB9, y9, rfl, own9, lo9⟩, r0, r1, r2, r3⟩ := dft_end (W := W) bV (ownV) (fun g h => by rcases h with h | h | h; simp [ob] at h; (cases h; exact ⟨by omega, by omega⟩); (have := k4 g h; exact ⟨by omega, by omega⟩)) (belV) hxW hY
    simp only [Tm.op, Tm.n, Tm.ty, Tm.kids, List.length_cons, List.length_nil] at r0 r1 r2 r3
    refine bodyPost_ret (v := TV.val ⟨none, 0, some ⟨y4.w.heap.size, 0, none⟩, 1⟩ (.mk 11 gg [] [A.dft])) (by simp [results, Tryd.results105, go_sem, r0, r1, r2, r3, TV.val, Tm.op, Tm.n, Tm.ty, Tm.kids]) rfl ?_
    exact ⟨_, NB9, y9, rfl, rfl, own9, lo9⟩
  | two cc A B ihA ihB =>
    intro hok W b o c hr hl hc x
    obtain ⟨xx, hxx⟩ : ∃ y : Ext W, x = y := ⟨x, rfl⟩
    rw [hxx]
    clear hxx x
    have m0 : ∀ y : Ext W, y.w.cell? ⟨b, o, none⟩ = some (.int .i64 cc) := fun y => y.cell (row_head hr (l' := A.enc ++ B.enc) rfl)
    have hlp : 0 < (Ty.two cc A B).enc.length := Ty.enc_pos _
    have c36 : 0 ≤ cc ∧ cc ≤ 36 := kidsOf_in (by rw [hok.1]; omega)
    have GC : ∀ (U : World) (y : Ext U), Calls Tryd.prog 57 #[.int .i64 cc] y.w (Ans U (.int .i64 (gradeOf cc))) := fun U y => l2Grade_ans (W := U) cc c36.1 (by omega) y
    have PK : Hid (∀ (U : Ext W) (k : Nat) (p : Ty), (Ty.two cc A B).parts[k]? = some p → Calls Tryd.prog 79 #[.slice (some ⟨b, o, none⟩) (Ty.two cc A B).enc.length c, .int .i64 k] U.w (NewRow U.w 22 3 (Value.int .i64) p.enc)) := fun U k p hp => l2PartK_ans (W := U.w) hok (hr.ext U) (by omega) hc hp (Ext.self U.w)
    have hlA : A.enc.length ≤ 40 := by have := Ty.len_two cc A B; omega
    have hlB : B.enc.length ≤ 40 := by have := Ty.len_two cc A B; omega
    have IHA : Hid (∀ {U : World} {b o c : Nat} (_ : Row U (Value.int .i64) (some ⟨b, o, none⟩) A.enc) (_ : A.enc.length ≤ c), Calls Tryd.prog 105 #[.slice (some ⟨b, o, none⟩) A.enc.length c] U (NewTmO U A.dft)) := fun {U} {b o c} hr hc => ihA hok.2.1 hr hlA hc (Ext.self U)
    have IHB : Hid (∀ {U : World} {b o c : Nat} (_ : Row U (Value.int .i64) (some ⟨b, o, none⟩) B.enc) (_ : B.enc.length ≤ c), Calls Tryd.prog 105 #[.slice (some ⟨b, o, none⟩) B.enc.length c] U (NewTmO U B.dft)) := fun {U} {b o c} hr hc => ihB hok.2.2 hr hlB hc (Ext.self U)
    have htw := Ty.two_of hok.1
    have HBC : ∀ (U : World) (y : Ext U), Calls Tryd.prog 109 #[.int .i64 cc] y.w (Ans U (.bool false)) := fun U y => l2Box_ans (W := U) cc false (by simp; unfold Bx; unfold Arr at htw; omega) y
    have f0 : (cc == 0) = false := by rw [beq_eq_false_iff_ne]; unfold Arr at htw; omega
    generalize (Ty.two cc A B).enc.length = len at *
    have hlp' : (0 : Int) < (len : Int) := by omega
    clear hr hok ihA ihB c36 hl
    rcases htw with rfl | rfl | ha
    · rw [show (Ty.two 1 A B).dft = .mk 4 0 [] [A.dft, B.dft] from rfl]
      go_enter Tryd.func105, Tryd.ntmps105
      go_upto_region 1 with fail
      have hxW := xx.size
      generalize hWa : xx.w.alloc _ = Wa
      generalize hB : xx.w.heap.size = BB at *
      obtain ⟨bA, sA, bel⟩ := blocks1 hB hWa
      have belA : Below W.heap.size W Wa := xx.below.trans (bel.mono (by omega))
      clear hWa bel
      have m1 : Wa.cell? ⟨b, o, none⟩ = some (.int .i64 1) := m0 ⟨Wa, belA⟩
      go_wp2_with fail
      refine Calls.mono (PK.out ⟨Wa, belA⟩ 0 A rfl) ?_
      rintro e w' ⟨v, y1, rfl, rfl, own1⟩
      obtain ⟨g1, d1, rfl, row1, cap1, gb1, gl1⟩ := own_some own1 A.enc_pos
      have bel1 : Below W.heap.size W y1.w := below_ext belA y1
      clear m1
      go_wp2_with fail
      refine Calls.mono (HBC _ (Ext.self y1.w)) ?_
      rintro e w' ⟨rfl, y2, rfl⟩
      have bel2 : Below W.heap.size W y2.w := below_ext bel1 y2
      have z1 : Wa.heap.size ≤ y1.w.heap.size := y1.size
      have z2 : y1.w.heap.size ≤ y2.w.heap.size := y2.size
      have bA2 := y2.blk (y1.blk bA)
      go_wp2_with fail
      refine Calls.mono (IHA.out (row1.ext y2) cap1) ?_
      rintro e w' ⟨r4, K4, y4, rfl, rfl, own4, lo4⟩
      have bel4 : Below W.heap.size W y4.w := below_ext bel2 y4
      have lt4 := own4.lt
      go_wp2_with fail
      refine Calls.mono (PK.out ⟨y4.w, bel4⟩ 1 B rfl) ?_
      rintro e w' ⟨v, y5, rfl, rfl, own5⟩
      obtain ⟨g5, d5, rfl, row5, cap5, gb5, gl5⟩ := own_some own5 B.enc_pos
      have bel5 : Below W.heap.size W y5.w := below_ext bel4 y5
      go_wp2_with fail
      refine Calls.mono (IHB.out row5 cap5) ?_
      rintro e w' ⟨r6, K6, y6, rfl, rfl, own6, lo6⟩
      have bel6 : Below W.heap.size W y6.w := below_ext bel5 y6
      have lt6 := own6.lt
      unfold TV.val
      have bA9 := y6.blk (y5.blk (y4.blk bA2))
      have z4 : y2.w.heap.size ≤ y4.w.heap.size := y4.size
      have z5 : y4.w.heap.size ≤ y5.w.heap.size := y5.size
      have z6 : y5.w.heap.size ≤ y6.w.heap.size := y6.size
      have own4' := (own4.ext y5).ext y6
      generalize hV : y6.w.alloc (.cells #[.int .i64 A.dft.op, .int .i64 A.dft.n, .slice r4.a A.dft.ty.length r4.c, .slice r4.b A.dft.kids.length r4.d, .int .i64 B.dft.op, .int .i64 B.dft.n, .slice r6.a B.dft.ty.length r6.c, .slice r6.b B.dft.kids.length r6.d] 43) = V
      have ownV := own_two (op := 4) (n := 0) own4' own6 (fun g h1 h2 => by have := lt4 g h1; have : y5.w.heap.size ≤ g := lo6 g h2; omega) hV
      have bV : V.heap[BB]? = some (.cells #[.int .i64 0, .int .i64 0, .slice none 0 0, .slice none 0 0] 43 (0, 0)) := by rw [← hV]; exact ((Ext.self y6.w).alloc _).blk bA9
      have belV : Below W.heap.size W V := by rw [← hV]; exact bel6.alloc bel6.size _
      have s4 : BB < y2.w.heap.size := (Array.getElem?_eq_some_iff.1 bA2).1
      have n0 := blk_cell bV 0
      have n1 := blk_cell bV 1
      have n2 := blk_cell bV 2
      have n3 := blk_cell bV 3
      have p0 := blk_free bV 0
      have p1 := blk_free bV 1
      have p2 := blk_free bV 2
      have p3 := blk_free bV 3
      simp at n0 n1 n2 n3
      go_wp2
      clear n0 n1 n2 n3 p0 p1 p2 p3
      generalize hY : World.setCell _ _ _ = Y
      obtain ⟨⟨NB9, y9, rfl, own9, lo9⟩, r0, r1, r2, r3⟩ := dft_end (W := W) bV (ownV) (fun g h => by rcases h with h | h | h; (cases h; exact ⟨by omega, by omega⟩); (have : y2.w.heap.size ≤ g := lo4 g h; exact ⟨by omega, by omega⟩); (have : y5.w.heap.size ≤ g := lo6 g h; exact ⟨by omega, by omega⟩)) (belV) hxW hY
      simp only [Tm.op, Tm.n, Tm.ty, Tm.kids, List.length_cons, List.length_nil] at r0 r1 r2 r3
      refine bodyPost_ret (v := TV.val ⟨none, 0, some ⟨y6.w.heap.size, 0, none⟩, 2⟩ (.mk 4 0 [] [A.dft, B.dft])) (by simp [results, Tryd.results105, go_sem, r0, r1, r2, r3, TV.val, Tm.op, Tm.n, Tm.ty, Tm.kids]) rfl ?_
      exact ⟨_, NB9, y9, rfl, rfl, own9, lo9⟩
    · rw [show (Ty.two 2 A B).dft = .mk 6 0 B.enc [A.dft] from rfl]
      go_enter Tryd.func105, Tryd.ntmps105
      go_upto_region 1 with fail
      have hxW := xx.size
      generalize hWa : xx.w.alloc _ = Wa
      generalize hB : xx.w.heap.size = BB at *
      obtain ⟨bA, sA, bel⟩ := blocks1 hB hWa
      have belA : Below W.heap.size W Wa := xx.below.trans (bel.mono (by omega))
      clear hWa bel
      have m1 : Wa.cell? ⟨b, o, none⟩ = some (.int .i64 2) := m0 ⟨Wa, belA⟩
      go_wp2_with fail
      refine Calls.mono (PK.out ⟨Wa, belA⟩ 0 A rfl) ?_
      rintro e w' ⟨v, y1, rfl, rfl, own1⟩
      obtain ⟨g1, d1, rfl, row1, cap1, gb1, gl1⟩ := own_some own1 A.enc_pos
      have bel1 : Below W.heap.size W y1.w := below_ext belA y1
      clear m1
      go_wp2_with fail
      refine Calls.mono (HBC _ (Ext.self y1.w)) ?_
      rintro e w' ⟨rfl, y2, rfl⟩
      have bel2 : Below W.heap.size W y2.w := below_ext bel1 y2
      have z1 : Wa.heap.size ≤ y1.w.heap.size := y1.size
      have z2 : y1.w.heap.size ≤ y2.w.heap.size := y2.size
      have bA2 := y2.blk (y1.blk bA)
      go_wp2_with fail
      refine Calls.mono (PK.out ⟨y2.w, bel2⟩ 1 B rfl) ?_
      rintro e w' ⟨v, y5, rfl, rfl, own5⟩
      obtain ⟨g5, d5, rfl, row5, cap5, gb5, gl5⟩ := own_some own5 B.enc_pos
      have bel5 : Below W.heap.size W y5.w := below_ext bel2 y5
      go_wp2_with fail
      refine Calls.mono (IHA.out ((row1.ext y2).ext y5) cap1) ?_
      rintro e w' ⟨r6, K6, y6, rfl, rfl, own6, lo6⟩
      have bel6 : Below W.heap.size W y6.w := below_ext bel5 y6
      have lt6 := own6.lt
      unfold TV.val
      have bA9 := y6.blk (y5.blk bA2)
      have z5 : y2.w.heap.size ≤ y5.w.heap.size := y5.size
      have z6 : y5.w.heap.size ≤ y6.w.heap.size := y6.size
      have own5' : y6.w.ownsRow 0 3 1 (.slice (some ⟨g5, 0, none⟩) B.enc.length d5) B.enc.length (B.enc.map (Value.int .i64)) := owns_lower (owns_ext own5 y6) (Nat.zero_le _)
      generalize hV : y6.w.alloc (.cells #[.int .i64 A.dft.op, .int .i64 A.dft.n, .slice r6.a A.dft.ty.length r6.c, .slice r6.b A.dft.kids.length r6.d] 43) = V
      have ownV := own_one (op := 6) (n := 0) (l := B.enc) own6 own5' (fun g h1 h2 => by have : y5.w.heap.size ≤ g := lo6 g h1; have h9 : g5 = g := Option.some.inj h2; omega) hV
      have bV : V.heap[BB]? = some (.cells #[.int .i64 0, .int .i64 0, .slice none 0 0, .slice none 0 0] 43 (0, 0)) := by rw [← hV]; exact ((Ext.self y6.w).alloc _).blk bA9
      have belV : Below W.heap.size W V := by rw [← hV]; exact bel6.alloc bel6.size _
      have s4 : BB < y2.w.heap.size := (Array.getElem?_eq_some_iff.1 bA2).1
      have n0 := blk_cell bV 0
      have n1 := blk_cell bV 1
      have n2 := blk_cell bV 2
      have n3 := blk_cell bV 3
      have p0 := blk_free bV 0
      have p1 := blk_free bV 1
      have p2 := blk_free bV 2
      have p3 := blk_free bV 3
      simp at n0 n1 n2 n3
      go_wp2
      clear n0 n1 n2 n3 p0 p1 p2 p3
      generalize hY : World.setCell _ _ _ = Y
      obtain ⟨⟨NB9, y9, rfl, own9, lo9⟩, r0, r1, r2, r3⟩ := dft_end (W := W) bV (ownV) (fun g h => by rcases h with h | h | h; (have h9 : g5 = g := Option.some.inj h; have : y2.w.heap.size ≤ g5 := gb5; exact ⟨by omega, by omega⟩); (cases h; exact ⟨by omega, by omega⟩); (have : y5.w.heap.size ≤ g := lo6 g h; exact ⟨by omega, by omega⟩)) (belV) hxW hY
      simp only [Tm.op, Tm.n, Tm.ty, Tm.kids, List.length_cons, List.length_nil] at r0 r1 r2 r3
      refine bodyPost_ret (v := TV.val ⟨some ⟨g5, 0, none⟩, d5, some ⟨y6.w.heap.size, 0, none⟩, 1⟩ (.mk 6 0 B.enc [A.dft])) (by simp [results, Tryd.results105, go_sem, r0, r1, r2, r3, TV.val, Tm.op, Tm.n, Tm.ty, Tm.kids]) rfl ?_
      exact ⟨_, NB9, y9, rfl, rfl, own9, lo9⟩
    · have h3 : ¬ cc = 1 ∧ ¬ cc = 2 := by unfold Arr at ha; omega
      have f1 : (cc == 1) = false := by rw [beq_eq_false_iff_ne]; exact h3.1
      have f2 : (cc == 2) = false := by rw [beq_eq_false_iff_ne]; exact h3.2
      rw [show (Ty.two cc A B).dft = .mk 9 (gradeOf cc) A.enc [B.dft] by simp only [Ty.dft]; rw [if_neg h3.1, if_neg h3.2]]
      generalize gradeOf cc = gg at *
      clear h3 ha
      go_enter Tryd.func105, Tryd.ntmps105
      go_upto_region 1 with fail
      have hxW := xx.size
      generalize hWa : xx.w.alloc _ = Wa
      generalize hB : xx.w.heap.size = BB at *
      obtain ⟨bA, sA, bel⟩ := blocks1 hB hWa
      have belA : Below W.heap.size W Wa := xx.below.trans (bel.mono (by omega))
      clear hWa bel
      have m1 : Wa.cell? ⟨b, o, none⟩ = some (.int .i64 cc) := m0 ⟨Wa, belA⟩
      go_wp2_with fail
      refine Calls.mono (PK.out ⟨Wa, belA⟩ 0 A rfl) ?_
      rintro e w' ⟨v, y1, rfl, rfl, own1⟩
      obtain ⟨g1, d1, rfl, row1, cap1, gb1, gl1⟩ := own_some own1 A.enc_pos
      have bel1 : Below W.heap.size W y1.w := below_ext belA y1
      clear m1
      go_wp2_with fail
      refine Calls.mono (HBC _ (Ext.self y1.w)) ?_
      rintro e w' ⟨rfl, y2, rfl⟩
      have bel2 : Below W.heap.size W y2.w := below_ext bel1 y2
      have z1 : Wa.heap.size ≤ y1.w.heap.size := y1.size
      have z2 : y1.w.heap.size ≤ y2.w.heap.size := y2.size
      have bA2 := y2.blk (y1.blk bA)
      go_wp2_with fail
      refine Calls.mono (GC _ y2) ?_
      rintro e w' ⟨rfl, y3, rfl⟩
      have bel3 : Below W.heap.size W y3.w := below_ext bel1 y3
      have z3 : y1.w.heap.size ≤ y3.w.heap.size := y3.size
      have bA2 := y3.blk (y1.blk bA)
      go_wp2_with fail
      refine Calls.mono (PK.out ⟨y3.w, bel3⟩ 1 B rfl) ?_
      rintro e w' ⟨v, y5, rfl, rfl, own5⟩
      obtain ⟨g5, d5, rfl, row5, cap5, gb5, gl5⟩ := own_some own5 B.enc_pos
      have bel5 : Below W.heap.size W y5.w := below_ext bel3 y5
      go_wp2_with fail
      refine Calls.mono (IHB.out row5 cap5) ?_
      rintro e w' ⟨r6, K6, y6, rfl, rfl, own6, lo6⟩
      have bel6 : Below W.heap.size W y6.w := below_ext bel5 y6
      have lt6 := own6.lt
      unfold TV.val
      have bA9 := y6.blk (y5.blk bA2)
      have z5 : y3.w.heap.size ≤ y5.w.heap.size := y5.size
      have z6 : y5.w.heap.size ≤ y6.w.heap.size := y6.size
      have own1' : y6.w.ownsRow 0 3 1 (.slice (some ⟨g1, 0, none⟩) A.enc.length d1) A.enc.length (A.enc.map (Value.int .i64)) := owns_lower (owns_ext (owns_ext (owns_ext own1 y3) y5) y6) (Nat.zero_le _)
      have gb1' : Wa.heap.size ≤ g1 := gb1
      generalize hV : y6.w.alloc (.cells #[.int .i64 B.dft.op, .int .i64 B.dft.n, .slice r6.a B.dft.ty.length r6.c, .slice r6.b B.dft.kids.length r6.d] 43) = V
      have ownV := own_one (op := 9) (n := gg) (l := A.enc) own6 own1' (fun g h1 h2 => by have : y5.w.heap.size ≤ g := lo6 g h1; have h9 : g1 = g := Option.some.inj h2; omega) hV
      have bV : V.heap[BB]? = some (.cells #[.int .i64 0, .int .i64 0, .slice none 0 0, .slice none 0 0] 43 (0, 0)) := by rw [← hV]; exact ((Ext.self y6.w).alloc _).blk bA9
      have belV : Below W.heap.size W V := by rw [← hV]; exact bel6.alloc bel6.size _
      have s4 : BB < y3.w.heap.size := (Array.getElem?_eq_some_iff.1 bA2).1
      have n0 := blk_cell bV 0
      have n1 := blk_cell bV 1
      have n2 := blk_cell bV 2
      have n3 := blk_cell bV 3
      have p0 := blk_free bV 0
      have p1 := blk_free bV 1
      have p2 := blk_free bV 2
      have p3 := blk_free bV 3
      simp at n0 n1 n2 n3
      go_wp2
      clear n0 n1 n2 n3 p0 p1 p2 p3
      generalize hY : World.setCell _ _ _ = Y
      obtain ⟨⟨NB9, y9, rfl, own9, lo9⟩, r0, r1, r2, r3⟩ := dft_end (W := W) bV (ownV) (fun g h => by rcases h with h | h | h; (have h9 : g1 = g := Option.some.inj h; exact ⟨by omega, by omega⟩); (cases h; exact ⟨by omega, by omega⟩); (have : y5.w.heap.size ≤ g := lo6 g h; exact ⟨by omega, by omega⟩)) (belV) hxW hY
      simp only [Tm.op, Tm.n, Tm.ty, Tm.kids, List.length_cons, List.length_nil] at r0 r1 r2 r3
      refine bodyPost_ret (v := TV.val ⟨some ⟨g1, 0, none⟩, d1, some ⟨y6.w.heap.size, 0, none⟩, 1⟩ (.mk 9 gg A.enc [B.dft])) (by simp [results, Tryd.results105, go_sem, r0, r1, r2, r3, TV.val, Tm.op, Tm.n, Tm.ty, Tm.kids]) rfl ?_
      exact ⟨_, NB9, y9, rfl, rfl, own9, lo9⟩
end Go.Proofs.YtjknnlnkgpoceaaDoor
