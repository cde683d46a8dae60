
/- The program's values at places. -/
import Derived.Test.YtoefeijnnnioeaaDoorKAtM
import Derived.Test.YtoefeijnnnioeaaDoorKDefP
import Derived.Test.YtoefeijnnnioeaaDoorKKidsP
import Derived.Test.YtoefeijnnnioeaaDoorGW
set_option linter.unusedVariables false
set_option linter.unusedSimpArgs false
namespace Go.Proofs.YtoefeijnnnioeaaDoor
open Go.RowKit

set_option maxRecDepth 20000 in
set_option maxHeartbeats 16000000 in
theorem valueAt_ans (T : Ty) : ∀ (_ : T.Ok) (_ : T.Data) (_ : T.Cl) {W : World} (_ : Forms W) {b o c k : Nat} (_ : k < T.cnt) (_ : T.cnt ≤ 301) (_ : Row W (Value.int .i64) (some ⟨b, o, none⟩) T.enc) (_ : T.enc.length ≤ 40) (_ : T.enc.length ≤ c) (x : Ext W),
    Calls Tryd.prog 102 #[.slice (some ⟨b, o, none⟩) T.enc.length c, .int .i64 k] x.w (NewTmO W (T.at_ k)) := by
  induction T with
  | leaf =>
    intro hok hd hcl W F b o c k hk h3 hr hl hc x
    obtain ⟨xx, hxx⟩ : ∃ y : Ext W, x = y := ⟨x, rfl⟩
    rw [hxx]
    clear hxx x
    obtain ⟨lenT, hlenT⟩ : ∃ n, n = Ty.leaf.enc.length := ⟨_, rfl⟩
    have hlp : 0 < Ty.leaf.enc.length := Ty.enc_pos _
    have FAC : ∀ (U : World), Below W.heap.size W U → Forms U := fun U q => F.ext ⟨U, q⟩
    have RW0 : ∀ (U : World), Below W.heap.size W U → Row U (Value.int .i64) (some ⟨b, o, none⟩) Ty.leaf.enc := fun U q => hr.ext ⟨U, q⟩
    have PWC : Hid (∀ (U : World), Below W.heap.size W U → Calls Tryd.prog 131 #[.slice (some ⟨b, o, none⟩) Ty.leaf.enc.length c] U (NewRow U 51 22 id (sls b (o + 1) []))) := fun U q => partsWithin_ans (W := U) (FAC U q) (cc := 0) (ps := []) (by simp) (l := Ty.leaf.enc) rfl (RW0 U q) (by omega) (Ty.le36 hok) hc (Ext.self U)
    have m0 : ∀ y : Ext W, y.w.cell? ⟨b, o, none⟩ = some (.int .i64 (0)) := fun y => y.cell (row_head hr (l' := []) rfl)
    generalize Ty.leaf.enc.length = len at *
    clear hr hok F
    show Calls _ _ _ _ (NewTmO W (.mk 1 k [] []))
    have hlp' : (0 : Int) < (len : Int) := by omega
    clear hlenT
    go_enter Tryd.func102, Tryd.ntmps102
    go_upto_region 1 with fail
    have hxW := xx.size
    generalize hWa : xx.w.alloc _ = Wa
    generalize hB : xx.w.heap.size = BB at *
    obtain ⟨bA, sA, bel⟩ := blocks1 hB hWa
    have belA : Below W.heap.size W Wa := xx.below.trans (bel.mono (by omega))
    clear hWa bel
    obtain ⟨f0, f2, f3, f4, f6, FOC⟩ := form_some (FAC Wa belA) (0) 0 rfl (by first | decide | (unfold Arr at *; omega) | (unfold Bx at *; omega))
    have m1 : ∀ y : Ext Wa, y.w.cell? ⟨b, o, none⟩ = some (.int .i64 (0)) := fun y => m0 ⟨y.w, below_ext belA y⟩
    have m2 := m1 (Ext.self Wa)
    dsimp only at m2
    go_wp2_with fail
    refine Calls.mono (FOC (Ext.self Wa)) ?_
    rintro e w' ⟨rfl, yy, rfl⟩
    clear FOC m0 m1 m2
    go_wp2_with fail
    generalize hY : yy.w.alloc _ = Y1
    have bY := new_blk hY
    have belY : Below W.heap.size W Y1 := by rw [← hY]; exact (below_ext belA yy).alloc (Nat.le_trans belA.size yy.size) _
    have bA1 : Y1.heap[BB]? = some (.cells #[.int .i64 0, .int .i64 0, .slice none 0 0, .slice none 0 0] 33 (0, 0)) := by rw [← hY]; exact ((Ext.self yy.w).alloc _).blk (yy.blk bA)
    have zY : Wa.heap.size ≤ Y1.heap.size := by rw [← hY]; exact Nat.le_trans yy.size (by simp)
    generalize yy.w.heap.size = B1 at *
    clear hY yy
    refine Calls.mono (PWC.out Y1 belY) ?_
    clear PWC
    rintro e w' ⟨pv, zz, rfl, rfl, own⟩
    have belZ := below_ext belY zz
    have bZ := zz.blk bA1
    have zZ : Y1.heap.size ≤ zz.w.heap.size := zz.size
    have mF := blk_cell (zz.blk bY) 1
    simp at mF
    have n0 := blk_cell bZ 0
    have n1 := blk_cell bZ 1
    have n2 := blk_cell bZ 2
    have n3 := blk_cell bZ 3
    have p0 := blk_free bZ 0
    have p1 := blk_free bZ 1
    have p2 := blk_free bZ 2
    have p3 := blk_free bZ 3
    simp at n0 n1 n2 n3
    go_wp2
    clear n0 n1 n2 n3 p0 p1 p2 p3
    generalize hY : World.setCell _ _ _ = Y
    obtain ⟨⟨NB9, y9, rfl, own9, lo9⟩, r0, r1, r2, r3⟩ := dft_end (W := W) bZ (bare_own zz.w 1 k) (fun g h => h.elim) (belZ) hxW hY
    simp only [Tm.op, Tm.n, Tm.ty, Tm.kids, List.length_cons, List.length_nil] at r0 r1 r2 r3
    refine bodyPost_ret (v := TV.val ⟨none, 0, none, 0⟩ (.mk 1 k [] [])) (by simp [results, Tryd.results102, go_sem, r0, r1, r2, r3, TV.val, Tm.op, Tm.n, Tm.ty, Tm.kids]) rfl ?_
    exact ⟨_, NB9, y9, rfl, rfl, own9, lo9⟩
  | one cc A ihA =>
    intro hok hd hcl W F b o c k hk h3 hr hl hc x
    obtain ⟨xx, hxx⟩ : ∃ y : Ext W, x = y := ⟨x, rfl⟩
    rw [hxx]
    clear hxx x
    have hbx := Ty.bx_of hok.1
    obtain ⟨lenT, hlenT⟩ : ∃ n, n = (Ty.one cc A).enc.length := ⟨_, rfl⟩
    have hlp : 0 < (Ty.one cc A).enc.length := Ty.enc_pos _
    have FAC : ∀ (U : World), Below W.heap.size W U → Forms U := fun U q => F.ext ⟨U, q⟩
    have RW0 : ∀ (U : World), Below W.heap.size W U → Row U (Value.int .i64) (some ⟨b, o, none⟩) (Ty.one cc A).enc := fun U q => hr.ext ⟨U, q⟩
    have PWC : Hid (∀ (U : World), Below W.heap.size W U → Calls Tryd.prog 131 #[.slice (some ⟨b, o, none⟩) (Ty.one cc A).enc.length c] U (NewRow U 51 22 id (sls b (o + 1) [A]))) := fun U q => partsWithin_ans (W := U) (FAC U q) (cc := cc) (ps := [A]) (by intro t ht; simp at ht; subst ht; exact hok.2) (l := (Ty.one cc A).enc) (by simp [Ty.enc, Ty.encs]) (RW0 U q) (by omega) (Ty.le36 hok) hc (Ext.self U)
    have m0 : ∀ y : Ext W, y.w.cell? ⟨b, o, none⟩ = some (.int .i64 (cc)) := fun y => y.cell (row_head hr (l' := A.enc) rfl)
    have hlA : A.enc.length ≤ 40 := by have := Ty.len_one cc A; omega
    have IH : Hid (∀ {U : World} (_ : Below W.heap.size W U), Calls Tryd.prog 102 #[.slice (some ⟨b, o + 1, none⟩) A.enc.length A.enc.length, .int .i64 k] U (NewTmO U (A.at_ k))) := fun {U} q => ihA hok.2 hd hcl.2 (FAC U q) hk h3 (row_one (RW0 U q)) hlA (Nat.le_refl _) (Ext.self U)
    have hgf := gF_bx hbx
    generalize (Ty.one cc A).enc.length = len at *
    have hlp' : (0 : Int) < (len : Int) := by omega
    clear hr hok hd hcl ihA hl F hlenT RW0 hk h3
    show Calls _ _ _ _ (NewTmO W (.mk 11 (gradeOf cc) [] [A.at_ k]))
    generalize A.at_ k = ta at *
    go_enter Tryd.func102, Tryd.ntmps102
    go_upto_region 1 with fail
    have hxW := xx.size
    generalize hWa : xx.w.alloc _ = Wa
    generalize hB : xx.w.heap.size = BB at *
    obtain ⟨bA, sA, bel⟩ := blocks1 hB hWa
    have belA : Below W.heap.size W Wa := xx.below.trans (bel.mono (by omega))
    clear hWa bel
    obtain ⟨f0, f2, f3, f4, f6, FOC⟩ := form_some (FAC Wa belA) (cc) 19 (codeF_bx hbx) (by first | decide | (unfold Arr at *; omega) | (unfold Bx at *; omega))
    have m1 : ∀ y : Ext Wa, y.w.cell? ⟨b, o, none⟩ = some (.int .i64 (cc)) := fun y => m0 ⟨y.w, below_ext belA y⟩
    have m2 := m1 (Ext.self Wa)
    dsimp only at m2
    go_wp2_with fail
    refine Calls.mono (FOC (Ext.self Wa)) ?_
    rintro e w' ⟨rfl, yy, rfl⟩
    rw [hgf]
    clear FOC m0 m1 m2
    go_wp2_with fail
    generalize hY : yy.w.alloc _ = Y1
    have bY := new_blk hY
    have belY : Below W.heap.size W Y1 := by rw [← hY]; exact (below_ext belA yy).alloc (Nat.le_trans belA.size yy.size) _
    have bA1 : Y1.heap[BB]? = some (.cells #[.int .i64 0, .int .i64 0, .slice none 0 0, .slice none 0 0] 33 (0, 0)) := by rw [← hY]; exact ((Ext.self yy.w).alloc _).blk (yy.blk bA)
    have zY : Wa.heap.size ≤ Y1.heap.size := by rw [← hY]; exact Nat.le_trans yy.size (by simp)
    generalize yy.w.heap.size = B1 at *
    clear hY yy
    refine Calls.mono (PWC.out Y1 belY) ?_
    clear PWC
    rintro e w' ⟨pv, zz, rfl, rfl, own⟩
    have belZ := below_ext belY zz
    have bZ := zz.blk bA1
    have zZ : Y1.heap.size ≤ zz.w.heap.size := zz.size
    have mF := blk_cell (zz.blk bY) 1
    simp at mF
    generalize gradeOf cc = gg at *
    obtain ⟨g, gc, rfl, row, hcap, gb, gl⟩ := own_some own (by simp [sls])
    have g0 := row_at row 0 _ rfl
    clear own row hcap
    rw [show (sls b (o + 1) [A]).length = 1 from rfl]
    go_wp2_with fail
    refine Calls.mono (IH.out belZ) ?_
    rintro e w' ⟨r4, K4, y4, rfl, rfl, own4, lo4⟩
    unfold TV.val
    have bA4 := y4.blk bZ
    have bel4 : Below W.heap.size W y4.w := below_ext belZ y4
    have s4 : BB < y4.w.heap.size := (Array.getElem?_eq_some_iff.1 bA4).1
    generalize hV : y4.w.alloc (.cells #[.int .i64 ta.op, .int .i64 ta.n, .slice r4.a ta.ty.length r4.c, .slice r4.b ta.kids.length r4.d] 33) = V
    have ownV := own_one (op := 11) (n := gg) (l := []) (a := none) (c := 0) own4 (World.ownsRow_nil _ _ _ _) (fun g h => by simp [ob]) hV
    have bV : V.heap[BB]? = some (.cells #[.int .i64 0, .int .i64 0, .slice none 0 0, .slice none 0 0] 33 (0, 0)) := by rw [← hV]; exact ((Ext.self y4.w).alloc _).blk bA4
    have belV : Below W.heap.size W V := by rw [← hV]; exact bel4.alloc bel4.size _
    have n0 := blk_cell bV 0
    have n1 := blk_cell bV 1
    have n2 := blk_cell bV 2
    have n3 := blk_cell bV 3
    have p0 := blk_free bV 0
    have p1 := blk_free bV 1
    have p2 := blk_free bV 2
    have p3 := blk_free bV 3
    simp at n0 n1 n2 n3
    go_wp2
    clear n0 n1 n2 n3 p0 p1 p2 p3
    generalize hY : World.setCell _ _ _ = Y
    obtain ⟨⟨NB9, y9, rfl, own9, lo9⟩, r0, r1, r2, r3⟩ := dft_end (W := W) bV (ownV) (fun g h => by rcases h with h | h | h; simp [ob] at h; (cases h; exact ⟨by omega, by omega⟩); (have : zz.w.heap.size ≤ g := lo4 g h; exact ⟨by omega, by omega⟩)) (belV) hxW hY
    simp only [Tm.op, Tm.n, Tm.ty, Tm.kids, List.length_cons, List.length_nil] at r0 r1 r2 r3
    refine bodyPost_ret (v := TV.val ⟨none, 0, some ⟨y4.w.heap.size, 0, none⟩, 1⟩ (.mk 11 gg [] [ta])) (by simp [results, Tryd.results102, go_sem, r0, r1, r2, r3, TV.val, Tm.op, Tm.n, Tm.ty, Tm.kids]) rfl ?_
    exact ⟨_, NB9, y9, rfl, rfl, own9, lo9⟩
  | two cc A B ihA ihB =>
    intro hok hd hcl W F b o c k hk h3 hr hl hc x
    obtain ⟨xx, hxx⟩ : ∃ y : Ext W, x = y := ⟨x, rfl⟩
    rw [hxx]
    clear hxx x
    have hd1 := hd.1
    obtain ⟨lenT, hlenT⟩ : ∃ n, n = (Ty.two cc A B).enc.length := ⟨_, rfl⟩
    have hlp : 0 < (Ty.two cc A B).enc.length := Ty.enc_pos _
    have FAC : ∀ (U : World), Below W.heap.size W U → Forms U := fun U q => F.ext ⟨U, q⟩
    have RW0 : ∀ (U : World), Below W.heap.size W U → Row U (Value.int .i64) (some ⟨b, o, none⟩) (Ty.two cc A B).enc := fun U q => hr.ext ⟨U, q⟩
    have PWC : Hid (∀ (U : World), Below W.heap.size W U → Calls Tryd.prog 131 #[.slice (some ⟨b, o, none⟩) (Ty.two cc A B).enc.length c] U (NewRow U 51 22 id (sls b (o + 1) [A, B]))) := fun U q => partsWithin_ans (W := U) (FAC U q) (cc := cc) (ps := [A, B]) (by intro t ht; simp at ht; rcases ht with rfl | rfl; exact hok.2.1; exact hok.2.2) (l := (Ty.two cc A B).enc) (by simp [Ty.enc, Ty.encs]) (RW0 U q) (by omega) (Ty.le36 hok) hc (Ext.self U)
    have m0 : ∀ y : Ext W, y.w.cell? ⟨b, o, none⟩ = some (.int .i64 (cc)) := fun y => y.cell (row_head hr (l' := A.enc ++ B.enc) rfl)
    have hlA : A.enc.length ≤ 40 := by have := Ty.len_two cc A B; omega
    have hlB : B.enc.length ≤ 40 := by have := Ty.len_two cc A B; omega
    have hcA := A.cnt_pos
    have hcB := B.cnt_pos
    have RA : Hid (∀ U : World, Below W.heap.size W U → Row U (Value.int .i64) (some ⟨b, o + 1, none⟩) A.enc) := fun U q => row_two1 (RW0 U q)
    have RB : Hid (∀ U : World, Below W.heap.size W U → Row U (Value.int .i64) (some ⟨b, o + 1 + A.enc.length, none⟩) B.enc) := fun U q => by rw [Nat.add_assoc]; exact row_two2 (RW0 U q)
    have IHA : Hid (∀ {k : Nat} (_ : k < A.cnt) (_ : A.cnt ≤ 301) {U : World} (_ : Below W.heap.size W U), Calls Tryd.prog 102 #[.slice (some ⟨b, o + 1, none⟩) A.enc.length A.enc.length, .int .i64 k] U (NewTmO U (A.at_ k))) := fun {k} hk h3 {U} q => ihA hok.2.1 hd.2.1 hcl.1 (FAC U q) hk h3 (RA.out U q) hlA (Nat.le_refl _) (Ext.self U)
    have IHB : Hid (∀ {k : Nat} (_ : k < B.cnt) (_ : B.cnt ≤ 301) {U : World} (_ : Below W.heap.size W U), Calls Tryd.prog 102 #[.slice (some ⟨b, o + 1 + A.enc.length, none⟩) B.enc.length B.enc.length, .int .i64 k] U (NewTmO U (B.at_ k))) := fun {k} hk h3 {U} q => ihB hok.2.2 hd.2.2 hcl.2 (FAC U q) hk h3 (RB.out U q) hlB (Nat.le_refl _) (Ext.self U)
    have CNA : Hid (∀ {U : World} (_ : Below W.heap.size W U), Calls Tryd.prog 132 #[.slice (some ⟨b, o + 1, none⟩) A.enc.length A.enc.length] U (Ans U (.int .i64 A.cnt))) := fun {U} q => countOf_ans A hok.2.1 hd.2.1 hcl.1 (FAC U q) (RA.out U q) hlA (Nat.le_refl _) (Ext.self U)
    have CNB : Hid (∀ {U : World} (_ : Below W.heap.size W U), Calls Tryd.prog 132 #[.slice (some ⟨b, o + 1 + A.enc.length, none⟩) B.enc.length B.enc.length] U (Ans U (.int .i64 B.cnt))) := fun {U} q => countOf_ans B hok.2.2 hd.2.2 hcl.2 (FAC U q) (RB.out U q) hlB (Nat.le_refl _) (Ext.self U)
    generalize (Ty.two cc A B).enc.length = len at *
    have hlp' : (0 : Int) < (len : Int) := by omega
    clear hr hok hd hcl ihA ihB hl F hlenT RW0
    rcases hd1 with rfl | rfl
    · rw [show (Ty.two 1 A B).at_ k = .mk 4 0 [] [A.at_ (k / B.cnt), B.at_ (k % B.cnt)] from rfl]
      obtain ⟨h3a, h3b⟩ := Ty.cnt_parts h3
      obtain ⟨hk1, hk2⟩ := Ty.pair_lt hk
      obtain ⟨⟨t1, t2⟩, ⟨t3, t4⟩, t5, t6⟩ := dv_facts (k := k) (n := B.cnt) (by omega) hcB
      have t7 : ¬ B.cnt = 0 := by omega
      have IA : Hid (∀ (U : World) (_ : Below W.heap.size W U), Calls Tryd.prog 102 #[.slice (some ⟨b, o + 1, none⟩) A.enc.length A.enc.length, .int .i64 ((k / B.cnt : Nat) : Int)] U (NewTmO U (A.at_ (k / B.cnt)))) := fun U q => IHA.out hk1 h3a q
      have IB : Hid (∀ (U : World) (_ : Below W.heap.size W U), Calls Tryd.prog 102 #[.slice (some ⟨b, o + 1 + A.enc.length, none⟩) B.enc.length B.enc.length, .int .i64 ((k % B.cnt : Nat) : Int)] U (NewTmO U (B.at_ (k % B.cnt)))) := fun U q => IHB.out hk2 h3b q
      generalize A.at_ (k / B.cnt) = ta at *
      generalize B.at_ (k % B.cnt) = tb at *
      obtain ⟨q1, hq1⟩ : ∃ q, k / B.cnt = q := ⟨_, rfl⟩
      obtain ⟨q2, hq2⟩ : ∃ q, k % B.cnt = q := ⟨_, rfl⟩
      rw [hq1] at t1 t3 t4 IA
      rw [hq2] at t2 IB
      clear IHA IHB hk1 hk2 hq1 hq2 hk h3
      go_enter Tryd.func102, Tryd.ntmps102
      go_upto_region 1 with fail
      have hxW := xx.size
      generalize hWa : xx.w.alloc _ = Wa
      generalize hB : xx.w.heap.size = BB at *
      obtain ⟨bA, sA, bel⟩ := blocks1 hB hWa
      have belA : Below W.heap.size W Wa := xx.below.trans (bel.mono (by omega))
      clear hWa bel
      obtain ⟨f0, f2, f3, f4, f6, FOC⟩ := form_some (FAC Wa belA) (1) 1 rfl (by first | decide | (unfold Arr at *; omega) | (unfold Bx at *; omega))
      have m1 : ∀ y : Ext Wa, y.w.cell? ⟨b, o, none⟩ = some (.int .i64 (1)) := fun y => m0 ⟨y.w, below_ext belA y⟩
      have m2 := m1 (Ext.self Wa)
      dsimp only at m2
      go_wp2_with fail
      refine Calls.mono (FOC (Ext.self Wa)) ?_
      rintro e w' ⟨rfl, yy, rfl⟩
      clear FOC m0 m1 m2
      go_wp2_with fail
      generalize hY : yy.w.alloc _ = Y1
      have bY := new_blk hY
      have belY : Below W.heap.size W Y1 := by rw [← hY]; exact (below_ext belA yy).alloc (Nat.le_trans belA.size yy.size) _
      have bA1 : Y1.heap[BB]? = some (.cells #[.int .i64 0, .int .i64 0, .slice none 0 0, .slice none 0 0] 33 (0, 0)) := by rw [← hY]; exact ((Ext.self yy.w).alloc _).blk (yy.blk bA)
      have zY : Wa.heap.size ≤ Y1.heap.size := by rw [← hY]; exact Nat.le_trans yy.size (by simp)
      generalize yy.w.heap.size = B1 at *
      clear hY yy
      refine Calls.mono (PWC.out Y1 belY) ?_
      clear PWC
      rintro e w' ⟨pv, zz, rfl, rfl, own⟩
      have belZ := below_ext belY zz
      have bZ := zz.blk bA1
      have zZ : Y1.heap.size ≤ zz.w.heap.size := zz.size
      have mF := blk_cell (zz.blk bY) 1
      simp at mF
      obtain ⟨g, gc, rfl, row, hcap, gb, gl⟩ := own_some own (by simp [sls])
      have g0 := row_at row 0 _ rfl
      have g1 := row_at row 1 _ rfl
      clear own row hcap
      rw [show (sls b (o + 1) [A, B]).length = 2 from rfl]
      have hRW : W.heap.size ≤ BB := hxW
      have hgB : g ≠ BB := by omega
      go_wp2_with fail
      refine Calls.mono (CNB.out belZ) ?_
      rintro e w' ⟨rfl, yc, rfl⟩
      replace g0 := yc.cell g0
      replace g1 := yc.cell g1
      replace belZ := below_ext belZ yc
      replace bZ := yc.blk bZ
      have zc : zz.w.heap.size ≤ yc.w.heap.size := yc.size
      have KG : Hid (∀ w', Kc W yc.w BB w' → w'.cell? ⟨g, 0, none⟩ = some (.slice (some ⟨b, o + 1, none⟩) A.enc.length A.enc.length) ∧ w'.cell? ⟨g, 1, none⟩ = some (.slice (some ⟨b, o + 1 + A.enc.length, none⟩) B.enc.length B.enc.length)) := fun w' k => ⟨k.cell g0 hgB, k.cell g1 hgB⟩
      have CA : Hid (∀ w', Kc W yc.w BB w' → Calls Tryd.prog 140 #[.slice (some ⟨b, o + 1, none⟩) A.enc.length A.enc.length] w' (NewRow w' 22 3 (Value.int .i64) A.enc)) := fun w' k => cloneInts_ans (W := w') (RA.out w' k.1) (by omega) (Ext.self w')
      have CB : Hid (∀ w', Kc W yc.w BB w' → Calls Tryd.prog 140 #[.slice (some ⟨b, o + 1 + A.enc.length, none⟩) B.enc.length B.enc.length] w' (NewRow w' 22 3 (Value.int .i64) B.enc)) := fun w' k => cloneInts_ans (W := w') (RB.out w' k.1) (by omega) (Ext.self w')
      have DA : Hid (∀ w', Kc W yc.w BB w' → Calls Tryd.prog 102 #[.slice (some ⟨b, o + 1, none⟩) A.enc.length A.enc.length, .int .i64 q1] w' (NewTmO w' ta)) := fun w' k => IA.out w' k.1
      have DB : Hid (∀ w', Kc W yc.w BB w' → Calls Tryd.prog 102 #[.slice (some ⟨b, o + 1 + A.enc.length, none⟩) B.enc.length B.enc.length, .int .i64 q2] w' (NewTmO w' tb)) := fun w' k => IB.out w' k.1
      clear IA IB
      unfold NewTmO TV.val at DA DB
      go_wp2_with fail
      go_region_held3 (fun w' => w'.cell? ⟨g, 0, none⟩ = some (.slice (some ⟨b, o + 1, none⟩) A.enc.length A.enc.length) ∧ w'.cell? ⟨g, 1, none⟩ = some (.slice (some ⟨b, o + 1 + A.enc.length, none⟩) B.enc.length B.enc.length)) ((refine KG.out _ ?_; (with_reducible (repeat (first | exact Kc.self belZ | refine Kc.drew ?_ | refine Kc.alloc ?_ _ | refine Kc.set ?_ hRW | refine Kc.ext ?_ _)))))
        (first | (go_at_call 102; (with_reducible refine Calls.mono (DA.out _ (by (with_reducible (repeat (first | exact Kc.self belZ | refine Kc.drew ?_ | refine Kc.alloc ?_ _ | refine Kc.set ?_ hRW | refine Kc.ext ?_ _))))) ?_); rintro e w' ⟨rA, KA, yA, rfl, rfl, ownA, loA⟩; (first | (have hz9 := yA.blk (yB.blk (zbl_drew bZ)); obtain ⟨n0, n1, n2, n3, p0, p1, p2, p3⟩ := zfa hz9; clear hz9) | (have hz9 := yA.blk (zbl_drew bZ); obtain ⟨n0, n1, n2, n3, p0, p1, p2, p3⟩ := zfa hz9; clear hz9))) | (go_at_call 102; (with_reducible refine Calls.mono (DB.out _ (by (with_reducible (repeat (first | exact Kc.self belZ | refine Kc.drew ?_ | refine Kc.alloc ?_ _ | refine Kc.set ?_ hRW | refine Kc.ext ?_ _))))) ?_); rintro e w' ⟨rB, KB, yB, rfl, rfl, ownB, loB⟩; (first | (have hz9 := yB.blk (yA.blk (zbl_drew bZ)); obtain ⟨n0, n1, n2, n3, p0, p1, p2, p3⟩ := zfa hz9; clear hz9) | (have hz9 := yB.blk (zbl_drew bZ); obtain ⟨n0, n1, n2, n3, p0, p1, p2, p3⟩ := zfa hz9; clear hz9))))
      go_wp2_with fail
      clear n0 n1 n2 n3 p0 p1 p2 p3
      have bZ9 := yB.blk (yA.blk (zbl_drew bZ))
      have z1 : yc.w.heap.size ≤ yA.w.heap.size := yA.size
      have z2 : yA.w.heap.size ≤ yB.w.heap.size := yB.size
      have lt1 := ownA.lt
      have bel9 : Below W.heap.size W yB.w := below_ext (below_ext (below_drew belZ) yA) yB
      have s4 : BB < yc.w.heap.size := (Array.getElem?_eq_some_iff.1 bZ).1
      generalize hV : World.alloc _ _ = V
      have ownV := own_two (op := 4) (n := 0) (ownA.ext yB) ownB (fun g h1 h2 => by have := lt1 g h1; have : yA.w.heap.size ≤ g := loB g h2; omega) hV
      have bV := zbl_alloc bZ9 (.cells #[.int .i64 ta.op, .int .i64 ta.n, .slice rA.a ta.ty.length rA.c, .slice rA.b ta.kids.length rA.d, .int .i64 tb.op, .int .i64 tb.n, .slice rB.a tb.ty.length rB.c, .slice rB.b tb.kids.length rB.d] 33)
      have belV := bel9.alloc bel9.size (.cells #[.int .i64 ta.op, .int .i64 ta.n, .slice rA.a ta.ty.length rA.c, .slice rA.b ta.kids.length rA.d, .int .i64 tb.op, .int .i64 tb.n, .slice rB.a tb.ty.length rB.c, .slice rB.b tb.kids.length rB.d] 33)
      rw [hV] at bV belV
      generalize hY : World.setCell _ _ _ = Y
      obtain ⟨⟨NB9, y9, rfl, own9, lo9⟩, r0, r1, r2, r3⟩ := dft_end (W := W) bV (ownV) (fun g h => by rcases h with h | h | h; (cases h; exact ⟨by omega, by omega⟩); (have : yc.w.heap.size ≤ g := loA g h; exact ⟨by omega, by omega⟩); (have : yA.w.heap.size ≤ g := loB g h; exact ⟨by omega, by omega⟩)) (belV) hxW hY
      simp only [Tm.op, Tm.n, Tm.ty, Tm.kids, List.length_cons, List.length_nil] at r0 r1 r2 r3
      refine bodyPost_ret (v := TV.val ⟨none, 0, some ⟨yB.w.heap.size, 0, none⟩, 2⟩ (.mk 4 0 [] [ta, tb])) (by simp [results, Tryd.results102, go_sem, r0, r1, r2, r3, TV.val, Tm.op, Tm.n, Tm.ty, Tm.kids]) rfl ?_
      exact ⟨_, NB9, y9, rfl, rfl, own9, lo9⟩
    · have h3' := h3
      have hk3 := hk
      rw [Ty.cnt_sum] at h3' hk3
      have h3a : A.cnt ≤ 301 := by omega
      have h3b : B.cnt ≤ 301 := by omega
      by_cases hkA : k < A.cnt
      · have hk' : (k : Int) < (A.cnt : Int) := by omega
        rw [show (Ty.two 2 A B).at_ k = .mk 6 0 B.enc [A.at_ k] by simp only [Ty.at_]; rw [if_neg (by decide), if_pos hkA]]
        have IX : Hid (∀ (U : World) (_ : Below W.heap.size W U), Calls Tryd.prog 102 #[.slice (some ⟨b, o + 1, none⟩) A.enc.length A.enc.length, .int .i64 (k : Int)] U (NewTmO U (A.at_ k))) := fun U q => IHA.out hkA h3a q
        generalize A.at_ k = tx at *
        clear IHA IHB hk h3 h3' hk3
        go_enter Tryd.func102, Tryd.ntmps102
        go_upto_region 1 with fail
        have hxW := xx.size
        generalize hWa : xx.w.alloc _ = Wa
        generalize hB : xx.w.heap.size = BB at *
        obtain ⟨bA, sA, bel⟩ := blocks1 hB hWa
        have belA : Below W.heap.size W Wa := xx.below.trans (bel.mono (by omega))
        clear hWa bel
        obtain ⟨f0, f2, f3, f4, f6, FOC⟩ := form_some (FAC Wa belA) (2) 2 rfl (by first | decide | (unfold Arr at *; omega) | (unfold Bx at *; omega))
        have m1 : ∀ y : Ext Wa, y.w.cell? ⟨b, o, none⟩ = some (.int .i64 (2)) := fun y => m0 ⟨y.w, below_ext belA y⟩
        have m2 := m1 (Ext.self Wa)
        dsimp only at m2
        go_wp2_with fail
        refine Calls.mono (FOC (Ext.self Wa)) ?_
        rintro e w' ⟨rfl, yy, rfl⟩
        clear FOC m0 m1 m2
        go_wp2_with fail
        generalize hY : yy.w.alloc _ = Y1
        have bY := new_blk hY
        have belY : Below W.heap.size W Y1 := by rw [← hY]; exact (below_ext belA yy).alloc (Nat.le_trans belA.size yy.size) _
        have bA1 : Y1.heap[BB]? = some (.cells #[.int .i64 0, .int .i64 0, .slice none 0 0, .slice none 0 0] 33 (0, 0)) := by rw [← hY]; exact ((Ext.self yy.w).alloc _).blk (yy.blk bA)
        have zY : Wa.heap.size ≤ Y1.heap.size := by rw [← hY]; exact Nat.le_trans yy.size (by simp)
        generalize yy.w.heap.size = B1 at *
        clear hY yy
        refine Calls.mono (PWC.out Y1 belY) ?_
        clear PWC
        rintro e w' ⟨pv, zz, rfl, rfl, own⟩
        have belZ := below_ext belY zz
        have bZ := zz.blk bA1
        have zZ : Y1.heap.size ≤ zz.w.heap.size := zz.size
        have mF := blk_cell (zz.blk bY) 1
        simp at mF
        obtain ⟨g, gc, rfl, row, hcap, gb, gl⟩ := own_some own (by simp [sls])
        have g0 := row_at row 0 _ rfl
        have g1 := row_at row 1 _ rfl
        clear own row hcap
        rw [show (sls b (o + 1) [A, B]).length = 2 from rfl]
        have hRW : W.heap.size ≤ BB := hxW
        have hgB : g ≠ BB := by omega
        go_wp2_with fail
        refine Calls.mono (CNA.out belZ) ?_
        rintro e w' ⟨rfl, yc, rfl⟩
        replace g0 := yc.cell g0
        replace g1 := yc.cell g1
        replace belZ := below_ext belZ yc
        replace bZ := yc.blk bZ
        have zc : zz.w.heap.size ≤ yc.w.heap.size := yc.size
        have KG : Hid (∀ w', Kc W yc.w BB w' → w'.cell? ⟨g, 0, none⟩ = some (.slice (some ⟨b, o + 1, none⟩) A.enc.length A.enc.length) ∧ w'.cell? ⟨g, 1, none⟩ = some (.slice (some ⟨b, o + 1 + A.enc.length, none⟩) B.enc.length B.enc.length)) := fun w' k => ⟨k.cell g0 hgB, k.cell g1 hgB⟩
        have CA : Hid (∀ w', Kc W yc.w BB w' → Calls Tryd.prog 140 #[.slice (some ⟨b, o + 1, none⟩) A.enc.length A.enc.length] w' (NewRow w' 22 3 (Value.int .i64) A.enc)) := fun w' k => cloneInts_ans (W := w') (RA.out w' k.1) (by omega) (Ext.self w')
        have CB : Hid (∀ w', Kc W yc.w BB w' → Calls Tryd.prog 140 #[.slice (some ⟨b, o + 1 + A.enc.length, none⟩) B.enc.length B.enc.length] w' (NewRow w' 22 3 (Value.int .i64) B.enc)) := fun w' k => cloneInts_ans (W := w') (RB.out w' k.1) (by omega) (Ext.self w')
        have DX : Hid (∀ w', Kc W yc.w BB w' → Calls Tryd.prog 102 #[.slice (some ⟨b, o + 1, none⟩) A.enc.length A.enc.length, .int .i64 k] w' (NewTmO w' tx)) := fun w' k => IX.out w' k.1
        clear IX hkA
        unfold NewTmO TV.val at DX
        go_wp2_with fail
        go_region_held3 (fun w' => w'.cell? ⟨g, 0, none⟩ = some (.slice (some ⟨b, o + 1, none⟩) A.enc.length A.enc.length) ∧ w'.cell? ⟨g, 1, none⟩ = some (.slice (some ⟨b, o + 1 + A.enc.length, none⟩) B.enc.length B.enc.length)) ((refine KG.out _ ?_; (with_reducible (repeat (first | exact Kc.self belZ | refine Kc.drew ?_ | refine Kc.alloc ?_ _ | refine Kc.set ?_ hRW | refine Kc.ext ?_ _)))))
          (first | (go_at_call 102; (with_reducible refine Calls.mono (DX.out _ (by (with_reducible (repeat (first | exact Kc.self belZ | refine Kc.drew ?_ | refine Kc.alloc ?_ _ | refine Kc.set ?_ hRW | refine Kc.ext ?_ _))))) ?_); rintro e w' ⟨rA, KA, yA, rfl, rfl, ownA, loA⟩; (first | (have hz9 := yA.blk (yC.blk (zbl_drew bZ)); obtain ⟨n0, n1, n2, n3, p0, p1, p2, p3⟩ := zfa hz9; clear hz9) | (have hz9 := yA.blk (zbl_drew bZ); obtain ⟨n0, n1, n2, n3, p0, p1, p2, p3⟩ := zfa hz9; clear hz9))) | (go_at_call 140; (with_reducible refine Calls.mono (CB.out _ (by (with_reducible (repeat (first | exact Kc.self belZ | refine Kc.drew ?_ | refine Kc.alloc ?_ _ | refine Kc.set ?_ hRW | refine Kc.ext ?_ _))))) ?_); rintro e w' ⟨vc, yC, rfl, rfl, ownC⟩; obtain ⟨ac, dc, rfl, -, -⟩ := owned_row ownC; (first | (have hz9 := yC.blk (yA.blk (zbl_drew bZ)); obtain ⟨n0, n1, n2, n3, p0, p1, p2, p3⟩ := zfa hz9; clear hz9) | (have hz9 := yC.blk (zbl_drew bZ); obtain ⟨n0, n1, n2, n3, p0, p1, p2, p3⟩ := zfa hz9; clear hz9))))
        go_wp2_with fail
        clear n0 n1 n2 n3 p0 p1 p2 p3
        have bZ9 := yA.blk (yC.blk (zbl_drew bZ))
        have z1 : yc.w.heap.size ≤ yC.w.heap.size := yC.size
        have z2 : yC.w.heap.size ≤ yA.w.heap.size := yA.size
        have lt1 := ownA.lt
        have bel9 : Below W.heap.size W yA.w := below_ext (below_ext (below_drew belZ) yC) yA
        have s4 : BB < yc.w.heap.size := (Array.getElem?_eq_some_iff.1 bZ).1
        generalize hV : World.alloc _ _ = V
        have lc : ∀ g, ob ac = some g → yc.w.heap.size ≤ g ∧ g < yC.w.heap.size := fun g e => ⟨(ownC.lt g (by rw [ob_eq]; exact e)).1, (ownC.lt g (by rw [ob_eq]; exact e)).2⟩
        have ownV := own_one (op := 6) (n := 0) (l := B.enc) (a := ac) (c := dc) ownA (owns_lower (owns_ext ownC yA) (Nat.zero_le _)) (fun g h1 h2 => by have : yC.w.heap.size ≤ g := loA g h1; have := lc g h2; omega) hV
        have bV := zbl_alloc bZ9 (.cells #[.int .i64 tx.op, .int .i64 tx.n, .slice rA.a tx.ty.length rA.c, .slice rA.b tx.kids.length rA.d] 33)
        have belV := bel9.alloc bel9.size (.cells #[.int .i64 tx.op, .int .i64 tx.n, .slice rA.a tx.ty.length rA.c, .slice rA.b tx.kids.length rA.d] 33)
        rw [hV] at bV belV
        generalize hY : World.setCell _ _ _ = Y
        obtain ⟨⟨NB9, y9, rfl, own9, lo9⟩, r0, r1, r2, r3⟩ := dft_end (W := W) bV (ownV) (fun g h => by rcases h with h | h | h; (have := lc g h; exact ⟨by omega, by omega⟩); (cases h; exact ⟨by omega, by omega⟩); (have : yC.w.heap.size ≤ g := loA g h; exact ⟨by omega, by omega⟩)) (belV) hxW hY
        simp only [Tm.op, Tm.n, Tm.ty, Tm.kids, List.length_cons, List.length_nil] at r0 r1 r2 r3
        refine bodyPost_ret (v := TV.val ⟨ac, dc, some ⟨yA.w.heap.size, 0, none⟩, 1⟩ (.mk 6 0 B.enc [tx])) (by simp [results, Tryd.results102, go_sem, r0, r1, r2, r3, TV.val, Tm.op, Tm.n, Tm.ty, Tm.kids]) rfl ?_
        exact ⟨_, NB9, y9, rfl, rfl, own9, lo9⟩
      · have hk' : ¬ (k : Int) < (A.cnt : Int) := by omega
        rw [show (Ty.two 2 A B).at_ k = .mk 7 0 A.enc [B.at_ (k - A.cnt)] by simp only [Ty.at_]; rw [if_neg (by decide), if_neg hkA]]
        have hk2 : k - A.cnt < B.cnt := by omega
        have IX : Hid (∀ (U : World) (_ : Below W.heap.size W U), Calls Tryd.prog 102 #[.slice (some ⟨b, o + 1 + A.enc.length, none⟩) B.enc.length B.enc.length, .int .i64 ((k - A.cnt : Nat) : Int)] U (NewTmO U (B.at_ (k - A.cnt)))) := fun U q => IHB.out hk2 h3b q
        generalize B.at_ (k - A.cnt) = tx at *
        have hsub : ((k - A.cnt : Nat) : Int) = (k : Int) - (A.cnt : Int) := by omega
        have hws : IntKind.i64.wrap ((k : Int) - (A.cnt : Int)) = (k : Int) - (A.cnt : Int) := IntWalk.i64_in _ (by omega)
        rw [hsub] at IX
        clear hsub hk2
        clear IHA IHB hk h3 h3' hk3
        go_enter Tryd.func102, Tryd.ntmps102
        go_upto_region 1 with fail
        have hxW := xx.size
        generalize hWa : xx.w.alloc _ = Wa
        generalize hB : xx.w.heap.size = BB at *
        obtain ⟨bA, sA, bel⟩ := blocks1 hB hWa
        have belA : Below W.heap.size W Wa := xx.below.trans (bel.mono (by omega))
        clear hWa bel
        obtain ⟨f0, f2, f3, f4, f6, FOC⟩ := form_some (FAC Wa belA) (2) 2 rfl (by first | decide | (unfold Arr at *; omega) | (unfold Bx at *; omega))
        have m1 : ∀ y : Ext Wa, y.w.cell? ⟨b, o, none⟩ = some (.int .i64 (2)) := fun y => m0 ⟨y.w, below_ext belA y⟩
        have m2 := m1 (Ext.self Wa)
        dsimp only at m2
        go_wp2_with fail
        refine Calls.mono (FOC (Ext.self Wa)) ?_
        rintro e w' ⟨rfl, yy, rfl⟩
        clear FOC m0 m1 m2
        go_wp2_with fail
        generalize hY : yy.w.alloc _ = Y1
        have bY := new_blk hY
        have belY : Below W.heap.size W Y1 := by rw [← hY]; exact (below_ext belA yy).alloc (Nat.le_trans belA.size yy.size) _
        have bA1 : Y1.heap[BB]? = some (.cells #[.int .i64 0, .int .i64 0, .slice none 0 0, .slice none 0 0] 33 (0, 0)) := by rw [← hY]; exact ((Ext.self yy.w).alloc _).blk (yy.blk bA)
        have zY : Wa.heap.size ≤ Y1.heap.size := by rw [← hY]; exact Nat.le_trans yy.size (by simp)
        generalize yy.w.heap.size = B1 at *
        clear hY yy
        refine Calls.mono (PWC.out Y1 belY) ?_
        clear PWC
        rintro e w' ⟨pv, zz, rfl, rfl, own⟩
        have belZ := below_ext belY zz
        have bZ := zz.blk bA1
        have zZ : Y1.heap.size ≤ zz.w.heap.size := zz.size
        have mF := blk_cell (zz.blk bY) 1
        simp at mF
        obtain ⟨g, gc, rfl, row, hcap, gb, gl⟩ := own_some own (by simp [sls])
        have g0 := row_at row 0 _ rfl
        have g1 := row_at row 1 _ rfl
        clear own row hcap
        rw [show (sls b (o + 1) [A, B]).length = 2 from rfl]
        have hRW : W.heap.size ≤ BB := hxW
        have hgB : g ≠ BB := by omega
        go_wp2_with fail
        refine Calls.mono (CNA.out belZ) ?_
        rintro e w' ⟨rfl, yc, rfl⟩
        replace g0 := yc.cell g0
        replace g1 := yc.cell g1
        replace belZ := below_ext belZ yc
        replace bZ := yc.blk bZ
        have zc : zz.w.heap.size ≤ yc.w.heap.size := yc.size
        have KG : Hid (∀ w', Kc W yc.w BB w' → w'.cell? ⟨g, 0, none⟩ = some (.slice (some ⟨b, o + 1, none⟩) A.enc.length A.enc.length) ∧ w'.cell? ⟨g, 1, none⟩ = some (.slice (some ⟨b, o + 1 + A.enc.length, none⟩) B.enc.length B.enc.length)) := fun w' k => ⟨k.cell g0 hgB, k.cell g1 hgB⟩
        have CA : Hid (∀ w', Kc W yc.w BB w' → Calls Tryd.prog 140 #[.slice (some ⟨b, o + 1, none⟩) A.enc.length A.enc.length] w' (NewRow w' 22 3 (Value.int .i64) A.enc)) := fun w' k => cloneInts_ans (W := w') (RA.out w' k.1) (by omega) (Ext.self w')
        have CB : Hid (∀ w', Kc W yc.w BB w' → Calls Tryd.prog 140 #[.slice (some ⟨b, o + 1 + A.enc.length, none⟩) B.enc.length B.enc.length] w' (NewRow w' 22 3 (Value.int .i64) B.enc)) := fun w' k => cloneInts_ans (W := w') (RB.out w' k.1) (by omega) (Ext.self w')
        have DX : Hid (∀ w', Kc W yc.w BB w' → Calls Tryd.prog 102 #[.slice (some ⟨b, o + 1 + A.enc.length, none⟩) B.enc.length B.enc.length, .int .i64 ((k : Int) - (A.cnt : Int))] w' (NewTmO w' tx)) := fun w' k => IX.out w' k.1
        clear IX hkA
        unfold NewTmO TV.val at DX
        go_wp2_with fail
        go_region_held3 (fun w' => w'.cell? ⟨g, 0, none⟩ = some (.slice (some ⟨b, o + 1, none⟩) A.enc.length A.enc.length) ∧ w'.cell? ⟨g, 1, none⟩ = some (.slice (some ⟨b, o + 1 + A.enc.length, none⟩) B.enc.length B.enc.length)) ((refine KG.out _ ?_; (with_reducible (repeat (first | exact Kc.self belZ | refine Kc.drew ?_ | refine Kc.alloc ?_ _ | refine Kc.set ?_ hRW | refine Kc.ext ?_ _)))))
          (first | (go_at_call 102; (with_reducible refine Calls.mono (DX.out _ (by (with_reducible (repeat (first | exact Kc.self belZ | refine Kc.drew ?_ | refine Kc.alloc ?_ _ | refine Kc.set ?_ hRW | refine Kc.ext ?_ _))))) ?_); rintro e w' ⟨rB, KB, yB, rfl, rfl, ownB, loB⟩; (first | (have hz9 := yB.blk (yC.blk (zbl_drew bZ)); obtain ⟨n0, n1, n2, n3, p0, p1, p2, p3⟩ := zfa hz9; clear hz9) | (have hz9 := yB.blk (zbl_drew bZ); obtain ⟨n0, n1, n2, n3, p0, p1, p2, p3⟩ := zfa hz9; clear hz9))) | (go_at_call 140; (with_reducible refine Calls.mono (CA.out _ (by (with_reducible (repeat (first | exact Kc.self belZ | refine Kc.drew ?_ | refine Kc.alloc ?_ _ | refine Kc.set ?_ hRW | refine Kc.ext ?_ _))))) ?_); rintro e w' ⟨vc, yC, rfl, rfl, ownC⟩; obtain ⟨ac, dc, rfl, -, -⟩ := owned_row ownC; (first | (have hz9 := yC.blk (yB.blk (zbl_drew bZ)); obtain ⟨n0, n1, n2, n3, p0, p1, p2, p3⟩ := zfa hz9; clear hz9) | (have hz9 := yC.blk (zbl_drew bZ); obtain ⟨n0, n1, n2, n3, p0, p1, p2, p3⟩ := zfa hz9; clear hz9))))
        go_wp2_with fail
        clear n0 n1 n2 n3 p0 p1 p2 p3
        have bZ9 := yB.blk (yC.blk (zbl_drew bZ))
        have z1 : yc.w.heap.size ≤ yC.w.heap.size := yC.size
        have z2 : yC.w.heap.size ≤ yB.w.heap.size := yB.size
        have lt1 := ownB.lt
        have bel9 : Below W.heap.size W yB.w := below_ext (below_ext (below_drew belZ) yC) yB
        have s4 : BB < yc.w.heap.size := (Array.getElem?_eq_some_iff.1 bZ).1
        generalize hV : World.alloc _ _ = V
        have lc : ∀ g, ob ac = some g → yc.w.heap.size ≤ g ∧ g < yC.w.heap.size := fun g e => ⟨(ownC.lt g (by rw [ob_eq]; exact e)).1, (ownC.lt g (by rw [ob_eq]; exact e)).2⟩
        have ownV := own_one (op := 7) (n := 0) (l := A.enc) (a := ac) (c := dc) ownB (owns_lower (owns_ext ownC yB) (Nat.zero_le _)) (fun g h1 h2 => by have : yC.w.heap.size ≤ g := loB g h1; have := lc g h2; omega) hV
        have bV := zbl_alloc bZ9 (.cells #[.int .i64 tx.op, .int .i64 tx.n, .slice rB.a tx.ty.length rB.c, .slice rB.b tx.kids.length rB.d] 33)
        have belV := bel9.alloc bel9.size (.cells #[.int .i64 tx.op, .int .i64 tx.n, .slice rB.a tx.ty.length rB.c, .slice rB.b tx.kids.length rB.d] 33)
        rw [hV] at bV belV
        generalize hY : World.setCell _ _ _ = Y
        obtain ⟨⟨NB9, y9, rfl, own9, lo9⟩, r0, r1, r2, r3⟩ := dft_end (W := W) bV (ownV) (fun g h => by rcases h with h | h | h; (have := lc g h; exact ⟨by omega, by omega⟩); (cases h; exact ⟨by omega, by omega⟩); (have : yC.w.heap.size ≤ g := loB g h; exact ⟨by omega, by omega⟩)) (belV) hxW hY
        simp only [Tm.op, Tm.n, Tm.ty, Tm.kids, List.length_cons, List.length_nil] at r0 r1 r2 r3
        refine bodyPost_ret (v := TV.val ⟨ac, dc, some ⟨yB.w.heap.size, 0, none⟩, 1⟩ (.mk 7 0 A.enc [tx])) (by simp [results, Tryd.results102, go_sem, r0, r1, r2, r3, TV.val, Tm.op, Tm.n, Tm.ty, Tm.kids]) rfl ?_
        exact ⟨_, NB9, y9, rfl, rfl, own9, lo9⟩
end Go.Proofs.YtoefeijnnnioeaaDoor
