
/- The program's default terms. -/
import Derived.Test.YtjknnlnkgpoceaaDoorKDefM
import Derived.Test.YtjknnlnkgpoceaaDoorKKidsP
import Derived.Test.YtjknnlnkgpoceaaDoorGW
set_option linter.unusedVariables false
set_option linter.unusedSimpArgs false
namespace Go.Proofs.YtjknnlnkgpoceaaDoor
open Go.RowKit

theorem zbl_alloc {w : World} {D : Nat} {o : Obj} (h : w.heap[D]? = some o) (o' : Obj) : (w.alloc o').heap[D]? = some o := ((Ext.self w).alloc o').blk h
theorem zbl_drew {w : World} {D : Nat} {o : Obj} (h : w.heap[D]? = some o) : w.drew.heap[D]? = some o := ((Ext.self w).drew).blk h
/-- What is kept of a world but one block. -/
def Kc (W W1 : World) (R : Nat) (w : World) : Prop := Below W.heap.size W w ∧ W1.heap.size ≤ w.heap.size ∧ ∀ g, g < W1.heap.size → g ≠ R → w.heap[g]? = W1.heap[g]?
section
variable {W W1 w : World} {R : Nat}
theorem Kc.self (h : Below W.heap.size W W1) : Kc W W1 R W1 := ⟨h, Nat.le_refl _, fun _ _ _ => rfl⟩
theorem Kc.drew (h : Kc W W1 R w) : Kc W W1 R w.drew := ⟨below_drew h.1, h.2.1, h.2.2⟩
theorem Kc.ext (h : Kc W W1 R w) (y : Ext w) : Kc W W1 R y.w := ⟨below_ext h.1 y, Nat.le_trans h.2.1 y.size, fun g hg hn => (y.below.block g (Nat.lt_of_lt_of_le hg h.2.1)).trans (h.2.2 g hg hn)⟩
theorem Kc.alloc (h : Kc W W1 R w) (o : Obj) : Kc W W1 R (w.alloc o) := h.ext ((Ext.self w).alloc o)
theorem Kc.set (h : Kc W W1 R w) (hR : W.heap.size ≤ R) {i : Nat} {v : Value} : Kc W W1 R (w.setCell ⟨R, i, none⟩ v) := ⟨h.1.setCell hR _, by have := h.2.1; simpa using this, fun g hg hn => (set_other rfl hn).trans (h.2.2 g hg hn)⟩
theorem Kc.cell (h : Kc W W1 R w) {g o : Nat} {v : Value} (hc : W1.cell? ⟨g, o, none⟩ = some v) (hg : g ≠ R) : w.cell? ⟨g, o, none⟩ = some v := by
  rw [World.cell?_of_block (w := W1) (a := ⟨g, o, none⟩) (h.2.2 g (cell_lt hc) hg)]
  exact hc
theorem zfa {D : Nat} (h : w.heap[D]? = some (.cells #[.int .i64 0, .int .i64 0, .slice none 0 0, .slice none 0 0] 43 (0, 0))) :
    (∀ o, (w.alloc o).cell? ⟨D, 0, none⟩ = some (.int .i64 0)) ∧ (∀ o, (w.alloc o).cell? ⟨D, 1, none⟩ = some (.int .i64 0)) ∧ (∀ o, (w.alloc o).cell? ⟨D, 2, none⟩ = some (.slice none 0 0)) ∧ (∀ o, (w.alloc o).cell? ⟨D, 3, none⟩ = some (.slice none 0 0)) ∧
    (∀ o, (w.alloc o).frozen? ⟨D, 0, none⟩ = false) ∧ (∀ o, (w.alloc o).frozen? ⟨D, 1, none⟩ = false) ∧ (∀ o, (w.alloc o).frozen? ⟨D, 2, none⟩ = false) ∧ (∀ o, (w.alloc o).frozen? ⟨D, 3, none⟩ = false) :=
  ⟨fun o => blk_cell (zbl_alloc h o) 0, fun o => blk_cell (zbl_alloc h o) 1, fun o => blk_cell (zbl_alloc h o) 2, fun o => blk_cell (zbl_alloc h o) 3, fun o => blk_free (zbl_alloc h o) 0, fun o => blk_free (zbl_alloc h o) 1, fun o => blk_free (zbl_alloc h o) 2, fun o => blk_free (zbl_alloc h o) 3⟩
end
set_option maxRecDepth 20000 in
set_option maxHeartbeats 16000000 in
theorem defaultOf_ans (T : Ty) : ∀ (_ : T.Ok) {W : World} (_ : Forms W) {b o c : Nat} (_ : Row W (Value.int .i64) (some ⟨b, o, none⟩) T.enc) (_ : T.enc.length ≤ 40) (_ : T.enc.length ≤ c) (x : Ext W),
    Calls Tryd.prog 107 #[.slice (some ⟨b, o, none⟩) T.enc.length c] x.w (NewTmO W T.dft) := by
  induction T with
  | leaf =>
    intro hok W F b o c hr hl hc x
    obtain ⟨xx, hxx⟩ : ∃ y : Ext W, x = y := ⟨x, rfl⟩
    rw [hxx]
    clear hxx x
    obtain ⟨lenT, hlenT⟩ : ∃ n, n = Ty.leaf.enc.length := ⟨_, rfl⟩
    have hlp : 0 < Ty.leaf.enc.length := Ty.enc_pos _
    have FAC : ∀ (U : World), Below W.heap.size W U → Forms U := fun U q => F.ext ⟨U, q⟩
    have RW0 : ∀ (U : World), Below W.heap.size W U → Row U (Value.int .i64) (some ⟨b, o, none⟩) Ty.leaf.enc := fun U q => hr.ext ⟨U, q⟩
    have PWC : Hid (∀ (U : World), Below W.heap.size W U → Calls Tryd.prog 80 #[.slice (some ⟨b, o, none⟩) Ty.leaf.enc.length c] U (NewRow U 47 22 id (sls b (o + 1) []))) := fun U q => partsWithin_ans (W := U) (FAC U q) (cc := 0) (ps := []) (by simp) (l := Ty.leaf.enc) rfl (RW0 U q) (by omega) (Ty.le36 hok) hc (Ext.self U)
    have m0 : ∀ y : Ext W, y.w.cell? ⟨b, o, none⟩ = some (.int .i64 (0)) := fun y => y.cell (row_head hr (l' := []) rfl)
    generalize Ty.leaf.enc.length = len at *
    clear hr hok F
    have hlp' : (0 : Int) < (len : Int) := by omega
    clear hlenT
    go_enter Tryd.func107, Tryd.ntmps107
    go_upto_region 1 with fail
    have hxW := xx.size
    generalize hWa : xx.w.alloc _ = Wa
    generalize hB : xx.w.heap.size = BB at *
    obtain ⟨bA, sA, bel⟩ := blocks1 hB hWa
    have belA : Below W.heap.size W Wa := xx.below.trans (bel.mono (by omega))
    clear hWa bel
    obtain ⟨f0, f2, f3, f4, f6, FOC⟩ := form_some (FAC Wa belA) (0) 0 rfl (by first | decide | (unfold Arr at *; omega) | (unfold Bx at *; omega))
    have m1 : ∀ y : Ext Wa, y.w.cell? ⟨b, o, none⟩ = some (.int .i64 (0)) := fun y => m0 ⟨y.w, below_ext belA y⟩
    have m2 := m1 (Ext.self Wa)
    dsimp only at m2
    go_wp2_with fail
    refine Calls.mono (FOC (Ext.self Wa)) ?_
    rintro e w' ⟨rfl, yy, rfl⟩
    clear FOC m0 m1 m2
    go_wp2_with fail
    generalize hY : yy.w.alloc _ = Y1
    have bY := new_blk hY
    have belY : Below W.heap.size W Y1 := by rw [← hY]; exact (below_ext belA yy).alloc (Nat.le_trans belA.size yy.size) _
    have bA1 : Y1.heap[BB]? = some (.cells #[.int .i64 0, .int .i64 0, .slice none 0 0, .slice none 0 0] 43 (0, 0)) := by rw [← hY]; exact ((Ext.self yy.w).alloc _).blk (yy.blk bA)
    have zY : Wa.heap.size ≤ Y1.heap.size := by rw [← hY]; exact Nat.le_trans yy.size (by simp)
    generalize yy.w.heap.size = B1 at *
    clear hY yy
    refine Calls.mono (PWC.out Y1 belY) ?_
    clear PWC
    rintro e w' ⟨pv, zz, rfl, rfl, own⟩
    have belZ := below_ext belY zz
    have bZ := zz.blk bA1
    have zZ : Y1.heap.size ≤ zz.w.heap.size := zz.size
    have mF := blk_cell (zz.blk bY) 1
    simp at mF
    have n0 := blk_cell bZ 0
    have n1 := blk_cell bZ 1
    have n2 := blk_cell bZ 2
    have n3 := blk_cell bZ 3
    have p0 := blk_free bZ 0
    have p1 := blk_free bZ 1
    have p2 := blk_free bZ 2
    have p3 := blk_free bZ 3
    simp at n0 n1 n2 n3
    go_wp2
    clear n0 n1 n2 n3 p0 p1 p2 p3
    generalize hY : World.setCell _ _ _ = Y
    obtain ⟨⟨NB9, y9, rfl, own9, lo9⟩, r0, r1, r2, r3⟩ := dft_end (W := W) bZ (bare_own zz.w 1 0) (fun g h => h.elim) (belZ) hxW hY
    simp only [Tm.op, Tm.n, Tm.ty, Tm.kids, List.length_cons, List.length_nil] at r0 r1 r2 r3
    refine bodyPost_ret (v := TV.val ⟨none, 0, none, 0⟩ (.mk 1 0 [] [])) (by simp [results, Tryd.results107, go_sem, r0, r1, r2, r3, TV.val, Tm.op, Tm.n, Tm.ty, Tm.kids]) rfl ?_
    exact ⟨_, NB9, y9, rfl, rfl, own9, lo9⟩
  | one cc A ihA =>
    intro hok W F b o c hr hl hc x
    obtain ⟨xx, hxx⟩ : ∃ y : Ext W, x = y := ⟨x, rfl⟩
    rw [hxx]
    clear hxx x
    have hbx := Ty.bx_of hok.1
    obtain ⟨lenT, hlenT⟩ : ∃ n, n = (Ty.one cc A).enc.length := ⟨_, rfl⟩
    have hlp : 0 < (Ty.one cc A).enc.length := Ty.enc_pos _
    have FAC : ∀ (U : World), Below W.heap.size W U → Forms U := fun U q => F.ext ⟨U, q⟩
    have RW0 : ∀ (U : World), Below W.heap.size W U → Row U (Value.int .i64) (some ⟨b, o, none⟩) (Ty.one cc A).enc := fun U q => hr.ext ⟨U, q⟩
    have PWC : Hid (∀ (U : World), Below W.heap.size W U → Calls Tryd.prog 80 #[.slice (some ⟨b, o, none⟩) (Ty.one cc A).enc.length c] U (NewRow U 47 22 id (sls b (o + 1) [A]))) := fun U q => partsWithin_ans (W := U) (FAC U q) (cc := cc) (ps := [A]) (by intro t ht; simp at ht; subst ht; exact hok.2) (l := (Ty.one cc A).enc) (by simp [Ty.enc, Ty.encs]) (RW0 U q) (by omega) (Ty.le36 hok) hc (Ext.self U)
    have m0 : ∀ y : Ext W, y.w.cell? ⟨b, o, none⟩ = some (.int .i64 (cc)) := fun y => y.cell (row_head hr (l' := A.enc) rfl)
    have hlA : A.enc.length ≤ 40 := by have := Ty.len_one cc A; omega
    have IH : Hid (∀ {U : World} (_ : Below W.heap.size W U), Calls Tryd.prog 107 #[.slice (some ⟨b, o + 1, none⟩) A.enc.length A.enc.length] U (NewTmO U A.dft)) := fun {U} q => ihA hok.2 (FAC U q) (row_one (RW0 U q)) hlA (Nat.le_refl _) (Ext.self U)
    have hgf := gF_bx hbx
    generalize (Ty.one cc A).enc.length = len at *
    have hlp' : (0 : Int) < (len : Int) := by omega
    clear hr hok ihA hl F hlenT RW0
    show Calls _ _ _ _ (NewTmO W (.mk 11 (gradeOf cc) [] [A.dft]))
    go_enter Tryd.func107, Tryd.ntmps107
    go_upto_region 1 with fail
    have hxW := xx.size
    generalize hWa : xx.w.alloc _ = Wa
    generalize hB : xx.w.heap.size = BB at *
    obtain ⟨bA, sA, bel⟩ := blocks1 hB hWa
    have belA : Below W.heap.size W Wa := xx.below.trans (bel.mono (by omega))
    clear hWa bel
    obtain ⟨f0, f2, f3, f4, f6, FOC⟩ := form_some (FAC Wa belA) (cc) 19 (codeF_bx hbx) (by first | decide | (unfold Arr at *; omega) | (unfold Bx at *; omega))
    have m1 : ∀ y : Ext Wa, y.w.cell? ⟨b, o, none⟩ = some (.int .i64 (cc)) := fun y => m0 ⟨y.w, below_ext belA y⟩
    have m2 := m1 (Ext.self Wa)
    dsimp only at m2
    go_wp2_with fail
    refine Calls.mono (FOC (Ext.self Wa)) ?_
    rintro e w' ⟨rfl, yy, rfl⟩
    rw [hgf]
    clear FOC m0 m1 m2
    go_wp2_with fail
    generalize hY : yy.w.alloc _ = Y1
    have bY := new_blk hY
    have belY : Below W.heap.size W Y1 := by rw [← hY]; exact (below_ext belA yy).alloc (Nat.le_trans belA.size yy.size) _
    have bA1 : Y1.heap[BB]? = some (.cells #[.int .i64 0, .int .i64 0, .slice none 0 0, .slice none 0 0] 43 (0, 0)) := by rw [← hY]; exact ((Ext.self yy.w).alloc _).blk (yy.blk bA)
    have zY : Wa.heap.size ≤ Y1.heap.size := by rw [← hY]; exact Nat.le_trans yy.size (by simp)
    generalize yy.w.heap.size = B1 at *
    clear hY yy
    refine Calls.mono (PWC.out Y1 belY) ?_
    clear PWC
    rintro e w' ⟨pv, zz, rfl, rfl, own⟩
    have belZ := below_ext belY zz
    have bZ := zz.blk bA1
    have zZ : Y1.heap.size ≤ zz.w.heap.size := zz.size
    have mF := blk_cell (zz.blk bY) 1
    simp at mF
    generalize gradeOf cc = gg at *
    obtain ⟨g, gc, rfl, row, hcap, gb, gl⟩ := own_some own (by simp [sls])
    have g0 := row_at row 0 _ rfl
    clear own row hcap
    rw [show (sls b (o + 1) [A]).length = 1 from rfl]
    go_wp2_with fail
    refine Calls.mono (IH.out belZ) ?_
    rintro e w' ⟨r4, K4, y4, rfl, rfl, own4, lo4⟩
    unfold TV.val
    have bA4 := y4.blk bZ
    have bel4 : Below W.heap.size W y4.w := below_ext belZ y4
    have s4 : BB < y4.w.heap.size := (Array.getElem?_eq_some_iff.1 bA4).1
    generalize hV : y4.w.alloc (.cells #[.int .i64 A.dft.op, .int .i64 A.dft.n, .slice r4.a A.dft.ty.length r4.c, .slice r4.b A.dft.kids.length r4.d] 43) = V
    have ownV := own_one (op := 11) (n := gg) (l := []) (a := none) (c := 0) own4 (World.ownsRow_nil _ _ _ _) (fun g h => by simp [ob]) hV
    have bV : V.heap[BB]? = some (.cells #[.int .i64 0, .int .i64 0, .slice none 0 0, .slice none 0 0] 43 (0, 0)) := by rw [← hV]; exact ((Ext.self y4.w).alloc _).blk bA4
    have belV : Below W.heap.size W V := by rw [← hV]; exact bel4.alloc bel4.size _
    have n0 := blk_cell bV 0
    have n1 := blk_cell bV 1
    have n2 := blk_cell bV 2
    have n3 := blk_cell bV 3
    have p0 := blk_free bV 0
    have p1 := blk_free bV 1
    have p2 := blk_free bV 2
    have p3 := blk_free bV 3
    simp at n0 n1 n2 n3
    go_wp2
    clear n0 n1 n2 n3 p0 p1 p2 p3
    generalize hY : World.setCell _ _ _ = Y
    obtain ⟨⟨NB9, y9, rfl, own9, lo9⟩, r0, r1, r2, r3⟩ := dft_end (W := W) bV (ownV) (fun g h => by rcases h with h | h | h; simp [ob] at h; (cases h; exact ⟨by omega, by omega⟩); (have : zz.w.heap.size ≤ g := lo4 g h; exact ⟨by omega, by omega⟩)) (belV) hxW hY
    simp only [Tm.op, Tm.n, Tm.ty, Tm.kids, List.length_cons, List.length_nil] at r0 r1 r2 r3
    refine bodyPost_ret (v := TV.val ⟨none, 0, some ⟨y4.w.heap.size, 0, none⟩, 1⟩ (.mk 11 gg [] [A.dft])) (by simp [results, Tryd.results107, go_sem, r0, r1, r2, r3, TV.val, Tm.op, Tm.n, Tm.ty, Tm.kids]) rfl ?_
    exact ⟨_, NB9, y9, rfl, rfl, own9, lo9⟩
  | two cc A B ihA ihB =>
    intro hok W F b o c hr hl hc x
    obtain ⟨xx, hxx⟩ : ∃ y : Ext W, x = y := ⟨x, rfl⟩
    rw [hxx]
    clear hxx x
    have htw := Ty.two_of hok.1
    obtain ⟨lenT, hlenT⟩ : ∃ n, n = (Ty.two cc A B).enc.length := ⟨_, rfl⟩
    have hlp : 0 < (Ty.two cc A B).enc.length := Ty.enc_pos _
    have FAC : ∀ (U : World), Below W.heap.size W U → Forms U := fun U q => F.ext ⟨U, q⟩
    have RW0 : ∀ (U : World), Below W.heap.size W U → Row U (Value.int .i64) (some ⟨b, o, none⟩) (Ty.two cc A B).enc := fun U q => hr.ext ⟨U, q⟩
    have PWC : Hid (∀ (U : World), Below W.heap.size W U → Calls Tryd.prog 80 #[.slice (some ⟨b, o, none⟩) (Ty.two cc A B).enc.length c] U (NewRow U 47 22 id (sls b (o + 1) [A, B]))) := fun U q => partsWithin_ans (W := U) (FAC U q) (cc := cc) (ps := [A, B]) (by intro t ht; simp at ht; rcases ht with rfl | rfl; exact hok.2.1; exact hok.2.2) (l := (Ty.two cc A B).enc) (by simp [Ty.enc, Ty.encs]) (RW0 U q) (by omega) (Ty.le36 hok) hc (Ext.self U)
    have m0 : ∀ y : Ext W, y.w.cell? ⟨b, o, none⟩ = some (.int .i64 (cc)) := fun y => y.cell (row_head hr (l' := A.enc ++ B.enc) rfl)
    have hlA : A.enc.length ≤ 40 := by have := Ty.len_two cc A B; omega
    have hlB : B.enc.length ≤ 40 := by have := Ty.len_two cc A B; omega
    have IHA : Hid (∀ {U : World} (_ : Below W.heap.size W U), Calls Tryd.prog 107 #[.slice (some ⟨b, o + 1, none⟩) A.enc.length A.enc.length] U (NewTmO U A.dft)) := fun {U} q => ihA hok.2.1 (FAC U q) (row_two1 (RW0 U q)) hlA (Nat.le_refl _) (Ext.self U)
    have RB : Hid (∀ U : World, Below W.heap.size W U → Row U (Value.int .i64) (some ⟨b, o + 1 + A.enc.length, none⟩) B.enc) := fun U q => by rw [Nat.add_assoc]; exact row_two2 (RW0 U q)
    have IHB : Hid (∀ {U : World} (_ : Below W.heap.size W U), Calls Tryd.prog 107 #[.slice (some ⟨b, o + 1 + A.enc.length, none⟩) B.enc.length B.enc.length] U (NewTmO U B.dft)) := fun {U} q => ihB hok.2.2 (FAC U q) (RB.out U q) hlB (Nat.le_refl _) (Ext.self U)
    have RA : Hid (∀ U : World, Below W.heap.size W U → Row U (Value.int .i64) (some ⟨b, o + 1, none⟩) A.enc) := fun U q => row_two1 (RW0 U q)
    generalize (Ty.two cc A B).enc.length = len at *
    have hlp' : (0 : Int) < (len : Int) := by omega
    clear hr hok ihA ihB hl F hlenT RW0
    rcases htw with rfl | rfl | ha
    · rw [show (Ty.two 1 A B).dft = .mk 4 0 [] [A.dft, B.dft] from rfl]
      go_enter Tryd.func107, Tryd.ntmps107
      go_upto_region 1 with fail
      have hxW := xx.size
      generalize hWa : xx.w.alloc _ = Wa
      generalize hB : xx.w.heap.size = BB at *
      obtain ⟨bA, sA, bel⟩ := blocks1 hB hWa
      have belA : Below W.heap.size W Wa := xx.below.trans (bel.mono (by omega))
      clear hWa bel
      obtain ⟨f0, f2, f3, f4, f6, FOC⟩ := form_some (FAC Wa belA) (1) 1 rfl (by first | decide | (unfold Arr at *; omega) | (unfold Bx at *; omega))
      have m1 : ∀ y : Ext Wa, y.w.cell? ⟨b, o, none⟩ = some (.int .i64 (1)) := fun y => m0 ⟨y.w, below_ext belA y⟩
      have m2 := m1 (Ext.self Wa)
      dsimp only at m2
      go_wp2_with fail
      refine Calls.mono (FOC (Ext.self Wa)) ?_
      rintro e w' ⟨rfl, yy, rfl⟩
      clear FOC m0 m1 m2
      go_wp2_with fail
      generalize hY : yy.w.alloc _ = Y1
      have bY := new_blk hY
      have belY : Below W.heap.size W Y1 := by rw [← hY]; exact (below_ext belA yy).alloc (Nat.le_trans belA.size yy.size) _
      have bA1 : Y1.heap[BB]? = some (.cells #[.int .i64 0, .int .i64 0, .slice none 0 0, .slice none 0 0] 43 (0, 0)) := by rw [← hY]; exact ((Ext.self yy.w).alloc _).blk (yy.blk bA)
      have zY : Wa.heap.size ≤ Y1.heap.size := by rw [← hY]; exact Nat.le_trans yy.size (by simp)
      generalize yy.w.heap.size = B1 at *
      clear hY yy
      refine Calls.mono (PWC.out Y1 belY) ?_
      clear PWC
      rintro e w' ⟨pv, zz, rfl, rfl, own⟩
      have belZ := below_ext belY zz
      have bZ := zz.blk bA1
      have zZ : Y1.heap.size ≤ zz.w.heap.size := zz.size
      have mF := blk_cell (zz.blk bY) 1
      simp at mF
      obtain ⟨g, gc, rfl, row, hcap, gb, gl⟩ := own_some own (by simp [sls])
      have g0 := row_at row 0 _ rfl
      have g1 := row_at row 1 _ rfl
      clear own row hcap
      rw [show (sls b (o + 1) [A, B]).length = 2 from rfl]
      have hRW : W.heap.size ≤ BB := hxW
      have hgB : g ≠ BB := by omega
      have KG : Hid (∀ w', Kc W zz.w BB w' → w'.cell? ⟨g, 0, none⟩ = some (.slice (some ⟨b, o + 1, none⟩) A.enc.length A.enc.length) ∧ w'.cell? ⟨g, 1, none⟩ = some (.slice (some ⟨b, o + 1 + A.enc.length, none⟩) B.enc.length B.enc.length)) := fun w' k => ⟨k.cell g0 hgB, k.cell g1 hgB⟩
      have DA : Hid (∀ w', Kc W zz.w BB w' → Calls Tryd.prog 107 #[.slice (some ⟨b, o + 1, none⟩) A.enc.length A.enc.length] w' (NewTmO w' A.dft)) := fun w' k => IHA.out k.1
      have DB : Hid (∀ w', Kc W zz.w BB w' → Calls Tryd.prog 107 #[.slice (some ⟨b, o + 1 + A.enc.length, none⟩) B.enc.length B.enc.length] w' (NewTmO w' B.dft)) := fun w' k => IHB.out k.1
      have CA : Hid (∀ w', Kc W zz.w BB w' → Calls Tryd.prog 81 #[.slice (some ⟨b, o + 1, none⟩) A.enc.length A.enc.length] w' (NewRow w' 22 3 (Value.int .i64) A.enc)) := fun w' k => cloneInts_ans (W := w') (RA.out w' k.1) (by omega) (Ext.self w')
      have CB : Hid (∀ w', Kc W zz.w BB w' → Calls Tryd.prog 81 #[.slice (some ⟨b, o + 1 + A.enc.length, none⟩) B.enc.length B.enc.length] w' (NewRow w' 22 3 (Value.int .i64) B.enc)) := fun w' k => cloneInts_ans (W := w') (RB.out w' k.1) (by omega) (Ext.self w')
      go_wp2_with fail
      unfold NewTmO TV.val at DA DB
      go_region_held3 (fun w' => w'.cell? ⟨g, 0, none⟩ = some (.slice (some ⟨b, o + 1, none⟩) A.enc.length A.enc.length) ∧ w'.cell? ⟨g, 1, none⟩ = some (.slice (some ⟨b, o + 1 + A.enc.length, none⟩) B.enc.length B.enc.length)) ((refine KG.out _ ?_; (with_reducible (repeat (first | exact Kc.self belZ | refine Kc.drew ?_ | refine Kc.alloc ?_ _ | refine Kc.set ?_ hRW | refine Kc.ext ?_ _)))))
        (first | (go_at_call 107; (with_reducible refine Calls.mono (DA.out _ (by (with_reducible (repeat (first | exact Kc.self belZ | refine Kc.drew ?_ | refine Kc.alloc ?_ _ | refine Kc.set ?_ hRW | refine Kc.ext ?_ _))))) ?_); rintro e w' ⟨rA, KA, yA, rfl, rfl, ownA, loA⟩; (first | (have hz9 := yA.blk (yB.blk (zbl_drew bZ)); obtain ⟨n0, n1, n2, n3, p0, p1, p2, p3⟩ := zfa hz9; clear hz9) | (have hz9 := yA.blk (zbl_drew bZ); obtain ⟨n0, n1, n2, n3, p0, p1, p2, p3⟩ := zfa hz9; clear hz9))) | (go_at_call 107; (with_reducible refine Calls.mono (DB.out _ (by (with_reducible (repeat (first | exact Kc.self belZ | refine Kc.drew ?_ | refine Kc.alloc ?_ _ | refine Kc.set ?_ hRW | refine Kc.ext ?_ _))))) ?_); rintro e w' ⟨rB, KB, yB, rfl, rfl, ownB, loB⟩; (first | (have hz9 := yB.blk (yA.blk (zbl_drew bZ)); obtain ⟨n0, n1, n2, n3, p0, p1, p2, p3⟩ := zfa hz9; clear hz9) | (have hz9 := yB.blk (zbl_drew bZ); obtain ⟨n0, n1, n2, n3, p0, p1, p2, p3⟩ := zfa hz9; clear hz9))))
      go_wp2_with fail
      clear n0 n1 n2 n3 p0 p1 p2 p3
      have bZ9 := yB.blk (yA.blk (zbl_drew bZ))
      have z1 : zz.w.heap.size ≤ yA.w.heap.size := yA.size
      have z2 : yA.w.heap.size ≤ yB.w.heap.size := yB.size
      have lt1 := ownA.lt
      have bel9 : Below W.heap.size W yB.w := below_ext (below_ext (below_drew belZ) yA) yB
      have s4 : BB < zz.w.heap.size := (Array.getElem?_eq_some_iff.1 bZ).1
      generalize hV : World.alloc _ _ = V
      have ownV := own_two (op := 4) (n := 0) (ownA.ext yB) ownB (fun g h1 h2 => by have := lt1 g h1; have : yA.w.heap.size ≤ g := loB g h2; omega) hV
      have bV := zbl_alloc bZ9 (.cells #[.int .i64 A.dft.op, .int .i64 A.dft.n, .slice rA.a A.dft.ty.length rA.c, .slice rA.b A.dft.kids.length rA.d, .int .i64 B.dft.op, .int .i64 B.dft.n, .slice rB.a B.dft.ty.length rB.c, .slice rB.b B.dft.kids.length rB.d] 43)
      have belV := bel9.alloc bel9.size (.cells #[.int .i64 A.dft.op, .int .i64 A.dft.n, .slice rA.a A.dft.ty.length rA.c, .slice rA.b A.dft.kids.length rA.d, .int .i64 B.dft.op, .int .i64 B.dft.n, .slice rB.a B.dft.ty.length rB.c, .slice rB.b B.dft.kids.length rB.d] 43)
      rw [hV] at bV belV
      generalize hY : World.setCell _ _ _ = Y
      obtain ⟨⟨NB9, y9, rfl, own9, lo9⟩, r0, r1, r2, r3⟩ := dft_end (W := W) bV (ownV) (fun g h => by rcases h with h | h | h; (cases h; exact ⟨by omega, by omega⟩); (have : zz.w.heap.size ≤ g := loA g h; exact ⟨by omega, by omega⟩); (have : yA.w.heap.size ≤ g := loB g h; exact ⟨by omega, by omega⟩)) (belV) hxW hY
      simp only [Tm.op, Tm.n, Tm.ty, Tm.kids, List.length_cons, List.length_nil] at r0 r1 r2 r3
      refine bodyPost_ret (v := TV.val ⟨none, 0, some ⟨yB.w.heap.size, 0, none⟩, 2⟩ (.mk 4 0 [] [A.dft, B.dft])) (by simp [results, Tryd.results107, go_sem, r0, r1, r2, r3, TV.val, Tm.op, Tm.n, Tm.ty, Tm.kids]) rfl ?_
      exact ⟨_, NB9, y9, rfl, rfl, own9, lo9⟩
    · rw [show (Ty.two 2 A B).dft = .mk 6 0 B.enc [A.dft] from rfl]
      go_enter Tryd.func107, Tryd.ntmps107
      go_upto_region 1 with fail
      have hxW := xx.size
      generalize hWa : xx.w.alloc _ = Wa
      generalize hB : xx.w.heap.size = BB at *
      obtain ⟨bA, sA, bel⟩ := blocks1 hB hWa
      have belA : Below W.heap.size W Wa := xx.below.trans (bel.mono (by omega))
      clear hWa bel
      obtain ⟨f0, f2, f3, f4, f6, FOC⟩ := form_some (FAC Wa belA) (2) 2 rfl (by first | decide | (unfold Arr at *; omega) | (unfold Bx at *; omega))
      have m1 : ∀ y : Ext Wa, y.w.cell? ⟨b, o, none⟩ = some (.int .i64 (2)) := fun y => m0 ⟨y.w, below_ext belA y⟩
      have m2 := m1 (Ext.self Wa)
      dsimp only at m2
      go_wp2_with fail
      refine Calls.mono (FOC (Ext.self Wa)) ?_
      rintro e w' ⟨rfl, yy, rfl⟩
      clear FOC m0 m1 m2
      go_wp2_with fail
      generalize hY : yy.w.alloc _ = Y1
      have bY := new_blk hY
      have belY : Below W.heap.size W Y1 := by rw [← hY]; exact (below_ext belA yy).alloc (Nat.le_trans belA.size yy.size) _
      have bA1 : Y1.heap[BB]? = some (.cells #[.int .i64 0, .int .i64 0, .slice none 0 0, .slice none 0 0] 43 (0, 0)) := by rw [← hY]; exact ((Ext.self yy.w).alloc _).blk (yy.blk bA)
      have zY : Wa.heap.size ≤ Y1.heap.size := by rw [← hY]; exact Nat.le_trans yy.size (by simp)
      generalize yy.w.heap.size = B1 at *
      clear hY yy
      refine Calls.mono (PWC.out Y1 belY) ?_
      clear PWC
      rintro e w' ⟨pv, zz, rfl, rfl, own⟩
      have belZ := below_ext belY zz
      have bZ := zz.blk bA1
      have zZ : Y1.heap.size ≤ zz.w.heap.size := zz.size
      have mF := blk_cell (zz.blk bY) 1
      simp at mF
      obtain ⟨g, gc, rfl, row, hcap, gb, gl⟩ := own_some own (by simp [sls])
      have g0 := row_at row 0 _ rfl
      have g1 := row_at row 1 _ rfl
      clear own row hcap
      rw [show (sls b (o + 1) [A, B]).length = 2 from rfl]
      have hRW : W.heap.size ≤ BB := hxW
      have hgB : g ≠ BB := by omega
      have KG : Hid (∀ w', Kc W zz.w BB w' → w'.cell? ⟨g, 0, none⟩ = some (.slice (some ⟨b, o + 1, none⟩) A.enc.length A.enc.length) ∧ w'.cell? ⟨g, 1, none⟩ = some (.slice (some ⟨b, o + 1 + A.enc.length, none⟩) B.enc.length B.enc.length)) := fun w' k => ⟨k.cell g0 hgB, k.cell g1 hgB⟩
      have DA : Hid (∀ w', Kc W zz.w BB w' → Calls Tryd.prog 107 #[.slice (some ⟨b, o + 1, none⟩) A.enc.length A.enc.length] w' (NewTmO w' A.dft)) := fun w' k => IHA.out k.1
      have DB : Hid (∀ w', Kc W zz.w BB w' → Calls Tryd.prog 107 #[.slice (some ⟨b, o + 1 + A.enc.length, none⟩) B.enc.length B.enc.length] w' (NewTmO w' B.dft)) := fun w' k => IHB.out k.1
      have CA : Hid (∀ w', Kc W zz.w BB w' → Calls Tryd.prog 81 #[.slice (some ⟨b, o + 1, none⟩) A.enc.length A.enc.length] w' (NewRow w' 22 3 (Value.int .i64) A.enc)) := fun w' k => cloneInts_ans (W := w') (RA.out w' k.1) (by omega) (Ext.self w')
      have CB : Hid (∀ w', Kc W zz.w BB w' → Calls Tryd.prog 81 #[.slice (some ⟨b, o + 1 + A.enc.length, none⟩) B.enc.length B.enc.length] w' (NewRow w' 22 3 (Value.int .i64) B.enc)) := fun w' k => cloneInts_ans (W := w') (RB.out w' k.1) (by omega) (Ext.self w')
      go_wp2_with fail
      unfold NewTmO TV.val at DA
      go_region_held3 (fun w' => w'.cell? ⟨g, 0, none⟩ = some (.slice (some ⟨b, o + 1, none⟩) A.enc.length A.enc.length) ∧ w'.cell? ⟨g, 1, none⟩ = some (.slice (some ⟨b, o + 1 + A.enc.length, none⟩) B.enc.length B.enc.length)) ((refine KG.out _ ?_; (with_reducible (repeat (first | exact Kc.self belZ | refine Kc.drew ?_ | refine Kc.alloc ?_ _ | refine Kc.set ?_ hRW | refine Kc.ext ?_ _)))))
        (first | (go_at_call 107; (with_reducible refine Calls.mono (DA.out _ (by (with_reducible (repeat (first | exact Kc.self belZ | refine Kc.drew ?_ | refine Kc.alloc ?_ _ | refine Kc.set ?_ hRW | refine Kc.ext ?_ _))))) ?_); rintro e w' ⟨rA, KA, yA, rfl, rfl, ownA, loA⟩; (first | (have hz9 := yA.blk (yC.blk (zbl_drew bZ)); obtain ⟨n0, n1, n2, n3, p0, p1, p2, p3⟩ := zfa hz9; clear hz9) | (have hz9 := yA.blk (zbl_drew bZ); obtain ⟨n0, n1, n2, n3, p0, p1, p2, p3⟩ := zfa hz9; clear hz9))) | (go_at_call 81; (with_reducible refine Calls.mono (CB.out _ (by (with_reducible (repeat (first | exact Kc.self belZ | refine Kc.drew ?_ | refine Kc.alloc ?_ _ | refine Kc.set ?_ hRW | refine Kc.ext ?_ _))))) ?_); rintro e w' ⟨vc, yC, rfl, rfl, ownC⟩; obtain ⟨ac, dc, rfl, -, -⟩ := owned_row ownC; (first | (have hz9 := yC.blk (yA.blk (zbl_drew bZ)); obtain ⟨n0, n1, n2, n3, p0, p1, p2, p3⟩ := zfa hz9; clear hz9) | (have hz9 := yC.blk (zbl_drew bZ); obtain ⟨n0, n1, n2, n3, p0, p1, p2, p3⟩ := zfa hz9; clear hz9))))
      go_wp2_with fail
      clear n0 n1 n2 n3 p0 p1 p2 p3
      have bZ9 := yA.blk (yC.blk (zbl_drew bZ))
      have z1 : zz.w.heap.size ≤ yC.w.heap.size := yC.size
      have z2 : yC.w.heap.size ≤ yA.w.heap.size := yA.size
      have lt1 := ownA.lt
      have bel9 : Below W.heap.size W yA.w := below_ext (below_ext (below_drew belZ) yC) yA
      have s4 : BB < zz.w.heap.size := (Array.getElem?_eq_some_iff.1 bZ).1
      generalize hV : World.alloc _ _ = V
      have lc : ∀ g, ob ac = some g → zz.w.heap.size ≤ g ∧ g < yC.w.heap.size := fun g e => ⟨(ownC.lt g (by rw [ob_eq]; exact e)).1, (ownC.lt g (by rw [ob_eq]; exact e)).2⟩
      have ownV := own_one (op := 6) (n := 0) (l := B.enc) (a := ac) (c := dc) ownA (owns_lower (owns_ext ownC yA) (Nat.zero_le _)) (fun g h1 h2 => by have : yC.w.heap.size ≤ g := loA g h1; have := lc g h2; omega) hV
      have bV := zbl_alloc bZ9 (.cells #[.int .i64 A.dft.op, .int .i64 A.dft.n, .slice rA.a A.dft.ty.length rA.c, .slice rA.b A.dft.kids.length rA.d] 43)
      have belV := bel9.alloc bel9.size (.cells #[.int .i64 A.dft.op, .int .i64 A.dft.n, .slice rA.a A.dft.ty.length rA.c, .slice rA.b A.dft.kids.length rA.d] 43)
      rw [hV] at bV belV
      generalize hY : World.setCell _ _ _ = Y
      obtain ⟨⟨NB9, y9, rfl, own9, lo9⟩, r0, r1, r2, r3⟩ := dft_end (W := W) bV (ownV) (fun g h => by rcases h with h | h | h; (have := lc g h; exact ⟨by omega, by omega⟩); (cases h; exact ⟨by omega, by omega⟩); (have : yC.w.heap.size ≤ g := loA g h; exact ⟨by omega, by omega⟩)) (belV) hxW hY
      simp only [Tm.op, Tm.n, Tm.ty, Tm.kids, List.length_cons, List.length_nil] at r0 r1 r2 r3
      refine bodyPost_ret (v := TV.val ⟨ac, dc, some ⟨yA.w.heap.size, 0, none⟩, 1⟩ (.mk 6 0 B.enc [A.dft])) (by simp [results, Tryd.results107, go_sem, r0, r1, r2, r3, TV.val, Tm.op, Tm.n, Tm.ty, Tm.kids]) rfl ?_
      exact ⟨_, NB9, y9, rfl, rfl, own9, lo9⟩
    · have h3 : ¬ cc = 1 ∧ ¬ cc = 2 := by unfold Arr at ha; omega
      have hgf : gF cc = gradeOf cc := by unfold gF; rw [if_pos (.inl ha)]
      rw [show (Ty.two cc A B).dft = .mk 9 (gradeOf cc) A.enc [B.dft] by simp only [Ty.dft]; rw [if_neg h3.1, if_neg h3.2]]
      go_enter Tryd.func107, Tryd.ntmps107
      go_upto_region 1 with fail
      have hxW := xx.size
      generalize hWa : xx.w.alloc _ = Wa
      generalize hB : xx.w.heap.size = BB at *
      obtain ⟨bA, sA, bel⟩ := blocks1 hB hWa
      have belA : Below W.heap.size W Wa := xx.below.trans (bel.mono (by omega))
      clear hWa bel
      obtain ⟨f0, f2, f3, f4, f6, FOC⟩ := form_some (FAC Wa belA) (cc) 3 (codeF_arr ha) (by first | decide | (unfold Arr at *; omega) | (unfold Bx at *; omega))
      have m1 : ∀ y : Ext Wa, y.w.cell? ⟨b, o, none⟩ = some (.int .i64 (cc)) := fun y => m0 ⟨y.w, below_ext belA y⟩
      have m2 := m1 (Ext.self Wa)
      dsimp only at m2
      go_wp2_with fail
      refine Calls.mono (FOC (Ext.self Wa)) ?_
      rintro e w' ⟨rfl, yy, rfl⟩
      rw [hgf]
      clear FOC m0 m1 m2
      go_wp2_with fail
      generalize hY : yy.w.alloc _ = Y1
      have bY := new_blk hY
      have belY : Below W.heap.size W Y1 := by rw [← hY]; exact (below_ext belA yy).alloc (Nat.le_trans belA.size yy.size) _
      have bA1 : Y1.heap[BB]? = some (.cells #[.int .i64 0, .int .i64 0, .slice none 0 0, .slice none 0 0] 43 (0, 0)) := by rw [← hY]; exact ((Ext.self yy.w).alloc _).blk (yy.blk bA)
      have zY : Wa.heap.size ≤ Y1.heap.size := by rw [← hY]; exact Nat.le_trans yy.size (by simp)
      generalize yy.w.heap.size = B1 at *
      clear hY yy
      refine Calls.mono (PWC.out Y1 belY) ?_
      clear PWC
      rintro e w' ⟨pv, zz, rfl, rfl, own⟩
      have belZ := below_ext belY zz
      have bZ := zz.blk bA1
      have zZ : Y1.heap.size ≤ zz.w.heap.size := zz.size
      have mF := blk_cell (zz.blk bY) 1
      simp at mF
      obtain ⟨g, gc, rfl, row, hcap, gb, gl⟩ := own_some own (by simp [sls])
      have g0 := row_at row 0 _ rfl
      have g1 := row_at row 1 _ rfl
      clear own row hcap
      rw [show (sls b (o + 1) [A, B]).length = 2 from rfl]
      have hRW : W.heap.size ≤ BB := hxW
      have hgB : g ≠ BB := by omega
      have KG : Hid (∀ w', Kc W zz.w BB w' → w'.cell? ⟨g, 0, none⟩ = some (.slice (some ⟨b, o + 1, none⟩) A.enc.length A.enc.length) ∧ w'.cell? ⟨g, 1, none⟩ = some (.slice (some ⟨b, o + 1 + A.enc.length, none⟩) B.enc.length B.enc.length)) := fun w' k => ⟨k.cell g0 hgB, k.cell g1 hgB⟩
      have DA : Hid (∀ w', Kc W zz.w BB w' → Calls Tryd.prog 107 #[.slice (some ⟨b, o + 1, none⟩) A.enc.length A.enc.length] w' (NewTmO w' A.dft)) := fun w' k => IHA.out k.1
      have DB : Hid (∀ w', Kc W zz.w BB w' → Calls Tryd.prog 107 #[.slice (some ⟨b, o + 1 + A.enc.length, none⟩) B.enc.length B.enc.length] w' (NewTmO w' B.dft)) := fun w' k => IHB.out k.1
      have CA : Hid (∀ w', Kc W zz.w BB w' → Calls Tryd.prog 81 #[.slice (some ⟨b, o + 1, none⟩) A.enc.length A.enc.length] w' (NewRow w' 22 3 (Value.int .i64) A.enc)) := fun w' k => cloneInts_ans (W := w') (RA.out w' k.1) (by omega) (Ext.self w')
      have CB : Hid (∀ w', Kc W zz.w BB w' → Calls Tryd.prog 81 #[.slice (some ⟨b, o + 1 + A.enc.length, none⟩) B.enc.length B.enc.length] w' (NewRow w' 22 3 (Value.int .i64) B.enc)) := fun w' k => cloneInts_ans (W := w') (RB.out w' k.1) (by omega) (Ext.self w')
      go_wp2_with fail
      unfold NewTmO TV.val at DB
      go_region_held3 (fun w' => w'.cell? ⟨g, 0, none⟩ = some (.slice (some ⟨b, o + 1, none⟩) A.enc.length A.enc.length) ∧ w'.cell? ⟨g, 1, none⟩ = some (.slice (some ⟨b, o + 1 + A.enc.length, none⟩) B.enc.length B.enc.length)) ((refine KG.out _ ?_; (with_reducible (repeat (first | exact Kc.self belZ | refine Kc.drew ?_ | refine Kc.alloc ?_ _ | refine Kc.set ?_ hRW | refine Kc.ext ?_ _)))))
        (first | (go_at_call 107; (with_reducible refine Calls.mono (DB.out _ (by (with_reducible (repeat (first | exact Kc.self belZ | refine Kc.drew ?_ | refine Kc.alloc ?_ _ | refine Kc.set ?_ hRW | refine Kc.ext ?_ _))))) ?_); rintro e w' ⟨rB, KB, yB, rfl, rfl, ownB, loB⟩; (first | (have hz9 := yB.blk (yC.blk (zbl_drew bZ)); obtain ⟨n0, n1, n2, n3, p0, p1, p2, p3⟩ := zfa hz9; clear hz9) | (have hz9 := yB.blk (zbl_drew bZ); obtain ⟨n0, n1, n2, n3, p0, p1, p2, p3⟩ := zfa hz9; clear hz9))) | (go_at_call 81; (with_reducible refine Calls.mono (CA.out _ (by (with_reducible (repeat (first | exact Kc.self belZ | refine Kc.drew ?_ | refine Kc.alloc ?_ _ | refine Kc.set ?_ hRW | refine Kc.ext ?_ _))))) ?_); rintro e w' ⟨vc, yC, rfl, rfl, ownC⟩; obtain ⟨ac, dc, rfl, -, -⟩ := owned_row ownC; (first | (have hz9 := yC.blk (yB.blk (zbl_drew bZ)); obtain ⟨n0, n1, n2, n3, p0, p1, p2, p3⟩ := zfa hz9; clear hz9) | (have hz9 := yC.blk (zbl_drew bZ); obtain ⟨n0, n1, n2, n3, p0, p1, p2, p3⟩ := zfa hz9; clear hz9))))
      go_wp2_with fail
      clear n0 n1 n2 n3 p0 p1 p2 p3
      have bZ9 := yB.blk (yC.blk (zbl_drew bZ))
      have z1 : zz.w.heap.size ≤ yC.w.heap.size := yC.size
      have z2 : yC.w.heap.size ≤ yB.w.heap.size := yB.size
      have lt1 := ownB.lt
      have bel9 : Below W.heap.size W yB.w := below_ext (below_ext (below_drew belZ) yC) yB
      have s4 : BB < zz.w.heap.size := (Array.getElem?_eq_some_iff.1 bZ).1
      generalize hV : World.alloc _ _ = V
      have lc : ∀ g, ob ac = some g → zz.w.heap.size ≤ g ∧ g < yC.w.heap.size := fun g e => ⟨(ownC.lt g (by rw [ob_eq]; exact e)).1, (ownC.lt g (by rw [ob_eq]; exact e)).2⟩
      have ownV := own_one (op := 9) (n := (gradeOf cc)) (l := A.enc) (a := ac) (c := dc) ownB (owns_lower (owns_ext ownC yB) (Nat.zero_le _)) (fun g h1 h2 => by have : yC.w.heap.size ≤ g := loB g h1; have := lc g h2; omega) hV
      have bV := zbl_alloc bZ9 (.cells #[.int .i64 B.dft.op, .int .i64 B.dft.n, .slice rB.a B.dft.ty.length rB.c, .slice rB.b B.dft.kids.length rB.d] 43)
      have belV := bel9.alloc bel9.size (.cells #[.int .i64 B.dft.op, .int .i64 B.dft.n, .slice rB.a B.dft.ty.length rB.c, .slice rB.b B.dft.kids.length rB.d] 43)
      rw [hV] at bV belV
      generalize hY : World.setCell _ _ _ = Y
      obtain ⟨⟨NB9, y9, rfl, own9, lo9⟩, r0, r1, r2, r3⟩ := dft_end (W := W) bV (ownV) (fun g h => by rcases h with h | h | h; (have := lc g h; exact ⟨by omega, by omega⟩); (cases h; exact ⟨by omega, by omega⟩); (have : yC.w.heap.size ≤ g := loB g h; exact ⟨by omega, by omega⟩)) (belV) hxW hY
      simp only [Tm.op, Tm.n, Tm.ty, Tm.kids, List.length_cons, List.length_nil] at r0 r1 r2 r3
      refine bodyPost_ret (v := TV.val ⟨ac, dc, some ⟨yB.w.heap.size, 0, none⟩, 1⟩ (.mk 9 (gradeOf cc) A.enc [B.dft])) (by simp [results, Tryd.results107, go_sem, r0, r1, r2, r3, TV.val, Tm.op, Tm.n, Tm.ty, Tm.kids]) rfl ?_
      exact ⟨_, NB9, y9, rfl, rfl, own9, lo9⟩
end Go.Proofs.YtjknnlnkgpoceaaDoor
