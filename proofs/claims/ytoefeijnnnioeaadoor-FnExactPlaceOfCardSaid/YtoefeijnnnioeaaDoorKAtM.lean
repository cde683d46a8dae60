
/- The model's values at places. -/
import Derived.Test.YtoefeijnnnioeaaDoorKPlcS
import Derived.Test.YtoefeijnnnioeaaDoorKDefP
import Derived.Test.YtoefeijnnnioeaaDoorGS
set_option linter.unusedVariables false
set_option linter.unusedSimpArgs false
namespace Go.Proofs.YtoefeijnnnioeaaDoor
open Go.RowKit

/-- What a division answers. -/
theorem dv_facts {k n : Nat} (hk : k ≤ 400) (hn : 1 ≤ n) : ((k : Int).tdiv (n : Int) = ((k / n : Nat) : Int) ∧ (k : Int).tmod (n : Int) = ((k % n : Nat) : Int)) ∧ (IntKind.i64.wrap ((k : Int).tdiv (n : Int)) = ((k / n : Nat) : Int) ∧ IntKind.i64.wrap ((k / n : Nat) : Int) = ((k / n : Nat) : Int)) ∧ ((n : Int) ≠ 0 ∧ ((n : Int) == 0) = false) := by
  have h1 : (k : Int).tdiv (n : Int) = ((k / n : Nat) : Int) := by rw [Int.tdiv_eq_ediv_of_nonneg (by omega)]; rfl
  have h2 : (k : Int).tmod (n : Int) = ((k % n : Nat) : Int) := by rw [Int.tmod_eq_emod_of_nonneg (by omega)]; rfl
  have h4 : k / n ≤ k := Nat.div_le_self _ _
  have h5 : IntKind.i64.wrap ((k / n : Nat) : Int) = ((k / n : Nat) : Int) := by
    obtain ⟨q, hq⟩ : ∃ q, k / n = q := ⟨_, rfl⟩
    rw [hq] at h4 ⊢
    exact IntWalk.i64_in _ (by omega)
  exact ⟨⟨h1, h2⟩, ⟨by rw [h1]; exact h5, h5⟩, by omega, by rw [beq_eq_false_iff_ne]; omega⟩
theorem Ty.cnt_two (a b : Ty) : (Ty.two 1 a b).cnt = a.cnt * b.cnt := by simp [Ty.cnt]
theorem Ty.cnt_sum (a b : Ty) : (Ty.two 2 a b).cnt = a.cnt + b.cnt := by simp [Ty.cnt]
theorem Ty.cnt_parts {a b : Ty} {n : Nat} (h : (Ty.two 1 a b).cnt ≤ n) : a.cnt ≤ n ∧ b.cnt ≤ n := by
  have ha := a.cnt_pos
  have hb := b.cnt_pos
  rw [Ty.cnt_two] at h
  exact ⟨Nat.le_trans (Nat.le_mul_of_pos_right _ (by omega)) h, Nat.le_trans (Nat.le_mul_of_pos_left _ (by omega)) h⟩
theorem Ty.cap_cnt {t : Ty} (h : t.cnt ≤ 301) : t.cap = t.cnt := by unfold Ty.cap; omega

set_option maxRecDepth 20000 in
set_option maxHeartbeats 8000000 in
theorem l5At_ans (T : Ty) : ∀ (_ : T.Ok) (_ : T.Data) {W : World} {b o c k : Nat} (_ : k < T.cnt) (_ : T.cnt ≤ 301) (_ : Row W (Value.int .i64) (some ⟨b, o, none⟩) T.enc) (_ : T.enc.length ≤ 40) (_ : T.enc.length ≤ c) (x : Ext W),
    Calls Tryd.prog 99 #[.slice (some ⟨b, o, none⟩) T.enc.length c, .int .i64 k] x.w (NewTmO W (T.at_ k)) := by
  induction T with
  | leaf =>
    intro hok hd W b o c k hk h3 hr hl hc x
    obtain ⟨xx, hxx⟩ : ∃ y : Ext W, x = y := ⟨x, rfl⟩
    rw [hxx]
    clear hxx x
    have m0 : ∀ y : Ext W, y.w.cell? ⟨b, o, none⟩ = some (.int .i64 0) := fun y => y.cell (row_head hr (l' := []) rfl)
    have hlp : 0 < Ty.leaf.enc.length := Ty.enc_pos _
    generalize Ty.leaf.enc.length = len at *
    have hlp' : (0 : Int) < (len : Int) := by omega
    clear hr hok
    show Calls _ _ _ _ (NewTmO W (.mk 1 k [] []))
    go_enter Tryd.func99, Tryd.ntmps99
    go_upto_region 1 with fail
    have hxW := xx.size
    generalize hWa : xx.w.alloc _ = Wa
    generalize hB : xx.w.heap.size = BB at *
    obtain ⟨bA, sA, bel⟩ := blocks1 hB hWa
    have belA : Below W.heap.size W Wa := xx.below.trans (bel.mono (by omega))
    clear hWa bel
    have m1 : Wa.cell? ⟨b, o, none⟩ = some (.int .i64 0) := m0 ⟨Wa, belA⟩
    clear m0
    have n0 := blk_cell bA 0
    have n1 := blk_cell bA 1
    have n2 := blk_cell bA 2
    have n3 := blk_cell bA 3
    have p0 := blk_free bA 0
    have p1 := blk_free bA 1
    have p2 := blk_free bA 2
    have p3 := blk_free bA 3
    simp at n0 n1 n2 n3
    go_wp2
    clear n0 n1 n2 n3 p0 p1 p2 p3
    clear m1
    generalize hY : World.setCell _ _ _ = Y
    obtain ⟨⟨NB9, y9, rfl, own9, lo9⟩, r0, r1, r2, r3⟩ := dft_end (W := W) bA (bare_own Wa 1 k) (fun g h => h.elim) (belA) hxW hY
    simp only [Tm.op, Tm.n, Tm.ty, Tm.kids, List.length_cons, List.length_nil] at r0 r1 r2 r3
    refine bodyPost_ret (v := TV.val ⟨none, 0, none, 0⟩ (.mk 1 k [] [])) (by simp [results, Tryd.results99, go_sem, r0, r1, r2, r3, TV.val, Tm.op, Tm.n, Tm.ty, Tm.kids]) rfl ?_
    exact ⟨_, NB9, y9, rfl, rfl, own9, lo9⟩
  | one cc A ihA =>
    intro hok hd W b o c k hk h3 hr hl hc x
    obtain ⟨xx, hxx⟩ : ∃ y : Ext W, x = y := ⟨x, rfl⟩
    rw [hxx]
    clear hxx x
    have m0 : ∀ y : Ext W, y.w.cell? ⟨b, o, none⟩ = some (.int .i64 cc) := fun y => y.cell (row_head hr (l' := A.enc) rfl)
    have hlp : 0 < (Ty.one cc A).enc.length := Ty.enc_pos _
    have c36 : 0 ≤ cc ∧ cc ≤ 36 := kidsOf_in (by rw [hok.1]; omega)
    have GC : ∀ (U : World) (y : Ext U), Calls Tryd.prog 57 #[.int .i64 cc] y.w (Ans U (.int .i64 (gradeOf cc))) := fun U y => l2Grade_ans (W := U) cc c36.1 (by omega) y
    have PK : Hid (∀ (U : Ext W) (k : Nat) (p : Ty), (Ty.one cc A).parts[k]? = some p → Calls Tryd.prog 124 #[.slice (some ⟨b, o, none⟩) (Ty.one cc A).enc.length c, .int .i64 k] U.w (NewRow U.w 22 3 (Value.int .i64) p.enc)) := fun U k p hp => l2PartK_ans (W := U.w) hok (hr.ext U) (by omega) hc hp (Ext.self U.w)
    have hlA : A.enc.length ≤ 40 := by have := Ty.len_one cc A; omega
    have IH : Hid (∀ {U : World} {b o c : Nat} (_ : Row U (Value.int .i64) (some ⟨b, o, none⟩) A.enc) (_ : A.enc.length ≤ c), Calls Tryd.prog 99 #[.slice (some ⟨b, o, none⟩) A.enc.length c, .int .i64 k] U (NewTmO U (A.at_ k))) := fun {U} {b o c} hr hc => ihA hok.2 hd hk h3 hr hlA hc (Ext.self U)
    have hbx := Ty.bx_of hok.1
    have HBC : ∀ (U : World) (y : Ext U), Calls Tryd.prog 111 #[.int .i64 cc] y.w (Ans U (.bool true)) := fun U y => l2Box_ans (W := U) cc true (by simpa using hbx) y
    have f0 : (cc == 0) = false := by rw [beq_eq_false_iff_ne]; unfold Bx at hbx; omega
    generalize (Ty.one cc A).enc.length = len at *
    have hlp' : (0 : Int) < (len : Int) := by omega
    clear hr hok ihA hbx c36 hl
    show Calls _ _ _ _ (NewTmO W (.mk 11 (gradeOf cc) [] [A.at_ k]))
    generalize A.at_ k = ta at *
    generalize gradeOf cc = gg at *
    go_enter Tryd.func99, Tryd.ntmps99
    go_upto_region 1 with fail
    have hxW := xx.size
    generalize hWa : xx.w.alloc _ = Wa
    generalize hB : xx.w.heap.size = BB at *
    obtain ⟨bA, sA, bel⟩ := blocks1 hB hWa
    have belA : Below W.heap.size W Wa := xx.below.trans (bel.mono (by omega))
    clear hWa bel
    have m1 : Wa.cell? ⟨b, o, none⟩ = some (.int .i64 cc) := m0 ⟨Wa, belA⟩
    go_wp2_with fail
    refine Calls.mono (PK.out ⟨Wa, belA⟩ 0 A rfl) ?_
    rintro e w' ⟨v, y1, rfl, rfl, own1⟩
    obtain ⟨g1, d1, rfl, row1, cap1, -, -⟩ := own_some own1 A.enc_pos
    clear own1 m1
    go_wp2_with fail
    refine Calls.mono (HBC _ (Ext.self y1.w)) ?_
    rintro e w' ⟨rfl, y2, rfl⟩
    go_wp2_with fail
    refine Calls.mono (GC _ y2) ?_
    rintro e w' ⟨rfl, y3, rfl⟩
    go_wp2_with fail
    refine Calls.mono (IH.out (row1.ext y3) cap1) ?_
    rintro e w' ⟨r4, K4, y4, rfl, rfl, own4, lo4⟩
    unfold TV.val
    have bA4 := y4.blk (y3.blk (y1.blk bA))
    have bel4 : Below W.heap.size W y4.w := (belA.trans (y1.below.mono belA.size)).trans ((y3.below.mono (Nat.le_trans belA.size y1.size)).trans (y4.below.mono (Nat.le_trans belA.size (Nat.le_trans y1.size y3.size))))
    have s4 : BB < y4.w.heap.size := (Array.getElem?_eq_some_iff.1 bA4).1
    have z1 : Wa.heap.size ≤ y1.w.heap.size := y1.size
    have z3 : y1.w.heap.size ≤ y3.w.heap.size := y3.size
    have k4 : ∀ g, K4 g → BB < g ∧ g < y4.w.heap.size := fun g h => ⟨by have := lo4 g h; omega, own4.lt g h⟩
    generalize hV : y4.w.alloc (.cells #[.int .i64 ta.op, .int .i64 ta.n, .slice r4.a ta.ty.length r4.c, .slice r4.b ta.kids.length r4.d] 33) = V
    have ownV := own_one (op := 11) (n := gg) (l := []) (a := none) (c := 0) own4 (World.ownsRow_nil _ _ _ _) (fun g h => by simp [ob]) hV
    have bV : V.heap[BB]? = some (.cells #[.int .i64 0, .int .i64 0, .slice none 0 0, .slice none 0 0] 33 (0, 0)) := by rw [← hV]; exact ((Ext.self y4.w).alloc _).blk bA4
    have belV : Below W.heap.size W V := by rw [← hV]; exact bel4.alloc bel4.size _
    have n0 := blk_cell bV 0
    have n1 := blk_cell bV 1
    have n2 := blk_cell bV 2
    have n3 := blk_cell bV 3
    have p0 := blk_free bV 0
    have p1 := blk_free bV 1
    have p2 := blk_free bV 2
    have p3 := blk_free bV 3
    simp at n0 n1 n2 n3
    go_wp2
    clear n0 n1 n2 n3 p0 p1 p2 p3
    generalize hY : World.setCell _ _ _ = Y
    obtain ⟨⟨NB9, y9, rfl, own9, lo9⟩, r0, r1, r2, r3⟩ := dft_end (W := W) bV (ownV) (fun g h => by rcases h with h | h | h; simp [ob] at h; (cases h; exact ⟨by omega, by omega⟩); (have := k4 g h; exact ⟨by omega, by omega⟩)) (belV) hxW hY
    simp only [Tm.op, Tm.n, Tm.ty, Tm.kids, List.length_cons, List.length_nil] at r0 r1 r2 r3
    refine bodyPost_ret (v := TV.val ⟨none, 0, some ⟨y4.w.heap.size, 0, none⟩, 1⟩ (.mk 11 gg [] [ta])) (by simp [results, Tryd.results99, go_sem, r0, r1, r2, r3, TV.val, Tm.op, Tm.n, Tm.ty, Tm.kids]) rfl ?_
    exact ⟨_, NB9, y9, rfl, rfl, own9, lo9⟩
  | two cc A B ihA ihB =>
    intro hok hd W b o c k hk h3 hr hl hc x
    obtain ⟨xx, hxx⟩ : ∃ y : Ext W, x = y := ⟨x, rfl⟩
    rw [hxx]
    clear hxx x
    have m0 : ∀ y : Ext W, y.w.cell? ⟨b, o, none⟩ = some (.int .i64 cc) := fun y => y.cell (row_head hr (l' := A.enc ++ B.enc) rfl)
    have hlp : 0 < (Ty.two cc A B).enc.length := Ty.enc_pos _
    have c36 : 0 ≤ cc ∧ cc ≤ 36 := kidsOf_in (by rw [hok.1]; omega)
    have GC : ∀ (U : World) (y : Ext U), Calls Tryd.prog 57 #[.int .i64 cc] y.w (Ans U (.int .i64 (gradeOf cc))) := fun U y => l2Grade_ans (W := U) cc c36.1 (by omega) y
    have PK : Hid (∀ (U : Ext W) (k : Nat) (p : Ty), (Ty.two cc A B).parts[k]? = some p → Calls Tryd.prog 124 #[.slice (some ⟨b, o, none⟩) (Ty.two cc A B).enc.length c, .int .i64 k] U.w (NewRow U.w 22 3 (Value.int .i64) p.enc)) := fun U k p hp => l2PartK_ans (W := U.w) hok (hr.ext U) (by omega) hc hp (Ext.self U.w)
    have hlA : A.enc.length ≤ 40 := by have := Ty.len_two cc A B; omega
    have hlB : B.enc.length ≤ 40 := by have := Ty.len_two cc A B; omega
    have hcA := A.cnt_pos
    have hcB := B.cnt_pos
    have IHA : Hid (∀ {U : World} {b o c k : Nat} (_ : k < A.cnt) (_ : A.cnt ≤ 301) (_ : Row U (Value.int .i64) (some ⟨b, o, none⟩) A.enc) (_ : A.enc.length ≤ c), Calls Tryd.prog 99 #[.slice (some ⟨b, o, none⟩) A.enc.length c, .int .i64 k] U (NewTmO U (A.at_ k))) := fun {U} {b o c k} hk h3 hr hc => ihA hok.2.1 hd.2.1 hk h3 hr hlA hc (Ext.self U)
    have IHB : Hid (∀ {U : World} {b o c k : Nat} (_ : k < B.cnt) (_ : B.cnt ≤ 301) (_ : Row U (Value.int .i64) (some ⟨b, o, none⟩) B.enc) (_ : B.enc.length ≤ c), Calls Tryd.prog 99 #[.slice (some ⟨b, o, none⟩) B.enc.length c, .int .i64 k] U (NewTmO U (B.at_ k))) := fun {U} {b o c k} hk h3 hr hc => ihB hok.2.2 hd.2.2 hk h3 hr hlB hc (Ext.self U)
    have CNA : Hid (∀ {U : World} {b o c : Nat} (_ : A.cnt ≤ 301) (_ : Row U (Value.int .i64) (some ⟨b, o, none⟩) A.enc) (_ : A.enc.length ≤ c), Calls Tryd.prog 145 #[.slice (some ⟨b, o, none⟩) A.enc.length c] U (Ans U (.int .i64 A.cnt))) := fun {U} {b o c} h3 hr hc => by have := l5Count_ans A hok.2.1 hd.2.1 hr hlA hc (Ext.self U); rwa [Ty.cap_cnt h3] at this
    have CNB : Hid (∀ {U : World} {b o c : Nat} (_ : B.cnt ≤ 301) (_ : Row U (Value.int .i64) (some ⟨b, o, none⟩) B.enc) (_ : B.enc.length ≤ c), Calls Tryd.prog 145 #[.slice (some ⟨b, o, none⟩) B.enc.length c] U (Ans U (.int .i64 B.cnt))) := fun {U} {b o c} h3 hr hc => by have := l5Count_ans B hok.2.2 hd.2.2 hr hlB hc (Ext.self U); rwa [Ty.cap_cnt h3] at this
    have hd1 := hd.1
    have HBC : ∀ (U : World) (y : Ext U), Calls Tryd.prog 111 #[.int .i64 cc] y.w (Ans U (.bool false)) := fun U y => l2Box_ans (W := U) cc false (by simp; unfold Bx; omega) y
    have f0 : (cc == 0) = false := by rw [beq_eq_false_iff_ne]; omega
    generalize (Ty.two cc A B).enc.length = len at *
    have hlp' : (0 : Int) < (len : Int) := by omega
    clear hr hok hd ihA ihB c36 hl GC
    rcases hd1 with rfl | rfl
    · rw [show (Ty.two 1 A B).at_ k = .mk 4 0 [] [A.at_ (k / B.cnt), B.at_ (k % B.cnt)] from rfl]
      obtain ⟨h3a, h3b⟩ := Ty.cnt_parts h3
      obtain ⟨hk1, hk2⟩ := Ty.pair_lt hk
      obtain ⟨⟨t1, t2⟩, ⟨t3, t4⟩, t5, t6⟩ := dv_facts (k := k) (n := B.cnt) (by omega) hcB
      have t7 : ¬ B.cnt = 0 := by omega
      have IA : Hid (∀ {U : World} {b o c : Nat} (_ : Row U (Value.int .i64) (some ⟨b, o, none⟩) A.enc) (_ : A.enc.length ≤ c), Calls Tryd.prog 99 #[.slice (some ⟨b, o, none⟩) A.enc.length c, .int .i64 ((k / B.cnt : Nat) : Int)] U (NewTmO U (A.at_ (k / B.cnt)))) := fun {U} {b o c} hr hc => IHA.out hk1 h3a hr hc
      have IB : Hid (∀ {U : World} {b o c : Nat} (_ : Row U (Value.int .i64) (some ⟨b, o, none⟩) B.enc) (_ : B.enc.length ≤ c), Calls Tryd.prog 99 #[.slice (some ⟨b, o, none⟩) B.enc.length c, .int .i64 ((k % B.cnt : Nat) : Int)] U (NewTmO U (B.at_ (k % B.cnt)))) := fun {U} {b o c} hr hc => IHB.out hk2 h3b hr hc
      generalize A.at_ (k / B.cnt) = ta at *
      generalize B.at_ (k % B.cnt) = tb at *
      obtain ⟨q1, hq1⟩ : ∃ q, k / B.cnt = q := ⟨_, rfl⟩
      obtain ⟨q2, hq2⟩ : ∃ q, k % B.cnt = q := ⟨_, rfl⟩
      rw [hq1] at t1 t3 t4 IA
      rw [hq2] at t2 IB
      clear IHA IHB hk1 hk2 hq1 hq2 hk h3
      go_enter Tryd.func99, Tryd.ntmps99
      go_upto_region 1 with fail
      have hxW := xx.size
      generalize hWa : xx.w.alloc _ = Wa
      generalize hB : xx.w.heap.size = BB at *
      obtain ⟨bA, sA, bel⟩ := blocks1 hB hWa
      have belA : Below W.heap.size W Wa := xx.below.trans (bel.mono (by omega))
      clear hWa bel
      have m1 : Wa.cell? ⟨b, o, none⟩ = some (.int .i64 1) := m0 ⟨Wa, belA⟩
      go_wp2_with fail
      refine Calls.mono (PK.out ⟨Wa, belA⟩ 0 A rfl) ?_
      rintro e w' ⟨v, y1, rfl, rfl, own1⟩
      obtain ⟨g1, d1, rfl, row1, cap1, gb1, gl1⟩ := own_some own1 A.enc_pos
      have bel1 : Below W.heap.size W y1.w := below_ext belA y1
      clear m1
      go_wp2_with fail
      refine Calls.mono (HBC _ (Ext.self y1.w)) ?_
      rintro e w' ⟨rfl, y2, rfl⟩
      have bel2 : Below W.heap.size W y2.w := below_ext bel1 y2
      have z1 : Wa.heap.size ≤ y1.w.heap.size := y1.size
      have z2 : y1.w.heap.size ≤ y2.w.heap.size := y2.size
      have bA2 := y2.blk (y1.blk bA)
      go_wp2_with fail
      refine Calls.mono (PK.out ⟨y2.w, bel2⟩ 1 B rfl) ?_
      rintro e w' ⟨v, y5, rfl, rfl, own5⟩
      obtain ⟨g5, d5, rfl, row5, cap5, gb5, gl5⟩ := own_some own5 B.enc_pos
      have bel5 : Below W.heap.size W y5.w := below_ext bel2 y5
      go_wp2_with fail
      refine Calls.mono (CNB.out h3b row5 cap5) ?_
      rintro e w' ⟨rfl, yc, rfl⟩
      have belc : Below W.heap.size W yc.w := below_ext bel5 yc
      have zc : y5.w.heap.size ≤ yc.w.heap.size := yc.size
      have bZ := yc.blk (y5.blk bA2)
      have belZ := belc
      have hRW : W.heap.size ≤ BB := hxW
      have r1 := ((row1.ext y2).ext y5).ext yc
      have r5 := row5.ext yc
      have hb9 : BB < Wa.heap.size := (Array.getElem?_eq_some_iff.1 bA).1
      have hg1 : g1 ≠ BB := by have : Wa.heap.size ≤ g1 := gb1; omega
      have hg5 : g5 ≠ BB := by have : y2.w.heap.size ≤ g5 := gb5; omega
      have DA : Hid (∀ w', Kc W yc.w BB w' → Calls Tryd.prog 99 #[.slice (some ⟨g1, 0, none⟩) A.enc.length d1, .int .i64 q1] w' (NewTmO w' ta)) := fun w' k => IA.out (k.row r1 hg1) cap1
      have DB : Hid (∀ w', Kc W yc.w BB w' → Calls Tryd.prog 99 #[.slice (some ⟨g5, 0, none⟩) B.enc.length d5, .int .i64 q2] w' (NewTmO w' tb)) := fun w' k => IB.out (k.row r5 hg5) cap5
      have zc9 : Wa.heap.size ≤ yc.w.heap.size := by have : y2.w.heap.size ≤ y5.w.heap.size := y5.size; omega
      clear IA IB r1 r5 row1 row5 own1 own5 cap1 cap5
      unfold NewTmO TV.val at DA DB
      go_wp2_with fail
      go_region_held3 (fun _ => True) (exact trivial)
        (first | (go_at_call 99; (with_reducible refine Calls.mono (DA.out _ (by (with_reducible (repeat (first | exact Kc.self belZ | refine Kc.drew ?_ | refine Kc.alloc ?_ _ | refine Kc.set ?_ hRW | refine Kc.ext ?_ _))))) ?_); rintro e w' ⟨rA, KA, yA, rfl, rfl, ownA, loA⟩; (first | (have hz9 := yA.blk (yB.blk (zbl_drew bZ)); obtain ⟨n0, n1, n2, n3, p0, p1, p2, p3⟩ := zfa hz9; clear hz9) | (have hz9 := yA.blk (zbl_drew bZ); obtain ⟨n0, n1, n2, n3, p0, p1, p2, p3⟩ := zfa hz9; clear hz9))) | (go_at_call 99; (with_reducible refine Calls.mono (DB.out _ (by (with_reducible (repeat (first | exact Kc.self belZ | refine Kc.drew ?_ | refine Kc.alloc ?_ _ | refine Kc.set ?_ hRW | refine Kc.ext ?_ _))))) ?_); rintro e w' ⟨rB, KB, yB, rfl, rfl, ownB, loB⟩; (first | (have hz9 := yB.blk (yA.blk (zbl_drew bZ)); obtain ⟨n0, n1, n2, n3, p0, p1, p2, p3⟩ := zfa hz9; clear hz9) | (have hz9 := yB.blk (zbl_drew bZ); obtain ⟨n0, n1, n2, n3, p0, p1, p2, p3⟩ := zfa hz9; clear hz9))))
      go_wp2_with fail
      clear n0 n1 n2 n3 p0 p1 p2 p3
      have bZ9 := yB.blk (yA.blk (zbl_drew bZ))
      have z1 : yc.w.heap.size ≤ yA.w.heap.size := yA.size
      have z2 : yA.w.heap.size ≤ yB.w.heap.size := yB.size
      have lt1 := ownA.lt
      have bel9 : Below W.heap.size W yB.w := below_ext (below_ext (below_drew belZ) yA) yB
      have s4 : BB < yc.w.heap.size := (Array.getElem?_eq_some_iff.1 bZ).1
      generalize hV : World.alloc _ _ = V
      have ownV := own_two (op := 4) (n := 0) (ownA.ext yB) ownB (fun g h1 h2 => by have := lt1 g h1; have : yA.w.heap.size ≤ g := loB g h2; omega) hV
      have bV := zbl_alloc bZ9 (.cells #[.int .i64 ta.op, .int .i64 ta.n, .slice rA.a ta.ty.length rA.c, .slice rA.b ta.kids.length rA.d, .int .i64 tb.op, .int .i64 tb.n, .slice rB.a tb.ty.length rB.c, .slice rB.b tb.kids.length rB.d] 33)
      have belV := bel9.alloc bel9.size (.cells #[.int .i64 ta.op, .int .i64 ta.n, .slice rA.a ta.ty.length rA.c, .slice rA.b ta.kids.length rA.d, .int .i64 tb.op, .int .i64 tb.n, .slice rB.a tb.ty.length rB.c, .slice rB.b tb.kids.length rB.d] 33)
      rw [hV] at bV belV
      generalize hY : World.setCell _ _ _ = Y
      obtain ⟨⟨NB9, y9, rfl, own9, lo9⟩, r0, r1, r2, r3⟩ := dft_end (W := W) bV (ownV) (fun g h => by rcases h with h | h | h; (cases h; exact ⟨by omega, by omega⟩); (have : yc.w.heap.size ≤ g := loA g h; exact ⟨by omega, by omega⟩); (have : yA.w.heap.size ≤ g := loB g h; exact ⟨by omega, by omega⟩)) (belV) hxW hY
      simp only [Tm.op, Tm.n, Tm.ty, Tm.kids, List.length_cons, List.length_nil] at r0 r1 r2 r3
      refine bodyPost_ret (v := TV.val ⟨none, 0, some ⟨yB.w.heap.size, 0, none⟩, 2⟩ (.mk 4 0 [] [ta, tb])) (by simp [results, Tryd.results99, go_sem, r0, r1, r2, r3, TV.val, Tm.op, Tm.n, Tm.ty, Tm.kids]) rfl ?_
      exact ⟨_, NB9, y9, rfl, rfl, own9, lo9⟩
    · have h3' := h3
      have hk3 := hk
      rw [Ty.cnt_sum] at h3' hk3
      have h3a : A.cnt ≤ 301 := by omega
      have h3b : B.cnt ≤ 301 := by omega
      by_cases hkA : k < A.cnt
      · have hk' : (k : Int) < (A.cnt : Int) := by omega
        rw [show (Ty.two 2 A B).at_ k = .mk 6 0 B.enc [A.at_ k] by simp only [Ty.at_]; rw [if_neg (by decide), if_pos hkA]]
        have IX : Hid (∀ {U : World} {b o c : Nat} (_ : Row U (Value.int .i64) (some ⟨b, o, none⟩) A.enc) (_ : A.enc.length ≤ c), Calls Tryd.prog 99 #[.slice (some ⟨b, o, none⟩) A.enc.length c, .int .i64 (k : Int)] U (NewTmO U (A.at_ k))) := fun {U} {b o c} hr hc => IHA.out hkA h3a hr hc
        generalize A.at_ k = tx at *
        clear IHA IHB hk hkA h3
        go_enter Tryd.func99, Tryd.ntmps99
        go_upto_region 1 with fail
        have hxW := xx.size
        generalize hWa : xx.w.alloc _ = Wa
        generalize hB : xx.w.heap.size = BB at *
        obtain ⟨bA, sA, bel⟩ := blocks1 hB hWa
        have belA : Below W.heap.size W Wa := xx.below.trans (bel.mono (by omega))
        clear hWa bel
        have m1 : Wa.cell? ⟨b, o, none⟩ = some (.int .i64 2) := m0 ⟨Wa, belA⟩
        go_wp2_with fail
        refine Calls.mono (PK.out ⟨Wa, belA⟩ 0 A rfl) ?_
        rintro e w' ⟨v, y1, rfl, rfl, own1⟩
        obtain ⟨g1, d1, rfl, row1, cap1, gb1, gl1⟩ := own_some own1 A.enc_pos
        have bel1 : Below W.heap.size W y1.w := below_ext belA y1
        clear m1
        go_wp2_with fail
        refine Calls.mono (HBC _ (Ext.self y1.w)) ?_
        rintro e w' ⟨rfl, y2, rfl⟩
        have bel2 : Below W.heap.size W y2.w := below_ext bel1 y2
        have z1 : Wa.heap.size ≤ y1.w.heap.size := y1.size
        have z2 : y1.w.heap.size ≤ y2.w.heap.size := y2.size
        have bA2 := y2.blk (y1.blk bA)
        go_wp2_with fail
        refine Calls.mono (PK.out ⟨y2.w, bel2⟩ 1 B rfl) ?_
        rintro e w' ⟨v, y5, rfl, rfl, own5⟩
        obtain ⟨g5, d5, rfl, row5, cap5, gb5, gl5⟩ := own_some own5 B.enc_pos
        have bel5 : Below W.heap.size W y5.w := below_ext bel2 y5
        go_wp2_with fail
        refine Calls.mono (CNA.out h3a ((row1.ext y2).ext y5) cap1) ?_
        rintro e w' ⟨rfl, yc, rfl⟩
        have belc : Below W.heap.size W yc.w := below_ext bel5 yc
        have zc : y5.w.heap.size ≤ yc.w.heap.size := yc.size
        go_wp2_with fail
        refine Calls.mono (IX.out   (((row1.ext y2).ext y5).ext yc) cap1) ?_
        rintro e w' ⟨r6, K6, y6, rfl, rfl, own6, lo6⟩
        have bel6 : Below W.heap.size W y6.w := below_ext belc y6
        have lt6 := own6.lt
        unfold TV.val
        have bA9 := y6.blk (yc.blk (y5.blk bA2))
        have z5 : y2.w.heap.size ≤ y5.w.heap.size := y5.size
        have z6 : yc.w.heap.size ≤ y6.w.heap.size := y6.size
        have gb9 : y2.w.heap.size ≤ g5 := gb5
        have gl9 : g5 < y5.w.heap.size := gl5
        have ownt : y6.w.ownsRow 0 3 1 (.slice (some ⟨g5, 0, none⟩) B.enc.length d5) B.enc.length (B.enc.map (Value.int .i64)) := owns_lower (owns_ext (owns_ext own5 yc) y6) (Nat.zero_le _)
        generalize hV : y6.w.alloc (.cells #[.int .i64 tx.op, .int .i64 tx.n, .slice r6.a tx.ty.length r6.c, .slice r6.b tx.kids.length r6.d] 33) = V
        have ownV := own_one (op := 6) (n := 0) (l := B.enc) own6 ownt (fun g h1 h2 => by have : yc.w.heap.size ≤ g := lo6 g h1; have h9 : g5 = g := Option.some.inj h2; omega) hV
        have bV : V.heap[BB]? = some (.cells #[.int .i64 0, .int .i64 0, .slice none 0 0, .slice none 0 0] 33 (0, 0)) := by rw [← hV]; exact ((Ext.self y6.w).alloc _).blk bA9
        have belV : Below W.heap.size W V := by rw [← hV]; exact bel6.alloc bel6.size _
        have s4 : BB < y2.w.heap.size := (Array.getElem?_eq_some_iff.1 bA2).1
        have n0 := blk_cell bV 0
        have n1 := blk_cell bV 1
        have n2 := blk_cell bV 2
        have n3 := blk_cell bV 3
        have p0 := blk_free bV 0
        have p1 := blk_free bV 1
        have p2 := blk_free bV 2
        have p3 := blk_free bV 3
        simp at n0 n1 n2 n3
        go_wp2
        clear n0 n1 n2 n3 p0 p1 p2 p3
        generalize hY : World.setCell _ _ _ = Y
        obtain ⟨⟨NB9, y9, rfl, own9, lo9⟩, r0, r1, r2, r3⟩ := dft_end (W := W) bV (ownV) (fun g h => by rcases h with h | h | h; (have h9 : g5 = g := Option.some.inj h; exact ⟨by omega, by omega⟩); (cases h; exact ⟨by omega, by omega⟩); (have : yc.w.heap.size ≤ g := lo6 g h; exact ⟨by omega, by omega⟩)) (belV) hxW hY
        simp only [Tm.op, Tm.n, Tm.ty, Tm.kids, List.length_cons, List.length_nil] at r0 r1 r2 r3
        refine bodyPost_ret (v := TV.val ⟨some ⟨g5, 0, none⟩, d5, some ⟨y6.w.heap.size, 0, none⟩, 1⟩ (.mk 6 0 B.enc [tx])) (by simp [results, Tryd.results99, go_sem, r0, r1, r2, r3, TV.val, Tm.op, Tm.n, Tm.ty, Tm.kids]) rfl ?_
        exact ⟨_, NB9, y9, rfl, rfl, own9, lo9⟩
      · have hk' : ¬ (k : Int) < (A.cnt : Int) := by omega
        rw [show (Ty.two 2 A B).at_ k = .mk 7 0 A.enc [B.at_ (k - A.cnt)] by simp only [Ty.at_]; rw [if_neg (by decide), if_neg hkA]]
        have hk2 : k - A.cnt < B.cnt := by omega
        have IX : Hid (∀ {U : World} {b o c : Nat} (_ : Row U (Value.int .i64) (some ⟨b, o, none⟩) B.enc) (_ : B.enc.length ≤ c), Calls Tryd.prog 99 #[.slice (some ⟨b, o, none⟩) B.enc.length c, .int .i64 ((k - A.cnt : Nat) : Int)] U (NewTmO U (B.at_ (k - A.cnt)))) := fun {U} {b o c} hr hc => IHB.out hk2 h3b hr hc
        generalize B.at_ (k - A.cnt) = tx at *
        have hsub : ((k - A.cnt : Nat) : Int) = (k : Int) - (A.cnt : Int) := by omega
        have hws : IntKind.i64.wrap ((k : Int) - (A.cnt : Int)) = (k : Int) - (A.cnt : Int) := IntWalk.i64_in _ (by omega)
        rw [hsub] at IX
        clear hsub hk2
        clear IHA IHB hk hkA h3
        go_enter Tryd.func99, Tryd.ntmps99
        go_upto_region 1 with fail
        have hxW := xx.size
        generalize hWa : xx.w.alloc _ = Wa
        generalize hB : xx.w.heap.size = BB at *
        obtain ⟨bA, sA, bel⟩ := blocks1 hB hWa
        have belA : Below W.heap.size W Wa := xx.below.trans (bel.mono (by omega))
        clear hWa bel
        have m1 : Wa.cell? ⟨b, o, none⟩ = some (.int .i64 2) := m0 ⟨Wa, belA⟩
        go_wp2_with fail
        refine Calls.mono (PK.out ⟨Wa, belA⟩ 0 A rfl) ?_
        rintro e w' ⟨v, y1, rfl, rfl, own1⟩
        obtain ⟨g1, d1, rfl, row1, cap1, gb1, gl1⟩ := own_some own1 A.enc_pos
        have bel1 : Below W.heap.size W y1.w := below_ext belA y1
        clear m1
        go_wp2_with fail
        refine Calls.mono (HBC _ (Ext.self y1.w)) ?_
        rintro e w' ⟨rfl, y2, rfl⟩
        have bel2 : Below W.heap.size W y2.w := below_ext bel1 y2
        have z1 : Wa.heap.size ≤ y1.w.heap.size := y1.size
        have z2 : y1.w.heap.size ≤ y2.w.heap.size := y2.size
        have bA2 := y2.blk (y1.blk bA)
        go_wp2_with fail
        refine Calls.mono (PK.out ⟨y2.w, bel2⟩ 1 B rfl) ?_
        rintro e w' ⟨v, y5, rfl, rfl, own5⟩
        obtain ⟨g5, d5, rfl, row5, cap5, gb5, gl5⟩ := own_some own5 B.enc_pos
        have bel5 : Below W.heap.size W y5.w := below_ext bel2 y5
        go_wp2_with fail
        refine Calls.mono (CNA.out h3a ((row1.ext y2).ext y5) cap1) ?_
        rintro e w' ⟨rfl, yc, rfl⟩
        have belc : Below W.heap.size W yc.w := below_ext bel5 yc
        have zc : y5.w.heap.size ≤ yc.w.heap.size := yc.size
        go_wp2_with fail
        refine Calls.mono (IX.out   (row5.ext yc) cap5) ?_
        rintro e w' ⟨r6, K6, y6, rfl, rfl, own6, lo6⟩
        have bel6 : Below W.heap.size W y6.w := below_ext belc y6
        have lt6 := own6.lt
        unfold TV.val
        have bA9 := y6.blk (yc.blk (y5.blk bA2))
        have z5 : y2.w.heap.size ≤ y5.w.heap.size := y5.size
        have z6 : yc.w.heap.size ≤ y6.w.heap.size := y6.size
        have gb9 : Wa.heap.size ≤ g1 := gb1
        have gl9 : g1 < y1.w.heap.size := gl1
        have ownt : y6.w.ownsRow 0 3 1 (.slice (some ⟨g1, 0, none⟩) A.enc.length d1) A.enc.length (A.enc.map (Value.int .i64)) := owns_lower (owns_ext (owns_ext (owns_ext (owns_ext own1 y2) y5) yc) y6) (Nat.zero_le _)
        generalize hV : y6.w.alloc (.cells #[.int .i64 tx.op, .int .i64 tx.n, .slice r6.a tx.ty.length r6.c, .slice r6.b tx.kids.length r6.d] 33) = V
        have ownV := own_one (op := 7) (n := 0) (l := A.enc) own6 ownt (fun g h1 h2 => by have : yc.w.heap.size ≤ g := lo6 g h1; have h9 : g1 = g := Option.some.inj h2; omega) hV
        have bV : V.heap[BB]? = some (.cells #[.int .i64 0, .int .i64 0, .slice none 0 0, .slice none 0 0] 33 (0, 0)) := by rw [← hV]; exact ((Ext.self y6.w).alloc _).blk bA9
        have belV : Below W.heap.size W V := by rw [← hV]; exact bel6.alloc bel6.size _
        have s4 : BB < y2.w.heap.size := (Array.getElem?_eq_some_iff.1 bA2).1
        have n0 := blk_cell bV 0
        have n1 := blk_cell bV 1
        have n2 := blk_cell bV 2
        have n3 := blk_cell bV 3
        have p0 := blk_free bV 0
        have p1 := blk_free bV 1
        have p2 := blk_free bV 2
        have p3 := blk_free bV 3
        simp at n0 n1 n2 n3
        go_wp2
        clear n0 n1 n2 n3 p0 p1 p2 p3
        generalize hY : World.setCell _ _ _ = Y
        obtain ⟨⟨NB9, y9, rfl, own9, lo9⟩, r0, r1, r2, r3⟩ := dft_end (W := W) bV (ownV) (fun g h => by rcases h with h | h | h; (have h9 : g1 = g := Option.some.inj h; exact ⟨by omega, by omega⟩); (cases h; exact ⟨by omega, by omega⟩); (have : yc.w.heap.size ≤ g := lo6 g h; exact ⟨by omega, by omega⟩)) (belV) hxW hY
        simp only [Tm.op, Tm.n, Tm.ty, Tm.kids, List.length_cons, List.length_nil] at r0 r1 r2 r3
        refine bodyPost_ret (v := TV.val ⟨some ⟨g1, 0, none⟩, d1, some ⟨y6.w.heap.size, 0, none⟩, 1⟩ (.mk 7 0 A.enc [tx])) (by simp [results, Tryd.results99, go_sem, r0, r1, r2, r3, TV.val, Tm.op, Tm.n, Tm.ty, Tm.kids]) rfl ?_
        exact ⟨_, NB9, y9, rfl, rfl, own9, lo9⟩
end Go.Proofs.YtoefeijnnnioeaaDoor
