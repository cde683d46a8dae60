/- What stands behind the arrow of a redex, by the program. -/
import Derived.Test.YtncfbljablbglaaDoorZ3GA
import Derived.Test.YtncfbljablbglaaDoorZ3GQ
import Derived.Test.YtncfbljablbglaaDoorZ3GXC
import Derived.Test.YtncfbljablbglaaDoorZ3GI
import Derived.Deep.RegionHeld3
import Derived.RegionTactic
set_option linter.unusedVariables false
set_option linter.unusedSimpArgs false
namespace Go.Proofs.YtncfbljablbglaaDoor
open Go.RowKit

theorem tm_op (o n : Int) (l : List Int) (k : List Tm) : (Tm.mk o n l k).op = o := rfl
theorem tm_n (o n : Int) (l : List Int) (k : List Tm) : (Tm.mk o n l k).n = n := rfl
theorem tm_ty (o n : Int) (l : List Int) (k : List Tm) : (Tm.mk o n l k).ty = l := rfl
theorem tm_kids (o n : Int) (l : List Int) (k : List Tm) : (Tm.mk o n l k).kids = k := rfl
theorem ret5 {W y Y : World} {B : Nat} {T : TypeId} {z0 z1 z2 z3 z4 a0 a1 a2 a3 a4 : Value} (hb : Below W.heap.size W y) (hB : W.heap.size ≤ B) (bA : y.heap[B]? = some (.cells #[z0, z1, z2, z3, z4] T (0, 0)))
    (hY : ((((y.setCell ⟨B, 0, none⟩ a0).setCell ⟨B, 1, none⟩ a1).setCell ⟨B, 2, none⟩ a2).setCell ⟨B, 3, none⟩ a3).setCell ⟨B, 4, none⟩ a4 = Y) :
    Below W.heap.size W Y ∧ (∀ k, k ≠ B → Y.heap[k]? = y.heap[k]?) ∧ Y.cell? ⟨B, 0, none⟩ = some a0 ∧ Y.cell? ⟨B, 1, none⟩ = some a1 ∧ Y.cell? ⟨B, 2, none⟩ = some a2 ∧ Y.cell? ⟨B, 3, none⟩ = some a3 ∧ Y.cell? ⟨B, 4, none⟩ = some a4 := by
  have h1 := set_blk bA 0 a0 rfl
  have h2 := set_blk h1 1 a1 rfl
  have h3 := set_blk h2 2 a2 rfl
  have h4 := set_blk h3 3 a3 rfl
  have h5 := set_blk h4 4 a4 hY
  have hb5 : Y.heap[B]? = some (.cells #[a0, a1, a2, a3, a4] T (0, 0)) := by simpa using h5
  refine ⟨?_, fun g hg => ?_, blk_cell hb5 0, blk_cell hb5 1, blk_cell hb5 2, blk_cell hb5 3, blk_cell hb5 4⟩
  · subst hY
    exact ((((hb.setCell hB _).setCell hB _).setCell hB _).setCell hB _).setCell hB _
  · rw [set_other hY hg, set_other rfl hg, set_other rfl hg, set_other rfl hg, set_other rfl hg]
/-- What contractionOf answers: the body and what is put, as they lie in memory. -/
def CofA (W : World) (t : Tm) : Ending → World → Prop := fun e w' => ∃ (body : Tm) (put : List Tm) (rb : TV) (b : Option Addr) (d : Nat) (flag : Bool) (y : Ext W),
  e = .returned (.tuple #[.agg #[.int .i64 body.op, .int .i64 body.n, .slice rb.a body.ty.length rb.c, .slice rb.b body.kids.length rb.d, .slice b put.length d], .bool flag]) ∧ w' = y.w ∧
    ((flag = true ∧ Cof t body put ∧ TmIn y.w 0 body rb ∧ TmIn y.w 0 (.mk 0 0 [] put) ⟨none, 0, b, d⟩) ∨ (flag = false ∧ ¬ Red t))
theorem kids_in {w : World} {lo : Nat} {t : Tm} {q : TV} (h : TmIn w lo t q) : TmIn w 0 (.mk 0 0 [] t.kids) ⟨none, 0, q.b, q.d⟩ := by
  cases h.lower (Nat.zero_le _) with
  | mk t r kr row alo lt lk at_ sub => exact .mk _ _ kr (.inl rfl) (fun p hp => by cases hp) (by simp [Tm.ty]) lk at_ sub
theorem two_kids {w : World} {D : Nat} {u v : Tm} {q q' : TV} {lo : Nat} {T : TypeId} (hD : w.heap[D]? = some (.cells #[.int .i64 u.op, .int .i64 u.n, .slice q.a u.ty.length q.c, .slice q.b u.kids.length q.d, .int .i64 v.op, .int .i64 v.n, .slice q'.a v.ty.length q'.c, .slice q'.b v.kids.length q'.d] T (0, 0))) (h : TmIn w lo u q) (h' : TmIn w lo v q') (d : Nat) : TmIn w 0 (.mk 0 0 [] [u, v]) ⟨none, 0, some ⟨D, 0, none⟩, d⟩ := by
  refine .mk _ _ (fun i => if i = 0 then q else q') (.inl rfl) (fun p hp => by cases hp) (by simp [Tm.ty]) (by simp [Tm.kids]) (.inr ⟨D, 0, rfl, Nat.zero_le _, fun i k hi => ?_⟩) (fun i k hi => ?_)
  · match i, hi with
    | 0, hi =>
      simp [Tm.kids] at hi
      subst hi
      exact ⟨blk_cell hD 0, blk_cell hD 1, blk_cell hD 2, blk_cell hD 3⟩
    | 1, hi =>
      simp [Tm.kids] at hi
      subst hi
      exact ⟨blk_cell hD 4, blk_cell hD 5, blk_cell hD 6, blk_cell hD 7⟩
    | i + 2, hi => simp [Tm.kids] at hi
  · match i, hi with
    | 0, hi =>
      simp [Tm.kids] at hi
      subst hi
      exact h.lower (Nat.zero_le _)
    | 1, hi =>
      simp [Tm.kids] at hi
      subst hi
      exact h'.lower (Nat.zero_le _)
    | i + 2, hi => simp [Tm.kids] at hi
/-- What is kept of a world but one block. -/
def Kb (W W1 : World) (R : Nat) (w : World) : Prop := Below W.heap.size W w ∧ W1.heap.size ≤ w.heap.size ∧ ∀ g, g < W1.heap.size → g ≠ R → w.heap[g]? = W1.heap[g]?
section
variable {W W1 w : World} {R : Nat}
theorem Kb.self (h : Below W.heap.size W W1) : Kb W W1 R W1 := ⟨h, Nat.le_refl _, fun _ _ _ => rfl⟩
theorem Kb.drew (h : Kb W W1 R w) : Kb W W1 R w.drew := ⟨below_drew h.1, h.2.1, h.2.2⟩
theorem Kb.alloc (h : Kb W W1 R w) (o : Obj) : Kb W W1 R (w.alloc o) := ⟨below_alloc h.1 _, by have := h.2.1; simp; omega, fun g hg hn => by rw [← h.2.2 g hg hn]; exact (Ext.self w).alloc o |>.below.block g (by have := h.2.1; omega)⟩
theorem Kb.set (h : Kb W W1 R w) (hR : W.heap.size ≤ R) {i : Nat} {v : Value} : Kb W W1 R (w.setCell ⟨R, i, none⟩ v) := ⟨h.1.setCell hR _, by have := h.2.1; simpa using this, fun g hg hn => (set_other rfl hn).trans (h.2.2 g hg hn)⟩
theorem Kb.cell (h : Kb W W1 R w) {g o : Nat} {v : Value} (hc : W1.cell? ⟨g, o, none⟩ = some v) (hg : g ≠ R) : w.cell? ⟨g, o, none⟩ = some v := by
  rw [World.cell?_of_block (w := W1) (a := ⟨g, o, none⟩) (h.2.2 g (cell_lt hc) hg)]
  exact hc
end
theorem leaf_in (w : World) (op n : Int) : TmIn w 0 (.mk op n [] []) ⟨none, 0, none, 0⟩ := (leaf_own w op n).tm (fun _ h => h.elim)

set_option maxRecDepth 100000 in
set_option maxHeartbeats 16000000 in
theorem contractionOf_ans {W : World} {lo : Nat} {t : Tm} {r : TV} (h : TmIn W lo t r) {size vars : Int} {closed : Bool} (ok : OkT size closed vars t) (x : Ext W) :
    Calls Tryd.prog 94 #[r.val t] x.w (CofA W t) := by
  have sh := ok.shape
  obtain ⟨ra, rc, rb, rd⟩ := r
  unfold TV.val
  go_enter Tryd.func94, Tryd.ntmps94
  go_upto_region 1 with fail
  have hxW := x.size
  generalize hWa : (x.w.alloc _).alloc _ = Wa
  generalize hB : x.w.heap.size = B at *
  obtain ⟨bA, bR, sA, bel⟩ := blocks2 hB hWa
  have belA : Below W.heap.size W Wa := x.below.trans (bel.mono (by omega))
  clear hWa bel
  by_cases e0 : t.kids = []
  · have E0 := Lib.hid e0
    clear e0
    have fl : ((t.kids.length : Int) == 0) = true := by rw [E0.out]; rfl
    have m3 : Wa.cell? ⟨B, 3, none⟩ = some (.slice rb t.kids.length rd) := by have := blk_cell bA 3; simpa using this
    have n0 := blk_cell bR 0
    have p0 := blk_free bR 0
    have n1 := blk_cell bR 1
    have p1 := blk_free bR 1
    have n2 := blk_cell bR 2
    have p2 := blk_free bR 2
    have n3 := blk_cell bR 3
    have p3 := blk_free bR 3
    have n4 := blk_cell bR 4
    have p4 := blk_free bR 4
    simp at n0 n1 n2 n3 n4
    go_wp2_with fail
    clear n0 p0 n1 p1 n2 p2 n3 p3 n4 p4
    generalize hY5 : World.setCell _ _ _ = Y5
    obtain ⟨belD, hsame, r0, r1, r2, r3, r4⟩ := ret5 (W := W) belA (by omega) bR hY5
    refine bodyPost_ret (v := .tuple #[.agg #[.int .i64 0, .int .i64 0, .slice none 0 0, .slice none 0 0, .slice none 0 0], .bool false]) (by simp [results, Tryd.results94, go_sem, r0, r1, r2, r3, r4]) rfl ?_
    exact ⟨zeroT, [], ⟨none, 0, none, 0⟩, none, 0, false, ⟨Y5, belD⟩, rfl, rfl, .inr ⟨rfl, no_red_kids E0.out⟩⟩
  · have E0 := Lib.hid e0
    clear e0
    obtain ⟨a, ks, hk0⟩ := List.exists_cons_of_ne_nil E0.out
    have HK0 := Lib.hid hk0
    clear hk0 E0
    obtain ⟨kr, A⟩ := h.out
    have hlk := A.lk
    obtain ⟨b0, o0, hrb, K0⟩ := A.kid 0 a (by rw [HK0.out]; rfl)
    have hs0 := A.sub 0 a (by rw [HK0.out]; rfl)
    dsimp only at hrb
    subst hrb
    have hb0 : b0 < W.heap.size := cell_lt K0.c0
    have hl0 : 0 < t.kids.length := by rw [HK0.out]; simp
    have fl : ((t.kids.length : Int) == 0) = false := by rw [beq_eq_false_iff_ne]; omega
    have m3 : Wa.cell? ⟨B, 3, none⟩ = some (.slice (some ⟨b0, o0, none⟩) t.kids.length rd) := by have := blk_cell bA 3; simpa using this
    have d0 : Wa.cell? ⟨b0, o0, none⟩ = some (.int .i64 a.op) := by have := (Ext.mk Wa belA).cell K0.c0; simpa using this
    have d1 : Wa.cell? ⟨b0, o0 + 1, none⟩ = some (.int .i64 a.n) := by have := (Ext.mk Wa belA).cell K0.c1; simpa using this
    have d2 : Wa.cell? ⟨b0, o0 + 2, none⟩ = some (.slice (kr 0).a a.ty.length (kr 0).c) := by have := (Ext.mk Wa belA).cell K0.c2; simpa using this
    have d3 : Wa.cell? ⟨b0, o0 + 3, none⟩ = some (.slice (kr 0).b a.kids.length (kr 0).d) := by have := (Ext.mk Wa belA).cell K0.c3; simpa using this
    go_upto_region 4 with fail
    generalize hW1 : World.alloc _ _ = W1
    have bH := new_blk hW1
    have bA1 := blk_of_alloc bA hW1
    have bR1 := blk_of_alloc bR hW1
    have bel1 : Below W.heap.size W W1 := by rw [← hW1]; exact belA.alloc belA.size _
    have s1 : W1.heap.size = B + 3 := by rw [← hW1]; simp; omega
    rw [sA] at bH
    clear hW1 m3 d0 d1 d2 d3 bA bR belA K0
    have sH : B + 1 ≠ B + 2 := by omega
    have hR1 : W.heap.size ≤ B + 1 := by omega
    have g0 : W1.cell? ⟨B, 0, none⟩ = some (.int .i64 t.op) := by have := blk_cell bA1 0; simpa using this
    have g3 : W1.cell? ⟨B, 3, none⟩ = some (.slice (some ⟨b0, o0, none⟩) t.kids.length rd) := by have := blk_cell bA1 3; simpa using this
    have h0 : W1.cell? ⟨B + 2, 0, none⟩ = some (.int .i64 a.op) := by have := blk_cell bH 0; simpa using this
    have h1 : W1.cell? ⟨B + 2, 1, none⟩ = some (.int .i64 a.n) := by have := blk_cell bH 1; simpa using this
    have h3 : W1.cell? ⟨B + 2, 3, none⟩ = some (.slice (kr 0).b a.kids.length (kr 0).d) := by have := blk_cell bH 3; simpa using this
    by_cases o2 : t.op = 2
    · have O2 := Lib.hid o2
      clear o2
      have HO := O2
      clear O2
      have f2 : (t.op == 2) = true := by rw [HO.out]; decide
      have f3 : (t.op == 3) = false := by rw [HO.out]; decide
      have f5 : (t.op == 5) = false := by rw [HO.out]; decide
      have f8 : (t.op == 8) = false := by rw [HO.out]; decide
      have f10 : (t.op == 10) = false := by rw [HO.out]; decide
      have f12 : (t.op == 12) = false := by rw [HO.out]; decide
      obtain ⟨b, hks⟩ := len1 (l := ks) (by have h1 := sh.many; rw [HO.out, HK0.out] at h1; have h2 : manyO 2 = 2 := (by decide); simp at h1; omega)
      subst hks
      replace g3 : W1.cell? ⟨B, 3, none⟩ = some (.slice (some ⟨b0, o0, none⟩) 2 rd) := by have := g3; rw [HK0.out] at this; exact this
      have HKk := HK0
      have hl : 2 ≤ t.kids.length := by rw [HK0.out]; exact Nat.le_refl _
      have hl' : (2 : Int) ≤ (t.kids.length : Int) := by omega
      obtain ⟨bb, oo, hrb, KK⟩ := A.kid 1 b (by rw [HK0.out]; rfl)
      have sk1 := A.sub 1 b (by rw [HK0.out]; rfl)
      (try dsimp only at hrb)
      obtain ⟨rfl, rfl⟩ : b0 = bb ∧ o0 = oo := by cases hrb; exact ⟨rfl, rfl⟩
      clear hrb
      have k10 : W1.cell? ⟨b0, o0 + 4, none⟩ = some (.int .i64 b.op) := by have := (Ext.mk W1 bel1).cell KK.c0; simpa using this
      have k11 : W1.cell? ⟨b0, o0 + 5, none⟩ = some (.int .i64 b.n) := by have := (Ext.mk W1 bel1).cell KK.c1; simpa using this
      have k12 : W1.cell? ⟨b0, o0 + 6, none⟩ = some (.slice (kr 1).a b.ty.length (kr 1).c) := by have := (Ext.mk W1 bel1).cell KK.c2; simpa using this
      have k13 : W1.cell? ⟨b0, o0 + 7, none⟩ = some (.slice (kr 1).b b.kids.length (kr 1).d) := by have := (Ext.mk W1 bel1).cell KK.c3; simpa using this
      clear KK
      by_cases n0 : a.op = 1
      · have N0 := Lib.hid n0
        clear n0
        by_cases n1 : b.op = 1
        · have N1 := Lib.hid n1
          clear n1
          have q1 : (a.op == 1) = true := by rw [N0.out]; decide
          have qb : (b.op == 1) = true := by rw [N1.out]; decide
          have ha : 0 ≤ a.n ∧ a.n < 3 := by have h9 := (ok.kid (i := 0) (k := a) (by rw [HK0.out]; rfl)).node.nok; unfold NOk at h9; rw [if_neg (by rw [N0.out]; decide), if_pos N0.out] at h9; exact h9
          have hbn : 0 ≤ b.n ∧ b.n < 3 := by have h9 := (ok.kid (i := 1) (k := b) (by rw [HK0.out]; rfl)).node.nok; unfold NOk at h9; rw [if_neg (by rw [N1.out]; decide), if_pos N1.out] at h9; exact h9
          have HWAB : Hid (IntKind.i64.wrap (a.n + b.n) = a.n + b.n) := IntWalk.i64_in _ (by omega)
          have KP : Hid (∀ w', Kb W W1 (B + 1) w' → w'.cell? ⟨B, 3, none⟩ = some (.slice (some ⟨b0, o0, none⟩) 2 rd) ∧ w'.cell? ⟨B + 2, 1, none⟩ = some (.int .i64 a.n) ∧ w'.cell? ⟨b0, o0 + 5, none⟩ = some (.int .i64 b.n)) := fun w' b => ⟨b.cell g3 (by omega), b.cell h1 (by omega), b.cell k11 (by omega)⟩
          have n0 := blk_cell bR1 0
          have p0 := blk_free bR1 0
          have n1 := blk_cell bR1 1
          have p1 := blk_free bR1 1
          have n2 := blk_cell bR1 2
          have p2 := blk_free bR1 2
          have n3 := blk_cell bR1 3
          have p3 := blk_free bR1 3
          have n4 := blk_cell bR1 4
          have p4 := blk_free bR1 4
          simp at n0 n1 n2 n3 n4
          go_upto_region 5 with fail
          go_region_held3 (fun w' => w'.cell? ⟨B, 3, none⟩ = some (.slice (some ⟨b0, o0, none⟩) 2 rd) ∧ w'.cell? ⟨B + 2, 1, none⟩ = some (.int .i64 a.n) ∧ w'.cell? ⟨b0, o0 + 5, none⟩ = some (.int .i64 b.n)) ((refine KP.out _ ?_; (with_reducible (repeat (first | exact Kb.self bel1 | refine Kb.drew ?_ | refine Kb.alloc ?_ _ | refine Kb.set ?_ hR1))))) (fail)
          go_wp2_with fail
          clear n0 p0 n1 p1 n2 p2 n3 p3 n4 p4
          generalize hY5 : World.setCell _ _ _ = Y5
          obtain ⟨belD, hsame, r0, r1, r2, r3, r4⟩ := ret5 (W := W) bel1 hR1 bR1 hY5
          have yE : Ext W := ⟨Y5.drew, below_drew belD⟩
          refine bodyPost_ret (v := .tuple #[.agg #[.int .i64 (.mk 1 ((a.n + b.n).tmod 3) [] [] : Tm).op, .int .i64 (.mk 1 ((a.n + b.n).tmod 3) [] [] : Tm).n, .slice (⟨none, 0, none, 0⟩ : TV).a (.mk 1 ((a.n + b.n).tmod 3) [] [] : Tm).ty.length (⟨none, 0, none, 0⟩ : TV).c, .slice (⟨none, 0, none, 0⟩ : TV).b (.mk 1 ((a.n + b.n).tmod 3) [] [] : Tm).kids.length (⟨none, 0, none, 0⟩ : TV).d, .slice none 0 0], .bool true]) (by simp [results, Tryd.results94, go_sem, r0, r1, r2, r3, r4, HWAB.out, tm_op, tm_n, tm_ty, tm_kids]) rfl ?_
          exact ⟨(.mk 1 ((a.n + b.n).tmod 3) [] [] : Tm), ([] : List Tm), (⟨none, 0, none, 0⟩ : TV), none, 0, true, ⟨Y5.drew, below_drew belD⟩, rfl, rfl, .inl ⟨rfl, (.add t a b HO.out HK0.out N0.out N1.out), leaf_in _ _ _, leaf_in _ 0 0⟩⟩
        · have N1 := Lib.hid n1
          clear n1
          have q1 : (a.op == 1) = true := by rw [N0.out]; decide
          have qb : (b.op == 1) = false := by simpa using N1.out
          have n0 := blk_cell bR1 0
          have p0 := blk_free bR1 0
          have n1 := blk_cell bR1 1
          have p1 := blk_free bR1 1
          have n2 := blk_cell bR1 2
          have p2 := blk_free bR1 2
          have n3 := blk_cell bR1 3
          have p3 := blk_free bR1 3
          have n4 := blk_cell bR1 4
          have p4 := blk_free bR1 4
          simp at n0 n1 n2 n3 n4
          go_wp2
          clear n0 p0 n1 p1 n2 p2 n3 p3 n4 p4
          generalize hY5 : World.setCell _ _ _ = Y5
          obtain ⟨belD, hsame, r0, r1, r2, r3, r4⟩ := ret5 (W := W) bel1 (by omega) bR1 hY5
          refine bodyPost_ret (v := .tuple #[.agg #[.int .i64 0, .int .i64 0, .slice none 0 0, .slice none 0 0, .slice none 0 0], .bool false]) (by simp [results, Tryd.results94, go_sem, r0, r1, r2, r3, r4]) rfl ?_
          exact ⟨zeroT, [], ⟨none, 0, none, 0⟩, none, 0, false, ⟨Y5, belD⟩, rfl, rfl, .inr ⟨rfl, no_red2 HO.out HK0.out (fun q => N1.out q.2)⟩⟩
      · have N0 := Lib.hid n0
        clear n0
        have q1 : (a.op == 1) = false := by simpa using N0.out
        have n0 := blk_cell bR1 0
        have p0 := blk_free bR1 0
        have n1 := blk_cell bR1 1
        have p1 := blk_free bR1 1
        have n2 := blk_cell bR1 2
        have p2 := blk_free bR1 2
        have n3 := blk_cell bR1 3
        have p3 := blk_free bR1 3
        have n4 := blk_cell bR1 4
        have p4 := blk_free bR1 4
        simp at n0 n1 n2 n3 n4
        go_wp2
        clear n0 p0 n1 p1 n2 p2 n3 p3 n4 p4
        generalize hY5 : World.setCell _ _ _ = Y5
        obtain ⟨belD, hsame, r0, r1, r2, r3, r4⟩ := ret5 (W := W) bel1 (by omega) bR1 hY5
        refine bodyPost_ret (v := .tuple #[.agg #[.int .i64 0, .int .i64 0, .slice none 0 0, .slice none 0 0, .slice none 0 0], .bool false]) (by simp [results, Tryd.results94, go_sem, r0, r1, r2, r3, r4]) rfl ?_
        exact ⟨zeroT, [], ⟨none, 0, none, 0⟩, none, 0, false, ⟨Y5, belD⟩, rfl, rfl, .inr ⟨rfl, no_red2 HO.out HK0.out (fun q => N0.out q.1)⟩⟩
    · have O2 := Lib.hid o2
      clear o2
      by_cases o3 : t.op = 3
      · have O3 := Lib.hid o3
        clear o3
        have HO := O3
        clear O3
        have f2 : (t.op == 2) = false := by rw [HO.out]; decide
        have f3 : (t.op == 3) = true := by rw [HO.out]; decide
        have f5 : (t.op == 5) = false := by rw [HO.out]; decide
        have f8 : (t.op == 8) = false := by rw [HO.out]; decide
        have f10 : (t.op == 10) = false := by rw [HO.out]; decide
        have f12 : (t.op == 12) = false := by rw [HO.out]; decide
        obtain ⟨b, c, hks⟩ := len2 (l := ks) (by have h1 := sh.many; rw [HO.out, HK0.out] at h1; have h2 : manyO 3 = 3 := (by decide); simp at h1; omega)
        subst hks
        replace g3 : W1.cell? ⟨B, 3, none⟩ = some (.slice (some ⟨b0, o0, none⟩) 3 rd) := by have := g3; rw [HK0.out] at this; exact this
        have HKk := HK0
        have hl : 3 ≤ t.kids.length := by rw [HK0.out]; exact Nat.le_refl _
        have hl' : (3 : Int) ≤ (t.kids.length : Int) := by omega
        obtain ⟨bb, oo, hrb, KK⟩ := A.kid 1 b (by rw [HK0.out]; rfl)
        have sk1 := A.sub 1 b (by rw [HK0.out]; rfl)
        (try dsimp only at hrb)
        obtain ⟨rfl, rfl⟩ : b0 = bb ∧ o0 = oo := by cases hrb; exact ⟨rfl, rfl⟩
        clear hrb
        have k10 : W1.cell? ⟨b0, o0 + 4, none⟩ = some (.int .i64 b.op) := by have := (Ext.mk W1 bel1).cell KK.c0; simpa using this
        have k11 : W1.cell? ⟨b0, o0 + 5, none⟩ = some (.int .i64 b.n) := by have := (Ext.mk W1 bel1).cell KK.c1; simpa using this
        have k12 : W1.cell? ⟨b0, o0 + 6, none⟩ = some (.slice (kr 1).a b.ty.length (kr 1).c) := by have := (Ext.mk W1 bel1).cell KK.c2; simpa using this
        have k13 : W1.cell? ⟨b0, o0 + 7, none⟩ = some (.slice (kr 1).b b.kids.length (kr 1).d) := by have := (Ext.mk W1 bel1).cell KK.c3; simpa using this
        clear KK
        obtain ⟨bb, oo, hrb, KK⟩ := A.kid 2 c (by rw [HK0.out]; rfl)
        have sk2 := A.sub 2 c (by rw [HK0.out]; rfl)
        (try dsimp only at hrb)
        obtain ⟨rfl, rfl⟩ : b0 = bb ∧ o0 = oo := by cases hrb; exact ⟨rfl, rfl⟩
        clear hrb
        have k20 : W1.cell? ⟨b0, o0 + 8, none⟩ = some (.int .i64 c.op) := by have := (Ext.mk W1 bel1).cell KK.c0; simpa using this
        have k21 : W1.cell? ⟨b0, o0 + 9, none⟩ = some (.int .i64 c.n) := by have := (Ext.mk W1 bel1).cell KK.c1; simpa using this
        have k22 : W1.cell? ⟨b0, o0 + 10, none⟩ = some (.slice (kr 2).a c.ty.length (kr 2).c) := by have := (Ext.mk W1 bel1).cell KK.c2; simpa using this
        have k23 : W1.cell? ⟨b0, o0 + 11, none⟩ = some (.slice (kr 2).b c.kids.length (kr 2).d) := by have := (Ext.mk W1 bel1).cell KK.c3; simpa using this
        clear KK
        by_cases n0 : a.op = 1
        · have N0 := Lib.hid n0
          clear n0
          have q1 : (a.op == 1) = true := by rw [N0.out]; decide
          by_cases z0 : a.n = 0
          · have Z0 := Lib.hid z0
            clear z0
            have zz : (a.n == 0) = true := by simpa using Z0.out
            have n0 := blk_cell bR1 0
            have p0 := blk_free bR1 0
            have n1 := blk_cell bR1 1
            have p1 := blk_free bR1 1
            have n2 := blk_cell bR1 2
            have p2 := blk_free bR1 2
            have n3 := blk_cell bR1 3
            have p3 := blk_free bR1 3
            have n4 := blk_cell bR1 4
            have p4 := blk_free bR1 4
            simp at n0 n1 n2 n3 n4
            go_wp2_with fail
            clear n0 p0 n1 p1 n2 p2 n3 p3 n4 p4
            generalize hY5 : World.setCell _ _ _ = Y5
            obtain ⟨belD, hsame, r0, r1, r2, r3, r4⟩ := ret5 (W := W) bel1 hR1 bR1 hY5
            refine bodyPost_ret (v := .tuple #[.agg #[.int .i64 b.op, .int .i64 b.n, .slice (kr 1).a b.ty.length (kr 1).c, .slice (kr 1).b b.kids.length (kr 1).d, .slice none 0 0], .bool true]) (by simp [results, Tryd.results94, go_sem, r0, r1, r2, r3, r4]) rfl ?_
            exact ⟨b, [], (kr 1), none, 0, true, ⟨Y5, belD⟩, rfl, rfl, .inl ⟨rfl, (.if0 t a b c HO.out HK0.out N0.out Z0.out), (sk1.ext ⟨Y5, belD⟩).lower (Nat.zero_le _), leaf_in _ 0 0⟩⟩
          · have Z0 := Lib.hid z0
            clear z0
            have zz : (a.n == 0) = false := by simpa using Z0.out
            have n0 := blk_cell bR1 0
            have p0 := blk_free bR1 0
            have n1 := blk_cell bR1 1
            have p1 := blk_free bR1 1
            have n2 := blk_cell bR1 2
            have p2 := blk_free bR1 2
            have n3 := blk_cell bR1 3
            have p3 := blk_free bR1 3
            have n4 := blk_cell bR1 4
            have p4 := blk_free bR1 4
            simp at n0 n1 n2 n3 n4
            go_wp2_with fail
            clear n0 p0 n1 p1 n2 p2 n3 p3 n4 p4
            generalize hY5 : World.setCell _ _ _ = Y5
            obtain ⟨belD, hsame, r0, r1, r2, r3, r4⟩ := ret5 (W := W) bel1 hR1 bR1 hY5
            refine bodyPost_ret (v := .tuple #[.agg #[.int .i64 c.op, .int .i64 c.n, .slice (kr 2).a c.ty.length (kr 2).c, .slice (kr 2).b c.kids.length (kr 2).d, .slice none 0 0], .bool true]) (by simp [results, Tryd.results94, go_sem, r0, r1, r2, r3, r4]) rfl ?_
            exact ⟨c, [], (kr 2), none, 0, true, ⟨Y5, belD⟩, rfl, rfl, .inl ⟨rfl, (.if1 t a b c HO.out HK0.out N0.out Z0.out), (sk2.ext ⟨Y5, belD⟩).lower (Nat.zero_le _), leaf_in _ 0 0⟩⟩
        · have N0 := Lib.hid n0
          clear n0
          have q1 : (a.op == 1) = false := by simpa using N0.out
          have n0 := blk_cell bR1 0
          have p0 := blk_free bR1 0
          have n1 := blk_cell bR1 1
          have p1 := blk_free bR1 1
          have n2 := blk_cell bR1 2
          have p2 := blk_free bR1 2
          have n3 := blk_cell bR1 3
          have p3 := blk_free bR1 3
          have n4 := blk_cell bR1 4
          have p4 := blk_free bR1 4
          simp at n0 n1 n2 n3 n4
          go_wp2
          clear n0 p0 n1 p1 n2 p2 n3 p3 n4 p4
          generalize hY5 : World.setCell _ _ _ = Y5
          obtain ⟨belD, hsame, r0, r1, r2, r3, r4⟩ := ret5 (W := W) bel1 (by omega) bR1 hY5
          refine bodyPost_ret (v := .tuple #[.agg #[.int .i64 0, .int .i64 0, .slice none 0 0, .slice none 0 0, .slice none 0 0], .bool false]) (by simp [results, Tryd.results94, go_sem, r0, r1, r2, r3, r4]) rfl ?_
          exact ⟨zeroT, [], ⟨none, 0, none, 0⟩, none, 0, false, ⟨Y5, belD⟩, rfl, rfl, .inr ⟨rfl, no_red3 HO.out HK0.out N0.out⟩⟩
      · have O3 := Lib.hid o3
        clear o3
        by_cases o10 : t.op = 10
        · have O10 := Lib.hid o10
          clear o10
          have HO := O10
          clear O10
          have f2 : (t.op == 2) = false := by rw [HO.out]; decide
          have f3 : (t.op == 3) = false := by rw [HO.out]; decide
          have f5 : (t.op == 5) = false := by rw [HO.out]; decide
          have f8 : (t.op == 8) = false := by rw [HO.out]; decide
          have f10 : (t.op == 10) = true := by rw [HO.out]; decide
          have f12 : (t.op == 12) = false := by rw [HO.out]; decide
          obtain ⟨b, hks⟩ := len1 (l := ks) (by have h1 := sh.many; rw [HO.out, HK0.out] at h1; have h2 : manyO 10 = 2 := (by decide); simp at h1; omega)
          subst hks
          replace g3 : W1.cell? ⟨B, 3, none⟩ = some (.slice (some ⟨b0, o0, none⟩) 2 rd) := by have := g3; rw [HK0.out] at this; exact this
          have HKk := HK0
          have hl : 2 ≤ t.kids.length := by rw [HK0.out]; exact Nat.le_refl _
          have hl' : (2 : Int) ≤ (t.kids.length : Int) := by omega
          obtain ⟨bb, oo, hrb, KK⟩ := A.kid 1 b (by rw [HK0.out]; rfl)
          have sk1 := A.sub 1 b (by rw [HK0.out]; rfl)
          (try dsimp only at hrb)
          obtain ⟨rfl, rfl⟩ : b0 = bb ∧ o0 = oo := by cases hrb; exact ⟨rfl, rfl⟩
          clear hrb
          have k10 : W1.cell? ⟨b0, o0 + 4, none⟩ = some (.int .i64 b.op) := by have := (Ext.mk W1 bel1).cell KK.c0; simpa using this
          have k11 : W1.cell? ⟨b0, o0 + 5, none⟩ = some (.int .i64 b.n) := by have := (Ext.mk W1 bel1).cell KK.c1; simpa using this
          have k12 : W1.cell? ⟨b0, o0 + 6, none⟩ = some (.slice (kr 1).a b.ty.length (kr 1).c) := by have := (Ext.mk W1 bel1).cell KK.c2; simpa using this
          have k13 : W1.cell? ⟨b0, o0 + 7, none⟩ = some (.slice (kr 1).b b.kids.length (kr 1).d) := by have := (Ext.mk W1 bel1).cell KK.c3; simpa using this
          clear KK
          by_cases n0 : a.op = 9
          · have N0 := Lib.hid n0
            clear n0
            have q9 : (a.op == 9) = true := by rw [N0.out]; decide
            obtain ⟨u, hu⟩ := len1 (l := a.kids) (by rw [sh.kid a (by rw [HK0.out]; simp), N0.out]; decide)
            have HUk := Lib.hid hu
            clear hu
            replace h3 : W1.cell? ⟨B + 2, 3, none⟩ = some (.slice (kr 0).b 1 (kr 0).d) := by have := h3; rw [HUk.out] at this; exact this
            obtain ⟨kr2, A2⟩ := hs0.out
            have hla : 1 ≤ a.kids.length := by rw [HUk.out]; exact Nat.le_refl _
            obtain ⟨bb, oo, hrb, KK⟩ := A2.kid 0 u (by rw [HUk.out]; rfl)
            have su0 := A2.sub 0 u (by rw [HUk.out]; rfl)
            (try dsimp only at hrb)
            have h3 : W1.cell? ⟨B + 2, 3, none⟩ = some (.slice (some ⟨bb, oo, none⟩) 1 (kr 0).d) := by rw [← hrb]; exact h3
            obtain ⟨ba, hbk⟩ : ∃ z, z = bb := ⟨_, rfl⟩
            obtain ⟨oa, hok⟩ : ∃ z, z = oo := ⟨_, rfl⟩
            rw [← hbk, ← hok] at h3 KK hrb
            clear hbk hok bb oo
            have HRu := hrb
            clear hrb
            have hbu : ba < W.heap.size := cell_lt KK.c0
            have u00 : W1.cell? ⟨ba, oa, none⟩ = some (.int .i64 u.op) := by have := (Ext.mk W1 bel1).cell KK.c0; simpa using this
            have u01 : W1.cell? ⟨ba, oa + 1, none⟩ = some (.int .i64 u.n) := by have := (Ext.mk W1 bel1).cell KK.c1; simpa using this
            have u02 : W1.cell? ⟨ba, oa + 2, none⟩ = some (.slice (kr2 0).a u.ty.length (kr2 0).c) := by have := (Ext.mk W1 bel1).cell KK.c2; simpa using this
            have u03 : W1.cell? ⟨ba, oa + 3, none⟩ = some (.slice (kr2 0).b u.kids.length (kr2 0).d) := by have := (Ext.mk W1 bel1).cell KK.c3; simpa using this
            clear KK
            have KP : Hid (∀ w', Kb W W1 (B + 1) w' → w'.cell? ⟨B, 3, none⟩ = some (.slice (some ⟨b0, o0, none⟩) 2 rd) ∧ w'.cell? ⟨B + 2, 3, none⟩ = some (.slice (some ⟨ba, oa, none⟩) 1 (kr 0).d) ∧ w'.cell? ⟨b0, o0 + 4, none⟩ = some (.int .i64 b.op) ∧ w'.cell? ⟨b0, o0 + 5, none⟩ = some (.int .i64 b.n) ∧ w'.cell? ⟨b0, o0 + 6, none⟩ = some (.slice (kr 1).a b.ty.length (kr 1).c) ∧ w'.cell? ⟨b0, o0 + 7, none⟩ = some (.slice (kr 1).b b.kids.length (kr 1).d) ∧ w'.cell? ⟨ba, oa, none⟩ = some (.int .i64 u.op) ∧ w'.cell? ⟨ba, oa + 1, none⟩ = some (.int .i64 u.n) ∧ w'.cell? ⟨ba, oa + 2, none⟩ = some (.slice (kr2 0).a u.ty.length (kr2 0).c) ∧ w'.cell? ⟨ba, oa + 3, none⟩ = some (.slice (kr2 0).b u.kids.length (kr2 0).d)) := fun w' b => ⟨b.cell g3 (by omega), b.cell h3 (by omega), b.cell k10 (by omega), b.cell k11 (by omega), b.cell k12 (by omega), b.cell k13 (by omega), b.cell u00 (by omega), b.cell u01 (by omega), b.cell u02 (by omega), b.cell u03 (by omega)⟩
            have n0 := blk_cell bR1 0
            have p0 := blk_free bR1 0
            have n1 := blk_cell bR1 1
            have p1 := blk_free bR1 1
            have n2 := blk_cell bR1 2
            have p2 := blk_free bR1 2
            have n3 := blk_cell bR1 3
            have p3 := blk_free bR1 3
            have n4 := blk_cell bR1 4
            have p4 := blk_free bR1 4
            simp at n0 n1 n2 n3 n4
            go_upto_region 11 with fail
            go_region_held3 (fun w' => w'.cell? ⟨B, 3, none⟩ = some (.slice (some ⟨b0, o0, none⟩) 2 rd) ∧ w'.cell? ⟨B + 2, 3, none⟩ = some (.slice (some ⟨ba, oa, none⟩) 1 (kr 0).d) ∧ w'.cell? ⟨b0, o0 + 4, none⟩ = some (.int .i64 b.op) ∧ w'.cell? ⟨b0, o0 + 5, none⟩ = some (.int .i64 b.n) ∧ w'.cell? ⟨b0, o0 + 6, none⟩ = some (.slice (kr 1).a b.ty.length (kr 1).c) ∧ w'.cell? ⟨b0, o0 + 7, none⟩ = some (.slice (kr 1).b b.kids.length (kr 1).d) ∧ w'.cell? ⟨ba, oa, none⟩ = some (.int .i64 u.op) ∧ w'.cell? ⟨ba, oa + 1, none⟩ = some (.int .i64 u.n) ∧ w'.cell? ⟨ba, oa + 2, none⟩ = some (.slice (kr2 0).a u.ty.length (kr2 0).c) ∧ w'.cell? ⟨ba, oa + 3, none⟩ = some (.slice (kr2 0).b u.kids.length (kr2 0).d)) ((refine KP.out _ ?_; (with_reducible (repeat (first | exact Kb.self bel1 | refine Kb.drew ?_ | refine Kb.alloc ?_ _ | refine Kb.set ?_ hR1))))) (fail)
            go_wp2_with fail
            clear n0 p0 n1 p1 n2 p2 n3 p3 n4 p4
            generalize hY5 : World.setCell _ _ _ = Y5
            obtain ⟨belD, hsame, r0, r1, r2, r3, r4⟩ := ret5 (W := W) bel1 hR1 bR1 hY5
            have hsz5 : Y5.heap.size = B + 3 := by rw [← hY5]; simp; omega
            generalize hWx : World.alloc Y5 _ = Wx
            have bX := new_blk hWx
            rw [hsz5] at bX
            have al5 : Below Y5.heap.size Y5 Wx := by rw [← hWx]; exact (Below.refl _ _).alloc (Nat.le_refl _) _
            have belx : Below W.heap.size W Wx := belD.trans (al5.mono (by omega))
            replace r0 := (Ext.mk Wx al5).cell r0
            replace r1 := (Ext.mk Wx al5).cell r1
            replace r2 := (Ext.mk Wx al5).cell r2
            replace r3 := (Ext.mk Wx al5).cell r3
            replace r4 := (Ext.mk Wx al5).cell r4
            have yE : Ext W := ⟨Wx.drew, below_drew belx⟩
            refine bodyPost_ret (v := .tuple #[.agg #[.int .i64 u.op, .int .i64 u.n, .slice (kr2 0).a u.ty.length (kr2 0).c, .slice (kr2 0).b u.kids.length (kr2 0).d, .slice (some ⟨B + 3, 0, none⟩) 1 1], .bool true]) (by simp [results, Tryd.results94, go_sem, r0, r1, r2, r3, r4]) rfl ?_
            exact ⟨u, [b], (kr2 0), (some ⟨B + 3, 0, none⟩), 1, true, ⟨Wx.drew, below_drew belx⟩, rfl, rfl, .inl ⟨rfl, (.app t a b u HO.out HK0.out N0.out HUk.out), (su0.ext ⟨Wx.drew, below_drew belx⟩).lower (Nat.zero_le _), one_kid (show Wx.drew.heap[B + 3]? = _ from bX) (sk1.ext ⟨Wx.drew, below_drew belx⟩) 1⟩⟩
          · have N0 := Lib.hid n0
            clear n0
            have q9 : (a.op == 9) = false := by simpa using N0.out
            have n0 := blk_cell bR1 0
            have p0 := blk_free bR1 0
            have n1 := blk_cell bR1 1
            have p1 := blk_free bR1 1
            have n2 := blk_cell bR1 2
            have p2 := blk_free bR1 2
            have n3 := blk_cell bR1 3
            have p3 := blk_free bR1 3
            have n4 := blk_cell bR1 4
            have p4 := blk_free bR1 4
            simp at n0 n1 n2 n3 n4
            go_wp2
            clear n0 p0 n1 p1 n2 p2 n3 p3 n4 p4
            generalize hY5 : World.setCell _ _ _ = Y5
            obtain ⟨belD, hsame, r0, r1, r2, r3, r4⟩ := ret5 (W := W) bel1 (by omega) bR1 hY5
            refine bodyPost_ret (v := .tuple #[.agg #[.int .i64 0, .int .i64 0, .slice none 0 0, .slice none 0 0, .slice none 0 0], .bool false]) (by simp [results, Tryd.results94, go_sem, r0, r1, r2, r3, r4]) rfl ?_
            exact ⟨zeroT, [], ⟨none, 0, none, 0⟩, none, 0, false, ⟨Y5, belD⟩, rfl, rfl, .inr ⟨rfl, no_red10 HO.out HK0.out N0.out⟩⟩
        · have O10 := Lib.hid o10
          clear o10
          by_cases o5 : t.op = 5
          · have O5 := Lib.hid o5
            clear o5
            have HO := O5
            clear O5
            have f2 : (t.op == 2) = false := by rw [HO.out]; decide
            have f3 : (t.op == 3) = false := by rw [HO.out]; decide
            have f5 : (t.op == 5) = true := by rw [HO.out]; decide
            have f8 : (t.op == 8) = false := by rw [HO.out]; decide
            have f10 : (t.op == 10) = false := by rw [HO.out]; decide
            have f12 : (t.op == 12) = false := by rw [HO.out]; decide
            obtain ⟨b, hks⟩ := len1 (l := ks) (by have h1 := sh.many; rw [HO.out, HK0.out] at h1; have h2 : manyO 5 = 2 := (by decide); simp at h1; omega)
            subst hks
            replace g3 : W1.cell? ⟨B, 3, none⟩ = some (.slice (some ⟨b0, o0, none⟩) 2 rd) := by have := g3; rw [HK0.out] at this; exact this
            have HKk := HK0
            have hl : 2 ≤ t.kids.length := by rw [HK0.out]; exact Nat.le_refl _
            have hl' : (2 : Int) ≤ (t.kids.length : Int) := by omega
            obtain ⟨bb, oo, hrb, KK⟩ := A.kid 1 b (by rw [HK0.out]; rfl)
            have sk1 := A.sub 1 b (by rw [HK0.out]; rfl)
            (try dsimp only at hrb)
            obtain ⟨rfl, rfl⟩ : b0 = bb ∧ o0 = oo := by cases hrb; exact ⟨rfl, rfl⟩
            clear hrb
            have k10 : W1.cell? ⟨b0, o0 + 4, none⟩ = some (.int .i64 b.op) := by have := (Ext.mk W1 bel1).cell KK.c0; simpa using this
            have k11 : W1.cell? ⟨b0, o0 + 5, none⟩ = some (.int .i64 b.n) := by have := (Ext.mk W1 bel1).cell KK.c1; simpa using this
            have k12 : W1.cell? ⟨b0, o0 + 6, none⟩ = some (.slice (kr 1).a b.ty.length (kr 1).c) := by have := (Ext.mk W1 bel1).cell KK.c2; simpa using this
            have k13 : W1.cell? ⟨b0, o0 + 7, none⟩ = some (.slice (kr 1).b b.kids.length (kr 1).d) := by have := (Ext.mk W1 bel1).cell KK.c3; simpa using this
            clear KK
            by_cases n0 : a.op = 4
            · have N0 := Lib.hid n0
              clear n0
              have q4 : (a.op == 4) = true := by rw [N0.out]; decide
              obtain ⟨u, v, hu⟩ := len2 (l := a.kids) (by rw [sh.kid a (by rw [HK0.out]; simp), N0.out]; decide)
              have HUk := Lib.hid hu
              clear hu
              replace h3 : W1.cell? ⟨B + 2, 3, none⟩ = some (.slice (kr 0).b 2 (kr 0).d) := by have := h3; rw [HUk.out] at this; exact this
              obtain ⟨kr2, A2⟩ := hs0.out
              obtain ⟨bb, oo, hrb, KK⟩ := A2.kid 0 u (by rw [HUk.out]; rfl)
              have su0 := A2.sub 0 u (by rw [HUk.out]; rfl)
              (try dsimp only at hrb)
              have h3 : W1.cell? ⟨B + 2, 3, none⟩ = some (.slice (some ⟨bb, oo, none⟩) 2 (kr 0).d) := by rw [← hrb]; exact h3
              obtain ⟨ba, hbk⟩ : ∃ z, z = bb := ⟨_, rfl⟩
              obtain ⟨oa, hok⟩ : ∃ z, z = oo := ⟨_, rfl⟩
              rw [← hbk, ← hok] at h3 KK hrb
              clear hbk hok bb oo
              have HRu := hrb
              clear hrb
              have hbu : ba < W.heap.size := cell_lt KK.c0
              have u00 : W1.cell? ⟨ba, oa, none⟩ = some (.int .i64 u.op) := by have := (Ext.mk W1 bel1).cell KK.c0; simpa using this
              have u01 : W1.cell? ⟨ba, oa + 1, none⟩ = some (.int .i64 u.n) := by have := (Ext.mk W1 bel1).cell KK.c1; simpa using this
              have u02 : W1.cell? ⟨ba, oa + 2, none⟩ = some (.slice (kr2 0).a u.ty.length (kr2 0).c) := by have := (Ext.mk W1 bel1).cell KK.c2; simpa using this
              have u03 : W1.cell? ⟨ba, oa + 3, none⟩ = some (.slice (kr2 0).b u.kids.length (kr2 0).d) := by have := (Ext.mk W1 bel1).cell KK.c3; simpa using this
              clear KK
              obtain ⟨bb, oo, hrb, KK⟩ := A2.kid 1 v (by rw [HUk.out]; rfl)
              have su1 := A2.sub 1 v (by rw [HUk.out]; rfl)
              (try dsimp only at hrb)
              rw [HRu] at hrb
              obtain ⟨rfl, rfl⟩ : ba = bb ∧ oa = oo := by cases hrb; exact ⟨rfl, rfl⟩
              clear hrb
              have u10 : W1.cell? ⟨ba, oa + 4, none⟩ = some (.int .i64 v.op) := by have := (Ext.mk W1 bel1).cell KK.c0; simpa using this
              have u11 : W1.cell? ⟨ba, oa + 5, none⟩ = some (.int .i64 v.n) := by have := (Ext.mk W1 bel1).cell KK.c1; simpa using this
              have u12 : W1.cell? ⟨ba, oa + 6, none⟩ = some (.slice (kr2 1).a v.ty.length (kr2 1).c) := by have := (Ext.mk W1 bel1).cell KK.c2; simpa using this
              have u13 : W1.cell? ⟨ba, oa + 7, none⟩ = some (.slice (kr2 1).b v.kids.length (kr2 1).d) := by have := (Ext.mk W1 bel1).cell KK.c3; simpa using this
              clear KK
              have KP : Hid (∀ w', Kb W W1 (B + 1) w' → w'.cell? ⟨B, 3, none⟩ = some (.slice (some ⟨b0, o0, none⟩) 2 rd) ∧ w'.cell? ⟨B + 2, 3, none⟩ = some (.slice (some ⟨ba, oa, none⟩) 2 (kr 0).d) ∧ w'.cell? ⟨b0, o0 + 4, none⟩ = some (.int .i64 b.op) ∧ w'.cell? ⟨b0, o0 + 5, none⟩ = some (.int .i64 b.n) ∧ w'.cell? ⟨b0, o0 + 6, none⟩ = some (.slice (kr 1).a b.ty.length (kr 1).c) ∧ w'.cell? ⟨b0, o0 + 7, none⟩ = some (.slice (kr 1).b b.kids.length (kr 1).d) ∧ w'.cell? ⟨ba, oa, none⟩ = some (.int .i64 u.op) ∧ w'.cell? ⟨ba, oa + 1, none⟩ = some (.int .i64 u.n) ∧ w'.cell? ⟨ba, oa + 2, none⟩ = some (.slice (kr2 0).a u.ty.length (kr2 0).c) ∧ w'.cell? ⟨ba, oa + 3, none⟩ = some (.slice (kr2 0).b u.kids.length (kr2 0).d) ∧ w'.cell? ⟨ba, oa + 4, none⟩ = some (.int .i64 v.op) ∧ w'.cell? ⟨ba, oa + 5, none⟩ = some (.int .i64 v.n) ∧ w'.cell? ⟨ba, oa + 6, none⟩ = some (.slice (kr2 1).a v.ty.length (kr2 1).c) ∧ w'.cell? ⟨ba, oa + 7, none⟩ = some (.slice (kr2 1).b v.kids.length (kr2 1).d)) := fun w' b => ⟨b.cell g3 (by omega), b.cell h3 (by omega), b.cell k10 (by omega), b.cell k11 (by omega), b.cell k12 (by omega), b.cell k13 (by omega), b.cell u00 (by omega), b.cell u01 (by omega), b.cell u02 (by omega), b.cell u03 (by omega), b.cell u10 (by omega), b.cell u11 (by omega), b.cell u12 (by omega), b.cell u13 (by omega)⟩
              have n0 := blk_cell bR1 0
              have p0 := blk_free bR1 0
              have n1 := blk_cell bR1 1
              have p1 := blk_free bR1 1
              have n2 := blk_cell bR1 2
              have p2 := blk_free bR1 2
              have n3 := blk_cell bR1 3
              have p3 := blk_free bR1 3
              have n4 := blk_cell bR1 4
              have p4 := blk_free bR1 4
              simp at n0 n1 n2 n3 n4
              go_upto_region 13 with fail
              go_region_held3 (fun w' => w'.cell? ⟨B, 3, none⟩ = some (.slice (some ⟨b0, o0, none⟩) 2 rd) ∧ w'.cell? ⟨B + 2, 3, none⟩ = some (.slice (some ⟨ba, oa, none⟩) 2 (kr 0).d) ∧ w'.cell? ⟨b0, o0 + 4, none⟩ = some (.int .i64 b.op) ∧ w'.cell? ⟨b0, o0 + 5, none⟩ = some (.int .i64 b.n) ∧ w'.cell? ⟨b0, o0 + 6, none⟩ = some (.slice (kr 1).a b.ty.length (kr 1).c) ∧ w'.cell? ⟨b0, o0 + 7, none⟩ = some (.slice (kr 1).b b.kids.length (kr 1).d) ∧ w'.cell? ⟨ba, oa, none⟩ = some (.int .i64 u.op) ∧ w'.cell? ⟨ba, oa + 1, none⟩ = some (.int .i64 u.n) ∧ w'.cell? ⟨ba, oa + 2, none⟩ = some (.slice (kr2 0).a u.ty.length (kr2 0).c) ∧ w'.cell? ⟨ba, oa + 3, none⟩ = some (.slice (kr2 0).b u.kids.length (kr2 0).d) ∧ w'.cell? ⟨ba, oa + 4, none⟩ = some (.int .i64 v.op) ∧ w'.cell? ⟨ba, oa + 5, none⟩ = some (.int .i64 v.n) ∧ w'.cell? ⟨ba, oa + 6, none⟩ = some (.slice (kr2 1).a v.ty.length (kr2 1).c) ∧ w'.cell? ⟨ba, oa + 7, none⟩ = some (.slice (kr2 1).b v.kids.length (kr2 1).d)) ((refine KP.out _ ?_; (with_reducible (repeat (first | exact Kb.self bel1 | refine Kb.drew ?_ | refine Kb.alloc ?_ _ | refine Kb.set ?_ hR1))))) (fail)
              go_wp2_with fail
              clear n0 p0 n1 p1 n2 p2 n3 p3 n4 p4
              generalize hY5 : World.setCell _ _ _ = Y5
              obtain ⟨belD, hsame, r0, r1, r2, r3, r4⟩ := ret5 (W := W) bel1 hR1 bR1 hY5
              have hsz5 : Y5.heap.size = B + 3 := by rw [← hY5]; simp; omega
              generalize hWx : World.alloc Y5 _ = Wx
              have bX := new_blk hWx
              rw [hsz5] at bX
              have al5 : Below Y5.heap.size Y5 Wx := by rw [← hWx]; exact (Below.refl _ _).alloc (Nat.le_refl _) _
              have belx : Below W.heap.size W Wx := belD.trans (al5.mono (by omega))
              replace r0 := (Ext.mk Wx al5).cell r0
              replace r1 := (Ext.mk Wx al5).cell r1
              replace r2 := (Ext.mk Wx al5).cell r2
              replace r3 := (Ext.mk Wx al5).cell r3
              replace r4 := (Ext.mk Wx al5).cell r4
              have yE : Ext W := ⟨Wx.drew, below_drew belx⟩
              refine bodyPost_ret (v := .tuple #[.agg #[.int .i64 b.op, .int .i64 b.n, .slice (kr 1).a b.ty.length (kr 1).c, .slice (kr 1).b b.kids.length (kr 1).d, .slice (some ⟨B + 3, 0, none⟩) 2 2], .bool true]) (by simp [results, Tryd.results94, go_sem, r0, r1, r2, r3, r4]) rfl ?_
              exact ⟨b, [v, u], (kr 1), (some ⟨B + 3, 0, none⟩), 2, true, ⟨Wx.drew, below_drew belx⟩, rfl, rfl, .inl ⟨rfl, (.split t a b u v HO.out HK0.out N0.out HUk.out), (sk1.ext ⟨Wx.drew, below_drew belx⟩).lower (Nat.zero_le _), two_kids (show Wx.drew.heap[B + 3]? = _ from bX) (su1.ext ⟨Wx.drew, below_drew belx⟩) (su0.ext ⟨Wx.drew, below_drew belx⟩) 2⟩⟩
            · have N0 := Lib.hid n0
              clear n0
              have q4 : (a.op == 4) = false := by simpa using N0.out
              have n0 := blk_cell bR1 0
              have p0 := blk_free bR1 0
              have n1 := blk_cell bR1 1
              have p1 := blk_free bR1 1
              have n2 := blk_cell bR1 2
              have p2 := blk_free bR1 2
              have n3 := blk_cell bR1 3
              have p3 := blk_free bR1 3
              have n4 := blk_cell bR1 4
              have p4 := blk_free bR1 4
              simp at n0 n1 n2 n3 n4
              go_wp2
              clear n0 p0 n1 p1 n2 p2 n3 p3 n4 p4
              generalize hY5 : World.setCell _ _ _ = Y5
              obtain ⟨belD, hsame, r0, r1, r2, r3, r4⟩ := ret5 (W := W) bel1 (by omega) bR1 hY5
              refine bodyPost_ret (v := .tuple #[.agg #[.int .i64 0, .int .i64 0, .slice none 0 0, .slice none 0 0, .slice none 0 0], .bool false]) (by simp [results, Tryd.results94, go_sem, r0, r1, r2, r3, r4]) rfl ?_
              exact ⟨zeroT, [], ⟨none, 0, none, 0⟩, none, 0, false, ⟨Y5, belD⟩, rfl, rfl, .inr ⟨rfl, no_red5 HO.out HK0.out N0.out⟩⟩
          · have O5 := Lib.hid o5
            clear o5
            by_cases o8 : t.op = 8
            · have O8 := Lib.hid o8
              clear o8
              have HO := O8
              clear O8
              have f2 : (t.op == 2) = false := by rw [HO.out]; decide
              have f3 : (t.op == 3) = false := by rw [HO.out]; decide
              have f5 : (t.op == 5) = false := by rw [HO.out]; decide
              have f8 : (t.op == 8) = true := by rw [HO.out]; decide
              have f10 : (t.op == 10) = false := by rw [HO.out]; decide
              have f12 : (t.op == 12) = false := by rw [HO.out]; decide
              obtain ⟨b, c, hks⟩ := len2 (l := ks) (by have h1 := sh.many; rw [HO.out, HK0.out] at h1; have h2 : manyO 8 = 3 := (by decide); simp at h1; omega)
              subst hks
              replace g3 : W1.cell? ⟨B, 3, none⟩ = some (.slice (some ⟨b0, o0, none⟩) 3 rd) := by have := g3; rw [HK0.out] at this; exact this
              have HKk := HK0
              have hl : 3 ≤ t.kids.length := by rw [HK0.out]; exact Nat.le_refl _
              have hl' : (3 : Int) ≤ (t.kids.length : Int) := by omega
              obtain ⟨bb, oo, hrb, KK⟩ := A.kid 1 b (by rw [HK0.out]; rfl)
              have sk1 := A.sub 1 b (by rw [HK0.out]; rfl)
              (try dsimp only at hrb)
              obtain ⟨rfl, rfl⟩ : b0 = bb ∧ o0 = oo := by cases hrb; exact ⟨rfl, rfl⟩
              clear hrb
              have k10 : W1.cell? ⟨b0, o0 + 4, none⟩ = some (.int .i64 b.op) := by have := (Ext.mk W1 bel1).cell KK.c0; simpa using this
              have k11 : W1.cell? ⟨b0, o0 + 5, none⟩ = some (.int .i64 b.n) := by have := (Ext.mk W1 bel1).cell KK.c1; simpa using this
              have k12 : W1.cell? ⟨b0, o0 + 6, none⟩ = some (.slice (kr 1).a b.ty.length (kr 1).c) := by have := (Ext.mk W1 bel1).cell KK.c2; simpa using this
              have k13 : W1.cell? ⟨b0, o0 + 7, none⟩ = some (.slice (kr 1).b b.kids.length (kr 1).d) := by have := (Ext.mk W1 bel1).cell KK.c3; simpa using this
              clear KK
              obtain ⟨bb, oo, hrb, KK⟩ := A.kid 2 c (by rw [HK0.out]; rfl)
              have sk2 := A.sub 2 c (by rw [HK0.out]; rfl)
              (try dsimp only at hrb)
              obtain ⟨rfl, rfl⟩ : b0 = bb ∧ o0 = oo := by cases hrb; exact ⟨rfl, rfl⟩
              clear hrb
              have k20 : W1.cell? ⟨b0, o0 + 8, none⟩ = some (.int .i64 c.op) := by have := (Ext.mk W1 bel1).cell KK.c0; simpa using this
              have k21 : W1.cell? ⟨b0, o0 + 9, none⟩ = some (.int .i64 c.n) := by have := (Ext.mk W1 bel1).cell KK.c1; simpa using this
              have k22 : W1.cell? ⟨b0, o0 + 10, none⟩ = some (.slice (kr 2).a c.ty.length (kr 2).c) := by have := (Ext.mk W1 bel1).cell KK.c2; simpa using this
              have k23 : W1.cell? ⟨b0, o0 + 11, none⟩ = some (.slice (kr 2).b c.kids.length (kr 2).d) := by have := (Ext.mk W1 bel1).cell KK.c3; simpa using this
              clear KK
              by_cases n0 : a.op = 6
              · have N0 := Lib.hid n0
                clear n0
                have q6 : (a.op == 6) = true := by rw [N0.out]; decide
                obtain ⟨u, hu⟩ := len1 (l := a.kids) (by rw [sh.kid a (by rw [HK0.out]; simp), N0.out]; decide)
                have HUk := Lib.hid hu
                clear hu
                replace h3 : W1.cell? ⟨B + 2, 3, none⟩ = some (.slice (kr 0).b 1 (kr 0).d) := by have := h3; rw [HUk.out] at this; exact this
                have KP : Hid (∀ w', Kb W W1 (B + 1) w' → w'.cell? ⟨B, 3, none⟩ = some (.slice (some ⟨b0, o0, none⟩) 3 rd) ∧ w'.cell? ⟨B + 2, 3, none⟩ = some (.slice (kr 0).b 1 (kr 0).d) ∧ w'.cell? ⟨b0, o0 + 4, none⟩ = some (.int .i64 b.op) ∧ w'.cell? ⟨b0, o0 + 5, none⟩ = some (.int .i64 b.n) ∧ w'.cell? ⟨b0, o0 + 6, none⟩ = some (.slice (kr 1).a b.ty.length (kr 1).c) ∧ w'.cell? ⟨b0, o0 + 7, none⟩ = some (.slice (kr 1).b b.kids.length (kr 1).d)) := fun w' b => ⟨b.cell g3 (by omega), b.cell h3 (by omega), b.cell k10 (by omega), b.cell k11 (by omega), b.cell k12 (by omega), b.cell k13 (by omega)⟩
                have n0 := blk_cell bR1 0
                have p0 := blk_free bR1 0
                have n1 := blk_cell bR1 1
                have p1 := blk_free bR1 1
                have n2 := blk_cell bR1 2
                have p2 := blk_free bR1 2
                have n3 := blk_cell bR1 3
                have p3 := blk_free bR1 3
                have n4 := blk_cell bR1 4
                have p4 := blk_free bR1 4
                simp at n0 n1 n2 n3 n4
                go_upto_region 15 with fail
                go_region_held3 (fun w' => w'.cell? ⟨B, 3, none⟩ = some (.slice (some ⟨b0, o0, none⟩) 3 rd) ∧ w'.cell? ⟨B + 2, 3, none⟩ = some (.slice (kr 0).b 1 (kr 0).d) ∧ w'.cell? ⟨b0, o0 + 4, none⟩ = some (.int .i64 b.op) ∧ w'.cell? ⟨b0, o0 + 5, none⟩ = some (.int .i64 b.n) ∧ w'.cell? ⟨b0, o0 + 6, none⟩ = some (.slice (kr 1).a b.ty.length (kr 1).c) ∧ w'.cell? ⟨b0, o0 + 7, none⟩ = some (.slice (kr 1).b b.kids.length (kr 1).d)) ((refine KP.out _ ?_; (with_reducible (repeat (first | exact Kb.self bel1 | refine Kb.drew ?_ | refine Kb.alloc ?_ _ | refine Kb.set ?_ hR1))))) (fail)
                go_wp2_with fail
                clear n0 p0 n1 p1 n2 p2 n3 p3 n4 p4
                generalize hY5 : World.setCell _ _ _ = Y5
                obtain ⟨belD, hsame, r0, r1, r2, r3, r4⟩ := ret5 (W := W) bel1 hR1 bR1 hY5
                have yE : Ext W := ⟨Y5.drew, below_drew belD⟩
                refine bodyPost_ret (v := .tuple #[.agg #[.int .i64 b.op, .int .i64 b.n, .slice (kr 1).a b.ty.length (kr 1).c, .slice (kr 1).b b.kids.length (kr 1).d, .slice (kr 0).b 1 (kr 0).d], .bool true]) (by simp [results, Tryd.results94, go_sem, r0, r1, r2, r3, r4]) rfl ?_
                exact ⟨b, [u], (kr 1), (kr 0).b, (kr 0).d, true, ⟨Y5.drew, below_drew belD⟩, rfl, rfl, .inl ⟨rfl, (.left t a b c u HO.out HK0.out N0.out HUk.out), (sk1.ext ⟨Y5.drew, below_drew belD⟩).lower (Nat.zero_le _), (by have z := kids_in (hs0.ext ⟨Y5.drew, below_drew belD⟩); rw [HUk.out] at z; exact z)⟩⟩
              · have N0 := Lib.hid n0
                clear n0
                by_cases n1 : a.op = 7
                · have N1 := Lib.hid n1
                  clear n1
                  have q6 : (a.op == 6) = false := by simpa using N0.out
                  have q7 : (a.op == 7) = true := by rw [N1.out]; decide
                  obtain ⟨u, hu⟩ := len1 (l := a.kids) (by rw [sh.kid a (by rw [HK0.out]; simp), N1.out]; decide)
                  have HUk := Lib.hid hu
                  clear hu
                  replace h3 : W1.cell? ⟨B + 2, 3, none⟩ = some (.slice (kr 0).b 1 (kr 0).d) := by have := h3; rw [HUk.out] at this; exact this
                  have KP : Hid (∀ w', Kb W W1 (B + 1) w' → w'.cell? ⟨B, 3, none⟩ = some (.slice (some ⟨b0, o0, none⟩) 3 rd) ∧ w'.cell? ⟨B + 2, 3, none⟩ = some (.slice (kr 0).b 1 (kr 0).d) ∧ w'.cell? ⟨b0, o0 + 8, none⟩ = some (.int .i64 c.op) ∧ w'.cell? ⟨b0, o0 + 9, none⟩ = some (.int .i64 c.n) ∧ w'.cell? ⟨b0, o0 + 10, none⟩ = some (.slice (kr 2).a c.ty.length (kr 2).c) ∧ w'.cell? ⟨b0, o0 + 11, none⟩ = some (.slice (kr 2).b c.kids.length (kr 2).d)) := fun w' b => ⟨b.cell g3 (by omega), b.cell h3 (by omega), b.cell k20 (by omega), b.cell k21 (by omega), b.cell k22 (by omega), b.cell k23 (by omega)⟩
                  have n0 := blk_cell bR1 0
                  have p0 := blk_free bR1 0
                  have n1 := blk_cell bR1 1
                  have p1 := blk_free bR1 1
                  have n2 := blk_cell bR1 2
                  have p2 := blk_free bR1 2
                  have n3 := blk_cell bR1 3
                  have p3 := blk_free bR1 3
                  have n4 := blk_cell bR1 4
                  have p4 := blk_free bR1 4
                  simp at n0 n1 n2 n3 n4
                  go_upto_region 17 with fail
                  go_region_held3 (fun w' => w'.cell? ⟨B, 3, none⟩ = some (.slice (some ⟨b0, o0, none⟩) 3 rd) ∧ w'.cell? ⟨B + 2, 3, none⟩ = some (.slice (kr 0).b 1 (kr 0).d) ∧ w'.cell? ⟨b0, o0 + 8, none⟩ = some (.int .i64 c.op) ∧ w'.cell? ⟨b0, o0 + 9, none⟩ = some (.int .i64 c.n) ∧ w'.cell? ⟨b0, o0 + 10, none⟩ = some (.slice (kr 2).a c.ty.length (kr 2).c) ∧ w'.cell? ⟨b0, o0 + 11, none⟩ = some (.slice (kr 2).b c.kids.length (kr 2).d)) ((refine KP.out _ ?_; (with_reducible (repeat (first | exact Kb.self bel1 | refine Kb.drew ?_ | refine Kb.alloc ?_ _ | refine Kb.set ?_ hR1))))) (fail)
                  go_wp2_with fail
                  clear n0 p0 n1 p1 n2 p2 n3 p3 n4 p4
                  generalize hY5 : World.setCell _ _ _ = Y5
                  obtain ⟨belD, hsame, r0, r1, r2, r3, r4⟩ := ret5 (W := W) bel1 hR1 bR1 hY5
                  have yE : Ext W := ⟨Y5.drew, below_drew belD⟩
                  refine bodyPost_ret (v := .tuple #[.agg #[.int .i64 c.op, .int .i64 c.n, .slice (kr 2).a c.ty.length (kr 2).c, .slice (kr 2).b c.kids.length (kr 2).d, .slice (kr 0).b 1 (kr 0).d], .bool true]) (by simp [results, Tryd.results94, go_sem, r0, r1, r2, r3, r4]) rfl ?_
                  exact ⟨c, [u], (kr 2), (kr 0).b, (kr 0).d, true, ⟨Y5.drew, below_drew belD⟩, rfl, rfl, .inl ⟨rfl, (.right t a b c u HO.out HK0.out N1.out HUk.out), (sk2.ext ⟨Y5.drew, below_drew belD⟩).lower (Nat.zero_le _), (by have z := kids_in (hs0.ext ⟨Y5.drew, below_drew belD⟩); rw [HUk.out] at z; exact z)⟩⟩
                · have N1 := Lib.hid n1
                  clear n1
                  have q6 : (a.op == 6) = false := by simpa using N0.out
                  have q7 : (a.op == 7) = false := by simpa using N1.out
                  have n0 := blk_cell bR1 0
                  have p0 := blk_free bR1 0
                  have n1 := blk_cell bR1 1
                  have p1 := blk_free bR1 1
                  have n2 := blk_cell bR1 2
                  have p2 := blk_free bR1 2
                  have n3 := blk_cell bR1 3
                  have p3 := blk_free bR1 3
                  have n4 := blk_cell bR1 4
                  have p4 := blk_free bR1 4
                  simp at n0 n1 n2 n3 n4
                  go_wp2
                  clear n0 p0 n1 p1 n2 p2 n3 p3 n4 p4
                  generalize hY5 : World.setCell _ _ _ = Y5
                  obtain ⟨belD, hsame, r0, r1, r2, r3, r4⟩ := ret5 (W := W) bel1 (by omega) bR1 hY5
                  refine bodyPost_ret (v := .tuple #[.agg #[.int .i64 0, .int .i64 0, .slice none 0 0, .slice none 0 0, .slice none 0 0], .bool false]) (by simp [results, Tryd.results94, go_sem, r0, r1, r2, r3, r4]) rfl ?_
                  exact ⟨zeroT, [], ⟨none, 0, none, 0⟩, none, 0, false, ⟨Y5, belD⟩, rfl, rfl, .inr ⟨rfl, no_red8 HO.out HK0.out N0.out N1.out⟩⟩
            · have O8 := Lib.hid o8
              clear o8
              by_cases o12 : t.op = 12
              · have O12 := Lib.hid o12
                clear o12
                have HO := O12
                clear O12
                have f2 : (t.op == 2) = false := by rw [HO.out]; decide
                have f3 : (t.op == 3) = false := by rw [HO.out]; decide
                have f5 : (t.op == 5) = false := by rw [HO.out]; decide
                have f8 : (t.op == 8) = false := by rw [HO.out]; decide
                have f10 : (t.op == 10) = false := by rw [HO.out]; decide
                have f12 : (t.op == 12) = true := by rw [HO.out]; decide
                obtain ⟨b, hks⟩ := len1 (l := ks) (by have h1 := sh.many; rw [HO.out, HK0.out] at h1; have h2 : manyO 12 = 2 := (by decide); simp at h1; omega)
                subst hks
                replace g3 : W1.cell? ⟨B, 3, none⟩ = some (.slice (some ⟨b0, o0, none⟩) 2 rd) := by have := g3; rw [HK0.out] at this; exact this
                have HKk := HK0
                have hl : 2 ≤ t.kids.length := by rw [HK0.out]; exact Nat.le_refl _
                have hl' : (2 : Int) ≤ (t.kids.length : Int) := by omega
                obtain ⟨bb, oo, hrb, KK⟩ := A.kid 1 b (by rw [HK0.out]; rfl)
                have sk1 := A.sub 1 b (by rw [HK0.out]; rfl)
                (try dsimp only at hrb)
                obtain ⟨rfl, rfl⟩ : b0 = bb ∧ o0 = oo := by cases hrb; exact ⟨rfl, rfl⟩
                clear hrb
                have k10 : W1.cell? ⟨b0, o0 + 4, none⟩ = some (.int .i64 b.op) := by have := (Ext.mk W1 bel1).cell KK.c0; simpa using this
                have k11 : W1.cell? ⟨b0, o0 + 5, none⟩ = some (.int .i64 b.n) := by have := (Ext.mk W1 bel1).cell KK.c1; simpa using this
                have k12 : W1.cell? ⟨b0, o0 + 6, none⟩ = some (.slice (kr 1).a b.ty.length (kr 1).c) := by have := (Ext.mk W1 bel1).cell KK.c2; simpa using this
                have k13 : W1.cell? ⟨b0, o0 + 7, none⟩ = some (.slice (kr 1).b b.kids.length (kr 1).d) := by have := (Ext.mk W1 bel1).cell KK.c3; simpa using this
                clear KK
                by_cases n0 : a.op = 11
                · have N0 := Lib.hid n0
                  clear n0
                  have q11 : (a.op == 11) = true := by rw [N0.out]; decide
                  obtain ⟨u, hu⟩ := len1 (l := a.kids) (by rw [sh.kid a (by rw [HK0.out]; simp), N0.out]; decide)
                  have HUk := Lib.hid hu
                  clear hu
                  replace h3 : W1.cell? ⟨B + 2, 3, none⟩ = some (.slice (kr 0).b 1 (kr 0).d) := by have := h3; rw [HUk.out] at this; exact this
                  have KP : Hid (∀ w', Kb W W1 (B + 1) w' → w'.cell? ⟨B, 3, none⟩ = some (.slice (some ⟨b0, o0, none⟩) 2 rd) ∧ w'.cell? ⟨B + 2, 3, none⟩ = some (.slice (kr 0).b 1 (kr 0).d) ∧ w'.cell? ⟨b0, o0 + 4, none⟩ = some (.int .i64 b.op) ∧ w'.cell? ⟨b0, o0 + 5, none⟩ = some (.int .i64 b.n) ∧ w'.cell? ⟨b0, o0 + 6, none⟩ = some (.slice (kr 1).a b.ty.length (kr 1).c) ∧ w'.cell? ⟨b0, o0 + 7, none⟩ = some (.slice (kr 1).b b.kids.length (kr 1).d)) := fun w' b => ⟨b.cell g3 (by omega), b.cell h3 (by omega), b.cell k10 (by omega), b.cell k11 (by omega), b.cell k12 (by omega), b.cell k13 (by omega)⟩
                  have n0 := blk_cell bR1 0
                  have p0 := blk_free bR1 0
                  have n1 := blk_cell bR1 1
                  have p1 := blk_free bR1 1
                  have n2 := blk_cell bR1 2
                  have p2 := blk_free bR1 2
                  have n3 := blk_cell bR1 3
                  have p3 := blk_free bR1 3
                  have n4 := blk_cell bR1 4
                  have p4 := blk_free bR1 4
                  simp at n0 n1 n2 n3 n4
                  go_upto_region 19 with fail
                  go_region_held3 (fun w' => w'.cell? ⟨B, 3, none⟩ = some (.slice (some ⟨b0, o0, none⟩) 2 rd) ∧ w'.cell? ⟨B + 2, 3, none⟩ = some (.slice (kr 0).b 1 (kr 0).d) ∧ w'.cell? ⟨b0, o0 + 4, none⟩ = some (.int .i64 b.op) ∧ w'.cell? ⟨b0, o0 + 5, none⟩ = some (.int .i64 b.n) ∧ w'.cell? ⟨b0, o0 + 6, none⟩ = some (.slice (kr 1).a b.ty.length (kr 1).c) ∧ w'.cell? ⟨b0, o0 + 7, none⟩ = some (.slice (kr 1).b b.kids.length (kr 1).d)) ((refine KP.out _ ?_; (with_reducible (repeat (first | exact Kb.self bel1 | refine Kb.drew ?_ | refine Kb.alloc ?_ _ | refine Kb.set ?_ hR1))))) (fail)
                  go_wp2_with fail
                  clear n0 p0 n1 p1 n2 p2 n3 p3 n4 p4
                  generalize hY5 : World.setCell _ _ _ = Y5
                  obtain ⟨belD, hsame, r0, r1, r2, r3, r4⟩ := ret5 (W := W) bel1 hR1 bR1 hY5
                  have yE : Ext W := ⟨Y5.drew, below_drew belD⟩
                  refine bodyPost_ret (v := .tuple #[.agg #[.int .i64 b.op, .int .i64 b.n, .slice (kr 1).a b.ty.length (kr 1).c, .slice (kr 1).b b.kids.length (kr 1).d, .slice (kr 0).b 1 (kr 0).d], .bool true]) (by simp [results, Tryd.results94, go_sem, r0, r1, r2, r3, r4]) rfl ?_
                  exact ⟨b, [u], (kr 1), (kr 0).b, (kr 0).d, true, ⟨Y5.drew, below_drew belD⟩, rfl, rfl, .inl ⟨rfl, (.opn t a b u HO.out HK0.out N0.out HUk.out), (sk1.ext ⟨Y5.drew, below_drew belD⟩).lower (Nat.zero_le _), (by have z := kids_in (hs0.ext ⟨Y5.drew, below_drew belD⟩); rw [HUk.out] at z; exact z)⟩⟩
                · have N0 := Lib.hid n0
                  clear n0
                  have q11 : (a.op == 11) = false := by simpa using N0.out
                  have n0 := blk_cell bR1 0
                  have p0 := blk_free bR1 0
                  have n1 := blk_cell bR1 1
                  have p1 := blk_free bR1 1
                  have n2 := blk_cell bR1 2
                  have p2 := blk_free bR1 2
                  have n3 := blk_cell bR1 3
                  have p3 := blk_free bR1 3
                  have n4 := blk_cell bR1 4
                  have p4 := blk_free bR1 4
                  simp at n0 n1 n2 n3 n4
                  go_wp2
                  clear n0 p0 n1 p1 n2 p2 n3 p3 n4 p4
                  generalize hY5 : World.setCell _ _ _ = Y5
                  obtain ⟨belD, hsame, r0, r1, r2, r3, r4⟩ := ret5 (W := W) bel1 (by omega) bR1 hY5
                  refine bodyPost_ret (v := .tuple #[.agg #[.int .i64 0, .int .i64 0, .slice none 0 0, .slice none 0 0, .slice none 0 0], .bool false]) (by simp [results, Tryd.results94, go_sem, r0, r1, r2, r3, r4]) rfl ?_
                  exact ⟨zeroT, [], ⟨none, 0, none, 0⟩, none, 0, false, ⟨Y5, belD⟩, rfl, rfl, .inr ⟨rfl, no_red12 HO.out HK0.out N0.out⟩⟩
              · have O12 := Lib.hid o12
                clear o12
                have f2 : (t.op == 2) = false := by simpa using O2.out
                have f3 : (t.op == 3) = false := by simpa using O3.out
                have f10 : (t.op == 10) = false := by simpa using O10.out
                have f5 : (t.op == 5) = false := by simpa using O5.out
                have f8 : (t.op == 8) = false := by simpa using O8.out
                have f12 : (t.op == 12) = false := by simpa using O12.out
                have n0 := blk_cell bR1 0
                have p0 := blk_free bR1 0
                have n1 := blk_cell bR1 1
                have p1 := blk_free bR1 1
                have n2 := blk_cell bR1 2
                have p2 := blk_free bR1 2
                have n3 := blk_cell bR1 3
                have p3 := blk_free bR1 3
                have n4 := blk_cell bR1 4
                have p4 := blk_free bR1 4
                simp at n0 n1 n2 n3 n4
                go_wp2
                clear n0 p0 n1 p1 n2 p2 n3 p3 n4 p4
                generalize hY5 : World.setCell _ _ _ = Y5
                obtain ⟨belD, hsame, r0, r1, r2, r3, r4⟩ := ret5 (W := W) bel1 (by omega) bR1 hY5
                refine bodyPost_ret (v := .tuple #[.agg #[.int .i64 0, .int .i64 0, .slice none 0 0, .slice none 0 0, .slice none 0 0], .bool false]) (by simp [results, Tryd.results94, go_sem, r0, r1, r2, r3, r4]) rfl ?_
                exact ⟨zeroT, [], ⟨none, 0, none, 0⟩, none, 0, false, ⟨Y5, belD⟩, rfl, rfl, .inr ⟨rfl, no_red_op O2.out O3.out O5.out O8.out O10.out O12.out⟩⟩
end Go.Proofs.YtncfbljablbglaaDoor
