/- The model's redexes. -/
import Derived.Test.YtncfbljablbglaaDoorZ3GA
import Derived.Test.YtncfbljablbglaaDoorZ3GF
set_option linter.unusedVariables false
set_option linter.unusedSimpArgs false
namespace Go.Proofs.YtncfbljablbglaaDoor
open Go.RowKit

set_option maxRecDepth 100000 in
set_option maxHeartbeats 8000000 in
theorem l4Redex_ans {W : World} {lo : Nat} {t : Tm} {r : TV} (h : TmIn W lo t r) (sh : Shape t) (p : Bool) (HP0 : p = true ↔ Red t) (x : Ext W) :
    Calls Tryd.prog 87 #[r.val t] x.w (Ans W (.bool p)) := by
  have HP := Lib.hid HP0
  clear HP0
  obtain ⟨ra, rc, rb, rd⟩ := r
  unfold TV.val
  by_cases o2 : t.op = 2
  · have O2 := Lib.hid o2
    clear o2
    have HO := O2
    clear O2
    obtain ⟨a, b, hk⟩ := len2 (l := t.kids) (by rw [sh.many, HO.out]; decide)
    have hl : 2 ≤ t.kids.length := by rw [hk]; exact Nat.le_refl _
    have fl : ((t.kids.length : Int) == 0) = false := by rw [hk]; rfl
    have HK := Lib.hid hk
    clear hk
    by_cases n0 : a.op = 1
    · have N0 := Lib.hid n0
      clear n0
      by_cases n1 : b.op = 1
      · have N1 := Lib.hid n1
        clear n1
        skip
        go_enter Tryd.func87, Tryd.ntmps87
        go_wp2_with fail
        generalize hW : x.w.alloc _ = W1
        generalize hB : x.w.heap.size = B
        obtain ⟨c0, c1, c2, c3, h1, hback, yy, hy0⟩ := boxedT h x hB hW
        clear hW hB
        rw [← hy0]
        clear hy0
        obtain ⟨kr, A⟩ := h1.out
        have hlk := A.lk
        obtain ⟨b0, o0, hrb0, K0⟩ := A.kid 0 a (by rw [HK.out]; rfl)
        have hs0 := A.sub 0 a (by rw [HK.out]; rfl)
        dsimp only at hrb0
        obtain ⟨b1, o1, hrb1, K1⟩ := A.kid 1 b (by rw [HK.out]; rfl)
        have hs1 := A.sub 1 b (by rw [HK.out]; rfl)
        dsimp only at hrb1
        subst hrb0
        obtain ⟨rfl, rfl⟩ : b0 = b1 ∧ o0 = o1 := by cases hrb1; exact ⟨rfl, rfl⟩
        clear hrb1
        have k00 : ∀ y : Ext W1, y.w.cell? ⟨b0, o0, none⟩ = some (.int .i64 a.op) := fun y => by have := y.cell K0.c0; simpa using this
        have k01 : ∀ y : Ext W1, y.w.cell? ⟨b0, o0 + 1, none⟩ = some (.int .i64 a.n) := fun y => by have := y.cell K0.c1; simpa using this
        have k02 : ∀ y : Ext W1, y.w.cell? ⟨b0, o0 + 2, none⟩ = some (.slice (kr 0).a a.ty.length (kr 0).c) := fun y => by have := y.cell K0.c2; simpa using this
        have k03 : ∀ y : Ext W1, y.w.cell? ⟨b0, o0 + 3, none⟩ = some (.slice (kr 0).b a.kids.length (kr 0).d) := fun y => by have := y.cell K0.c3; simpa using this
        clear K0
        have k10 : ∀ y : Ext W1, y.w.cell? ⟨b0, o0 + 4, none⟩ = some (.int .i64 b.op) := fun y => by have := y.cell K1.c0; simpa using this
        have k11 : ∀ y : Ext W1, y.w.cell? ⟨b0, o0 + 5, none⟩ = some (.int .i64 b.n) := fun y => by have := y.cell K1.c1; simpa using this
        have k12 : ∀ y : Ext W1, y.w.cell? ⟨b0, o0 + 6, none⟩ = some (.slice (kr 1).a b.ty.length (kr 1).c) := fun y => by have := y.cell K1.c2; simpa using this
        have k13 : ∀ y : Ext W1, y.w.cell? ⟨b0, o0 + 7, none⟩ = some (.slice (kr 1).b b.kids.length (kr 1).d) := fun y => by have := y.cell K1.c3; simpa using this
        clear K1
        have f2 : (t.op == 2) = true := by rw [HO.out]; decide
        have f3 : (t.op == 3) = false := by rw [HO.out]; decide
        have f5 : (t.op == 5) = false := by rw [HO.out]; decide
        have f8 : (t.op == 8) = false := by rw [HO.out]; decide
        have f10 : (t.op == 10) = false := by rw [HO.out]; decide
        have f12 : (t.op == 12) = false := by rw [HO.out]; decide
        have p0 : (a.op == 1) = true := by simpa using N0.out
        have p1 : (b.op == 1) = true := by simpa using N1.out
        go_wp2
        go_ret
        exact fin_true HP (Cof.red (.add t a b HO.out HK.out N0.out N1.out)) (hback yy)
      · have N1 := Lib.hid n1
        clear n1
        have g10 : (b.op == 1) = false := by simpa using N1.out
        go_enter Tryd.func87, Tryd.ntmps87
        go_wp2_with fail
        generalize hW : x.w.alloc _ = W1
        generalize hB : x.w.heap.size = B
        obtain ⟨c0, c1, c2, c3, h1, hback, yy, hy0⟩ := boxedT h x hB hW
        clear hW hB
        rw [← hy0]
        clear hy0
        obtain ⟨kr, A⟩ := h1.out
        have hlk := A.lk
        obtain ⟨b0, o0, hrb0, K0⟩ := A.kid 0 a (by rw [HK.out]; rfl)
        have hs0 := A.sub 0 a (by rw [HK.out]; rfl)
        dsimp only at hrb0
        obtain ⟨b1, o1, hrb1, K1⟩ := A.kid 1 b (by rw [HK.out]; rfl)
        have hs1 := A.sub 1 b (by rw [HK.out]; rfl)
        dsimp only at hrb1
        subst hrb0
        obtain ⟨rfl, rfl⟩ : b0 = b1 ∧ o0 = o1 := by cases hrb1; exact ⟨rfl, rfl⟩
        clear hrb1
        have k00 : ∀ y : Ext W1, y.w.cell? ⟨b0, o0, none⟩ = some (.int .i64 a.op) := fun y => by have := y.cell K0.c0; simpa using this
        have k01 : ∀ y : Ext W1, y.w.cell? ⟨b0, o0 + 1, none⟩ = some (.int .i64 a.n) := fun y => by have := y.cell K0.c1; simpa using this
        have k02 : ∀ y : Ext W1, y.w.cell? ⟨b0, o0 + 2, none⟩ = some (.slice (kr 0).a a.ty.length (kr 0).c) := fun y => by have := y.cell K0.c2; simpa using this
        have k03 : ∀ y : Ext W1, y.w.cell? ⟨b0, o0 + 3, none⟩ = some (.slice (kr 0).b a.kids.length (kr 0).d) := fun y => by have := y.cell K0.c3; simpa using this
        clear K0
        have k10 : ∀ y : Ext W1, y.w.cell? ⟨b0, o0 + 4, none⟩ = some (.int .i64 b.op) := fun y => by have := y.cell K1.c0; simpa using this
        have k11 : ∀ y : Ext W1, y.w.cell? ⟨b0, o0 + 5, none⟩ = some (.int .i64 b.n) := fun y => by have := y.cell K1.c1; simpa using this
        have k12 : ∀ y : Ext W1, y.w.cell? ⟨b0, o0 + 6, none⟩ = some (.slice (kr 1).a b.ty.length (kr 1).c) := fun y => by have := y.cell K1.c2; simpa using this
        have k13 : ∀ y : Ext W1, y.w.cell? ⟨b0, o0 + 7, none⟩ = some (.slice (kr 1).b b.kids.length (kr 1).d) := fun y => by have := y.cell K1.c3; simpa using this
        clear K1
        have f2 : (t.op == 2) = true := by rw [HO.out]; decide
        have f3 : (t.op == 3) = false := by rw [HO.out]; decide
        have f5 : (t.op == 5) = false := by rw [HO.out]; decide
        have f8 : (t.op == 8) = false := by rw [HO.out]; decide
        have f10 : (t.op == 10) = false := by rw [HO.out]; decide
        have f12 : (t.op == 12) = false := by rw [HO.out]; decide
        have p0 : (a.op == 1) = true := by simpa using N0.out
        go_wp2
        go_ret
        exact fin_false HP (no_red2 HO.out HK.out (fun q => N1.out q.2)) (hback yy)
    · have N0 := Lib.hid n0
      clear n0
      have g00 : (a.op == 1) = false := by simpa using N0.out
      go_enter Tryd.func87, Tryd.ntmps87
      go_wp2_with fail
      generalize hW : x.w.alloc _ = W1
      generalize hB : x.w.heap.size = B
      obtain ⟨c0, c1, c2, c3, h1, hback, yy, hy0⟩ := boxedT h x hB hW
      clear hW hB
      rw [← hy0]
      clear hy0
      obtain ⟨kr, A⟩ := h1.out
      have hlk := A.lk
      obtain ⟨b0, o0, hrb0, K0⟩ := A.kid 0 a (by rw [HK.out]; rfl)
      have hs0 := A.sub 0 a (by rw [HK.out]; rfl)
      dsimp only at hrb0
      obtain ⟨b1, o1, hrb1, K1⟩ := A.kid 1 b (by rw [HK.out]; rfl)
      have hs1 := A.sub 1 b (by rw [HK.out]; rfl)
      dsimp only at hrb1
      subst hrb0
      obtain ⟨rfl, rfl⟩ : b0 = b1 ∧ o0 = o1 := by cases hrb1; exact ⟨rfl, rfl⟩
      clear hrb1
      have k00 : ∀ y : Ext W1, y.w.cell? ⟨b0, o0, none⟩ = some (.int .i64 a.op) := fun y => by have := y.cell K0.c0; simpa using this
      have k01 : ∀ y : Ext W1, y.w.cell? ⟨b0, o0 + 1, none⟩ = some (.int .i64 a.n) := fun y => by have := y.cell K0.c1; simpa using this
      have k02 : ∀ y : Ext W1, y.w.cell? ⟨b0, o0 + 2, none⟩ = some (.slice (kr 0).a a.ty.length (kr 0).c) := fun y => by have := y.cell K0.c2; simpa using this
      have k03 : ∀ y : Ext W1, y.w.cell? ⟨b0, o0 + 3, none⟩ = some (.slice (kr 0).b a.kids.length (kr 0).d) := fun y => by have := y.cell K0.c3; simpa using this
      clear K0
      have k10 : ∀ y : Ext W1, y.w.cell? ⟨b0, o0 + 4, none⟩ = some (.int .i64 b.op) := fun y => by have := y.cell K1.c0; simpa using this
      have k11 : ∀ y : Ext W1, y.w.cell? ⟨b0, o0 + 5, none⟩ = some (.int .i64 b.n) := fun y => by have := y.cell K1.c1; simpa using this
      have k12 : ∀ y : Ext W1, y.w.cell? ⟨b0, o0 + 6, none⟩ = some (.slice (kr 1).a b.ty.length (kr 1).c) := fun y => by have := y.cell K1.c2; simpa using this
      have k13 : ∀ y : Ext W1, y.w.cell? ⟨b0, o0 + 7, none⟩ = some (.slice (kr 1).b b.kids.length (kr 1).d) := fun y => by have := y.cell K1.c3; simpa using this
      clear K1
      have f2 : (t.op == 2) = true := by rw [HO.out]; decide
      have f3 : (t.op == 3) = false := by rw [HO.out]; decide
      have f5 : (t.op == 5) = false := by rw [HO.out]; decide
      have f8 : (t.op == 8) = false := by rw [HO.out]; decide
      have f10 : (t.op == 10) = false := by rw [HO.out]; decide
      have f12 : (t.op == 12) = false := by rw [HO.out]; decide
      go_wp2
      go_ret
      exact fin_false HP (no_red2 HO.out HK.out (fun q => N0.out q.1)) (hback yy)
  · have O2 := Lib.hid o2
    clear o2
    by_cases o3 : t.op = 3
    · have O3 := Lib.hid o3
      clear o3
      have HO := O3
      clear O3
      obtain ⟨a, b, c, hk⟩ := len3 (l := t.kids) (by rw [sh.many, HO.out]; decide)
      have hl : 3 ≤ t.kids.length := by rw [hk]; exact Nat.le_refl _
      have fl : ((t.kids.length : Int) == 0) = false := by rw [hk]; rfl
      have HK := Lib.hid hk
      clear hk
      by_cases n0 : a.op = 1
      · have N0 := Lib.hid n0
        clear n0
        skip
        go_enter Tryd.func87, Tryd.ntmps87
        go_wp2_with fail
        generalize hW : x.w.alloc _ = W1
        generalize hB : x.w.heap.size = B
        obtain ⟨c0, c1, c2, c3, h1, hback, yy, hy0⟩ := boxedT h x hB hW
        clear hW hB
        rw [← hy0]
        clear hy0
        obtain ⟨kr, A⟩ := h1.out
        have hlk := A.lk
        obtain ⟨b0, o0, hrb0, K0⟩ := A.kid 0 a (by rw [HK.out]; rfl)
        have hs0 := A.sub 0 a (by rw [HK.out]; rfl)
        dsimp only at hrb0
        obtain ⟨b1, o1, hrb1, K1⟩ := A.kid 1 b (by rw [HK.out]; rfl)
        have hs1 := A.sub 1 b (by rw [HK.out]; rfl)
        dsimp only at hrb1
        obtain ⟨b2, o2, hrb2, K2⟩ := A.kid 2 c (by rw [HK.out]; rfl)
        have hs2 := A.sub 2 c (by rw [HK.out]; rfl)
        dsimp only at hrb2
        subst hrb0
        obtain ⟨rfl, rfl⟩ : b0 = b1 ∧ o0 = o1 := by cases hrb1; exact ⟨rfl, rfl⟩
        clear hrb1
        obtain ⟨rfl, rfl⟩ : b0 = b2 ∧ o0 = o2 := by cases hrb2; exact ⟨rfl, rfl⟩
        clear hrb2
        have k00 : ∀ y : Ext W1, y.w.cell? ⟨b0, o0, none⟩ = some (.int .i64 a.op) := fun y => by have := y.cell K0.c0; simpa using this
        have k01 : ∀ y : Ext W1, y.w.cell? ⟨b0, o0 + 1, none⟩ = some (.int .i64 a.n) := fun y => by have := y.cell K0.c1; simpa using this
        have k02 : ∀ y : Ext W1, y.w.cell? ⟨b0, o0 + 2, none⟩ = some (.slice (kr 0).a a.ty.length (kr 0).c) := fun y => by have := y.cell K0.c2; simpa using this
        have k03 : ∀ y : Ext W1, y.w.cell? ⟨b0, o0 + 3, none⟩ = some (.slice (kr 0).b a.kids.length (kr 0).d) := fun y => by have := y.cell K0.c3; simpa using this
        clear K0
        have k10 : ∀ y : Ext W1, y.w.cell? ⟨b0, o0 + 4, none⟩ = some (.int .i64 b.op) := fun y => by have := y.cell K1.c0; simpa using this
        have k11 : ∀ y : Ext W1, y.w.cell? ⟨b0, o0 + 5, none⟩ = some (.int .i64 b.n) := fun y => by have := y.cell K1.c1; simpa using this
        have k12 : ∀ y : Ext W1, y.w.cell? ⟨b0, o0 + 6, none⟩ = some (.slice (kr 1).a b.ty.length (kr 1).c) := fun y => by have := y.cell K1.c2; simpa using this
        have k13 : ∀ y : Ext W1, y.w.cell? ⟨b0, o0 + 7, none⟩ = some (.slice (kr 1).b b.kids.length (kr 1).d) := fun y => by have := y.cell K1.c3; simpa using this
        clear K1
        have k20 : ∀ y : Ext W1, y.w.cell? ⟨b0, o0 + 8, none⟩ = some (.int .i64 c.op) := fun y => by have := y.cell K2.c0; simpa using this
        have k21 : ∀ y : Ext W1, y.w.cell? ⟨b0, o0 + 9, none⟩ = some (.int .i64 c.n) := fun y => by have := y.cell K2.c1; simpa using this
        have k22 : ∀ y : Ext W1, y.w.cell? ⟨b0, o0 + 10, none⟩ = some (.slice (kr 2).a c.ty.length (kr 2).c) := fun y => by have := y.cell K2.c2; simpa using this
        have k23 : ∀ y : Ext W1, y.w.cell? ⟨b0, o0 + 11, none⟩ = some (.slice (kr 2).b c.kids.length (kr 2).d) := fun y => by have := y.cell K2.c3; simpa using this
        clear K2
        have f2 : (t.op == 2) = false := by rw [HO.out]; decide
        have f3 : (t.op == 3) = true := by rw [HO.out]; decide
        have f5 : (t.op == 5) = false := by rw [HO.out]; decide
        have f8 : (t.op == 8) = false := by rw [HO.out]; decide
        have f10 : (t.op == 10) = false := by rw [HO.out]; decide
        have f12 : (t.op == 12) = false := by rw [HO.out]; decide
        have p0 : (a.op == 1) = true := by simpa using N0.out
        go_wp2
        go_ret
        refine fin_true HP ?_ (hback yy)
        by_cases z : a.n = 0
        · exact Cof.red (.if0 t a b c HO.out HK.out N0.out z)
        · exact Cof.red (.if1 t a b c HO.out HK.out N0.out z)
      · have N0 := Lib.hid n0
        clear n0
        have g00 : (a.op == 1) = false := by simpa using N0.out
        go_enter Tryd.func87, Tryd.ntmps87
        go_wp2_with fail
        generalize hW : x.w.alloc _ = W1
        generalize hB : x.w.heap.size = B
        obtain ⟨c0, c1, c2, c3, h1, hback, yy, hy0⟩ := boxedT h x hB hW
        clear hW hB
        rw [← hy0]
        clear hy0
        obtain ⟨kr, A⟩ := h1.out
        have hlk := A.lk
        obtain ⟨b0, o0, hrb0, K0⟩ := A.kid 0 a (by rw [HK.out]; rfl)
        have hs0 := A.sub 0 a (by rw [HK.out]; rfl)
        dsimp only at hrb0
        obtain ⟨b1, o1, hrb1, K1⟩ := A.kid 1 b (by rw [HK.out]; rfl)
        have hs1 := A.sub 1 b (by rw [HK.out]; rfl)
        dsimp only at hrb1
        obtain ⟨b2, o2, hrb2, K2⟩ := A.kid 2 c (by rw [HK.out]; rfl)
        have hs2 := A.sub 2 c (by rw [HK.out]; rfl)
        dsimp only at hrb2
        subst hrb0
        obtain ⟨rfl, rfl⟩ : b0 = b1 ∧ o0 = o1 := by cases hrb1; exact ⟨rfl, rfl⟩
        clear hrb1
        obtain ⟨rfl, rfl⟩ : b0 = b2 ∧ o0 = o2 := by cases hrb2; exact ⟨rfl, rfl⟩
        clear hrb2
        have k00 : ∀ y : Ext W1, y.w.cell? ⟨b0, o0, none⟩ = some (.int .i64 a.op) := fun y => by have := y.cell K0.c0; simpa using this
        have k01 : ∀ y : Ext W1, y.w.cell? ⟨b0, o0 + 1, none⟩ = some (.int .i64 a.n) := fun y => by have := y.cell K0.c1; simpa using this
        have k02 : ∀ y : Ext W1, y.w.cell? ⟨b0, o0 + 2, none⟩ = some (.slice (kr 0).a a.ty.length (kr 0).c) := fun y => by have := y.cell K0.c2; simpa using this
        have k03 : ∀ y : Ext W1, y.w.cell? ⟨b0, o0 + 3, none⟩ = some (.slice (kr 0).b a.kids.length (kr 0).d) := fun y => by have := y.cell K0.c3; simpa using this
        clear K0
        have k10 : ∀ y : Ext W1, y.w.cell? ⟨b0, o0 + 4, none⟩ = some (.int .i64 b.op) := fun y => by have := y.cell K1.c0; simpa using this
        have k11 : ∀ y : Ext W1, y.w.cell? ⟨b0, o0 + 5, none⟩ = some (.int .i64 b.n) := fun y => by have := y.cell K1.c1; simpa using this
        have k12 : ∀ y : Ext W1, y.w.cell? ⟨b0, o0 + 6, none⟩ = some (.slice (kr 1).a b.ty.length (kr 1).c) := fun y => by have := y.cell K1.c2; simpa using this
        have k13 : ∀ y : Ext W1, y.w.cell? ⟨b0, o0 + 7, none⟩ = some (.slice (kr 1).b b.kids.length (kr 1).d) := fun y => by have := y.cell K1.c3; simpa using this
        clear K1
        have k20 : ∀ y : Ext W1, y.w.cell? ⟨b0, o0 + 8, none⟩ = some (.int .i64 c.op) := fun y => by have := y.cell K2.c0; simpa using this
        have k21 : ∀ y : Ext W1, y.w.cell? ⟨b0, o0 + 9, none⟩ = some (.int .i64 c.n) := fun y => by have := y.cell K2.c1; simpa using this
        have k22 : ∀ y : Ext W1, y.w.cell? ⟨b0, o0 + 10, none⟩ = some (.slice (kr 2).a c.ty.length (kr 2).c) := fun y => by have := y.cell K2.c2; simpa using this
        have k23 : ∀ y : Ext W1, y.w.cell? ⟨b0, o0 + 11, none⟩ = some (.slice (kr 2).b c.kids.length (kr 2).d) := fun y => by have := y.cell K2.c3; simpa using this
        clear K2
        have f2 : (t.op == 2) = false := by rw [HO.out]; decide
        have f3 : (t.op == 3) = true := by rw [HO.out]; decide
        have f5 : (t.op == 5) = false := by rw [HO.out]; decide
        have f8 : (t.op == 8) = false := by rw [HO.out]; decide
        have f10 : (t.op == 10) = false := by rw [HO.out]; decide
        have f12 : (t.op == 12) = false := by rw [HO.out]; decide
        go_wp2
        go_ret
        exact fin_false HP (no_red3 HO.out HK.out N0.out) (hback yy)
    · have O3 := Lib.hid o3
      clear o3
      by_cases o10 : t.op = 10
      · have O10 := Lib.hid o10
        clear o10
        have HO := O10
        clear O10
        obtain ⟨a, b, hk⟩ := len2 (l := t.kids) (by rw [sh.many, HO.out]; decide)
        have hl : 2 ≤ t.kids.length := by rw [hk]; exact Nat.le_refl _
        have fl : ((t.kids.length : Int) == 0) = false := by rw [hk]; rfl
        have HK := Lib.hid hk
        clear hk
        by_cases n0 : a.op = 9
        · have N0 := Lib.hid n0
          clear n0
          skip
          go_enter Tryd.func87, Tryd.ntmps87
          go_wp2_with fail
          generalize hW : x.w.alloc _ = W1
          generalize hB : x.w.heap.size = B
          obtain ⟨c0, c1, c2, c3, h1, hback, yy, hy0⟩ := boxedT h x hB hW
          clear hW hB
          rw [← hy0]
          clear hy0
          obtain ⟨kr, A⟩ := h1.out
          have hlk := A.lk
          obtain ⟨b0, o0, hrb0, K0⟩ := A.kid 0 a (by rw [HK.out]; rfl)
          have hs0 := A.sub 0 a (by rw [HK.out]; rfl)
          dsimp only at hrb0
          obtain ⟨b1, o1, hrb1, K1⟩ := A.kid 1 b (by rw [HK.out]; rfl)
          have hs1 := A.sub 1 b (by rw [HK.out]; rfl)
          dsimp only at hrb1
          subst hrb0
          obtain ⟨rfl, rfl⟩ : b0 = b1 ∧ o0 = o1 := by cases hrb1; exact ⟨rfl, rfl⟩
          clear hrb1
          have k00 : ∀ y : Ext W1, y.w.cell? ⟨b0, o0, none⟩ = some (.int .i64 a.op) := fun y => by have := y.cell K0.c0; simpa using this
          have k01 : ∀ y : Ext W1, y.w.cell? ⟨b0, o0 + 1, none⟩ = some (.int .i64 a.n) := fun y => by have := y.cell K0.c1; simpa using this
          have k02 : ∀ y : Ext W1, y.w.cell? ⟨b0, o0 + 2, none⟩ = some (.slice (kr 0).a a.ty.length (kr 0).c) := fun y => by have := y.cell K0.c2; simpa using this
          have k03 : ∀ y : Ext W1, y.w.cell? ⟨b0, o0 + 3, none⟩ = some (.slice (kr 0).b a.kids.length (kr 0).d) := fun y => by have := y.cell K0.c3; simpa using this
          clear K0
          have k10 : ∀ y : Ext W1, y.w.cell? ⟨b0, o0 + 4, none⟩ = some (.int .i64 b.op) := fun y => by have := y.cell K1.c0; simpa using this
          have k11 : ∀ y : Ext W1, y.w.cell? ⟨b0, o0 + 5, none⟩ = some (.int .i64 b.n) := fun y => by have := y.cell K1.c1; simpa using this
          have k12 : ∀ y : Ext W1, y.w.cell? ⟨b0, o0 + 6, none⟩ = some (.slice (kr 1).a b.ty.length (kr 1).c) := fun y => by have := y.cell K1.c2; simpa using this
          have k13 : ∀ y : Ext W1, y.w.cell? ⟨b0, o0 + 7, none⟩ = some (.slice (kr 1).b b.kids.length (kr 1).d) := fun y => by have := y.cell K1.c3; simpa using this
          clear K1
          have f2 : (t.op == 2) = false := by rw [HO.out]; decide
          have f3 : (t.op == 3) = false := by rw [HO.out]; decide
          have f5 : (t.op == 5) = false := by rw [HO.out]; decide
          have f8 : (t.op == 8) = false := by rw [HO.out]; decide
          have f10 : (t.op == 10) = true := by rw [HO.out]; decide
          have f12 : (t.op == 12) = false := by rw [HO.out]; decide
          have p0 : (a.op == 9) = true := by simpa using N0.out
          go_wp2
          go_ret
          obtain ⟨u, hu⟩ := len1 (l := a.kids) (by rw [sh.kid a (by rw [HK.out]; simp), N0.out]; decide)
          exact fin_true HP (Cof.red (.app t a b u HO.out HK.out N0.out hu)) (hback yy)
        · have N0 := Lib.hid n0
          clear n0
          have g00 : (a.op == 9) = false := by simpa using N0.out
          go_enter Tryd.func87, Tryd.ntmps87
          go_wp2_with fail
          generalize hW : x.w.alloc _ = W1
          generalize hB : x.w.heap.size = B
          obtain ⟨c0, c1, c2, c3, h1, hback, yy, hy0⟩ := boxedT h x hB hW
          clear hW hB
          rw [← hy0]
          clear hy0
          obtain ⟨kr, A⟩ := h1.out
          have hlk := A.lk
          obtain ⟨b0, o0, hrb0, K0⟩ := A.kid 0 a (by rw [HK.out]; rfl)
          have hs0 := A.sub 0 a (by rw [HK.out]; rfl)
          dsimp only at hrb0
          obtain ⟨b1, o1, hrb1, K1⟩ := A.kid 1 b (by rw [HK.out]; rfl)
          have hs1 := A.sub 1 b (by rw [HK.out]; rfl)
          dsimp only at hrb1
          subst hrb0
          obtain ⟨rfl, rfl⟩ : b0 = b1 ∧ o0 = o1 := by cases hrb1; exact ⟨rfl, rfl⟩
          clear hrb1
          have k00 : ∀ y : Ext W1, y.w.cell? ⟨b0, o0, none⟩ = some (.int .i64 a.op) := fun y => by have := y.cell K0.c0; simpa using this
          have k01 : ∀ y : Ext W1, y.w.cell? ⟨b0, o0 + 1, none⟩ = some (.int .i64 a.n) := fun y => by have := y.cell K0.c1; simpa using this
          have k02 : ∀ y : Ext W1, y.w.cell? ⟨b0, o0 + 2, none⟩ = some (.slice (kr 0).a a.ty.length (kr 0).c) := fun y => by have := y.cell K0.c2; simpa using this
          have k03 : ∀ y : Ext W1, y.w.cell? ⟨b0, o0 + 3, none⟩ = some (.slice (kr 0).b a.kids.length (kr 0).d) := fun y => by have := y.cell K0.c3; simpa using this
          clear K0
          have k10 : ∀ y : Ext W1, y.w.cell? ⟨b0, o0 + 4, none⟩ = some (.int .i64 b.op) := fun y => by have := y.cell K1.c0; simpa using this
          have k11 : ∀ y : Ext W1, y.w.cell? ⟨b0, o0 + 5, none⟩ = some (.int .i64 b.n) := fun y => by have := y.cell K1.c1; simpa using this
          have k12 : ∀ y : Ext W1, y.w.cell? ⟨b0, o0 + 6, none⟩ = some (.slice (kr 1).a b.ty.length (kr 1).c) := fun y => by have := y.cell K1.c2; simpa using this
          have k13 : ∀ y : Ext W1, y.w.cell? ⟨b0, o0 + 7, none⟩ = some (.slice (kr 1).b b.kids.length (kr 1).d) := fun y => by have := y.cell K1.c3; simpa using this
          clear K1
          have f2 : (t.op == 2) = false := by rw [HO.out]; decide
          have f3 : (t.op == 3) = false := by rw [HO.out]; decide
          have f5 : (t.op == 5) = false := by rw [HO.out]; decide
          have f8 : (t.op == 8) = false := by rw [HO.out]; decide
          have f10 : (t.op == 10) = true := by rw [HO.out]; decide
          have f12 : (t.op == 12) = false := by rw [HO.out]; decide
          go_wp2
          go_ret
          exact fin_false HP (no_red10 HO.out HK.out N0.out) (hback yy)
      · have O10 := Lib.hid o10
        clear o10
        by_cases o5 : t.op = 5
        · have O5 := Lib.hid o5
          clear o5
          have HO := O5
          clear O5
          obtain ⟨a, b, hk⟩ := len2 (l := t.kids) (by rw [sh.many, HO.out]; decide)
          have hl : 2 ≤ t.kids.length := by rw [hk]; exact Nat.le_refl _
          have fl : ((t.kids.length : Int) == 0) = false := by rw [hk]; rfl
          have HK := Lib.hid hk
          clear hk
          by_cases n0 : a.op = 4
          · have N0 := Lib.hid n0
            clear n0
            skip
            go_enter Tryd.func87, Tryd.ntmps87
            go_wp2_with fail
            generalize hW : x.w.alloc _ = W1
            generalize hB : x.w.heap.size = B
            obtain ⟨c0, c1, c2, c3, h1, hback, yy, hy0⟩ := boxedT h x hB hW
            clear hW hB
            rw [← hy0]
            clear hy0
            obtain ⟨kr, A⟩ := h1.out
            have hlk := A.lk
            obtain ⟨b0, o0, hrb0, K0⟩ := A.kid 0 a (by rw [HK.out]; rfl)
            have hs0 := A.sub 0 a (by rw [HK.out]; rfl)
            dsimp only at hrb0
            obtain ⟨b1, o1, hrb1, K1⟩ := A.kid 1 b (by rw [HK.out]; rfl)
            have hs1 := A.sub 1 b (by rw [HK.out]; rfl)
            dsimp only at hrb1
            subst hrb0
            obtain ⟨rfl, rfl⟩ : b0 = b1 ∧ o0 = o1 := by cases hrb1; exact ⟨rfl, rfl⟩
            clear hrb1
            have k00 : ∀ y : Ext W1, y.w.cell? ⟨b0, o0, none⟩ = some (.int .i64 a.op) := fun y => by have := y.cell K0.c0; simpa using this
            have k01 : ∀ y : Ext W1, y.w.cell? ⟨b0, o0 + 1, none⟩ = some (.int .i64 a.n) := fun y => by have := y.cell K0.c1; simpa using this
            have k02 : ∀ y : Ext W1, y.w.cell? ⟨b0, o0 + 2, none⟩ = some (.slice (kr 0).a a.ty.length (kr 0).c) := fun y => by have := y.cell K0.c2; simpa using this
            have k03 : ∀ y : Ext W1, y.w.cell? ⟨b0, o0 + 3, none⟩ = some (.slice (kr 0).b a.kids.length (kr 0).d) := fun y => by have := y.cell K0.c3; simpa using this
            clear K0
            have k10 : ∀ y : Ext W1, y.w.cell? ⟨b0, o0 + 4, none⟩ = some (.int .i64 b.op) := fun y => by have := y.cell K1.c0; simpa using this
            have k11 : ∀ y : Ext W1, y.w.cell? ⟨b0, o0 + 5, none⟩ = some (.int .i64 b.n) := fun y => by have := y.cell K1.c1; simpa using this
            have k12 : ∀ y : Ext W1, y.w.cell? ⟨b0, o0 + 6, none⟩ = some (.slice (kr 1).a b.ty.length (kr 1).c) := fun y => by have := y.cell K1.c2; simpa using this
            have k13 : ∀ y : Ext W1, y.w.cell? ⟨b0, o0 + 7, none⟩ = some (.slice (kr 1).b b.kids.length (kr 1).d) := fun y => by have := y.cell K1.c3; simpa using this
            clear K1
            have f2 : (t.op == 2) = false := by rw [HO.out]; decide
            have f3 : (t.op == 3) = false := by rw [HO.out]; decide
            have f5 : (t.op == 5) = true := by rw [HO.out]; decide
            have f8 : (t.op == 8) = false := by rw [HO.out]; decide
            have f10 : (t.op == 10) = false := by rw [HO.out]; decide
            have f12 : (t.op == 12) = false := by rw [HO.out]; decide
            have p0 : (a.op == 4) = true := by simpa using N0.out
            go_wp2
            go_ret
            obtain ⟨u, v, hu⟩ := len2 (l := a.kids) (by rw [sh.kid a (by rw [HK.out]; simp), N0.out]; decide)
            exact fin_true HP (Cof.red (.split t a b u v HO.out HK.out N0.out hu)) (hback yy)
          · have N0 := Lib.hid n0
            clear n0
            have g00 : (a.op == 4) = false := by simpa using N0.out
            go_enter Tryd.func87, Tryd.ntmps87
            go_wp2_with fail
            generalize hW : x.w.alloc _ = W1
            generalize hB : x.w.heap.size = B
            obtain ⟨c0, c1, c2, c3, h1, hback, yy, hy0⟩ := boxedT h x hB hW
            clear hW hB
            rw [← hy0]
            clear hy0
            obtain ⟨kr, A⟩ := h1.out
            have hlk := A.lk
            obtain ⟨b0, o0, hrb0, K0⟩ := A.kid 0 a (by rw [HK.out]; rfl)
            have hs0 := A.sub 0 a (by rw [HK.out]; rfl)
            dsimp only at hrb0
            obtain ⟨b1, o1, hrb1, K1⟩ := A.kid 1 b (by rw [HK.out]; rfl)
            have hs1 := A.sub 1 b (by rw [HK.out]; rfl)
            dsimp only at hrb1
            subst hrb0
            obtain ⟨rfl, rfl⟩ : b0 = b1 ∧ o0 = o1 := by cases hrb1; exact ⟨rfl, rfl⟩
            clear hrb1
            have k00 : ∀ y : Ext W1, y.w.cell? ⟨b0, o0, none⟩ = some (.int .i64 a.op) := fun y => by have := y.cell K0.c0; simpa using this
            have k01 : ∀ y : Ext W1, y.w.cell? ⟨b0, o0 + 1, none⟩ = some (.int .i64 a.n) := fun y => by have := y.cell K0.c1; simpa using this
            have k02 : ∀ y : Ext W1, y.w.cell? ⟨b0, o0 + 2, none⟩ = some (.slice (kr 0).a a.ty.length (kr 0).c) := fun y => by have := y.cell K0.c2; simpa using this
            have k03 : ∀ y : Ext W1, y.w.cell? ⟨b0, o0 + 3, none⟩ = some (.slice (kr 0).b a.kids.length (kr 0).d) := fun y => by have := y.cell K0.c3; simpa using this
            clear K0
            have k10 : ∀ y : Ext W1, y.w.cell? ⟨b0, o0 + 4, none⟩ = some (.int .i64 b.op) := fun y => by have := y.cell K1.c0; simpa using this
            have k11 : ∀ y : Ext W1, y.w.cell? ⟨b0, o0 + 5, none⟩ = some (.int .i64 b.n) := fun y => by have := y.cell K1.c1; simpa using this
            have k12 : ∀ y : Ext W1, y.w.cell? ⟨b0, o0 + 6, none⟩ = some (.slice (kr 1).a b.ty.length (kr 1).c) := fun y => by have := y.cell K1.c2; simpa using this
            have k13 : ∀ y : Ext W1, y.w.cell? ⟨b0, o0 + 7, none⟩ = some (.slice (kr 1).b b.kids.length (kr 1).d) := fun y => by have := y.cell K1.c3; simpa using this
            clear K1
            have f2 : (t.op == 2) = false := by rw [HO.out]; decide
            have f3 : (t.op == 3) = false := by rw [HO.out]; decide
            have f5 : (t.op == 5) = true := by rw [HO.out]; decide
            have f8 : (t.op == 8) = false := by rw [HO.out]; decide
            have f10 : (t.op == 10) = false := by rw [HO.out]; decide
            have f12 : (t.op == 12) = false := by rw [HO.out]; decide
            go_wp2
            go_ret
            exact fin_false HP (no_red5 HO.out HK.out N0.out) (hback yy)
        · have O5 := Lib.hid o5
          clear o5
          by_cases o8 : t.op = 8
          · have O8 := Lib.hid o8
            clear o8
            have HO := O8
            clear O8
            obtain ⟨a, b, c, hk⟩ := len3 (l := t.kids) (by rw [sh.many, HO.out]; decide)
            have hl : 3 ≤ t.kids.length := by rw [hk]; exact Nat.le_refl _
            have fl : ((t.kids.length : Int) == 0) = false := by rw [hk]; rfl
            have HK := Lib.hid hk
            clear hk
            by_cases n0 : a.op = 6
            · have N0 := Lib.hid n0
              clear n0
              skip
              go_enter Tryd.func87, Tryd.ntmps87
              go_wp2_with fail
              generalize hW : x.w.alloc _ = W1
              generalize hB : x.w.heap.size = B
              obtain ⟨c0, c1, c2, c3, h1, hback, yy, hy0⟩ := boxedT h x hB hW
              clear hW hB
              rw [← hy0]
              clear hy0
              obtain ⟨kr, A⟩ := h1.out
              have hlk := A.lk
              obtain ⟨b0, o0, hrb0, K0⟩ := A.kid 0 a (by rw [HK.out]; rfl)
              have hs0 := A.sub 0 a (by rw [HK.out]; rfl)
              dsimp only at hrb0
              obtain ⟨b1, o1, hrb1, K1⟩ := A.kid 1 b (by rw [HK.out]; rfl)
              have hs1 := A.sub 1 b (by rw [HK.out]; rfl)
              dsimp only at hrb1
              obtain ⟨b2, o2, hrb2, K2⟩ := A.kid 2 c (by rw [HK.out]; rfl)
              have hs2 := A.sub 2 c (by rw [HK.out]; rfl)
              dsimp only at hrb2
              subst hrb0
              obtain ⟨rfl, rfl⟩ : b0 = b1 ∧ o0 = o1 := by cases hrb1; exact ⟨rfl, rfl⟩
              clear hrb1
              obtain ⟨rfl, rfl⟩ : b0 = b2 ∧ o0 = o2 := by cases hrb2; exact ⟨rfl, rfl⟩
              clear hrb2
              have k00 : ∀ y : Ext W1, y.w.cell? ⟨b0, o0, none⟩ = some (.int .i64 a.op) := fun y => by have := y.cell K0.c0; simpa using this
              have k01 : ∀ y : Ext W1, y.w.cell? ⟨b0, o0 + 1, none⟩ = some (.int .i64 a.n) := fun y => by have := y.cell K0.c1; simpa using this
              have k02 : ∀ y : Ext W1, y.w.cell? ⟨b0, o0 + 2, none⟩ = some (.slice (kr 0).a a.ty.length (kr 0).c) := fun y => by have := y.cell K0.c2; simpa using this
              have k03 : ∀ y : Ext W1, y.w.cell? ⟨b0, o0 + 3, none⟩ = some (.slice (kr 0).b a.kids.length (kr 0).d) := fun y => by have := y.cell K0.c3; simpa using this
              clear K0
              have k10 : ∀ y : Ext W1, y.w.cell? ⟨b0, o0 + 4, none⟩ = some (.int .i64 b.op) := fun y => by have := y.cell K1.c0; simpa using this
              have k11 : ∀ y : Ext W1, y.w.cell? ⟨b0, o0 + 5, none⟩ = some (.int .i64 b.n) := fun y => by have := y.cell K1.c1; simpa using this
              have k12 : ∀ y : Ext W1, y.w.cell? ⟨b0, o0 + 6, none⟩ = some (.slice (kr 1).a b.ty.length (kr 1).c) := fun y => by have := y.cell K1.c2; simpa using this
              have k13 : ∀ y : Ext W1, y.w.cell? ⟨b0, o0 + 7, none⟩ = some (.slice (kr 1).b b.kids.length (kr 1).d) := fun y => by have := y.cell K1.c3; simpa using this
              clear K1
              have k20 : ∀ y : Ext W1, y.w.cell? ⟨b0, o0 + 8, none⟩ = some (.int .i64 c.op) := fun y => by have := y.cell K2.c0; simpa using this
              have k21 : ∀ y : Ext W1, y.w.cell? ⟨b0, o0 + 9, none⟩ = some (.int .i64 c.n) := fun y => by have := y.cell K2.c1; simpa using this
              have k22 : ∀ y : Ext W1, y.w.cell? ⟨b0, o0 + 10, none⟩ = some (.slice (kr 2).a c.ty.length (kr 2).c) := fun y => by have := y.cell K2.c2; simpa using this
              have k23 : ∀ y : Ext W1, y.w.cell? ⟨b0, o0 + 11, none⟩ = some (.slice (kr 2).b c.kids.length (kr 2).d) := fun y => by have := y.cell K2.c3; simpa using this
              clear K2
              have f2 : (t.op == 2) = false := by rw [HO.out]; decide
              have f3 : (t.op == 3) = false := by rw [HO.out]; decide
              have f5 : (t.op == 5) = false := by rw [HO.out]; decide
              have f8 : (t.op == 8) = true := by rw [HO.out]; decide
              have f10 : (t.op == 10) = false := by rw [HO.out]; decide
              have f12 : (t.op == 12) = false := by rw [HO.out]; decide
              have p0 : (a.op == 6) = true := by simpa using N0.out
              go_wp2
              go_ret
              obtain ⟨u, hu⟩ := len1 (l := a.kids) (by rw [sh.kid a (by rw [HK.out]; simp), N0.out]; decide)
              exact fin_true HP (Cof.red (.left t a b c u HO.out HK.out N0.out hu)) (hback yy)
            · have N0 := Lib.hid n0
              clear n0
              by_cases n1 : a.op = 7
              · have N1 := Lib.hid n1
                clear n1
                have g00 : (a.op == 6) = false := by simpa using N0.out
                go_enter Tryd.func87, Tryd.ntmps87
                go_wp2_with fail
                generalize hW : x.w.alloc _ = W1
                generalize hB : x.w.heap.size = B
                obtain ⟨c0, c1, c2, c3, h1, hback, yy, hy0⟩ := boxedT h x hB hW
                clear hW hB
                rw [← hy0]
                clear hy0
                obtain ⟨kr, A⟩ := h1.out
                have hlk := A.lk
                obtain ⟨b0, o0, hrb0, K0⟩ := A.kid 0 a (by rw [HK.out]; rfl)
                have hs0 := A.sub 0 a (by rw [HK.out]; rfl)
                dsimp only at hrb0
                obtain ⟨b1, o1, hrb1, K1⟩ := A.kid 1 b (by rw [HK.out]; rfl)
                have hs1 := A.sub 1 b (by rw [HK.out]; rfl)
                dsimp only at hrb1
                obtain ⟨b2, o2, hrb2, K2⟩ := A.kid 2 c (by rw [HK.out]; rfl)
                have hs2 := A.sub 2 c (by rw [HK.out]; rfl)
                dsimp only at hrb2
                subst hrb0
                obtain ⟨rfl, rfl⟩ : b0 = b1 ∧ o0 = o1 := by cases hrb1; exact ⟨rfl, rfl⟩
                clear hrb1
                obtain ⟨rfl, rfl⟩ : b0 = b2 ∧ o0 = o2 := by cases hrb2; exact ⟨rfl, rfl⟩
                clear hrb2
                have k00 : ∀ y : Ext W1, y.w.cell? ⟨b0, o0, none⟩ = some (.int .i64 a.op) := fun y => by have := y.cell K0.c0; simpa using this
                have k01 : ∀ y : Ext W1, y.w.cell? ⟨b0, o0 + 1, none⟩ = some (.int .i64 a.n) := fun y => by have := y.cell K0.c1; simpa using this
                have k02 : ∀ y : Ext W1, y.w.cell? ⟨b0, o0 + 2, none⟩ = some (.slice (kr 0).a a.ty.length (kr 0).c) := fun y => by have := y.cell K0.c2; simpa using this
                have k03 : ∀ y : Ext W1, y.w.cell? ⟨b0, o0 + 3, none⟩ = some (.slice (kr 0).b a.kids.length (kr 0).d) := fun y => by have := y.cell K0.c3; simpa using this
                clear K0
                have k10 : ∀ y : Ext W1, y.w.cell? ⟨b0, o0 + 4, none⟩ = some (.int .i64 b.op) := fun y => by have := y.cell K1.c0; simpa using this
                have k11 : ∀ y : Ext W1, y.w.cell? ⟨b0, o0 + 5, none⟩ = some (.int .i64 b.n) := fun y => by have := y.cell K1.c1; simpa using this
                have k12 : ∀ y : Ext W1, y.w.cell? ⟨b0, o0 + 6, none⟩ = some (.slice (kr 1).a b.ty.length (kr 1).c) := fun y => by have := y.cell K1.c2; simpa using this
                have k13 : ∀ y : Ext W1, y.w.cell? ⟨b0, o0 + 7, none⟩ = some (.slice (kr 1).b b.kids.length (kr 1).d) := fun y => by have := y.cell K1.c3; simpa using this
                clear K1
                have k20 : ∀ y : Ext W1, y.w.cell? ⟨b0, o0 + 8, none⟩ = some (.int .i64 c.op) := fun y => by have := y.cell K2.c0; simpa using this
                have k21 : ∀ y : Ext W1, y.w.cell? ⟨b0, o0 + 9, none⟩ = some (.int .i64 c.n) := fun y => by have := y.cell K2.c1; simpa using this
                have k22 : ∀ y : Ext W1, y.w.cell? ⟨b0, o0 + 10, none⟩ = some (.slice (kr 2).a c.ty.length (kr 2).c) := fun y => by have := y.cell K2.c2; simpa using this
                have k23 : ∀ y : Ext W1, y.w.cell? ⟨b0, o0 + 11, none⟩ = some (.slice (kr 2).b c.kids.length (kr 2).d) := fun y => by have := y.cell K2.c3; simpa using this
                clear K2
                have f2 : (t.op == 2) = false := by rw [HO.out]; decide
                have f3 : (t.op == 3) = false := by rw [HO.out]; decide
                have f5 : (t.op == 5) = false := by rw [HO.out]; decide
                have f8 : (t.op == 8) = true := by rw [HO.out]; decide
                have f10 : (t.op == 10) = false := by rw [HO.out]; decide
                have f12 : (t.op == 12) = false := by rw [HO.out]; decide
                have p0 : (a.op == 7) = true := by simpa using N1.out
                go_wp2
                go_ret
                obtain ⟨u, hu⟩ := len1 (l := a.kids) (by rw [sh.kid a (by rw [HK.out]; simp), N1.out]; decide)
                exact fin_true HP (Cof.red (.right t a b c u HO.out HK.out N1.out hu)) (hback yy)
              · have N1 := Lib.hid n1
                clear n1
                have g00 : (a.op == 6) = false := by simpa using N0.out
                have g01 : (a.op == 7) = false := by simpa using N1.out
                go_enter Tryd.func87, Tryd.ntmps87
                go_wp2_with fail
                generalize hW : x.w.alloc _ = W1
                generalize hB : x.w.heap.size = B
                obtain ⟨c0, c1, c2, c3, h1, hback, yy, hy0⟩ := boxedT h x hB hW
                clear hW hB
                rw [← hy0]
                clear hy0
                obtain ⟨kr, A⟩ := h1.out
                have hlk := A.lk
                obtain ⟨b0, o0, hrb0, K0⟩ := A.kid 0 a (by rw [HK.out]; rfl)
                have hs0 := A.sub 0 a (by rw [HK.out]; rfl)
                dsimp only at hrb0
                obtain ⟨b1, o1, hrb1, K1⟩ := A.kid 1 b (by rw [HK.out]; rfl)
                have hs1 := A.sub 1 b (by rw [HK.out]; rfl)
                dsimp only at hrb1
                obtain ⟨b2, o2, hrb2, K2⟩ := A.kid 2 c (by rw [HK.out]; rfl)
                have hs2 := A.sub 2 c (by rw [HK.out]; rfl)
                dsimp only at hrb2
                subst hrb0
                obtain ⟨rfl, rfl⟩ : b0 = b1 ∧ o0 = o1 := by cases hrb1; exact ⟨rfl, rfl⟩
                clear hrb1
                obtain ⟨rfl, rfl⟩ : b0 = b2 ∧ o0 = o2 := by cases hrb2; exact ⟨rfl, rfl⟩
                clear hrb2
                have k00 : ∀ y : Ext W1, y.w.cell? ⟨b0, o0, none⟩ = some (.int .i64 a.op) := fun y => by have := y.cell K0.c0; simpa using this
                have k01 : ∀ y : Ext W1, y.w.cell? ⟨b0, o0 + 1, none⟩ = some (.int .i64 a.n) := fun y => by have := y.cell K0.c1; simpa using this
                have k02 : ∀ y : Ext W1, y.w.cell? ⟨b0, o0 + 2, none⟩ = some (.slice (kr 0).a a.ty.length (kr 0).c) := fun y => by have := y.cell K0.c2; simpa using this
                have k03 : ∀ y : Ext W1, y.w.cell? ⟨b0, o0 + 3, none⟩ = some (.slice (kr 0).b a.kids.length (kr 0).d) := fun y => by have := y.cell K0.c3; simpa using this
                clear K0
                have k10 : ∀ y : Ext W1, y.w.cell? ⟨b0, o0 + 4, none⟩ = some (.int .i64 b.op) := fun y => by have := y.cell K1.c0; simpa using this
                have k11 : ∀ y : Ext W1, y.w.cell? ⟨b0, o0 + 5, none⟩ = some (.int .i64 b.n) := fun y => by have := y.cell K1.c1; simpa using this
                have k12 : ∀ y : Ext W1, y.w.cell? ⟨b0, o0 + 6, none⟩ = some (.slice (kr 1).a b.ty.length (kr 1).c) := fun y => by have := y.cell K1.c2; simpa using this
                have k13 : ∀ y : Ext W1, y.w.cell? ⟨b0, o0 + 7, none⟩ = some (.slice (kr 1).b b.kids.length (kr 1).d) := fun y => by have := y.cell K1.c3; simpa using this
                clear K1
                have k20 : ∀ y : Ext W1, y.w.cell? ⟨b0, o0 + 8, none⟩ = some (.int .i64 c.op) := fun y => by have := y.cell K2.c0; simpa using this
                have k21 : ∀ y : Ext W1, y.w.cell? ⟨b0, o0 + 9, none⟩ = some (.int .i64 c.n) := fun y => by have := y.cell K2.c1; simpa using this
                have k22 : ∀ y : Ext W1, y.w.cell? ⟨b0, o0 + 10, none⟩ = some (.slice (kr 2).a c.ty.length (kr 2).c) := fun y => by have := y.cell K2.c2; simpa using this
                have k23 : ∀ y : Ext W1, y.w.cell? ⟨b0, o0 + 11, none⟩ = some (.slice (kr 2).b c.kids.length (kr 2).d) := fun y => by have := y.cell K2.c3; simpa using this
                clear K2
                have f2 : (t.op == 2) = false := by rw [HO.out]; decide
                have f3 : (t.op == 3) = false := by rw [HO.out]; decide
                have f5 : (t.op == 5) = false := by rw [HO.out]; decide
                have f8 : (t.op == 8) = true := by rw [HO.out]; decide
                have f10 : (t.op == 10) = false := by rw [HO.out]; decide
                have f12 : (t.op == 12) = false := by rw [HO.out]; decide
                go_wp2
                go_ret
                exact fin_false HP (no_red8 HO.out HK.out N0.out N1.out) (hback yy)
          · have O8 := Lib.hid o8
            clear o8
            by_cases o12 : t.op = 12
            · have O12 := Lib.hid o12
              clear o12
              have HO := O12
              clear O12
              obtain ⟨a, b, hk⟩ := len2 (l := t.kids) (by rw [sh.many, HO.out]; decide)
              have hl : 2 ≤ t.kids.length := by rw [hk]; exact Nat.le_refl _
              have fl : ((t.kids.length : Int) == 0) = false := by rw [hk]; rfl
              have HK := Lib.hid hk
              clear hk
              by_cases n0 : a.op = 11
              · have N0 := Lib.hid n0
                clear n0
                skip
                go_enter Tryd.func87, Tryd.ntmps87
                go_wp2_with fail
                generalize hW : x.w.alloc _ = W1
                generalize hB : x.w.heap.size = B
                obtain ⟨c0, c1, c2, c3, h1, hback, yy, hy0⟩ := boxedT h x hB hW
                clear hW hB
                rw [← hy0]
                clear hy0
                obtain ⟨kr, A⟩ := h1.out
                have hlk := A.lk
                obtain ⟨b0, o0, hrb0, K0⟩ := A.kid 0 a (by rw [HK.out]; rfl)
                have hs0 := A.sub 0 a (by rw [HK.out]; rfl)
                dsimp only at hrb0
                obtain ⟨b1, o1, hrb1, K1⟩ := A.kid 1 b (by rw [HK.out]; rfl)
                have hs1 := A.sub 1 b (by rw [HK.out]; rfl)
                dsimp only at hrb1
                subst hrb0
                obtain ⟨rfl, rfl⟩ : b0 = b1 ∧ o0 = o1 := by cases hrb1; exact ⟨rfl, rfl⟩
                clear hrb1
                have k00 : ∀ y : Ext W1, y.w.cell? ⟨b0, o0, none⟩ = some (.int .i64 a.op) := fun y => by have := y.cell K0.c0; simpa using this
                have k01 : ∀ y : Ext W1, y.w.cell? ⟨b0, o0 + 1, none⟩ = some (.int .i64 a.n) := fun y => by have := y.cell K0.c1; simpa using this
                have k02 : ∀ y : Ext W1, y.w.cell? ⟨b0, o0 + 2, none⟩ = some (.slice (kr 0).a a.ty.length (kr 0).c) := fun y => by have := y.cell K0.c2; simpa using this
                have k03 : ∀ y : Ext W1, y.w.cell? ⟨b0, o0 + 3, none⟩ = some (.slice (kr 0).b a.kids.length (kr 0).d) := fun y => by have := y.cell K0.c3; simpa using this
                clear K0
                have k10 : ∀ y : Ext W1, y.w.cell? ⟨b0, o0 + 4, none⟩ = some (.int .i64 b.op) := fun y => by have := y.cell K1.c0; simpa using this
                have k11 : ∀ y : Ext W1, y.w.cell? ⟨b0, o0 + 5, none⟩ = some (.int .i64 b.n) := fun y => by have := y.cell K1.c1; simpa using this
                have k12 : ∀ y : Ext W1, y.w.cell? ⟨b0, o0 + 6, none⟩ = some (.slice (kr 1).a b.ty.length (kr 1).c) := fun y => by have := y.cell K1.c2; simpa using this
                have k13 : ∀ y : Ext W1, y.w.cell? ⟨b0, o0 + 7, none⟩ = some (.slice (kr 1).b b.kids.length (kr 1).d) := fun y => by have := y.cell K1.c3; simpa using this
                clear K1
                have f2 : (t.op == 2) = false := by rw [HO.out]; decide
                have f3 : (t.op == 3) = false := by rw [HO.out]; decide
                have f5 : (t.op == 5) = false := by rw [HO.out]; decide
                have f8 : (t.op == 8) = false := by rw [HO.out]; decide
                have f10 : (t.op == 10) = false := by rw [HO.out]; decide
                have f12 : (t.op == 12) = true := by rw [HO.out]; decide
                have p0 : (a.op == 11) = true := by simpa using N0.out
                go_wp2
                go_ret
                obtain ⟨u, hu⟩ := len1 (l := a.kids) (by rw [sh.kid a (by rw [HK.out]; simp), N0.out]; decide)
                exact fin_true HP (Cof.red (.opn t a b u HO.out HK.out N0.out hu)) (hback yy)
              · have N0 := Lib.hid n0
                clear n0
                have g00 : (a.op == 11) = false := by simpa using N0.out
                go_enter Tryd.func87, Tryd.ntmps87
                go_wp2_with fail
                generalize hW : x.w.alloc _ = W1
                generalize hB : x.w.heap.size = B
                obtain ⟨c0, c1, c2, c3, h1, hback, yy, hy0⟩ := boxedT h x hB hW
                clear hW hB
                rw [← hy0]
                clear hy0
                obtain ⟨kr, A⟩ := h1.out
                have hlk := A.lk
                obtain ⟨b0, o0, hrb0, K0⟩ := A.kid 0 a (by rw [HK.out]; rfl)
                have hs0 := A.sub 0 a (by rw [HK.out]; rfl)
                dsimp only at hrb0
                obtain ⟨b1, o1, hrb1, K1⟩ := A.kid 1 b (by rw [HK.out]; rfl)
                have hs1 := A.sub 1 b (by rw [HK.out]; rfl)
                dsimp only at hrb1
                subst hrb0
                obtain ⟨rfl, rfl⟩ : b0 = b1 ∧ o0 = o1 := by cases hrb1; exact ⟨rfl, rfl⟩
                clear hrb1
                have k00 : ∀ y : Ext W1, y.w.cell? ⟨b0, o0, none⟩ = some (.int .i64 a.op) := fun y => by have := y.cell K0.c0; simpa using this
                have k01 : ∀ y : Ext W1, y.w.cell? ⟨b0, o0 + 1, none⟩ = some (.int .i64 a.n) := fun y => by have := y.cell K0.c1; simpa using this
                have k02 : ∀ y : Ext W1, y.w.cell? ⟨b0, o0 + 2, none⟩ = some (.slice (kr 0).a a.ty.length (kr 0).c) := fun y => by have := y.cell K0.c2; simpa using this
                have k03 : ∀ y : Ext W1, y.w.cell? ⟨b0, o0 + 3, none⟩ = some (.slice (kr 0).b a.kids.length (kr 0).d) := fun y => by have := y.cell K0.c3; simpa using this
                clear K0
                have k10 : ∀ y : Ext W1, y.w.cell? ⟨b0, o0 + 4, none⟩ = some (.int .i64 b.op) := fun y => by have := y.cell K1.c0; simpa using this
                have k11 : ∀ y : Ext W1, y.w.cell? ⟨b0, o0 + 5, none⟩ = some (.int .i64 b.n) := fun y => by have := y.cell K1.c1; simpa using this
                have k12 : ∀ y : Ext W1, y.w.cell? ⟨b0, o0 + 6, none⟩ = some (.slice (kr 1).a b.ty.length (kr 1).c) := fun y => by have := y.cell K1.c2; simpa using this
                have k13 : ∀ y : Ext W1, y.w.cell? ⟨b0, o0 + 7, none⟩ = some (.slice (kr 1).b b.kids.length (kr 1).d) := fun y => by have := y.cell K1.c3; simpa using this
                clear K1
                have f2 : (t.op == 2) = false := by rw [HO.out]; decide
                have f3 : (t.op == 3) = false := by rw [HO.out]; decide
                have f5 : (t.op == 5) = false := by rw [HO.out]; decide
                have f8 : (t.op == 8) = false := by rw [HO.out]; decide
                have f10 : (t.op == 10) = false := by rw [HO.out]; decide
                have f12 : (t.op == 12) = true := by rw [HO.out]; decide
                go_wp2
                go_ret
                exact fin_false HP (no_red12 HO.out HK.out N0.out) (hback yy)
            · have O12 := Lib.hid o12
              clear o12
              by_cases e0 : t.kids = []
              · have E0 := Lib.hid e0
                clear e0
                have fl : ((t.kids.length : Int) == 0) = true := by rw [E0.out]; rfl
                go_enter Tryd.func87, Tryd.ntmps87
                go_wp2
                go_ret
                exact fin_false HP (no_red_kids E0.out) ⟨x.alloc _, rfl⟩
              · have E0 := Lib.hid e0
                clear e0
                obtain ⟨a, ks, hk⟩ := List.exists_cons_of_ne_nil E0.out
                have hl : 0 < t.kids.length := by rw [hk]; simp
                have fl : ((t.kids.length : Int) == 0) = false := by rw [hk, List.length_cons]; rw [beq_eq_false_iff_ne]; omega
                have HK := Lib.hid hk
                clear hk
                have f2 : (t.op == 2) = false := by simpa using O2.out
                have f3 : (t.op == 3) = false := by simpa using O3.out
                have f10 : (t.op == 10) = false := by simpa using O10.out
                have f5 : (t.op == 5) = false := by simpa using O5.out
                have f8 : (t.op == 8) = false := by simpa using O8.out
                have f12 : (t.op == 12) = false := by simpa using O12.out
                skip
                go_enter Tryd.func87, Tryd.ntmps87
                go_wp2_with fail
                generalize hW : x.w.alloc _ = W1
                generalize hB : x.w.heap.size = B
                obtain ⟨c0, c1, c2, c3, h1, hback, yy, hy0⟩ := boxedT h x hB hW
                clear hW hB
                rw [← hy0]
                clear hy0
                obtain ⟨kr, A⟩ := h1.out
                have hlk := A.lk
                obtain ⟨b0, o0, hrb0, K0⟩ := A.kid 0 a (by rw [HK.out]; rfl)
                have hs0 := A.sub 0 a (by rw [HK.out]; rfl)
                dsimp only at hrb0
                subst hrb0
                have k00 : ∀ y : Ext W1, y.w.cell? ⟨b0, o0, none⟩ = some (.int .i64 a.op) := fun y => by have := y.cell K0.c0; simpa using this
                have k01 : ∀ y : Ext W1, y.w.cell? ⟨b0, o0 + 1, none⟩ = some (.int .i64 a.n) := fun y => by have := y.cell K0.c1; simpa using this
                have k02 : ∀ y : Ext W1, y.w.cell? ⟨b0, o0 + 2, none⟩ = some (.slice (kr 0).a a.ty.length (kr 0).c) := fun y => by have := y.cell K0.c2; simpa using this
                have k03 : ∀ y : Ext W1, y.w.cell? ⟨b0, o0 + 3, none⟩ = some (.slice (kr 0).b a.kids.length (kr 0).d) := fun y => by have := y.cell K0.c3; simpa using this
                clear K0

                go_wp2
                go_ret
                exact fin_false HP (no_red_op O2.out O3.out O5.out O8.out O10.out O12.out) (hback yy)

end Go.Proofs.YtncfbljablbglaaDoor
