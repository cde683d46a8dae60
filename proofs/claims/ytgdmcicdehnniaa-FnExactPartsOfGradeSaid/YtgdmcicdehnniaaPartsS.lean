/- The model's parts of a grade of a product. -/
import Derived.Test.YtgdmcicdehnniaaPairS
import Derived.Test.YtgdmcicdehnniaaParts
namespace Go.Proofs.Ytgdmcicdehnniaa
open Go.RowKit

theorem l1First_ans {W : World} (n g : Int) (hn : 2 ≤ n ∧ n ≤ 16) (hg : 0 ≤ g ∧ g < 16) (w : Ext W) :
    Calls Try.prog 59 #[.int .i64 n, .int .i64 g] w.w (Ans W (.int .i64 (firstN n g))) := by
  obtain ⟨hn1, hn2⟩ := hn
  obtain ⟨hg1, hg2⟩ := hg
  have a1 : g = 0 → firstN n g = 0 := fun e => by subst e; simp [firstN, placeN]
  have a2 : g = 1 → firstN n g = 1 := fun e => by
    subst e
    simp only [firstN, placeN, if_pos]
    rw [Int.ediv_eq_iff_of_pos (by omega)]; omega
  have a3 : 1 < g → g ≤ n + 1 → firstN n g = (g - 1) / n := fun e f => by simp only [firstN, placeN]; rw [if_neg (by omega), if_pos ⟨e, f⟩]
  have a4 : n + 1 < g → firstN n g = g / n := fun e => by simp only [firstN, placeN]; rw [if_neg (by omega), if_neg (by omega)]
  have A1 := Lib.hid a1
  have A2 := Lib.hid a2
  have A3 := Lib.hid a3
  have A4 := Lib.hid a4
  clear a1 a2 a3 a4
  by_cases e0 : g = 0
  · have f0 : (g == 0) = true := by simpa using e0
    have E0 := Lib.hid e0
    clear e0
    go_enter Try.func59, Try.ntmps59
    go_wp2
    go_ret
    exact fin_int (by rw [A1.out E0.out]) ⟨w, rfl⟩
  · have f0 : (g == 0) = false := by simpa using e0
    by_cases e1 : g = 1
    · have f1 : (g == 1) = true := by simpa using e1
      have E1 := Lib.hid e1
      clear e0 e1
      go_enter Try.func59, Try.ntmps59
      go_wp2
      go_ret
      exact fin_int (by rw [A2.out E1.out]) ⟨w, rfl⟩
    · have f1 : (g == 1) = false := by simpa using e1
      have h1 : 1 < g := by omega
      clear e0 e1
      by_cases e2 : g ≤ n + 1
      · skip
        obtain ⟨t1, t2, t3, t4, t5, t6⟩ := div_facts (q := g - 1) (n := n) (by omega) (by omega) hn1
        go_enter Try.func59, Try.ntmps59
        go_wp2
        go_ret
        exact fin_int (by rw [A3.out (by omega) (by omega)]) ⟨w, rfl⟩
      · have e3 : n + 1 < g := by omega
        obtain ⟨t1, t2, t3, t4, t5, t6⟩ := div_facts (q := g) (n := n) (by omega) (by omega) hn1
        go_enter Try.func59, Try.ntmps59
        go_wp2
        go_ret
        exact fin_int (by rw [A4.out (by omega)]) ⟨w, rfl⟩

theorem l1Second_ans {W : World} (n g : Int) (hn : 2 ≤ n ∧ n ≤ 16) (hg : 0 ≤ g ∧ g < 16) (w : Ext W) :
    Calls Try.prog 60 #[.int .i64 n, .int .i64 g] w.w (Ans W (.int .i64 (secondN n g))) := by
  obtain ⟨hn1, hn2⟩ := hn
  obtain ⟨hg1, hg2⟩ := hg
  have a1 : g < 2 → g = secondN n g := fun e => by
    by_cases e0 : g = 0
    · subst e0; simp [secondN, placeN]
    · have e1 : g = 1 := by omega
      subst e1
      simp only [secondN, placeN, if_pos]
      rw [Int.add_emod_left, Int.emod_eq_of_lt (by omega) (by omega)]
  have a3 : 1 < g → g ≤ n + 1 → (g - 1) % n = secondN n g := fun e f => by simp only [secondN, placeN]; rw [if_neg (by omega), if_pos ⟨e, f⟩]
  have a4 : n + 1 < g → g % n = secondN n g := fun e => by simp only [secondN, placeN]; rw [if_neg (by omega), if_neg (by omega)]
  have A1 := Lib.hid a1
  have A3 := Lib.hid a3
  have A4 := Lib.hid a4
  clear a1 a3 a4
  by_cases e1 : g < 2
  · skip
    go_enter Try.func60, Try.ntmps60
    go_wp2
    go_ret
    exact fin_int (by exact A1.out (by omega)) ⟨w, rfl⟩
  · have h1 : 1 < g := by omega
    by_cases e2 : g ≤ n + 1
    · skip
      obtain ⟨t1, t2, t3, t4, t5, t6⟩ := div_facts (q := g - 1) (n := n) (by omega) (by omega) hn1
      go_enter Try.func60, Try.ntmps60
      go_wp2
      go_ret
      exact fin_int (by exact A3.out (by omega) (by omega)) ⟨w, rfl⟩
    · have e3 : n + 1 < g := by omega
      obtain ⟨t1, t2, t3, t4, t5, t6⟩ := div_facts (q := g) (n := n) (by omega) (by omega) hn1
      go_enter Try.func60, Try.ntmps60
      go_wp2
      go_ret
      exact fin_int (by exact A4.out (by omega)) ⟨w, rfl⟩

set_option maxHeartbeats 1600000 in
theorem specPartsOfGrade_ans {W : World} {r r' : Ref} {A B : Sys} (h : SysIn W r A) (k : SysIn W r' B) (g v u : Int) (hv : OutParts A B g v u) (x : Ext W) :
    Calls Try.prog 23 #[r.val A, r'.val B, .int .i64 g] x.w (Ans W (.tuple #[.int .i64 v, .int .i64 u])) := by
  unfold Ref.val
  by_cases hq : HasProduct A B
  · have hb2 := hq.2.1.tab.lo
    have hb16 := hq.2.1.tab.hi
    have ha2 := hq.1.tab.lo
    have ha16 := hq.1.tab.hi
    have m1 : 0 ≤ A.n * B.n := Int.mul_nonneg (by omega) (by omega)
    have m2 := hq.2.2
    have hw1 : IntKind.i64.wrap (A.n * B.n - 1) = A.n * B.n - 1 := IntWalk.i64_in _ (by omega)
    have HQ := Lib.hid hq
    clear hq
    rcases hv with ⟨_, hg, hv, hu⟩ | ⟨hn, hv, hu⟩
    · have HV := Lib.hid hv
      have HU := Lib.hid hu
      have HG := Lib.hid hg
      obtain ⟨hg1, hg2⟩ := hg
      clear hv hu
      go_enter Try.func23, Try.ntmps23
      go_wp2_with fail
      generalize hW : (x.w.alloc _).alloc _ = W1
      generalize hB : x.w.heap.size = B0
      obtain ⟨c0, c1, c2, c3, d0, d1, d2, d3, h1, k1, hback, yy, hy0⟩ := boxed2 h k x hB hW
      clear hW hB
      rw [← hy0]
      clear hy0
      (with_reducible refine Calls.mono (l1Product_ans h1 k1 true (by refine iff_tf ?_; dsimp only; exact HQ.out) _) ?_)
      rintro e w' ⟨rfl, yy, rfl⟩
      go_wp2_with fail
      (with_reducible refine Calls.mono (l1In_ans g 0 (A.n * B.n - 1) true (by refine iff_tf ?_; dsimp only; have := HG.out; omega) _) ?_)
      rintro e w' ⟨rfl, yy, rfl⟩
      go_wp2_with fail
      refine region_ext yy (by kernel_rfl) (by kernel_rfl) ?_
      repeat (go_big_quiet_step (first | (go_at_call 59; with_reducible exact l1First_ans B.n g ⟨by omega, by omega⟩ ⟨by omega, by omega⟩ _) | (go_at_call 60; with_reducible exact l1Second_ans B.n g ⟨by omega, by omega⟩ ⟨by omega, by omega⟩ _)))
      refine wpQuiet_nil ?_
      rintro _ ⟨yy, rfl⟩
      go_wp2_with fail
      go_ret2
      exact fin_two HV.out.symm HU.out.symm (hback yy)
    · have HV := Lib.hid hv
      have HU := Lib.hid hu
      have hg : ¬ (0 ≤ g ∧ g < A.n * B.n) := fun q => hn ⟨HQ.out, q⟩
      have HG := Lib.hid hg
      clear hv hu hn hg
      go_enter Try.func23, Try.ntmps23
      go_wp2_with fail
      generalize hW : (x.w.alloc _).alloc _ = W1
      generalize hB : x.w.heap.size = B0
      obtain ⟨c0, c1, c2, c3, d0, d1, d2, d3, h1, k1, hback, yy, hy0⟩ := boxed2 h k x hB hW
      clear hW hB
      rw [← hy0]
      clear hy0
      (with_reducible refine Calls.mono (l1Product_ans h1 k1 true (by refine iff_tf ?_; dsimp only; exact HQ.out) _) ?_)
      rintro e w' ⟨rfl, yy, rfl⟩
      go_wp2_with fail
      (with_reducible refine Calls.mono (l1In_ans g 0 (A.n * B.n - 1) false (by refine iff_tf ?_; dsimp only; have := HG.out; omega) _) ?_)
      rintro e w' ⟨rfl, yy, rfl⟩
      go_wp2_with fail
      go_ret2
      exact fin_two HV.out.symm HU.out.symm (hback yy)
  · have HQ := Lib.hid hq
    clear hq
    rcases hv with ⟨hp, _⟩ | ⟨hn, hv, hu⟩
    · exact absurd hp HQ.out
    · have HV := Lib.hid hv
      have HU := Lib.hid hu
      clear hv hu hn
      go_enter Try.func23, Try.ntmps23
      go_wp2_with fail
      generalize hW : (x.w.alloc _).alloc _ = W1
      generalize hB : x.w.heap.size = B0
      obtain ⟨c0, c1, c2, c3, d0, d1, d2, d3, h1, k1, hback, yy, hy0⟩ := boxed2 h k x hB hW
      clear hW hB
      rw [← hy0]
      clear hy0
      (with_reducible refine Calls.mono (l1Product_ans h1 k1 false (by refine iff_tf ?_; dsimp only; exact HQ.out) _) ?_)
      rintro e w' ⟨rfl, yy, rfl⟩
      go_wp2_with fail
      go_ret2
      exact fin_two HV.out.symm HU.out.symm (hback yy)

end Go.Proofs.Ytgdmcicdehnniaa
