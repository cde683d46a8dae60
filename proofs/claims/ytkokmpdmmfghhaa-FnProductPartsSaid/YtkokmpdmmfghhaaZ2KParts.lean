/- The program's parts of a grade of a product. -/
import Derived.Test.YtkokmpdmmfghhaaZ2KPair
set_option linter.unusedVariables false
set_option linter.unusedSimpArgs false
namespace Go.Proofs.Ytkokmpdmmfghhaa
open Go.RowKit

theorem fin_two {W : World} {a b v u : Int} (h1 : a = v) (h2 : b = u) {w : World} (hz : ∃ z : Ext W, w = z.w) : Ans W (.tuple #[.int .i64 v, .int .i64 u]) (.returned (.tuple #[.int .i64 a, .int .i64 b])) w := by
  subst h1; subst h2
  exact ⟨rfl, hz⟩
theorem div_facts {q n : Int} (hq0 : 0 ≤ q) (hq : q ≤ 1000) (hn : 2 ≤ n) : q.tdiv n = q / n ∧ q.tmod n = q % n ∧ IntKind.i64.wrap (q.tdiv n) = q / n ∧ IntKind.i64.wrap (q / n) = q / n ∧ 0 ≤ q / n ∧ q / n ≤ q := by
  have h1 : q.tdiv n = q / n := Int.tdiv_eq_ediv_of_nonneg hq0
  have h2 : q.tmod n = q % n := Int.tmod_eq_emod_of_nonneg hq0
  have h3 : 0 ≤ q / n := Int.ediv_nonneg hq0 (by omega)
  have h4 : q / n ≤ q := Int.ediv_le_self _ hq0
  have h5 : IntKind.i64.wrap (q / n) = q / n := IntWalk.i64_in _ (by omega)
  exact ⟨h1, h2, by rw [h1]; exact h5, h5, h3, h4⟩

set_option maxHeartbeats 1600000 in
theorem pairOfNumber_ans {W : World} (n g : Int) (hn : 2 ≤ n ∧ n ≤ 16) (hg : 0 ≤ g ∧ g < 16) (w : Ext W) :
    Calls Try.prog 100 #[.int .i64 n, .int .i64 g] w.w (Ans W (.tuple #[.int .i64 (firstN n g), .int .i64 (secondN n g)])) := by
  obtain ⟨hn1, hn2⟩ := hn
  obtain ⟨hg1, hg2⟩ := hg
  have hp : 0 ≤ placeN n g ∧ placeN n g ≤ 17 := by unfold placeN; split <;> (try split) <;> omega
  obtain ⟨t1, t2, t3, t4, t5, t6⟩ := div_facts (n := n) hp.1 (by omega) hn1
  have HP := Lib.hid hp
  by_cases e1 : g = 1
  · have f1 : (g == 1) = true := by simpa using e1
    have hpl : placeN n g = n + 1 := by unfold placeN; rw [if_pos e1]
    rw [hpl] at t1 t2 t3 t4 t5 t6
    have HPL := Lib.hid hpl
    have E1 := Lib.hid e1
    clear hpl e1 hp
    go_enter Try.func100, Try.ntmps100
    go_wp2
    refine region_ext w (by kernel_rfl) (by kernel_rfl) ?_
    repeat (go_big_quiet_step (fail))
    refine wpQuiet_nil ?_
    rintro _ ⟨yy, rfl⟩
    go_wp2
    go_ret2
    exact fin_two (by unfold firstN; rw [HPL.out]) (by unfold secondN; rw [HPL.out]; first | done | simp) ⟨yy, rfl⟩
  · have f1 : (g == 1) = false := by simpa using e1
    by_cases e2 : 1 < g
    · by_cases e3 : g ≤ n + 1
      · have hpl : placeN n g = g - 1 := by unfold placeN; rw [if_neg e1, if_pos ⟨e2, e3⟩]
        rw [hpl] at t1 t2 t3 t4 t5 t6
        have HPL := Lib.hid hpl
        have E1 := Lib.hid e1
        clear hpl e1 hp
        go_enter Try.func100, Try.ntmps100
        go_wp2
        refine region_ext w (by kernel_rfl) (by kernel_rfl) ?_
        repeat (go_big_quiet_step (fail))
        refine wpQuiet_nil ?_
        rintro _ ⟨yy, rfl⟩
        go_wp2
        go_ret2
        exact fin_two (by unfold firstN; rw [HPL.out]) (by unfold secondN; rw [HPL.out]; first | done | simp) ⟨yy, rfl⟩
      · have hpl : placeN n g = g := by unfold placeN; rw [if_neg e1, if_neg (by omega)]
        rw [hpl] at t1 t2 t3 t4 t5 t6
        have HPL := Lib.hid hpl
        have E1 := Lib.hid e1
        clear hpl e1 hp
        go_enter Try.func100, Try.ntmps100
        go_wp2
        refine region_ext w (by kernel_rfl) (by kernel_rfl) ?_
        repeat (go_big_quiet_step (fail))
        refine wpQuiet_nil ?_
        rintro _ ⟨yy, rfl⟩
        go_wp2
        go_ret2
        exact fin_two (by unfold firstN; rw [HPL.out]) (by unfold secondN; rw [HPL.out]; first | done | simp) ⟨yy, rfl⟩
    · have hpl : placeN n g = g := by unfold placeN; rw [if_neg e1, if_neg (by omega)]
      rw [hpl] at t1 t2 t3 t4 t5 t6
      have HPL := Lib.hid hpl
      have E1 := Lib.hid e1
      clear hpl e1 hp
      go_enter Try.func100, Try.ntmps100
      go_wp2
      refine region_ext w (by kernel_rfl) (by kernel_rfl) ?_
      repeat (go_big_quiet_step (fail))
      refine wpQuiet_nil ?_
      rintro _ ⟨yy, rfl⟩
      go_wp2
      go_ret2
      exact fin_two (by unfold firstN; rw [HPL.out]) (by unfold secondN; rw [HPL.out]; first | done | simp) ⟨yy, rfl⟩

def OutParts (A B : Sys) (g v u : Int) : Prop := (HasProduct A B ∧ (0 ≤ g ∧ g < A.n * B.n) ∧ v = firstN B.n g ∧ u = secondN B.n g) ∨ (¬ (HasProduct A B ∧ (0 ≤ g ∧ g < A.n * B.n)) ∧ v = -1 ∧ u = -1)

set_option maxHeartbeats 1600000 in
theorem partsOfGrade_ans {W : World} {r r' : Ref} {A B : Sys} (h : SysIn W r A) (k : SysIn W r' B) (g v u : Int) (hv : OutParts A B g v u) (x : Ext W) :
    Calls Try.prog 35 #[r.val A, r'.val B, .int .i64 g] x.w (Ans W (.tuple #[.int .i64 v, .int .i64 u])) := by
  unfold Ref.val
  by_cases hq : HasProduct A B
  · have hb2 := hq.2.1.tab.lo
    have hb16 := hq.2.1.tab.hi
    have ha2 := hq.1.tab.lo
    have ha16 := hq.1.tab.hi
    have m1 : 0 ≤ A.n * B.n := Int.mul_nonneg (by omega) (by omega)
    have m2 := hq.2.2
    have hw1 : IntKind.i64.wrap (A.n * B.n - 1) = A.n * B.n - 1 := IntWalk.i64_in _ (by omega)
    have HQ := Lib.hid hq
    clear hq
    rcases hv with ⟨_, hg, hv, hu⟩ | ⟨hn, hv, hu⟩
    · have HV := Lib.hid hv
      have HU := Lib.hid hu
      have HG := Lib.hid hg
      obtain ⟨hg1, hg2⟩ := hg
      clear hv hu
      go_enter Try.func35, Try.ntmps35
      go_wp2_with fail
      generalize hW : (x.w.alloc _).alloc _ = W1
      generalize hB : x.w.heap.size = B0
      obtain ⟨c0, c1, c2, c3, d0, d1, d2, d3, h1, k1, hback, yy, hy0⟩ := boxed2 h k x hB hW
      clear hW hB
      rw [← hy0]
      clear hy0
      (with_reducible refine Calls.mono (haveProduct_ans h1 k1 true (by refine iff_tf ?_; dsimp only; exact HQ.out) _) ?_)
      rintro e w' ⟨rfl, yy, rfl⟩
      go_wp2_with fail
      (with_reducible refine Calls.mono (inRange_ans g (A.n * B.n) true (by refine iff_tf ?_; dsimp only; exact HG.out) _) ?_)
      rintro e w' ⟨rfl, yy, rfl⟩
      go_wp2_with fail
      (with_reducible refine Calls.mono (pairOfNumber_ans B.n g ⟨by omega, by omega⟩ ⟨by omega, by omega⟩ _) ?_)
      rintro e w' ⟨rfl, yy, rfl⟩
      go_wp2_with fail
      go_ret2
      exact fin_two HV.out.symm HU.out.symm (hback yy)
    · have HV := Lib.hid hv
      have HU := Lib.hid hu
      have hg : ¬ (0 ≤ g ∧ g < A.n * B.n) := fun q => hn ⟨HQ.out, q⟩
      have HG := Lib.hid hg
      clear hv hu hn hg
      go_enter Try.func35, Try.ntmps35
      go_wp2_with fail
      generalize hW : (x.w.alloc _).alloc _ = W1
      generalize hB : x.w.heap.size = B0
      obtain ⟨c0, c1, c2, c3, d0, d1, d2, d3, h1, k1, hback, yy, hy0⟩ := boxed2 h k x hB hW
      clear hW hB
      rw [← hy0]
      clear hy0
      (with_reducible refine Calls.mono (haveProduct_ans h1 k1 true (by refine iff_tf ?_; dsimp only; exact HQ.out) _) ?_)
      rintro e w' ⟨rfl, yy, rfl⟩
      go_wp2_with fail
      (with_reducible refine Calls.mono (inRange_ans g (A.n * B.n) false (by refine iff_tf ?_; dsimp only; exact HG.out) _) ?_)
      rintro e w' ⟨rfl, yy, rfl⟩
      go_wp2_with fail
      go_ret2
      exact fin_two HV.out.symm HU.out.symm (hback yy)
  · have HQ := Lib.hid hq
    clear hq
    rcases hv with ⟨hp, _⟩ | ⟨hn, hv, hu⟩
    · exact absurd hp HQ.out
    · have HV := Lib.hid hv
      have HU := Lib.hid hu
      clear hv hu hn
      go_enter Try.func35, Try.ntmps35
      go_wp2_with fail
      generalize hW : (x.w.alloc _).alloc _ = W1
      generalize hB : x.w.heap.size = B0
      obtain ⟨c0, c1, c2, c3, d0, d1, d2, d3, h1, k1, hback, yy, hy0⟩ := boxed2 h k x hB hW
      clear hW hB
      rw [← hy0]
      clear hy0
      (with_reducible refine Calls.mono (haveProduct_ans h1 k1 false (by refine iff_tf ?_; dsimp only; exact HQ.out) _) ?_)
      rintro e w' ⟨rfl, yy, rfl⟩
      go_wp2_with fail
      go_ret2
      exact fin_two HV.out.symm HU.out.symm (hback yy)

end Go.Proofs.Ytkokmpdmmfghhaa
