
/- The model's parts of a grade of a product. -/
import Derived.Test.YtkokmpdmmfghhaaKPairS
import Derived.Test.YtkokmpdmmfghhaaKParts
namespace Go.Proofs.Ytkokmpdmmfghhaa
open Go.RowKit

theorem l1First_ans {W : World} (n g : Int) (hn : 2 ≤ n ∧ n ≤ 16) (hg : 0 ≤ g ∧ g < 16) (w : Ext W) :
    Calls Try.prog 114 #[.int .i64 n, .int .i64 g] w.w (Ans W (.int .i64 (firstN n g))) := by
  obtain ⟨hn1, hn2⟩ := hn
  obtain ⟨hg1, hg2⟩ := hg
  have a1 : g = 0 → firstN n g = 0 := fun e => by subst e; simp [firstN, placeN]
  have a2 : g = 1 → firstN n g = 1 := fun e => by
    subst e
    simp only [firstN, placeN, if_pos]
    rw [Int.ediv_eq_iff_of_pos (by omega)]; omega
  have a3 : 1 < g → g ≤ n + 1 → firstN n g = (g - 1) / n := fun e f => by simp only [firstN, placeN]; rw [if_neg (by omega), if_pos ⟨e, f⟩]
  have a4 : n + 1 < g → firstN n g = g / n := fun e => by simp only [firstN, placeN]; rw [if_neg (by omega), if_neg (by omega)]
  have A1 := Lib.hid a1
  have A2 := Lib.hid a2
  have A3 := Lib.hid a3
  have A4 := Lib.hid a4
  clear a1 a2 a3 a4
  by_cases e0 : g = 0
  · have f0 : (g == 0) = true := by simpa using e0
    have E0 := Lib.hid e0
    clear e0
    go_enter Try.func114, Try.ntmps114
    go_wp2
    go_ret
    exact fin_int (by rw [A1.out E0.out]) ⟨w, rfl⟩
  · have f0 : (g == 0) = false := by simpa using e0
    by_cases e1 : g = 1
    · have f1 : (g == 1) = true := by simpa using e1
      have E1 := Lib.hid e1
      clear e0 e1
      go_enter Try.func114, Try.ntmps114
      go_wp2
      go_ret
      exact fin_int (by rw [A2.out E1.out]) ⟨w, rfl⟩
    · have f1 : (g == 1) = false := by simpa using e1
      have h1 : 1 < g := by omega
      clear e0 e1
      by_cases e2 : g ≤ n + 1
      · skip
        obtain ⟨t1, t2, t3, t4, t5, t6⟩ := div_facts (q := g - 1) (n := n) (by omega) (by omega) hn1
        go_enter Try.func114, Try.ntmps114
        go_wp2
        go_ret
        exact fin_int (by rw [A3.out (by omega) (by omega)]) ⟨w, rfl⟩
      · have e3 : n + 1 < g := by omega
        obtain ⟨t1, t2, t3, t4, t5, t6⟩ := div_facts (q := g) (n := n) (by omega) (by omega) hn1
        go_enter Try.func114, Try.ntmps114
        go_wp2
        go_ret
        exact fin_int (by rw [A4.out (by omega)]) ⟨w, rfl⟩

theorem l1Second_ans {W : World} (n g : Int) (hn : 2 ≤ n ∧ n ≤ 16) (hg : 0 ≤ g ∧ g < 16) (w : Ext W) :
    Calls Try.prog 115 #[.int .i64 n, .int .i64 g] w.w (Ans W (.int .i64 (secondN n g))) := by
  obtain ⟨hn1, hn2⟩ := hn
  obtain ⟨hg1, hg2⟩ := hg
  have a1 : g < 2 → g = secondN n g := fun e => by
    by_cases e0 : g = 0
    · subst e0; simp [secondN, placeN]
    · have e1 : g = 1 := by omega
      subst e1
      simp only [secondN, placeN, if_pos]
      rw [Int.add_emod_left, Int.emod_eq_of_lt (by omega) (by omega)]
  have a3 : 1 < g → g ≤ n + 1 → (g - 1) % n = secondN n g := fun e f => by simp only [secondN, placeN]; rw [if_neg (by omega), if_pos ⟨e, f⟩]
  have a4 : n + 1 < g → g % n = secondN n g := fun e => by simp only [secondN, placeN]; rw [if_neg (by omega), if_neg (by omega)]
  have A1 := Lib.hid a1
  have A3 := Lib.hid a3
  have A4 := Lib.hid a4
  clear a1 a3 a4
  by_cases e1 : g < 2
  · skip
    go_enter Try.func115, Try.ntmps115
    go_wp2
    go_ret
    exact fin_int (by exact A1.out (by omega)) ⟨w, rfl⟩
  · have h1 : 1 < g := by omega
    by_cases e2 : g ≤ n + 1
    · skip
      obtain ⟨t1, t2, t3, t4, t5, t6⟩ := div_facts (q := g - 1) (n := n) (by omega) (by omega) hn1
      go_enter Try.func115, Try.ntmps115
      go_wp2
      go_ret
      exact fin_int (by exact A3.out (by omega) (by omega)) ⟨w, rfl⟩
    · have e3 : n + 1 < g := by omega
      obtain ⟨t1, t2, t3, t4, t5, t6⟩ := div_facts (q := g) (n := n) (by omega) (by omega) hn1
      go_enter Try.func115, Try.ntmps115
      go_wp2
      go_ret
      exact fin_int (by exact A4.out (by omega)) ⟨w, rfl⟩

end Go.Proofs.Ytkokmpdmmfghhaa
