/- How many variables an op adds, of any op. -/
import Derived.Test.YtoefeijnnnioeaaDoorZ1GF
import Derived.Test.YtoefeijnnnioeaaDoorZ1GA
set_option linter.unusedVariables false
set_option linter.unusedSimpArgs false
namespace Go.Proofs.YtoefeijnnnioeaaDoor
open Go.RowKit

/-- All numbers N of a term are ints. -/
inductive TmNB : Tm → Prop
  | mk (t : Tm) (lo : -9223372036854775808 ≤ t.n) (hi : t.n ≤ 9223372036854775807) (kid : ∀ k ∈ t.kids, TmNB k) : TmNB t
theorem TmNB.lo {t : Tm} (h : TmNB t) : -9223372036854775808 ≤ t.n := by cases h with | mk _ l _ _ => exact l
theorem TmNB.hi {t : Tm} (h : TmNB t) : t.n ≤ 9223372036854775807 := by cases h with | mk _ _ l _ => exact l
theorem TmNB.kid {t k : Tm} (h : TmNB t) (hk : k ∈ t.kids) : TmNB k := by cases h with | mk _ _ _ kid => exact kid k hk
set_option maxHeartbeats 8000000 in
theorem l2AddsU_ans {W : World} (op : Int) (k : Nat) (x : Ext W) : Calls Tryd.prog 153 #[.int .i64 op, .int .i64 k] x.w (Ans W (.int .i64 (addsO op k))) := by
  obtain ⟨yy, hyy⟩ : ∃ y : Ext W, x = y := ⟨x, rfl⟩
  rw [hyy]
  clear hyy
  by_cases e5 : op = 5
  · subst e5
    by_cases ek : k = 1
    · have g1 : ((k : Int) == 1) = true := by rw [beq_iff_eq]; omega
      obtain ⟨m, hm⟩ : ∃ m, m = addsO 5 k := ⟨_, rfl⟩
      have hm2 : 2 = m := by rw [hm]; unfold addsO; simp [ek]
      have HM := Lib.hid hm2
      rw [← hm]
      clear hm hm2 ek
      go_enter Tryd.func153, Tryd.ntmps153
      go_wp2
      go_ret
      exact fin_int HM.out ⟨yy, rfl⟩
    · have g1 : ((k : Int) == 1) = false := by rw [beq_eq_false_iff_ne]; omega
      obtain ⟨m, hm⟩ : ∃ m, m = addsO 5 k := ⟨_, rfl⟩
      have hm2 : 0 = m := by rw [hm]; unfold addsO; simp [ek]
      have HM := Lib.hid hm2
      rw [← hm]
      clear hm hm2 ek
      go_enter Tryd.func153, Tryd.ntmps153
      go_wp2
      go_ret
      exact fin_int HM.out ⟨yy, rfl⟩
  by_cases e8 : op = 8
  · subst e8
    by_cases ek : 0 < k
    · have g0 : decide (0 < k) = true := by simp; omega
      obtain ⟨m, hm⟩ : ∃ m, m = addsO 8 k := ⟨_, rfl⟩
      have hm2 : 1 = m := by rw [hm]; unfold addsO; simp [ek]
      have HM := Lib.hid hm2
      rw [← hm]
      clear hm hm2 ek
      go_enter Tryd.func153, Tryd.ntmps153
      go_wp2
      go_ret
      exact fin_int HM.out ⟨yy, rfl⟩
    · have g0 : decide (0 < k) = false := by simp; omega
      obtain ⟨m, hm⟩ : ∃ m, m = addsO 8 k := ⟨_, rfl⟩
      have hm2 : 0 = m := by rw [hm]; unfold addsO; simp [ek]
      have HM := Lib.hid hm2
      rw [← hm]
      clear hm hm2 ek
      go_enter Tryd.func153, Tryd.ntmps153
      go_wp2
      go_ret
      exact fin_int HM.out ⟨yy, rfl⟩
  by_cases e9 : op = 9
  · subst e9
    obtain ⟨m, hm⟩ : ∃ m, m = addsO 9 k := ⟨_, rfl⟩
    have hm2 : 1 = m := by rw [hm]; unfold addsO; simp
    have HM := Lib.hid hm2
    rw [← hm]
    clear hm hm2
    go_enter Tryd.func153, Tryd.ntmps153
    go_wp2
    go_ret
    exact fin_int HM.out ⟨yy, rfl⟩
  by_cases e12 : op = 12
  · subst e12
    by_cases ek : k = 1
    · have g1 : ((k : Int) == 1) = true := by rw [beq_iff_eq]; omega
      obtain ⟨m, hm⟩ : ∃ m, m = addsO 12 k := ⟨_, rfl⟩
      have hm2 : 1 = m := by rw [hm]; unfold addsO; simp [ek]
      have HM := Lib.hid hm2
      rw [← hm]
      clear hm hm2 ek
      go_enter Tryd.func153, Tryd.ntmps153
      go_wp2
      go_ret
      exact fin_int HM.out ⟨yy, rfl⟩
    · have g1 : ((k : Int) == 1) = false := by rw [beq_eq_false_iff_ne]; omega
      obtain ⟨m, hm⟩ : ∃ m, m = addsO 12 k := ⟨_, rfl⟩
      have hm2 : 0 = m := by rw [hm]; unfold addsO; simp [ek]
      have HM := Lib.hid hm2
      rw [← hm]
      clear hm hm2 ek
      go_enter Tryd.func153, Tryd.ntmps153
      go_wp2
      go_ret
      exact fin_int HM.out ⟨yy, rfl⟩
  have f5 : (op == 5) = false := by simpa using e5
  have f8 : (op == 8) = false := by simpa using e8
  have f9 : (op == 9) = false := by simpa using e9
  have f12 : (op == 12) = false := by simpa using e12
  obtain ⟨m, hm⟩ : ∃ m, m = addsO op k := ⟨_, rfl⟩
  have hm2 : 0 = m := by rw [hm]; unfold addsO; rw [if_neg (fun q => e5 q.1), if_neg]; omega
  have HM := Lib.hid hm2
  rw [← hm]
  clear hm hm2 e5 e8 e9 e12
  go_enter Tryd.func153, Tryd.ntmps153
  go_wp2
  go_ret
  exact fin_int HM.out ⟨yy, rfl⟩

end Go.Proofs.YtoefeijnnnioeaaDoor
