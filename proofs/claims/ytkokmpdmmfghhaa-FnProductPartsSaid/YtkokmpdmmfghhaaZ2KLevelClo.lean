/- The closures of the systems of levels. -/
import Derived.Test.YtkokmpdmmfghhaaZ2KBuildS
import Derived.BigQuiet
import Derived.WalkLawsBesides
set_option linter.unusedVariables false
set_option linter.unusedSimpArgs false
namespace Go.Proofs.Ytkokmpdmmfghhaa
open Go.RowKit

/-- The place of a grade in the order 0, n, .. 1, and the grade at a place. -/
def placeL (n p : Int) : Int := if p = 0 then 0 else n + 1 - p
theorem placeL_in {n p : Int} (h0 : 0 ≤ p) (h1 : p ≤ n) : 0 ≤ placeL n p ∧ placeL n p ≤ n := by unfold placeL; split <;> omega

theorem placeClo {W : World} {mc : Nat} {n : Int} (hn : 0 ≤ n ∧ n ≤ 15) (hm : ∀ y : Ext W, y.w.cell? ⟨mc, 0, none⟩ = some (.int .i64 n)) (p : Int) (h0 : 0 ≤ p) (h1 : p ≤ 100) (y : Ext W) :
    Calls Try.prog 72 #[.int .i64 p, .pointer (some ⟨mc, 0, none⟩)] y.w (Ans W (.int .i64 (placeL n p))) := by
  obtain ⟨hn0, hn1⟩ := hn
  by_cases h : p = 0
  · subst h
    rw [show placeL n 0 = 0 by simp [placeL]]
    go_enter Try.func72, Try.ntmps72
    go_wp2
    go_ret
    exact ⟨rfl, y, rfl⟩
  · rw [show placeL n p = n + 1 - p by simp [placeL, h]]
    have f : (p == 0) = false := by simpa using h
    clear h
    go_enter Try.func72, Try.ntmps72
    go_wp2
    go_ret
    exact ⟨rfl, y, rfl⟩

set_option maxHeartbeats 4000000 in
theorem highClo {W : World} {mc pc : Nat} {n : Int} (hn : 0 ≤ n ∧ n ≤ 15) (hm : ∀ y : Ext W, y.w.cell? ⟨mc, 0, none⟩ = some (.int .i64 n)) (hp : ∀ y : Ext W, y.w.cell? ⟨pc, 0, none⟩ = some (.func (.func 72) #[] #[.pointer (some ⟨mc, 0, none⟩)]))
    (a b : Nat) (ha : (a : Int) ≤ n) (hb : (b : Int) ≤ n) (y : Ext W) :
    Calls Try.prog 74 #[.int .i64 a, .int .i64 b, .pointer (some ⟨pc, 0, none⟩)] y.w (Ans W (.int .i64 (placeL n (max (placeL n a) (placeL n b))))) := by
  have A := placeL_in (n := n) (p := a) (by omega) ha
  have B := placeL_in (n := n) (p := b) (by omega) hb
  have CA : ∀ y : Ext W, Calls Try.prog 72 #[.int .i64 a, .pointer (some ⟨mc, 0, none⟩)] y.w (Ans W (.int .i64 (placeL n a))) := fun y => placeClo hn hm a (by omega) (by omega) y
  have CB : ∀ y : Ext W, Calls Try.prog 72 #[.int .i64 b, .pointer (some ⟨mc, 0, none⟩)] y.w (Ans W (.int .i64 (placeL n b))) := fun y => placeClo hn hm b (by omega) (by omega) y
  generalize hpa : placeL n a = pa at *
  generalize hpb : placeL n b = pb at *
  obtain ⟨yy, hyy⟩ : ∃ z : Ext W, y = z := ⟨y, rfl⟩
  rw [hyy]
  clear hyy
  have hmx : (if pa < pb then pb else pa) = max pa pb := by split <;> omega
  have CC : ∀ y : Ext W, Calls Try.prog 72 #[.int .i64 (if pa < pb then pb else pa), .pointer (some ⟨mc, 0, none⟩)] y.w (Ans W (.int .i64 (placeL n (max pa pb)))) := fun y => by rw [hmx]; exact placeClo hn hm (max pa pb) (by omega) (by omega) y
  clear hpa hpb hmx
  go_enter Try.func74, Try.ntmps74
  go_wp2
  refine region_ext yy (by kernel_rfl) (by kernel_rfl) ?_
  repeat (go_big_quiet_step (first | (go_at_call 72; with_reducible exact CA _) | (go_at_call 72; with_reducible exact CB _) | (go_at_call 72; with_reducible exact CC _)))
  refine wpQuiet_nil ?_
  rintro _ ⟨yy, rfl⟩
  go_wp2 <;> (go_ret; exact ⟨rfl, yy, rfl⟩)

set_option maxHeartbeats 4000000 in
theorem lowClo {W : World} {mc pc : Nat} {n : Int} (hn : 0 ≤ n ∧ n ≤ 15) (hm : ∀ y : Ext W, y.w.cell? ⟨mc, 0, none⟩ = some (.int .i64 n)) (hp : ∀ y : Ext W, y.w.cell? ⟨pc, 0, none⟩ = some (.func (.func 72) #[] #[.pointer (some ⟨mc, 0, none⟩)]))
    (a b : Nat) (ha : (a : Int) ≤ n) (hb : (b : Int) ≤ n) (y : Ext W) :
    Calls Try.prog 75 #[.int .i64 a, .int .i64 b, .pointer (some ⟨pc, 0, none⟩)] y.w (Ans W (.int .i64 (placeL n (min (placeL n a) (placeL n b))))) := by
  have A := placeL_in (n := n) (p := a) (by omega) ha
  have B := placeL_in (n := n) (p := b) (by omega) hb
  have CA : ∀ y : Ext W, Calls Try.prog 72 #[.int .i64 a, .pointer (some ⟨mc, 0, none⟩)] y.w (Ans W (.int .i64 (placeL n a))) := fun y => placeClo hn hm a (by omega) (by omega) y
  have CB : ∀ y : Ext W, Calls Try.prog 72 #[.int .i64 b, .pointer (some ⟨mc, 0, none⟩)] y.w (Ans W (.int .i64 (placeL n b))) := fun y => placeClo hn hm b (by omega) (by omega) y
  generalize hpa : placeL n a = pa at *
  generalize hpb : placeL n b = pb at *
  obtain ⟨yy, hyy⟩ : ∃ z : Ext W, y = z := ⟨y, rfl⟩
  rw [hyy]
  clear hyy
  have hmx : (if pb < pa then pb else pa) = min pa pb := by split <;> omega
  have CC : ∀ y : Ext W, Calls Try.prog 72 #[.int .i64 (if pb < pa then pb else pa), .pointer (some ⟨mc, 0, none⟩)] y.w (Ans W (.int .i64 (placeL n (min pa pb)))) := fun y => by rw [hmx]; exact placeClo hn hm (min pa pb) (by omega) (by omega) y
  clear hpa hpb hmx
  go_enter Try.func75, Try.ntmps75
  go_wp2
  refine region_ext yy (by kernel_rfl) (by kernel_rfl) ?_
  repeat (go_big_quiet_step (first | (go_at_call 72; with_reducible exact CA _) | (go_at_call 72; with_reducible exact CB _) | (go_at_call 72; with_reducible exact CC _)))
  refine wpQuiet_nil ?_
  rintro _ ⟨yy, rfl⟩
  go_wp2 <;> (go_ret; exact ⟨rfl, yy, rfl⟩)

set_option maxHeartbeats 4000000 in
theorem belowClo {W : World} {mc pc : Nat} {n : Int} (hn : 0 ≤ n ∧ n ≤ 15) (hm : ∀ y : Ext W, y.w.cell? ⟨mc, 0, none⟩ = some (.int .i64 n)) (hp : ∀ y : Ext W, y.w.cell? ⟨pc, 0, none⟩ = some (.func (.func 72) #[] #[.pointer (some ⟨mc, 0, none⟩)]))
    (a b : Nat) (ha : (a : Int) ≤ n) (hb : (b : Int) ≤ n) (y : Ext W) :
    Calls Try.prog 76 #[.int .i64 a, .int .i64 b, .pointer (some ⟨pc, 0, none⟩)] y.w (Ans W (.bool (decide (placeL n a ≤ placeL n b)))) := by
  have CA : ∀ y : Ext W, Calls Try.prog 72 #[.int .i64 a, .pointer (some ⟨mc, 0, none⟩)] y.w (Ans W (.int .i64 (placeL n a))) := fun y => placeClo hn hm a (by omega) (by omega) y
  have CB : ∀ y : Ext W, Calls Try.prog 72 #[.int .i64 b, .pointer (some ⟨mc, 0, none⟩)] y.w (Ans W (.int .i64 (placeL n b))) := fun y => placeClo hn hm b (by omega) (by omega) y
  generalize placeL n a = pa at *
  generalize placeL n b = pb at *
  obtain ⟨yy, hyy⟩ : ∃ z : Ext W, y = z := ⟨y, rfl⟩
  rw [hyy]
  clear hyy
  go_enter Try.func76, Try.ntmps76
  go_wp2
  refine region_ext yy (by kernel_rfl) (by kernel_rfl) ?_
  repeat (go_big_quiet_step (first | (go_at_call 72; with_reducible exact CA _) | (go_at_call 72; with_reducible exact CB _)))
  refine wpQuiet_nil ?_
  rintro _ ⟨yy, rfl⟩
  go_wp2
  go_ret
  exact ⟨rfl, yy, rfl⟩

end Go.Proofs.Ytkokmpdmmfghhaa
