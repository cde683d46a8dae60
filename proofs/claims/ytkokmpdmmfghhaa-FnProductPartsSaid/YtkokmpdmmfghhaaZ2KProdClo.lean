/- The closures of the program's product of systems. -/
import Derived.Test.YtkokmpdmmfghhaaZ2KProdSpec
import Derived.Test.YtkokmpdmmfghhaaZ2KSysA
import Derived.Test.YtkokmpdmmfghhaaZ2KBits
import Derived.Test.YtkokmpdmmfghhaaZ2KPair
import Derived.Test.YtkokmpdmmfghhaaZ2KParts
set_option linter.unusedVariables false
set_option linter.unusedSimpArgs false
namespace Go.Proofs.Ytkokmpdmmfghhaa
open Go.RowKit

theorem prodSumA {W : World} {r : Ref} {s : Sys} (h : SysIn W r s) (t : Tables s) {m : Nat} (c0 : ∀ y : Ext W, y.w.cell? ⟨m, 0, none⟩ = some (.int .i64 s.n)) (c1 : ∀ y : Ext W, y.w.cell? ⟨m, 1, none⟩ = some (.slice r.pa s.plus.length r.pc)) (c2 : ∀ y : Ext W, y.w.cell? ⟨m, 2, none⟩ = some (.slice r.ta s.times.length r.tc)) (c3 : ∀ y : Ext W, y.w.cell? ⟨m, 3, none⟩ = some (.slice r.ba s.below.length r.bc)) (a b : Int) (ha : G s a) (hb : G s b) (y : Ext W) :
    Calls Try.prog 102 #[.int .i64 a, .int .i64 b, .pointer (some ⟨m, 0, none⟩)] y.w (Ans W (.int .i64 (s.add a b))) := by
  obtain ⟨yy, hyy⟩ : ∃ z : Ext W, y = z := ⟨y, rfl⟩
  rw [hyy]
  clear hyy
  have C : ∀ y : Ext W, Calls Try.prog 60 #[r.val s, .int .i64 a, .int .i64 b] y.w (Ans W (.int .i64 (s.add a b))) := fun y => sumIn_ans h t ha hb y
  unfold Ref.val at C
  generalize s.add a b = v at *
  go_enter Try.func102, Try.ntmps102
  go_wp2_with (go_at_call 60; with_reducible refine Calls.mono (C _) ?_; rintro e w' ⟨rfl, yy, rfl⟩)
  go_ret
  exact ⟨rfl, yy, rfl⟩

theorem prodSumB {W : World} {r : Ref} {s : Sys} (h : SysIn W r s) (t : Tables s) {m : Nat} (c0 : ∀ y : Ext W, y.w.cell? ⟨m, 0, none⟩ = some (.int .i64 s.n)) (c1 : ∀ y : Ext W, y.w.cell? ⟨m, 1, none⟩ = some (.slice r.pa s.plus.length r.pc)) (c2 : ∀ y : Ext W, y.w.cell? ⟨m, 2, none⟩ = some (.slice r.ta s.times.length r.tc)) (c3 : ∀ y : Ext W, y.w.cell? ⟨m, 3, none⟩ = some (.slice r.ba s.below.length r.bc)) (a b : Int) (ha : G s a) (hb : G s b) (y : Ext W) :
    Calls Try.prog 103 #[.int .i64 a, .int .i64 b, .pointer (some ⟨m, 0, none⟩)] y.w (Ans W (.int .i64 (s.add a b))) := by
  obtain ⟨yy, hyy⟩ : ∃ z : Ext W, y = z := ⟨y, rfl⟩
  rw [hyy]
  clear hyy
  have C : ∀ y : Ext W, Calls Try.prog 60 #[r.val s, .int .i64 a, .int .i64 b] y.w (Ans W (.int .i64 (s.add a b))) := fun y => sumIn_ans h t ha hb y
  unfold Ref.val at C
  generalize s.add a b = v at *
  go_enter Try.func103, Try.ntmps103
  go_wp2_with (go_at_call 60; with_reducible refine Calls.mono (C _) ?_; rintro e w' ⟨rfl, yy, rfl⟩)
  go_ret
  exact ⟨rfl, yy, rfl⟩

theorem prodMulA {W : World} {r : Ref} {s : Sys} (h : SysIn W r s) (t : Tables s) {m : Nat} (c0 : ∀ y : Ext W, y.w.cell? ⟨m, 0, none⟩ = some (.int .i64 s.n)) (c1 : ∀ y : Ext W, y.w.cell? ⟨m, 1, none⟩ = some (.slice r.pa s.plus.length r.pc)) (c2 : ∀ y : Ext W, y.w.cell? ⟨m, 2, none⟩ = some (.slice r.ta s.times.length r.tc)) (c3 : ∀ y : Ext W, y.w.cell? ⟨m, 3, none⟩ = some (.slice r.ba s.below.length r.bc)) (a b : Int) (ha : G s a) (hb : G s b) (y : Ext W) :
    Calls Try.prog 104 #[.int .i64 a, .int .i64 b, .pointer (some ⟨m, 0, none⟩)] y.w (Ans W (.int .i64 (s.mul a b))) := by
  obtain ⟨yy, hyy⟩ : ∃ z : Ext W, y = z := ⟨y, rfl⟩
  rw [hyy]
  clear hyy
  have C : ∀ y : Ext W, Calls Try.prog 62 #[r.val s, .int .i64 a, .int .i64 b] y.w (Ans W (.int .i64 (s.mul a b))) := fun y => productIn_ans h t ha hb y
  unfold Ref.val at C
  generalize s.mul a b = v at *
  go_enter Try.func104, Try.ntmps104
  go_wp2_with (go_at_call 62; with_reducible refine Calls.mono (C _) ?_; rintro e w' ⟨rfl, yy, rfl⟩)
  go_ret
  exact ⟨rfl, yy, rfl⟩

theorem prodMulB {W : World} {r : Ref} {s : Sys} (h : SysIn W r s) (t : Tables s) {m : Nat} (c0 : ∀ y : Ext W, y.w.cell? ⟨m, 0, none⟩ = some (.int .i64 s.n)) (c1 : ∀ y : Ext W, y.w.cell? ⟨m, 1, none⟩ = some (.slice r.pa s.plus.length r.pc)) (c2 : ∀ y : Ext W, y.w.cell? ⟨m, 2, none⟩ = some (.slice r.ta s.times.length r.tc)) (c3 : ∀ y : Ext W, y.w.cell? ⟨m, 3, none⟩ = some (.slice r.ba s.below.length r.bc)) (a b : Int) (ha : G s a) (hb : G s b) (y : Ext W) :
    Calls Try.prog 105 #[.int .i64 a, .int .i64 b, .pointer (some ⟨m, 0, none⟩)] y.w (Ans W (.int .i64 (s.mul a b))) := by
  obtain ⟨yy, hyy⟩ : ∃ z : Ext W, y = z := ⟨y, rfl⟩
  rw [hyy]
  clear hyy
  have C : ∀ y : Ext W, Calls Try.prog 62 #[r.val s, .int .i64 a, .int .i64 b] y.w (Ans W (.int .i64 (s.mul a b))) := fun y => productIn_ans h t ha hb y
  unfold Ref.val at C
  generalize s.mul a b = v at *
  go_enter Try.func105, Try.ntmps105
  go_wp2_with (go_at_call 62; with_reducible refine Calls.mono (C _) ?_; rintro e w' ⟨rfl, yy, rfl⟩)
  go_ret
  exact ⟨rfl, yy, rfl⟩

set_option maxHeartbeats 4000000 in
theorem prodAddClo {W : World} {A B : Sys} (ta : Tables A) (tb : Tables B) {ma mb m1 m2 : Nat}
    (n0 : ∀ y : Ext W, y.w.cell? ⟨mb, 0, none⟩ = some (.int .i64 B.n))
    (k1 : ∀ y : Ext W, y.w.cell? ⟨m1, 0, none⟩ = some (.func (.func 102) #[] #[.pointer (some ⟨ma, 0, none⟩)])) (k2 : ∀ y : Ext W, y.w.cell? ⟨m2, 0, none⟩ = some (.func (.func 103) #[] #[.pointer (some ⟨mb, 0, none⟩)]))
    (CA : ∀ (a b : Int) (_ : Go.Proofs.Ytkokmpdmmfghhaa.G A a) (_ : Go.Proofs.Ytkokmpdmmfghhaa.G A b) (y : Ext W), Calls Try.prog 102 #[.int .i64 a, .int .i64 b, .pointer (some ⟨ma, 0, none⟩)] y.w (Ans W (.int .i64 (A.add a b))))
    (CB : ∀ (a b : Int) (_ : Go.Proofs.Ytkokmpdmmfghhaa.G B a) (_ : Go.Proofs.Ytkokmpdmmfghhaa.G B b) (y : Ext W), Calls Try.prog 103 #[.int .i64 a, .int .i64 b, .pointer (some ⟨mb, 0, none⟩)] y.w (Ans W (.int .i64 (B.add a b))))
    (a b : Nat) (ha : (a : Int) < A.n * B.n) (hb : (b : Int) < A.n * B.n) (ha16 : a < 16) (hb16 : b < 16) (y : Ext W) :
    Calls Try.prog 99 #[.int .i64 a, .int .i64 b, .pointer (some ⟨mb, 0, none⟩), .pointer (some ⟨m1, 0, none⟩), .pointer (some ⟨m2, 0, none⟩)] y.w (Ans W (.int .i64 (pAddF A B a b))) := by
  have hA2 := ta.lo
  have hA16 := ta.hi
  have hB2 := tb.lo
  have hB16 := tb.hi
  have PA : ∀ y : Ext W, Calls Try.prog 100 #[.int .i64 B.n, .int .i64 a] y.w (Ans W (.tuple #[.int .i64 (firstN B.n a), .int .i64 (secondN B.n a)])) := fun y => pairOfNumber_ans B.n a ⟨hB2, hB16⟩ ⟨by omega, by omega⟩ y
  have PB : ∀ y : Ext W, Calls Try.prog 100 #[.int .i64 B.n, .int .i64 b] y.w (Ans W (.tuple #[.int .i64 (firstN B.n b), .int .i64 (secondN B.n b)])) := fun y => pairOfNumber_ans B.n b ⟨hB2, hB16⟩ ⟨by omega, by omega⟩ y
  have g1 := firstN_in (m := A.n) hA2 hB2 (g := a) (by omega) ha
  have g2 := firstN_in (m := A.n) hA2 hB2 (g := b) (by omega) hb
  have g3 := secondN_in (g := a) hB2
  have g4 := secondN_in (g := b) hB2
  have hfn : pAddF A B a b = pairN B.n (A.add (firstN B.n a) (firstN B.n b)) (B.add (secondN B.n a) (secondN B.n b)) := rfl
  rw [hfn]
  clear hfn
  generalize firstN B.n a = fa at *
  generalize firstN B.n b = fb at *
  generalize secondN B.n a = sa at *
  generalize secondN B.n b = sb at *
  have CA1 := CA fa fb g1 g2
  have CB1 := CB sa sb g3 g4
  have r1 := ta.addG g1 g2
  have r2 := tb.addG g3 g4
  have CP : ∀ y : Ext W, Calls Try.prog 101 #[.int .i64 B.n, .int .i64 (A.add fa fb), .int .i64 (B.add sa sb)] y.w (Ans W (.int .i64 (pairN B.n (A.add fa fb) (B.add sa sb)))) := fun y => numberOfPair_ans B.n _ _ _ ⟨hB2, hB16⟩ ⟨r1.1, by have := r1.2; omega⟩ r2 rfl y
  clear CA CB g1 g2 g3 g4 r1 r2
  generalize A.add fa fb = va at *
  generalize B.add sa sb = vb at *
  generalize pairN B.n va vb = vp at *
  obtain ⟨yy, hyy⟩ : ∃ z : Ext W, y = z := ⟨y, rfl⟩
  rw [hyy]
  clear hyy
  go_enter Try.func99, Try.ntmps99
  go_wp2_with (first | (go_at_call 100; with_reducible refine Calls.mono (PA _) ?_; rintro e w' ⟨rfl, yy, rfl⟩) | (go_at_call 100; with_reducible refine Calls.mono (PB _) ?_; rintro e w' ⟨rfl, yy, rfl⟩))
  refine region_ext yy (by kernel_rfl) (by kernel_rfl) ?_
  repeat (go_big_quiet_step (first | (go_at_call 102; with_reducible exact CA1 _) | (go_at_call 103; with_reducible exact CB1 _) | (go_at_call 101; with_reducible exact CP _)))
  refine wpQuiet_nil ?_
  rintro _ ⟨yy, rfl⟩
  go_wp2
  go_ret
  exact ⟨rfl, yy, rfl⟩

set_option maxHeartbeats 4000000 in
theorem prodMulClo {W : World} {A B : Sys} (ta : Tables A) (tb : Tables B) {ma mb m1 m2 : Nat}
    (n0 : ∀ y : Ext W, y.w.cell? ⟨mb, 0, none⟩ = some (.int .i64 B.n))
    (k1 : ∀ y : Ext W, y.w.cell? ⟨m1, 0, none⟩ = some (.func (.func 104) #[] #[.pointer (some ⟨ma, 0, none⟩)])) (k2 : ∀ y : Ext W, y.w.cell? ⟨m2, 0, none⟩ = some (.func (.func 105) #[] #[.pointer (some ⟨mb, 0, none⟩)]))
    (CA : ∀ (a b : Int) (_ : Go.Proofs.Ytkokmpdmmfghhaa.G A a) (_ : Go.Proofs.Ytkokmpdmmfghhaa.G A b) (y : Ext W), Calls Try.prog 104 #[.int .i64 a, .int .i64 b, .pointer (some ⟨ma, 0, none⟩)] y.w (Ans W (.int .i64 (A.mul a b))))
    (CB : ∀ (a b : Int) (_ : Go.Proofs.Ytkokmpdmmfghhaa.G B a) (_ : Go.Proofs.Ytkokmpdmmfghhaa.G B b) (y : Ext W), Calls Try.prog 105 #[.int .i64 a, .int .i64 b, .pointer (some ⟨mb, 0, none⟩)] y.w (Ans W (.int .i64 (B.mul a b))))
    (a b : Nat) (ha : (a : Int) < A.n * B.n) (hb : (b : Int) < A.n * B.n) (ha16 : a < 16) (hb16 : b < 16) (y : Ext W) :
    Calls Try.prog 99 #[.int .i64 a, .int .i64 b, .pointer (some ⟨mb, 0, none⟩), .pointer (some ⟨m1, 0, none⟩), .pointer (some ⟨m2, 0, none⟩)] y.w (Ans W (.int .i64 (pMulF A B a b))) := by
  have hA2 := ta.lo
  have hA16 := ta.hi
  have hB2 := tb.lo
  have hB16 := tb.hi
  have PA : ∀ y : Ext W, Calls Try.prog 100 #[.int .i64 B.n, .int .i64 a] y.w (Ans W (.tuple #[.int .i64 (firstN B.n a), .int .i64 (secondN B.n a)])) := fun y => pairOfNumber_ans B.n a ⟨hB2, hB16⟩ ⟨by omega, by omega⟩ y
  have PB : ∀ y : Ext W, Calls Try.prog 100 #[.int .i64 B.n, .int .i64 b] y.w (Ans W (.tuple #[.int .i64 (firstN B.n b), .int .i64 (secondN B.n b)])) := fun y => pairOfNumber_ans B.n b ⟨hB2, hB16⟩ ⟨by omega, by omega⟩ y
  have g1 := firstN_in (m := A.n) hA2 hB2 (g := a) (by omega) ha
  have g2 := firstN_in (m := A.n) hA2 hB2 (g := b) (by omega) hb
  have g3 := secondN_in (g := a) hB2
  have g4 := secondN_in (g := b) hB2
  have hfn : pMulF A B a b = pairN B.n (A.mul (firstN B.n a) (firstN B.n b)) (B.mul (secondN B.n a) (secondN B.n b)) := rfl
  rw [hfn]
  clear hfn
  generalize firstN B.n a = fa at *
  generalize firstN B.n b = fb at *
  generalize secondN B.n a = sa at *
  generalize secondN B.n b = sb at *
  have CA1 := CA fa fb g1 g2
  have CB1 := CB sa sb g3 g4
  have r1 := ta.mulG g1 g2
  have r2 := tb.mulG g3 g4
  have CP : ∀ y : Ext W, Calls Try.prog 101 #[.int .i64 B.n, .int .i64 (A.mul fa fb), .int .i64 (B.mul sa sb)] y.w (Ans W (.int .i64 (pairN B.n (A.mul fa fb) (B.mul sa sb)))) := fun y => numberOfPair_ans B.n _ _ _ ⟨hB2, hB16⟩ ⟨r1.1, by have := r1.2; omega⟩ r2 rfl y
  clear CA CB g1 g2 g3 g4 r1 r2
  generalize A.mul fa fb = va at *
  generalize B.mul sa sb = vb at *
  generalize pairN B.n va vb = vp at *
  obtain ⟨yy, hyy⟩ : ∃ z : Ext W, y = z := ⟨y, rfl⟩
  rw [hyy]
  clear hyy
  go_enter Try.func99, Try.ntmps99
  go_wp2_with (first | (go_at_call 100; with_reducible refine Calls.mono (PA _) ?_; rintro e w' ⟨rfl, yy, rfl⟩) | (go_at_call 100; with_reducible refine Calls.mono (PB _) ?_; rintro e w' ⟨rfl, yy, rfl⟩))
  refine region_ext yy (by kernel_rfl) (by kernel_rfl) ?_
  repeat (go_big_quiet_step (first | (go_at_call 104; with_reducible exact CA1 _) | (go_at_call 105; with_reducible exact CB1 _) | (go_at_call 101; with_reducible exact CP _)))
  refine wpQuiet_nil ?_
  rintro _ ⟨yy, rfl⟩
  go_wp2
  go_ret
  exact ⟨rfl, yy, rfl⟩

set_option maxHeartbeats 4000000 in
theorem prodLeClo {W : World} {r r' : Ref} {A B : Sys} (h : SysIn W r A) (k : SysIn W r' B) (ta : Tables A) (tb : Tables B) {ma mb : Nat} (c0 : ∀ y : Ext W, y.w.cell? ⟨ma, 0, none⟩ = some (.int .i64 A.n)) (c1 : ∀ y : Ext W, y.w.cell? ⟨ma, 1, none⟩ = some (.slice r.pa A.plus.length r.pc)) (c2 : ∀ y : Ext W, y.w.cell? ⟨ma, 2, none⟩ = some (.slice r.ta A.times.length r.tc)) (c3 : ∀ y : Ext W, y.w.cell? ⟨ma, 3, none⟩ = some (.slice r.ba A.below.length r.bc)) (d0 : ∀ y : Ext W, y.w.cell? ⟨mb, 0, none⟩ = some (.int .i64 B.n)) (d1 : ∀ y : Ext W, y.w.cell? ⟨mb, 1, none⟩ = some (.slice r'.pa B.plus.length r'.pc)) (d2 : ∀ y : Ext W, y.w.cell? ⟨mb, 2, none⟩ = some (.slice r'.ta B.times.length r'.tc)) (d3 : ∀ y : Ext W, y.w.cell? ⟨mb, 3, none⟩ = some (.slice r'.ba B.below.length r'.bc))
    (a b : Nat) (ha : (a : Int) < A.n * B.n) (hb : (b : Int) < A.n * B.n) (ha16 : a < 16) (hb16 : b < 16) (y : Ext W) :
    Calls Try.prog 106 #[.int .i64 a, .int .i64 b, .pointer (some ⟨mb, 0, none⟩), .pointer (some ⟨ma, 0, none⟩)] y.w (Ans W (.bool (pBothF A B a b))) := by
  have hA2 := ta.lo
  have hA16 := ta.hi
  have hB2 := tb.lo
  have hB16 := tb.hi
  have PA : ∀ y : Ext W, Calls Try.prog 100 #[.int .i64 B.n, .int .i64 a] y.w (Ans W (.tuple #[.int .i64 (firstN B.n a), .int .i64 (secondN B.n a)])) := fun y => pairOfNumber_ans B.n a ⟨hB2, hB16⟩ ⟨by omega, by omega⟩ y
  have PB : ∀ y : Ext W, Calls Try.prog 100 #[.int .i64 B.n, .int .i64 b] y.w (Ans W (.tuple #[.int .i64 (firstN B.n b), .int .i64 (secondN B.n b)])) := fun y => pairOfNumber_ans B.n b ⟨hB2, hB16⟩ ⟨by omega, by omega⟩ y
  have g1 := firstN_in (m := A.n) hA2 hB2 (g := a) (by omega) ha
  have g2 := firstN_in (m := A.n) hA2 hB2 (g := b) (by omega) hb
  have g3 := secondN_in (g := a) hB2
  have g4 := secondN_in (g := b) hB2
  have hfn : pBothF A B a b = (A.le (firstN B.n a) (firstN B.n b) && B.le (secondN B.n a) (secondN B.n b)) := rfl
  rw [hfn]
  clear hfn
  generalize firstN B.n a = fa at *
  generalize firstN B.n b = fb at *
  generalize secondN B.n a = sa at *
  generalize secondN B.n b = sb at *
  cases hle : A.le fa fb
  all_goals
    have CA : ∀ y : Ext W, Calls Try.prog 63 #[r.val A, .int .i64 fa, .int .i64 fb] y.w (Ans W (.bool _)) := fun y => belowIn_is h ta g1 g2 hle y
    have CB : ∀ y : Ext W, Calls Try.prog 63 #[r'.val B, .int .i64 sa, .int .i64 sb] y.w (Ans W (.bool (B.le sa sb))) := fun y => belowIn_ans k tb g3 g4 y
    generalize B.le sa sb = vb at *
    unfold Ref.val at CA CB
    clear hle g1 g2 g3 g4
    obtain ⟨yy, hyy⟩ : ∃ z : Ext W, y = z := ⟨y, rfl⟩
    rw [hyy]
    clear hyy
    go_enter Try.func106, Try.ntmps106
    go_wp2_with (first | (go_at_call 100; with_reducible refine Calls.mono (PA _) ?_; rintro e w' ⟨rfl, yy, rfl⟩) | (go_at_call 100; with_reducible refine Calls.mono (PB _) ?_; rintro e w' ⟨rfl, yy, rfl⟩) | (go_at_call 63; with_reducible refine Calls.mono (CA _) ?_; rintro e w' ⟨rfl, yy, rfl⟩) | (go_at_call 63; with_reducible refine Calls.mono (CB _) ?_; rintro e w' ⟨rfl, yy, rfl⟩))
    go_ret
    exact ⟨by first | rfl | simp, yy, rfl⟩


theorem byAdd {W : World} (ma mb : Nat) (x : Ext W) :
    Calls Try.prog 98 #[.func (.func 102) #[] #[.pointer (some ⟨ma, 0, none⟩)], .func (.func 103) #[] #[.pointer (some ⟨mb, 0, none⟩)], .pointer (some ⟨mb, 0, none⟩)] x.w (fun e w' => ∃ (g1 g2 : Nat) (y : Ext W), e = .returned (.func (.func 99) #[] #[.pointer (some ⟨mb, 0, none⟩), .pointer (some ⟨g1, 0, none⟩), .pointer (some ⟨g2, 0, none⟩)]) ∧ w' = y.w ∧
      (∀ z : Ext y.w, z.w.cell? ⟨g1, 0, none⟩ = some (.func (.func 102) #[] #[.pointer (some ⟨ma, 0, none⟩)])) ∧ (∀ z : Ext y.w, z.w.cell? ⟨g2, 0, none⟩ = some (.func (.func 103) #[] #[.pointer (some ⟨mb, 0, none⟩)]))) := by
  go_enter Try.func98, Try.ntmps98
  go_wp2
  generalize hW : (x.w.alloc _).alloc _ = W1
  generalize hB : x.w.heap.size = B at *
  obtain ⟨b1, b2, _, bel⟩ := blocks2 hB hW
  have belW : Below W.heap.size W W1 := x.below.trans (bel.mono (by have := x.size; omega))
  clear hW bel
  go_ret
  exact ⟨B, B + 1, ⟨W1, belW⟩, rfl, rfl, fun z => blk_cell (z.blk b1) 0, fun z => blk_cell (z.blk b2) 0⟩

theorem byMul {W : World} (ma mb : Nat) (x : Ext W) :
    Calls Try.prog 98 #[.func (.func 104) #[] #[.pointer (some ⟨ma, 0, none⟩)], .func (.func 105) #[] #[.pointer (some ⟨mb, 0, none⟩)], .pointer (some ⟨mb, 0, none⟩)] x.w (fun e w' => ∃ (g1 g2 : Nat) (y : Ext W), e = .returned (.func (.func 99) #[] #[.pointer (some ⟨mb, 0, none⟩), .pointer (some ⟨g1, 0, none⟩), .pointer (some ⟨g2, 0, none⟩)]) ∧ w' = y.w ∧
      (∀ z : Ext y.w, z.w.cell? ⟨g1, 0, none⟩ = some (.func (.func 104) #[] #[.pointer (some ⟨ma, 0, none⟩)])) ∧ (∀ z : Ext y.w, z.w.cell? ⟨g2, 0, none⟩ = some (.func (.func 105) #[] #[.pointer (some ⟨mb, 0, none⟩)]))) := by
  go_enter Try.func98, Try.ntmps98
  go_wp2
  generalize hW : (x.w.alloc _).alloc _ = W1
  generalize hB : x.w.heap.size = B at *
  obtain ⟨b1, b2, _, bel⟩ := blocks2 hB hW
  have belW : Below W.heap.size W W1 := x.below.trans (bel.mono (by have := x.size; omega))
  clear hW bel
  go_ret
  exact ⟨B, B + 1, ⟨W1, belW⟩, rfl, rfl, fun z => blk_cell (z.blk b1) 0, fun z => blk_cell (z.blk b2) 0⟩

end Go.Proofs.Ytkokmpdmmfghhaa
