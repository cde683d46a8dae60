/- The program's parts of products. -/
import Derived.Test.YtkokmpdmmfghhaaZ2KSysA
import Derived.Test.YtkokmpdmmfghhaaZ2HA
set_option linter.unusedVariables false
set_option linter.unusedSimpArgs false
namespace Go.Proofs.Ytkokmpdmmfghhaa
open Go.RowKit

set_option maxHeartbeats 1600000 in
theorem numberOfPair_ans {W : World} (n x y v : Int) (hn : 2 ≤ n ∧ n ≤ 16) (hx : 0 ≤ x ∧ x < 16) (hy : 0 ≤ y ∧ y < n) (hv : v = pairN n x y) (w : Ext W) :
    Calls Try.prog 101 #[.int .i64 n, .int .i64 x, .int .i64 y] w.w (Ans W (.int .i64 v)) := by
  have HV := Lib.hid hv
  clear hv
  obtain ⟨q0, q1⟩ := mul_bounds hx.1 hx.2 (by omega : 0 ≤ n) hn.2
  obtain ⟨hn1, hn2⟩ := hn
  obtain ⟨hy1, hy2⟩ := hy
  have b1 : 0 ≤ x * n + y := by omega
  have b2 : x * n + y ≤ 255 := by omega
  by_cases e1 : x * n + y = n + 1
  · have f1 : (x * n + y == n + 1) = true := by simpa using e1
    have E1 := Lib.hid e1
    clear e1
    go_enter Try.func101, Try.ntmps101
    go_wp2
    go_ret
    exact fin_int (by rw [HV.out, pairN, if_pos E1.out]) ⟨w, rfl⟩
  · have f1 : (x * n + y == n + 1) = false := by simpa using e1
    have E1 := Lib.hid e1
    clear e1
    by_cases e2 : 0 < x * n + y
    · by_cases e3 : x * n + y < n + 1
      · go_enter Try.func101, Try.ntmps101
        go_wp2
        go_ret
        exact fin_int (by rw [HV.out, pairN, if_neg E1.out, if_pos ⟨e2, e3⟩]) ⟨w, rfl⟩
      · go_enter Try.func101, Try.ntmps101
        go_wp2
        go_ret
        exact fin_int (by rw [HV.out, pairN, if_neg E1.out, if_neg (by omega)]) ⟨w, rfl⟩
    · go_enter Try.func101, Try.ntmps101
      go_wp2
      go_ret
      exact fin_int (by rw [HV.out, pairN, if_neg E1.out, if_neg (by omega)]) ⟨w, rfl⟩

set_option maxHeartbeats 1600000 in
theorem haveProduct_ans {W : World} {r r' : Ref} {A B : Sys} (h : SysIn W r A) (k : SysIn W r' B) (p : Bool) (hp : p = true ↔ HasProduct A B) (x : Ext W) :
    Calls Try.prog 97 #[r.val A, r'.val B] x.w (Ans W (.bool p)) := by
  have HP := Lib.hid hp
  clear hp
  unfold Ref.val
  by_cases isA : IsSys A
  · have hA2 := isA.tab.lo
    have hA16 := isA.tab.hi
    have ISA := Lib.hid isA
    clear isA
    by_cases isB : IsSys B
    · have hB2 := isB.tab.lo
      have hB16 := isB.tab.hi
      have ISB := Lib.hid isB
      clear isB
      have hm : 0 ≤ A.n * B.n ∧ A.n * B.n ≤ 256 := by
        have h1 : 0 ≤ A.n * B.n := Int.mul_nonneg (by omega) (by omega)
        have h2 : A.n * B.n ≤ 16 * B.n := Int.mul_le_mul_of_nonneg_right (by omega) (by omega)
        omega
      obtain ⟨m1, m2⟩ := hm
      by_cases e : A.n * B.n ≤ 16
      · have e' : decide (A.n * B.n ≤ 16) = true := by rw [decide_eq_true_eq]; exact e
        have E := Lib.hid e
        clear e
        go_enter Try.func97, Try.ntmps97
        go_wp2_with fail
        generalize hW : (x.w.alloc _).alloc _ = W1
        generalize hB : x.w.heap.size = B0
        obtain ⟨c0, c1, c2, c3, d0, d1, d2, d3, h1, k1, hback, yy, hy0⟩ := boxed2 h k x hB hW
        clear hW hB
        rw [← hy0]
        clear hy0
        (with_reducible refine Calls.mono (isSystem_ans h1 true (by refine iff_tf ?_; dsimp only; exact ISA.out) _) ?_)
        rintro e w' ⟨rfl, yy, rfl⟩
        go_wp2_with fail
        (with_reducible refine Calls.mono (isSystem_ans k1 true (by refine iff_tf ?_; dsimp only; exact ISB.out) _) ?_)
        rintro e w' ⟨rfl, yy, rfl⟩
        go_wp2_with fail
        go_ret
        exact fin_true HP ⟨ISA.out, ISB.out, E.out⟩ (hback yy)
      · have e' : decide (A.n * B.n ≤ 16) = false := by rw [decide_eq_false_iff_not]; omega
        have E := Lib.hid e
        clear e
        go_enter Try.func97, Try.ntmps97
        go_wp2_with fail
        generalize hW : (x.w.alloc _).alloc _ = W1
        generalize hB : x.w.heap.size = B0
        obtain ⟨c0, c1, c2, c3, d0, d1, d2, d3, h1, k1, hback, yy, hy0⟩ := boxed2 h k x hB hW
        clear hW hB
        rw [← hy0]
        clear hy0
        (with_reducible refine Calls.mono (isSystem_ans h1 true (by refine iff_tf ?_; dsimp only; exact ISA.out) _) ?_)
        rintro e w' ⟨rfl, yy, rfl⟩
        go_wp2_with fail
        (with_reducible refine Calls.mono (isSystem_ans k1 true (by refine iff_tf ?_; dsimp only; exact ISB.out) _) ?_)
        rintro e w' ⟨rfl, yy, rfl⟩
        go_wp2_with fail
        go_ret
        exact fin_false HP (fun q => by have := q.2.2; have := E.out; omega) (hback yy)
    · have ISB := Lib.hid isB
      clear isB
      go_enter Try.func97, Try.ntmps97
      go_wp2_with fail
      generalize hW : (x.w.alloc _).alloc _ = W1
      generalize hB : x.w.heap.size = B0
      obtain ⟨c0, c1, c2, c3, d0, d1, d2, d3, h1, k1, hback, yy, hy0⟩ := boxed2 h k x hB hW
      clear hW hB
      rw [← hy0]
      clear hy0
      (with_reducible refine Calls.mono (isSystem_ans h1 true (by refine iff_tf ?_; dsimp only; exact ISA.out) _) ?_)
      rintro e w' ⟨rfl, yy, rfl⟩
      go_wp2_with fail
      (with_reducible refine Calls.mono (isSystem_ans k1 false (by refine iff_tf ?_; dsimp only; exact ISB.out) _) ?_)
      rintro e w' ⟨rfl, yy, rfl⟩
      go_wp2_with fail
      go_ret
      exact fin_false HP (fun q => ISB.out q.2.1) (hback yy)
  · have ISA := Lib.hid isA
    clear isA
    go_enter Try.func97, Try.ntmps97
    go_wp2_with fail
    generalize hW : (x.w.alloc _).alloc _ = W1
    generalize hB : x.w.heap.size = B0
    obtain ⟨c0, c1, c2, c3, d0, d1, d2, d3, h1, k1, hback, yy, hy0⟩ := boxed2 h k x hB hW
    clear hW hB
    rw [← hy0]
    clear hy0
    (with_reducible refine Calls.mono (isSystem_ans h1 false (by refine iff_tf ?_; dsimp only; exact ISA.out) _) ?_)
    rintro e w' ⟨rfl, yy, rfl⟩
    go_wp2_with fail
    go_ret
    exact fin_false HP (fun q => ISA.out q.1) (hback yy)

/-- The answer of PairGrades. -/
def OutPair (A B : Sys) (x y v : Int) : Prop := (HasProduct A B ∧ (0 ≤ x ∧ x < A.n) ∧ (0 ≤ y ∧ y < B.n) ∧ v = pairN B.n x y) ∨ (¬ (HasProduct A B ∧ (0 ≤ x ∧ x < A.n) ∧ (0 ≤ y ∧ y < B.n)) ∧ v = -1)

set_option maxHeartbeats 1600000 in
theorem pairGrades_ans {W : World} {r r' : Ref} {A B : Sys} (h : SysIn W r A) (k : SysIn W r' B) (a b v : Int) (hv : OutPair A B a b v) (x : Ext W) :
    Calls Try.prog 36 #[r.val A, r'.val B, .int .i64 a, .int .i64 b] x.w (Ans W (.int .i64 v)) := by
  unfold Ref.val
  rcases hv with ⟨hq, hx, hy, hv⟩ | ⟨hn, hv⟩
  · have HQ := Lib.hid hq
    have HX := Lib.hid hx
    have HY := Lib.hid hy
    have HV := Lib.hid hv
    have hb2 := hq.2.1.tab.lo
    have hb16 := hq.2.1.tab.hi
    have ha16 := hq.1.tab.hi
    clear hq hv
    go_enter Try.func36, Try.ntmps36
    go_wp2_with fail
    generalize hW : (x.w.alloc _).alloc _ = W1
    generalize hB : x.w.heap.size = B0
    obtain ⟨c0, c1, c2, c3, d0, d1, d2, d3, h1, k1, hback, yy, hy0⟩ := boxed2 h k x hB hW
    clear hW hB
    rw [← hy0]
    clear hy0
    (with_reducible refine Calls.mono (haveProduct_ans h1 k1 true (by refine iff_tf ?_; dsimp only; exact HQ.out) _) ?_)
    rintro e w' ⟨rfl, yy, rfl⟩
    go_wp2_with fail
    (with_reducible refine Calls.mono (inRange_ans a A.n true (by refine iff_tf ?_; dsimp only; exact HX.out) _) ?_)
    rintro e w' ⟨rfl, yy, rfl⟩
    go_wp2_with fail
    (with_reducible refine Calls.mono (inRange_ans b B.n true (by refine iff_tf ?_; dsimp only; exact HY.out) _) ?_)
    rintro e w' ⟨rfl, yy, rfl⟩
    go_wp2_with fail
    (with_reducible refine Calls.mono (numberOfPair_ans B.n a b (pairN B.n a b) ⟨by omega, by omega⟩ ⟨by omega, by omega⟩ ⟨by omega, by omega⟩ rfl _) ?_)
    rintro e w' ⟨rfl, yy, rfl⟩
    go_wp2_with fail
    go_ret
    exact fin_int HV.out.symm (hback yy)
  · have HV := Lib.hid hv
    have HN := Lib.hid hn
    clear hv hn
    by_cases hq : HasProduct A B
    · have HQ := Lib.hid hq
      clear hq
      by_cases hx : 0 ≤ a ∧ a < A.n
      · have HX := Lib.hid hx
        clear hx
        have hy : ¬ (0 ≤ b ∧ b < B.n) := fun q => HN.out ⟨HQ.out, HX.out, q⟩
        have HY := Lib.hid hy
        clear hy
        go_enter Try.func36, Try.ntmps36
        go_wp2_with fail
        generalize hW : (x.w.alloc _).alloc _ = W1
        generalize hB : x.w.heap.size = B0
        obtain ⟨c0, c1, c2, c3, d0, d1, d2, d3, h1, k1, hback, yy, hy0⟩ := boxed2 h k x hB hW
        clear hW hB
        rw [← hy0]
        clear hy0
        (with_reducible refine Calls.mono (haveProduct_ans h1 k1 true (by refine iff_tf ?_; dsimp only; exact HQ.out) _) ?_)
        rintro e w' ⟨rfl, yy, rfl⟩
        go_wp2_with fail
        (with_reducible refine Calls.mono (inRange_ans a A.n true (by refine iff_tf ?_; dsimp only; exact HX.out) _) ?_)
        rintro e w' ⟨rfl, yy, rfl⟩
        go_wp2_with fail
        (with_reducible refine Calls.mono (inRange_ans b B.n false (by refine iff_tf ?_; dsimp only; exact HY.out) _) ?_)
        rintro e w' ⟨rfl, yy, rfl⟩
        go_wp2_with fail
        go_ret
        exact fin_int HV.out.symm (hback yy)
      · have HX := Lib.hid hx
        clear hx
        go_enter Try.func36, Try.ntmps36
        go_wp2_with fail
        generalize hW : (x.w.alloc _).alloc _ = W1
        generalize hB : x.w.heap.size = B0
        obtain ⟨c0, c1, c2, c3, d0, d1, d2, d3, h1, k1, hback, yy, hy0⟩ := boxed2 h k x hB hW
        clear hW hB
        rw [← hy0]
        clear hy0
        (with_reducible refine Calls.mono (haveProduct_ans h1 k1 true (by refine iff_tf ?_; dsimp only; exact HQ.out) _) ?_)
        rintro e w' ⟨rfl, yy, rfl⟩
        go_wp2_with fail
        (with_reducible refine Calls.mono (inRange_ans a A.n false (by refine iff_tf ?_; dsimp only; exact HX.out) _) ?_)
        rintro e w' ⟨rfl, yy, rfl⟩
        go_wp2_with fail
        go_ret
        exact fin_int HV.out.symm (hback yy)
    · have HQ := Lib.hid hq
      clear hq
      go_enter Try.func36, Try.ntmps36
      go_wp2_with fail
      generalize hW : (x.w.alloc _).alloc _ = W1
      generalize hB : x.w.heap.size = B0
      obtain ⟨c0, c1, c2, c3, d0, d1, d2, d3, h1, k1, hback, yy, hy0⟩ := boxed2 h k x hB hW
      clear hW hB
      rw [← hy0]
      clear hy0
      (with_reducible refine Calls.mono (haveProduct_ans h1 k1 false (by refine iff_tf ?_; dsimp only; exact HQ.out) _) ?_)
      rintro e w' ⟨rfl, yy, rfl⟩
      go_wp2_with fail
      go_ret
      exact fin_int HV.out.symm (hback yy)

end Go.Proofs.Ytkokmpdmmfghhaa
