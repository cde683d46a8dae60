/- The model's functions of one and two grades. -/
import Derived.Test.YtjfpmjbfafeanaaSysB
import Derived.Test.YtjfpmjbfafeanaaApiA
namespace Go.Proofs.Ytjfpmjbfafeanaa
open Go.RowKit

set_option maxHeartbeats 1600000 in
theorem specIsGrade_ans {W : World} {r : Ref} {s : Sys} (h : SysIn W r s) (g : Int) (p : Bool) (hp : p = true ↔ IsSys s ∧ G s g) (x : Ext W) :
    Calls Try.prog 20 #[r.val s, .int .i64 g] x.w (Ans W (.bool p)) := by
  have HP := Lib.hid hp
  clear hp
  unfold Ref.val
  by_cases e0 : IsSys s
  · have h2 := e0.tab.lo
    have h16 := e0.tab.hi
    have E0 := Lib.hid e0
    clear e0
    by_cases e1 : 0 ≤ g ∧ g < s.n
    · have E1 := Lib.hid e1
      clear e1
      go_enter Try.func20, Try.ntmps20
      go_wp2_with fail
      generalize hW : x.w.alloc _ = W1
      generalize hB : x.w.heap.size = B
      obtain ⟨c0, c1, c2, c3, h1, hback, yy, hy0⟩ := boxed h x hB hW
      clear hW hB
      rw [← hy0]
      clear hy0
      (with_reducible refine Calls.mono (specIsSystem_ans h1 true (by refine iff_tf ?_; dsimp only; exact E0.out) _) ?_)
      rintro e w' ⟨rfl, yy, rfl⟩
      go_wp2_with fail
      (with_reducible refine Calls.mono (l1In_ans g 0 (s.n - 1) true (by refine iff_tf ?_; dsimp only; exact (by have := E1.out; omega)) _) ?_)
      rintro e w' ⟨rfl, yy, rfl⟩
      go_wp2_with fail
      go_ret
      exact fin_true HP ⟨E0.out, E1.out⟩ (hback yy)
    · have E1 := Lib.hid e1
      clear e1
      go_enter Try.func20, Try.ntmps20
      go_wp2_with fail
      generalize hW : x.w.alloc _ = W1
      generalize hB : x.w.heap.size = B
      obtain ⟨c0, c1, c2, c3, h1, hback, yy, hy0⟩ := boxed h x hB hW
      clear hW hB
      rw [← hy0]
      clear hy0
      (with_reducible refine Calls.mono (specIsSystem_ans h1 true (by refine iff_tf ?_; dsimp only; exact E0.out) _) ?_)
      rintro e w' ⟨rfl, yy, rfl⟩
      go_wp2_with fail
      (with_reducible refine Calls.mono (l1In_ans g 0 (s.n - 1) false (by refine iff_tf ?_; dsimp only; exact (by have := E1.out; omega)) _) ?_)
      rintro e w' ⟨rfl, yy, rfl⟩
      go_wp2_with fail
      go_ret
      exact fin_false HP (fun q => E1.out q.2) (hback yy)
  · have E0 := Lib.hid e0
    clear e0
    go_enter Try.func20, Try.ntmps20
    go_wp2_with fail
    generalize hW : x.w.alloc _ = W1
    generalize hB : x.w.heap.size = B
    obtain ⟨c0, c1, c2, c3, h1, hback, yy, hy0⟩ := boxed h x hB hW
    clear hW hB
    rw [← hy0]
    clear hy0
    (with_reducible refine Calls.mono (specIsSystem_ans h1 false (by refine iff_tf ?_; dsimp only; exact E0.out) _) ?_)
    rintro e w' ⟨rfl, yy, rfl⟩
    go_wp2_with fail
    go_ret
    exact fin_false HP (fun q => E0.out q.1) (hback yy)

set_option maxHeartbeats 1600000 in
theorem l1Both_ans {W : World} {r : Ref} {s : Sys} (h : SysIn W r s) (a b : Int) (p : Bool) (hp : p = true ↔ IsSys s ∧ G s a ∧ G s b) (x : Ext W) :
    Calls Try.prog 61 #[r.val s, .int .i64 a, .int .i64 b] x.w (Ans W (.bool p)) := by
  have HP := Lib.hid hp
  clear hp
  unfold Ref.val
  by_cases e0 : IsSys s ∧ G s a
  · have h2 := e0.1.tab.lo
    have h16 := e0.1.tab.hi
    have E0 := Lib.hid e0
    clear e0
    by_cases e1 : 0 ≤ b ∧ b < s.n
    · have E1 := Lib.hid e1
      clear e1
      go_enter Try.func61, Try.ntmps61
      go_wp2_with fail
      generalize hW : x.w.alloc _ = W1
      generalize hB : x.w.heap.size = B
      obtain ⟨c0, c1, c2, c3, h1, hback, yy, hy0⟩ := boxed h x hB hW
      clear hW hB
      rw [← hy0]
      clear hy0
      (with_reducible refine Calls.mono (specIsGrade_ans h1 a true (by simp only [true_iff]; exact E0.out) _) ?_)
      rintro e w' ⟨rfl, yy, rfl⟩
      go_wp2_with fail
      (with_reducible refine Calls.mono (l1In_ans b 0 (s.n - 1) true (by refine iff_tf ?_; dsimp only; exact (by have := E1.out; omega)) _) ?_)
      rintro e w' ⟨rfl, yy, rfl⟩
      go_wp2_with fail
      go_ret
      exact fin_true HP ⟨E0.out.1, E0.out.2, E1.out⟩ (hback yy)
    · have E1 := Lib.hid e1
      clear e1
      go_enter Try.func61, Try.ntmps61
      go_wp2_with fail
      generalize hW : x.w.alloc _ = W1
      generalize hB : x.w.heap.size = B
      obtain ⟨c0, c1, c2, c3, h1, hback, yy, hy0⟩ := boxed h x hB hW
      clear hW hB
      rw [← hy0]
      clear hy0
      (with_reducible refine Calls.mono (specIsGrade_ans h1 a true (by simp only [true_iff]; exact E0.out) _) ?_)
      rintro e w' ⟨rfl, yy, rfl⟩
      go_wp2_with fail
      (with_reducible refine Calls.mono (l1In_ans b 0 (s.n - 1) false (by refine iff_tf ?_; dsimp only; exact (by have := E1.out; omega)) _) ?_)
      rintro e w' ⟨rfl, yy, rfl⟩
      go_wp2_with fail
      go_ret
      exact fin_false HP (fun q => E1.out q.2.2) (hback yy)
  · have E0 := Lib.hid e0
    clear e0
    go_enter Try.func61, Try.ntmps61
    go_wp2_with fail
    generalize hW : x.w.alloc _ = W1
    generalize hB : x.w.heap.size = B
    obtain ⟨c0, c1, c2, c3, h1, hback, yy, hy0⟩ := boxed h x hB hW
    clear hW hB
    rw [← hy0]
    clear hy0
    (with_reducible refine Calls.mono (specIsGrade_ans h1 a false (by simp only [Bool.false_eq_true, false_iff]; exact E0.out) _) ?_)
    rintro e w' ⟨rfl, yy, rfl⟩
    go_wp2_with fail
    go_ret
    exact fin_false HP (fun q => E0.out ⟨q.1, q.2.1⟩) (hback yy)

set_option maxHeartbeats 4000000 in
theorem specAddGrades_ans {W : World} {r : Ref} {s : Sys} (h : SysIn W r s) (a b : Int) (v : Int) (hv : Out2 s a b (s.add a b) v) (x : Ext W) :
    Calls Try.prog 22 #[r.val s, .int .i64 a, .int .i64 b] x.w (Ans W (.int .i64 v)) := by
  unfold Ref.val
  rcases hv with ⟨is, hGa, hGb, hv⟩ | ⟨hn, hv⟩
  · have t := is.tab
    have HV := Lib.hid hv
    have IS := Lib.hid is
    clear hv is
    have h2 := t.lo
    have h16 := t.hi
    go_enter Try.func22, Try.ntmps22
    go_wp2_with fail
    generalize hW : x.w.alloc _ = W1
    generalize hB : x.w.heap.size = B
    obtain ⟨c0, c1, c2, c3, h1, hback, yy, hy0⟩ := boxed h x hB hW
    clear hW hB
    rw [← hy0]
    clear hy0
    (with_reducible refine Calls.mono (l1Both_ans h1 a b true (by refine iff_tf ?_; dsimp only; exact ⟨IS.out, hGa, hGb⟩) _) ?_)
    rintro e w' ⟨rfl, yy, rfl⟩
    go_wp2_with ((go_at_call 62; with_reducible refine Calls.mono (l1Add_ans h1 t (by assumption) (by assumption) _) ?_; rintro e w' ⟨rfl, yy, rfl⟩))
    go_ret
    exact fin_int HV.out.symm (hback yy)
  · have HV := Lib.hid hv
    have HN := Lib.hid hn
    clear hv hn
    go_enter Try.func22, Try.ntmps22
    go_wp2_with fail
    generalize hW : x.w.alloc _ = W1
    generalize hB : x.w.heap.size = B
    obtain ⟨c0, c1, c2, c3, h1, hback, yy, hy0⟩ := boxed h x hB hW
    clear hW hB
    rw [← hy0]
    clear hy0
    (with_reducible refine Calls.mono (l1Both_ans h1 a b false (by refine iff_tf ?_; dsimp only; exact HN.out) _) ?_)
    rintro e w' ⟨rfl, yy, rfl⟩
    go_wp2_with fail
    go_ret
    exact fin_int HV.out.symm (hback yy)

set_option maxHeartbeats 4000000 in
theorem specMultiplyGrades_ans {W : World} {r : Ref} {s : Sys} (h : SysIn W r s) (a b : Int) (v : Int) (hv : Out2 s a b (s.mul a b) v) (x : Ext W) :
    Calls Try.prog 24 #[r.val s, .int .i64 a, .int .i64 b] x.w (Ans W (.int .i64 v)) := by
  unfold Ref.val
  rcases hv with ⟨is, hGa, hGb, hv⟩ | ⟨hn, hv⟩
  · have t := is.tab
    have HV := Lib.hid hv
    have IS := Lib.hid is
    clear hv is
    have h2 := t.lo
    have h16 := t.hi
    go_enter Try.func24, Try.ntmps24
    go_wp2_with fail
    generalize hW : x.w.alloc _ = W1
    generalize hB : x.w.heap.size = B
    obtain ⟨c0, c1, c2, c3, h1, hback, yy, hy0⟩ := boxed h x hB hW
    clear hW hB
    rw [← hy0]
    clear hy0
    (with_reducible refine Calls.mono (l1Both_ans h1 a b true (by refine iff_tf ?_; dsimp only; exact ⟨IS.out, hGa, hGb⟩) _) ?_)
    rintro e w' ⟨rfl, yy, rfl⟩
    go_wp2_with ((go_at_call 65; with_reducible refine Calls.mono (l1Mul_ans h1 t (by assumption) (by assumption) _) ?_; rintro e w' ⟨rfl, yy, rfl⟩))
    go_ret
    exact fin_int HV.out.symm (hback yy)
  · have HV := Lib.hid hv
    have HN := Lib.hid hn
    clear hv hn
    go_enter Try.func24, Try.ntmps24
    go_wp2_with fail
    generalize hW : x.w.alloc _ = W1
    generalize hB : x.w.heap.size = B
    obtain ⟨c0, c1, c2, c3, h1, hback, yy, hy0⟩ := boxed h x hB hW
    clear hW hB
    rw [← hy0]
    clear hy0
    (with_reducible refine Calls.mono (l1Both_ans h1 a b false (by refine iff_tf ?_; dsimp only; exact HN.out) _) ?_)
    rintro e w' ⟨rfl, yy, rfl⟩
    go_wp2_with fail
    go_ret
    exact fin_int HV.out.symm (hback yy)

set_option maxHeartbeats 4000000 in
theorem specJoinGrades_ans {W : World} {r : Ref} {s : Sys} (h : SysIn W r s) (a b : Int) (v : Int) (hv : Out2 s a b (s.join a b) v) (x : Ext W) :
    Calls Try.prog 28 #[r.val s, .int .i64 a, .int .i64 b] x.w (Ans W (.int .i64 v)) := by
  unfold Ref.val
  rcases hv with ⟨is, hGa, hGb, hv⟩ | ⟨hn, hv⟩
  · have t := is.tab
    have HV := Lib.hid hv
    have IS := Lib.hid is
    clear hv is
    have h2 := t.lo
    have h16 := t.hi
    go_enter Try.func28, Try.ntmps28
    go_wp2_with fail
    generalize hW : x.w.alloc _ = W1
    generalize hB : x.w.heap.size = B
    obtain ⟨c0, c1, c2, c3, h1, hback, yy, hy0⟩ := boxed h x hB hW
    clear hW hB
    rw [← hy0]
    clear hy0
    (with_reducible refine Calls.mono (l1Both_ans h1 a b true (by refine iff_tf ?_; dsimp only; exact ⟨IS.out, hGa, hGb⟩) _) ?_)
    rintro e w' ⟨rfl, yy, rfl⟩
    go_wp2_with ((go_at_call 69; with_reducible refine Calls.mono (l1Join_ans h1 t (by assumption) (by assumption) _) ?_; rintro e w' ⟨rfl, yy, rfl⟩))
    go_ret
    exact fin_int HV.out.symm (hback yy)
  · have HV := Lib.hid hv
    have HN := Lib.hid hn
    clear hv hn
    go_enter Try.func28, Try.ntmps28
    go_wp2_with fail
    generalize hW : x.w.alloc _ = W1
    generalize hB : x.w.heap.size = B
    obtain ⟨c0, c1, c2, c3, h1, hback, yy, hy0⟩ := boxed h x hB hW
    clear hW hB
    rw [← hy0]
    clear hy0
    (with_reducible refine Calls.mono (l1Both_ans h1 a b false (by refine iff_tf ?_; dsimp only; exact HN.out) _) ?_)
    rintro e w' ⟨rfl, yy, rfl⟩
    go_wp2_with fail
    go_ret
    exact fin_int HV.out.symm (hback yy)

set_option maxHeartbeats 4000000 in
theorem specMeetGrades_ans {W : World} {r : Ref} {s : Sys} (h : SysIn W r s) (a b : Int) (v : Int) (hv : Out2 s a b (s.meet a b) v) (x : Ext W) :
    Calls Try.prog 30 #[r.val s, .int .i64 a, .int .i64 b] x.w (Ans W (.int .i64 v)) := by
  unfold Ref.val
  rcases hv with ⟨is, hGa, hGb, hv⟩ | ⟨hn, hv⟩
  · have t := is.tab
    have HV := Lib.hid hv
    have IS := Lib.hid is
    clear hv is
    have h2 := t.lo
    have h16 := t.hi
    go_enter Try.func30, Try.ntmps30
    go_wp2_with fail
    generalize hW : x.w.alloc _ = W1
    generalize hB : x.w.heap.size = B
    obtain ⟨c0, c1, c2, c3, h1, hback, yy, hy0⟩ := boxed h x hB hW
    clear hW hB
    rw [← hy0]
    clear hy0
    (with_reducible refine Calls.mono (l1Both_ans h1 a b true (by refine iff_tf ?_; dsimp only; exact ⟨IS.out, hGa, hGb⟩) _) ?_)
    rintro e w' ⟨rfl, yy, rfl⟩
    go_wp2_with fail
    go_loopw [7] (fun i wr => ∃ k : Nat, i = .int .i64 k ∧ (k : Int) ≤ s.n ∧ (∃ y : Ext W1, wr = y.w) ∧ Hid (Upto k (fun g => ¬ MeetAt s a b g))) (fun i _ => (s.n - intOf i).toNat)
    case atStart => exact ⟨0, rfl, by omega, ⟨yy, rfl⟩, Upto.zero _⟩
    case round =>
      obtain ⟨k, rfl, hk, ⟨yy, rfl⟩, hUk⟩ := hrel
      by_cases hltk : (k : Int) < s.n
      · have hGk : G s k := ⟨by omega, hltk⟩
        cases ha : s.le k a
        · have HA := Lib.hid ha
          go_wp2_with ((go_at_call 67; with_reducible refine Calls.mono (l1Le_is h1 t (by assumption) (by assumption) (by assumption) _) ?_; rintro e w' ⟨rfl, yy, rfl⟩))
          have hA : Hid (false = true ↔ (s.le k a = true ∧ s.le k b = true) ∧ Upto 0 (fun u => s.le u a = true → s.le u b = true → s.le u k = true)) := ⟨fun q => (by cases q), fun q => (by have := q.1.1; rw [HA.out] at this; cases this)⟩
          go_loopw [8, 9] (fun v i wr => ∃ (o : Bool) (j : Nat), v = .bool o ∧ i = .int .i64 j ∧ (j : Int) ≤ s.n ∧ (∃ y : Ext W1, wr = y.w) ∧ Hid (o = true ↔ (s.le k a = true ∧ s.le k b = true) ∧ Upto j (fun u => s.le u a = true → s.le u b = true → s.le u k = true))) (fun _ i _ => (s.n - intOf i).toNat)
          case atStart => exact ⟨false, 0, rfl, rfl, by omega, ⟨yy, rfl⟩, hA⟩
          case round =>
            obtain ⟨o, j, rfl, rfl, hj, ⟨yy, rfl⟩, hO⟩ := hrel
            clear hA
            by_cases hltj : (j : Int) < s.n
            · have hGj : G s j := ⟨by omega, hltj⟩
              cases o
              · go_wp2
                go_roundw
                case rel =>
                  refine ⟨k + 1, by go_num, by omega, ⟨yy, rfl⟩, hUk.out.succ (fun q => ?_)⟩
                  have := hO.out.2 ⟨⟨q.1, q.2.1⟩, fun u u0 u1 => q.2.2 u ⟨u0, by omega⟩⟩
                  cases this
                case measure => simp [intOf]; omega
              · have hU := (hO.out.1 rfl)
                have HU := Lib.hid hU
                clear hU
                cases hx : s.le j a
                · have HX := Lib.hid hx
                  go_wp2_with ((go_at_call 67; with_reducible refine Calls.mono (l1Le_is h1 t (by assumption) (by assumption) (by assumption) _) ?_; rintro e w' ⟨rfl, yy, rfl⟩))
                  go_roundw
                  case rel =>
                    refine ⟨true, j + 1, rfl, by go_num, by omega, ⟨yy, rfl⟩, ⟨fun _ => ⟨HU.out.1, HU.out.2.succ (fun hu hv => ?_)⟩, fun _ => rfl⟩⟩
                    rw [HX.out] at hu; cases hu
                  case measure => simp [intOf]; omega
                · have HX := Lib.hid hx
                  cases hy : s.le j b
                  · have HY := Lib.hid hy
                    go_wp2_with ((go_at_call 67; with_reducible refine Calls.mono (l1Le_is h1 t (by assumption) (by assumption) (by assumption) _) ?_; rintro e w' ⟨rfl, yy, rfl⟩))
                    go_roundw
                    case rel =>
                      refine ⟨true, j + 1, rfl, by go_num, by omega, ⟨yy, rfl⟩, ⟨fun _ => ⟨HU.out.1, HU.out.2.succ (fun hu hv => ?_)⟩, fun _ => rfl⟩⟩
                      rw [HY.out] at hv; cases hv
                    case measure => simp [intOf]; omega
                  · have HY := Lib.hid hy
                    cases hz : s.le j k
                    · have HZ := Lib.hid hz
                      go_wp2_with ((go_at_call 67; with_reducible refine Calls.mono (l1Le_is h1 t (by assumption) (by assumption) (by assumption) _) ?_; rintro e w' ⟨rfl, yy, rfl⟩))
                      go_roundw
                      case rel =>
                        refine ⟨false, j + 1, rfl, by go_num, by omega, ⟨yy, rfl⟩, ⟨fun q => (by cases q), fun q => ?_⟩⟩
                        have := q.2 j (by omega) (by omega) HX.out HY.out
                        rw [HZ.out] at this
                        cases this
                      case measure => simp [intOf]; omega
                    · have HZ := Lib.hid hz
                      go_wp2_with ((go_at_call 67; with_reducible refine Calls.mono (l1Le_is h1 t (by assumption) (by assumption) (by assumption) _) ?_; rintro e w' ⟨rfl, yy, rfl⟩))
                      go_roundw
                      case rel =>
                        refine ⟨true, j + 1, rfl, by go_num, by omega, ⟨yy, rfl⟩, ⟨fun _ => ⟨HU.out.1, HU.out.2.succ (fun hu hv => ?_)⟩, fun _ => rfl⟩⟩
                        exact HZ.out
                      case measure => simp [intOf]; omega
            · cases o
              · go_wp2
                go_roundw
                case rel =>
                  refine ⟨k + 1, by go_num, by omega, ⟨yy, rfl⟩, hUk.out.succ (fun q => ?_)⟩
                  have := hO.out.2 ⟨⟨q.1, q.2.1⟩, fun u u0 u1 => q.2.2 u ⟨u0, by omega⟩⟩
                  cases this
                case measure => simp [intOf]; omega
              · have HU := Lib.hid (hO.out.1 rfl)
                go_wp2
                go_ret
                refine fin_int ?_ (hback yy)
                rw [HV.out]; exact firstI_eq (.inl ⟨by omega, hltk, ⟨HU.out.1.1, HU.out.1.2, HU.out.2.all _ (by omega)⟩, hUk.out⟩)
        · have HA := Lib.hid ha
          cases hb : s.le k b
          · have HB := Lib.hid hb
            go_wp2_with ((go_at_call 67; with_reducible refine Calls.mono (l1Le_is h1 t (by assumption) (by assumption) (by assumption) _) ?_; rintro e w' ⟨rfl, yy, rfl⟩))
            have hA : Hid (false = true ↔ (s.le k a = true ∧ s.le k b = true) ∧ Upto 0 (fun u => s.le u a = true → s.le u b = true → s.le u k = true)) := ⟨fun q => (by cases q), fun q => (by have := q.1.2; rw [HB.out] at this; cases this)⟩
            go_loopw [8, 9] (fun v i wr => ∃ (o : Bool) (j : Nat), v = .bool o ∧ i = .int .i64 j ∧ (j : Int) ≤ s.n ∧ (∃ y : Ext W1, wr = y.w) ∧ Hid (o = true ↔ (s.le k a = true ∧ s.le k b = true) ∧ Upto j (fun u => s.le u a = true → s.le u b = true → s.le u k = true))) (fun _ i _ => (s.n - intOf i).toNat)
            case atStart => exact ⟨false, 0, rfl, rfl, by omega, ⟨yy, rfl⟩, hA⟩
            case round =>
              obtain ⟨o, j, rfl, rfl, hj, ⟨yy, rfl⟩, hO⟩ := hrel
              clear hA
              by_cases hltj : (j : Int) < s.n
              · have hGj : G s j := ⟨by omega, hltj⟩
                cases o
                · go_wp2
                  go_roundw
                  case rel =>
                    refine ⟨k + 1, by go_num, by omega, ⟨yy, rfl⟩, hUk.out.succ (fun q => ?_)⟩
                    have := hO.out.2 ⟨⟨q.1, q.2.1⟩, fun u u0 u1 => q.2.2 u ⟨u0, by omega⟩⟩
                    cases this
                  case measure => simp [intOf]; omega
                · have hU := (hO.out.1 rfl)
                  have HU := Lib.hid hU
                  clear hU
                  cases hx : s.le j a
                  · have HX := Lib.hid hx
                    go_wp2_with ((go_at_call 67; with_reducible refine Calls.mono (l1Le_is h1 t (by assumption) (by assumption) (by assumption) _) ?_; rintro e w' ⟨rfl, yy, rfl⟩))
                    go_roundw
                    case rel =>
                      refine ⟨true, j + 1, rfl, by go_num, by omega, ⟨yy, rfl⟩, ⟨fun _ => ⟨HU.out.1, HU.out.2.succ (fun hu hv => ?_)⟩, fun _ => rfl⟩⟩
                      rw [HX.out] at hu; cases hu
                    case measure => simp [intOf]; omega
                  · have HX := Lib.hid hx
                    cases hy : s.le j b
                    · have HY := Lib.hid hy
                      go_wp2_with ((go_at_call 67; with_reducible refine Calls.mono (l1Le_is h1 t (by assumption) (by assumption) (by assumption) _) ?_; rintro e w' ⟨rfl, yy, rfl⟩))
                      go_roundw
                      case rel =>
                        refine ⟨true, j + 1, rfl, by go_num, by omega, ⟨yy, rfl⟩, ⟨fun _ => ⟨HU.out.1, HU.out.2.succ (fun hu hv => ?_)⟩, fun _ => rfl⟩⟩
                        rw [HY.out] at hv; cases hv
                      case measure => simp [intOf]; omega
                    · have HY := Lib.hid hy
                      cases hz : s.le j k
                      · have HZ := Lib.hid hz
                        go_wp2_with ((go_at_call 67; with_reducible refine Calls.mono (l1Le_is h1 t (by assumption) (by assumption) (by assumption) _) ?_; rintro e w' ⟨rfl, yy, rfl⟩))
                        go_roundw
                        case rel =>
                          refine ⟨false, j + 1, rfl, by go_num, by omega, ⟨yy, rfl⟩, ⟨fun q => (by cases q), fun q => ?_⟩⟩
                          have := q.2 j (by omega) (by omega) HX.out HY.out
                          rw [HZ.out] at this
                          cases this
                        case measure => simp [intOf]; omega
                      · have HZ := Lib.hid hz
                        go_wp2_with ((go_at_call 67; with_reducible refine Calls.mono (l1Le_is h1 t (by assumption) (by assumption) (by assumption) _) ?_; rintro e w' ⟨rfl, yy, rfl⟩))
                        go_roundw
                        case rel =>
                          refine ⟨true, j + 1, rfl, by go_num, by omega, ⟨yy, rfl⟩, ⟨fun _ => ⟨HU.out.1, HU.out.2.succ (fun hu hv => ?_)⟩, fun _ => rfl⟩⟩
                          exact HZ.out
                        case measure => simp [intOf]; omega
              · cases o
                · go_wp2
                  go_roundw
                  case rel =>
                    refine ⟨k + 1, by go_num, by omega, ⟨yy, rfl⟩, hUk.out.succ (fun q => ?_)⟩
                    have := hO.out.2 ⟨⟨q.1, q.2.1⟩, fun u u0 u1 => q.2.2 u ⟨u0, by omega⟩⟩
                    cases this
                  case measure => simp [intOf]; omega
                · have HU := Lib.hid (hO.out.1 rfl)
                  go_wp2
                  go_ret
                  refine fin_int ?_ (hback yy)
                  rw [HV.out]; exact firstI_eq (.inl ⟨by omega, hltk, ⟨HU.out.1.1, HU.out.1.2, HU.out.2.all _ (by omega)⟩, hUk.out⟩)
          · have HB := Lib.hid hb
            go_wp2_with ((go_at_call 67; with_reducible refine Calls.mono (l1Le_is h1 t (by assumption) (by assumption) (by assumption) _) ?_; rintro e w' ⟨rfl, yy, rfl⟩))
            have hA : Hid (true = true ↔ (s.le k a = true ∧ s.le k b = true) ∧ Upto 0 (fun u => s.le u a = true → s.le u b = true → s.le u k = true)) := ⟨fun _ => ⟨⟨HA.out, HB.out⟩, Upto.zero _⟩, fun _ => rfl⟩
            go_loopw [8, 9] (fun v i wr => ∃ (o : Bool) (j : Nat), v = .bool o ∧ i = .int .i64 j ∧ (j : Int) ≤ s.n ∧ (∃ y : Ext W1, wr = y.w) ∧ Hid (o = true ↔ (s.le k a = true ∧ s.le k b = true) ∧ Upto j (fun u => s.le u a = true → s.le u b = true → s.le u k = true))) (fun _ i _ => (s.n - intOf i).toNat)
            case atStart => exact ⟨true, 0, rfl, rfl, by omega, ⟨yy, rfl⟩, hA⟩
            case round =>
              obtain ⟨o, j, rfl, rfl, hj, ⟨yy, rfl⟩, hO⟩ := hrel
              clear hA
              by_cases hltj : (j : Int) < s.n
              · have hGj : G s j := ⟨by omega, hltj⟩
                cases o
                · go_wp2
                  go_roundw
                  case rel =>
                    refine ⟨k + 1, by go_num, by omega, ⟨yy, rfl⟩, hUk.out.succ (fun q => ?_)⟩
                    have := hO.out.2 ⟨⟨q.1, q.2.1⟩, fun u u0 u1 => q.2.2 u ⟨u0, by omega⟩⟩
                    cases this
                  case measure => simp [intOf]; omega
                · have hU := (hO.out.1 rfl)
                  have HU := Lib.hid hU
                  clear hU
                  cases hx : s.le j a
                  · have HX := Lib.hid hx
                    go_wp2_with ((go_at_call 67; with_reducible refine Calls.mono (l1Le_is h1 t (by assumption) (by assumption) (by assumption) _) ?_; rintro e w' ⟨rfl, yy, rfl⟩))
                    go_roundw
                    case rel =>
                      refine ⟨true, j + 1, rfl, by go_num, by omega, ⟨yy, rfl⟩, ⟨fun _ => ⟨HU.out.1, HU.out.2.succ (fun hu hv => ?_)⟩, fun _ => rfl⟩⟩
                      rw [HX.out] at hu; cases hu
                    case measure => simp [intOf]; omega
                  · have HX := Lib.hid hx
                    cases hy : s.le j b
                    · have HY := Lib.hid hy
                      go_wp2_with ((go_at_call 67; with_reducible refine Calls.mono (l1Le_is h1 t (by assumption) (by assumption) (by assumption) _) ?_; rintro e w' ⟨rfl, yy, rfl⟩))
                      go_roundw
                      case rel =>
                        refine ⟨true, j + 1, rfl, by go_num, by omega, ⟨yy, rfl⟩, ⟨fun _ => ⟨HU.out.1, HU.out.2.succ (fun hu hv => ?_)⟩, fun _ => rfl⟩⟩
                        rw [HY.out] at hv; cases hv
                      case measure => simp [intOf]; omega
                    · have HY := Lib.hid hy
                      cases hz : s.le j k
                      · have HZ := Lib.hid hz
                        go_wp2_with ((go_at_call 67; with_reducible refine Calls.mono (l1Le_is h1 t (by assumption) (by assumption) (by assumption) _) ?_; rintro e w' ⟨rfl, yy, rfl⟩))
                        go_roundw
                        case rel =>
                          refine ⟨false, j + 1, rfl, by go_num, by omega, ⟨yy, rfl⟩, ⟨fun q => (by cases q), fun q => ?_⟩⟩
                          have := q.2 j (by omega) (by omega) HX.out HY.out
                          rw [HZ.out] at this
                          cases this
                        case measure => simp [intOf]; omega
                      · have HZ := Lib.hid hz
                        go_wp2_with ((go_at_call 67; with_reducible refine Calls.mono (l1Le_is h1 t (by assumption) (by assumption) (by assumption) _) ?_; rintro e w' ⟨rfl, yy, rfl⟩))
                        go_roundw
                        case rel =>
                          refine ⟨true, j + 1, rfl, by go_num, by omega, ⟨yy, rfl⟩, ⟨fun _ => ⟨HU.out.1, HU.out.2.succ (fun hu hv => ?_)⟩, fun _ => rfl⟩⟩
                          exact HZ.out
                        case measure => simp [intOf]; omega
              · cases o
                · go_wp2
                  go_roundw
                  case rel =>
                    refine ⟨k + 1, by go_num, by omega, ⟨yy, rfl⟩, hUk.out.succ (fun q => ?_)⟩
                    have := hO.out.2 ⟨⟨q.1, q.2.1⟩, fun u u0 u1 => q.2.2 u ⟨u0, by omega⟩⟩
                    cases this
                  case measure => simp [intOf]; omega
                · have HU := Lib.hid (hO.out.1 rfl)
                  go_wp2
                  go_ret
                  refine fin_int ?_ (hback yy)
                  rw [HV.out]; exact firstI_eq (.inl ⟨by omega, hltk, ⟨HU.out.1.1, HU.out.1.2, HU.out.2.all _ (by omega)⟩, hUk.out⟩)
      · go_wp2
        go_ret
        refine fin_int ?_ (hback yy)
        rw [HV.out]; exact firstI_eq (.inr ⟨rfl, fun i h0 hi => hUk.out i h0 (by omega)⟩)
  · have HV := Lib.hid hv
    have HN := Lib.hid hn
    clear hv hn
    go_enter Try.func30, Try.ntmps30
    go_wp2_with fail
    generalize hW : x.w.alloc _ = W1
    generalize hB : x.w.heap.size = B
    obtain ⟨c0, c1, c2, c3, h1, hback, yy, hy0⟩ := boxed h x hB hW
    clear hW hB
    rw [← hy0]
    clear hy0
    (with_reducible refine Calls.mono (l1Both_ans h1 a b false (by refine iff_tf ?_; dsimp only; exact HN.out) _) ?_)
    rintro e w' ⟨rfl, yy, rfl⟩
    go_wp2_with fail
    go_ret
    exact fin_int HV.out.symm (hback yy)

set_option maxHeartbeats 1600000 in
theorem specIsBelow_ans {W : World} {r : Ref} {s : Sys} (h : SysIn W r s) (a b : Int) (p : Bool) (hp : p = true ↔ (IsSys s ∧ G s a ∧ G s b) ∧ s.le a b = true) (x : Ext W) :
    Calls Try.prog 26 #[r.val s, .int .i64 a, .int .i64 b] x.w (Ans W (.bool p)) := by
  have HP := Lib.hid hp
  clear hp
  unfold Ref.val
  by_cases e0 : IsSys s ∧ G s a ∧ G s b
  · obtain ⟨is, hGa, hGb⟩ := e0
    have t := is.tab
    have E0 := Lib.hid is
    clear is
    cases hle : s.le a b
    · have HL := Lib.hid hle
      go_enter Try.func26, Try.ntmps26
      go_wp2_with fail
      generalize hW : x.w.alloc _ = W1
      generalize hB : x.w.heap.size = B
      obtain ⟨c0, c1, c2, c3, h1, hback, yy, hy0⟩ := boxed h x hB hW
      clear hW hB
      rw [← hy0]
      clear hy0
      (with_reducible refine Calls.mono (l1Both_ans h1 a b true (by refine iff_tf ?_; dsimp only; exact ⟨E0.out, hGa, hGb⟩) _) ?_)
      rintro e w' ⟨rfl, yy, rfl⟩
      go_wp2_with ((go_at_call 67; with_reducible refine Calls.mono (l1Le_ans h1 t hGa hGb _) ?_; rintro e w' ⟨rfl, yy, rfl⟩))
      go_ret
      exact fin_false HP (fun q => by rw [HL.out] at q; cases q.2) (hback yy)
    · have HL := Lib.hid hle
      go_enter Try.func26, Try.ntmps26
      go_wp2_with fail
      generalize hW : x.w.alloc _ = W1
      generalize hB : x.w.heap.size = B
      obtain ⟨c0, c1, c2, c3, h1, hback, yy, hy0⟩ := boxed h x hB hW
      clear hW hB
      rw [← hy0]
      clear hy0
      (with_reducible refine Calls.mono (l1Both_ans h1 a b true (by refine iff_tf ?_; dsimp only; exact ⟨E0.out, hGa, hGb⟩) _) ?_)
      rintro e w' ⟨rfl, yy, rfl⟩
      go_wp2_with ((go_at_call 67; with_reducible refine Calls.mono (l1Le_ans h1 t hGa hGb _) ?_; rintro e w' ⟨rfl, yy, rfl⟩))
      go_ret
      exact fin_true HP ⟨⟨E0.out, hGa, hGb⟩, HL.out⟩ (hback yy)
  · have E0 := Lib.hid e0
    clear e0
    go_enter Try.func26, Try.ntmps26
    go_wp2_with fail
    generalize hW : x.w.alloc _ = W1
    generalize hB : x.w.heap.size = B
    obtain ⟨c0, c1, c2, c3, h1, hback, yy, hy0⟩ := boxed h x hB hW
    clear hW hB
    rw [← hy0]
    clear hy0
    (with_reducible refine Calls.mono (l1Both_ans h1 a b false (by refine iff_tf ?_; dsimp only; exact E0.out) _) ?_)
    rintro e w' ⟨rfl, yy, rfl⟩
    go_wp2_with fail
    go_ret
    exact fin_false HP (fun q => E0.out q.1) (hback yy)

end Go.Proofs.Ytjfpmjbfafeanaa
