/- The program's test of a system. -/
import Derived.Test.YtkokmpdmmfghhaaZ2KSums
import Derived.Test.YtkokmpdmmfghhaaZ2KChecks
set_option linter.unusedVariables false
set_option linter.unusedSimpArgs false
namespace Go.Proofs.Ytkokmpdmmfghhaa
open Go.RowKit

theorem nn_facts {n : Int} (h1 : 2 ≤ n) (h2 : n ≤ 16) : 0 ≤ n * n ∧ n * n ≤ 256 := by
  have := idx_facts h1 h2 (a := 0) (b := 0) (by omega) (by omega)
  omega

set_option maxHeartbeats 4000000 in
theorem hasTables_ans {W : World} {r : Ref} {s : Sys} (h : SysIn W r s) (p : Bool) (hp : p = true ↔ Tables s) (x : Ext W) :
    Calls Try.prog 52 #[r.val s] x.w (Ans W (.bool p)) := by
  have HP := Lib.hid hp
  clear hp
  unfold Ref.val
  by_cases e1 : 2 ≤ s.n ∧ s.n ≤ 16
  · obtain ⟨h2, h16⟩ := e1
    obtain ⟨n0, n1⟩ := nn_facts h2 h16
    by_cases ea : (s.plus.length : Int) = s.n * s.n
    · have fa : ((s.plus.length : Int) == s.n * s.n) = true := by simpa using ea
      have Ea := Lib.hid ea
      clear ea
      by_cases eb : (s.times.length : Int) = s.n * s.n
      · have fb : ((s.times.length : Int) == s.n * s.n) = true := by simpa using eb
        have Eb := Lib.hid eb
        clear eb
        by_cases ec : (s.below.length : Int) = s.n * s.n
        · have fc : ((s.below.length : Int) == s.n * s.n) = true := by simpa using ec
          have Ec := Lib.hid ec
          clear ec
          have hlp : s.plus.length ≤ 1099511627776 := by have := Ea.out; omega
          have hlt : s.times.length ≤ 1099511627776 := by have := Eb.out; omega
          by_cases ed : ∀ g ∈ s.plus, 0 ≤ g ∧ g < s.n
          · have Ed := Lib.hid ed
            clear ed
            by_cases ee : ∀ g ∈ s.times, 0 ≤ g ∧ g < s.n
            · have Ee := Lib.hid ee
              clear ee
              go_enter Try.func52, Try.ntmps52
              go_wp2_with fail
              generalize hW : x.w.alloc _ = W1
              generalize hB : x.w.heap.size = B
              obtain ⟨c0, c1, c2, c3, h1, hback, yy, hy0⟩ := boxed h x hB hW
              clear hW hB
              rw [← hy0]
              clear hy0
              (with_reducible refine Calls.mono (allInRange_ans h1.plus (by assumption) s.n true (by refine iff_tf ?_; dsimp only; exact Ed.out) _) ?_)
              rintro e w' ⟨rfl, yy, rfl⟩
              go_wp2_with fail
              (with_reducible refine Calls.mono (allInRange_ans h1.times (by assumption) s.n true (by refine iff_tf ?_; dsimp only; exact Ee.out) _) ?_)
              rintro e w' ⟨rfl, yy, rfl⟩
              go_wp2
              go_ret
              exact fin_true HP ⟨h2, h16, Ea.out, Eb.out, Ec.out, Ed.out, Ee.out⟩ (hback yy)
            · have Ee := Lib.hid ee
              clear ee
              go_enter Try.func52, Try.ntmps52
              go_wp2_with fail
              generalize hW : x.w.alloc _ = W1
              generalize hB : x.w.heap.size = B
              obtain ⟨c0, c1, c2, c3, h1, hback, yy, hy0⟩ := boxed h x hB hW
              clear hW hB
              rw [← hy0]
              clear hy0
              (with_reducible refine Calls.mono (allInRange_ans h1.plus (by assumption) s.n true (by refine iff_tf ?_; dsimp only; exact Ed.out) _) ?_)
              rintro e w' ⟨rfl, yy, rfl⟩
              go_wp2_with fail
              (with_reducible refine Calls.mono (allInRange_ans h1.times (by assumption) s.n false (by refine iff_tf ?_; dsimp only; exact Ee.out) _) ?_)
              rintro e w' ⟨rfl, yy, rfl⟩
              go_wp2
              go_ret
              exact fin_false HP (fun q => Ee.out q.rt) (hback yy)
          · have Ed := Lib.hid ed
            clear ed
            go_enter Try.func52, Try.ntmps52
            go_wp2_with fail
            generalize hW : x.w.alloc _ = W1
            generalize hB : x.w.heap.size = B
            obtain ⟨c0, c1, c2, c3, h1, hback, yy, hy0⟩ := boxed h x hB hW
            clear hW hB
            rw [← hy0]
            clear hy0
            (with_reducible refine Calls.mono (allInRange_ans h1.plus (by assumption) s.n false (by refine iff_tf ?_; dsimp only; exact Ed.out) _) ?_)
            rintro e w' ⟨rfl, yy, rfl⟩
            go_wp2
            go_ret
            exact fin_false HP (fun q => Ed.out q.rp) (hback yy)
        · have fc : ((s.below.length : Int) == s.n * s.n) = false := by simpa using ec
          have Ec := Lib.hid ec
          clear ec
          go_enter Try.func52, Try.ntmps52
          go_wp2_with fail
          generalize hW : x.w.alloc _ = W1
          generalize hB : x.w.heap.size = B
          obtain ⟨c0, c1, c2, c3, h1, hback, yy, hy0⟩ := boxed h x hB hW
          clear hW hB
          rw [← hy0]
          clear hy0
          go_ret
          exact fin_false HP (fun q => Ec.out q.lb) (hback yy)
      · have fb : ((s.times.length : Int) == s.n * s.n) = false := by simpa using eb
        have Eb := Lib.hid eb
        clear eb
        go_enter Try.func52, Try.ntmps52
        go_wp2_with fail
        generalize hW : x.w.alloc _ = W1
        generalize hB : x.w.heap.size = B
        obtain ⟨c0, c1, c2, c3, h1, hback, yy, hy0⟩ := boxed h x hB hW
        clear hW hB
        rw [← hy0]
        clear hy0
        go_ret
        exact fin_false HP (fun q => Eb.out q.lt) (hback yy)
    · have fa : ((s.plus.length : Int) == s.n * s.n) = false := by simpa using ea
      have Ea := Lib.hid ea
      clear ea
      go_enter Try.func52, Try.ntmps52
      go_wp2_with fail
      generalize hW : x.w.alloc _ = W1
      generalize hB : x.w.heap.size = B
      obtain ⟨c0, c1, c2, c3, h1, hback, yy, hy0⟩ := boxed h x hB hW
      clear hW hB
      rw [← hy0]
      clear hy0
      go_ret
      exact fin_false HP (fun q => Ea.out q.lp) (hback yy)
  · by_cases e2 : s.n < 2
    · clear e1
      go_enter Try.func52, Try.ntmps52
      go_wp2_with fail
      generalize hW : x.w.alloc _ = W1
      generalize hB : x.w.heap.size = B
      obtain ⟨c0, c1, c2, c3, h1, hback, yy, hy0⟩ := boxed h x hB hW
      clear hW hB
      rw [← hy0]
      clear hy0
      go_ret
      exact fin_false HP (fun q => by have := q.lo; omega) (hback yy)
    · have e3 : 16 < s.n := by omega
      clear e1
      go_enter Try.func52, Try.ntmps52
      go_wp2_with fail
      generalize hW : x.w.alloc _ = W1
      generalize hB : x.w.heap.size = B
      obtain ⟨c0, c1, c2, c3, h1, hback, yy, hy0⟩ := boxed h x hB hW
      clear hW hB
      rw [← hy0]
      clear hy0
      go_ret
      exact fin_false HP (fun q => by have := q.hi; omega) (hback yy)

set_option maxHeartbeats 4000000 in
theorem isSystem_ans {W : World} {r : Ref} {s : Sys} (h : SysIn W r s) (p : Bool) (hp : p = true ↔ IsSys s) (x : Ext W) :
    Calls Try.prog 13 #[r.val s] x.w (Ans W (.bool p)) := by
  have HP := Lib.hid hp
  clear hp
  unfold Ref.val
  go_enter Try.func13, Try.ntmps13
  go_wp2_with fail
  generalize hW : x.w.alloc _ = W1
  generalize hB : x.w.heap.size = B
  obtain ⟨c0, c1, c2, c3, h1, hback, yy, hy0⟩ := boxed h x hB hW
  clear hW hB
  rw [← hy0]
  clear hy0
  by_cases e0 : Tables s
  · have E0 := Lib.hid e0
    have t := e0
    clear e0
    by_cases e1 : Sums s
    · have E1 := Lib.hid e1
      clear e1
      by_cases e2 : Prods s
      · have E2 := Lib.hid e2
        clear e2
        by_cases e3 : Dists s
        · have E3 := Lib.hid e3
          clear e3
          by_cases e4 : Ords s
          · have E4 := Lib.hid e4
            clear e4
            by_cases e5 : Kepts s
            · have E5 := Lib.hid e5
              clear e5
              by_cases e6 : Joins s
              · have E6 := Lib.hid e6
                clear e6
                go_wp2_with (first | (go_at_call 52; with_reducible refine Calls.mono (hasTables_ans h1 true (by refine iff_tf ?_; dsimp only; exact E0.out) _) ?_; rintro e w' ⟨rfl, yy, rfl⟩) | (go_at_call 53; with_reducible refine Calls.mono (sumsHold_ans h1 t true (by refine iff_tf ?_; dsimp only; exact E1.out) _) ?_; rintro e w' ⟨rfl, yy, rfl⟩) | (go_at_call 54; with_reducible refine Calls.mono (productsHold_ans h1 t true (by refine iff_tf ?_; dsimp only; exact E2.out) _) ?_; rintro e w' ⟨rfl, yy, rfl⟩) | (go_at_call 55; with_reducible refine Calls.mono (sumsAndProductsHold_ans h1 t true (by refine iff_tf ?_; dsimp only; exact E3.out) _) ?_; rintro e w' ⟨rfl, yy, rfl⟩) | (go_at_call 56; with_reducible refine Calls.mono (orderHolds_ans h1 t true (by refine iff_tf ?_; dsimp only; exact E4.out) _) ?_; rintro e w' ⟨rfl, yy, rfl⟩) | (go_at_call 57; with_reducible refine Calls.mono (orderIsKept_ans h1 t true (by refine iff_tf ?_; dsimp only; exact E5.out) _) ?_; rintro e w' ⟨rfl, yy, rfl⟩) | (go_at_call 58; with_reducible refine Calls.mono (joinsExist_ans h1 t true (by refine iff_tf ?_; dsimp only; exact E6.out) _) ?_; rintro e w' ⟨rfl, yy, rfl⟩))
                go_ret
                exact fin_true HP ((isSys_parts s).2 ⟨E0.out, E1.out, E2.out, E3.out, E4.out, E5.out, E6.out⟩) (hback yy)
              · have E6 := Lib.hid e6
                clear e6
                go_wp2_with (first | (go_at_call 52; with_reducible refine Calls.mono (hasTables_ans h1 true (by refine iff_tf ?_; dsimp only; exact E0.out) _) ?_; rintro e w' ⟨rfl, yy, rfl⟩) | (go_at_call 53; with_reducible refine Calls.mono (sumsHold_ans h1 t true (by refine iff_tf ?_; dsimp only; exact E1.out) _) ?_; rintro e w' ⟨rfl, yy, rfl⟩) | (go_at_call 54; with_reducible refine Calls.mono (productsHold_ans h1 t true (by refine iff_tf ?_; dsimp only; exact E2.out) _) ?_; rintro e w' ⟨rfl, yy, rfl⟩) | (go_at_call 55; with_reducible refine Calls.mono (sumsAndProductsHold_ans h1 t true (by refine iff_tf ?_; dsimp only; exact E3.out) _) ?_; rintro e w' ⟨rfl, yy, rfl⟩) | (go_at_call 56; with_reducible refine Calls.mono (orderHolds_ans h1 t true (by refine iff_tf ?_; dsimp only; exact E4.out) _) ?_; rintro e w' ⟨rfl, yy, rfl⟩) | (go_at_call 57; with_reducible refine Calls.mono (orderIsKept_ans h1 t true (by refine iff_tf ?_; dsimp only; exact E5.out) _) ?_; rintro e w' ⟨rfl, yy, rfl⟩) | (go_at_call 58; with_reducible refine Calls.mono (joinsExist_ans h1 t false (by refine iff_tf ?_; dsimp only; exact E6.out) _) ?_; rintro e w' ⟨rfl, yy, rfl⟩))
                go_ret
                exact fin_false HP (fun q => E6.out ((isSys_parts s).1 q).2.2.2.2.2.2) (hback yy)
            · have E5 := Lib.hid e5
              clear e5
              go_wp2_with (first | (go_at_call 52; with_reducible refine Calls.mono (hasTables_ans h1 true (by refine iff_tf ?_; dsimp only; exact E0.out) _) ?_; rintro e w' ⟨rfl, yy, rfl⟩) | (go_at_call 53; with_reducible refine Calls.mono (sumsHold_ans h1 t true (by refine iff_tf ?_; dsimp only; exact E1.out) _) ?_; rintro e w' ⟨rfl, yy, rfl⟩) | (go_at_call 54; with_reducible refine Calls.mono (productsHold_ans h1 t true (by refine iff_tf ?_; dsimp only; exact E2.out) _) ?_; rintro e w' ⟨rfl, yy, rfl⟩) | (go_at_call 55; with_reducible refine Calls.mono (sumsAndProductsHold_ans h1 t true (by refine iff_tf ?_; dsimp only; exact E3.out) _) ?_; rintro e w' ⟨rfl, yy, rfl⟩) | (go_at_call 56; with_reducible refine Calls.mono (orderHolds_ans h1 t true (by refine iff_tf ?_; dsimp only; exact E4.out) _) ?_; rintro e w' ⟨rfl, yy, rfl⟩) | (go_at_call 57; with_reducible refine Calls.mono (orderIsKept_ans h1 t false (by refine iff_tf ?_; dsimp only; exact E5.out) _) ?_; rintro e w' ⟨rfl, yy, rfl⟩))
              go_ret
              exact fin_false HP (fun q => E5.out ((isSys_parts s).1 q).2.2.2.2.2.1) (hback yy)
          · have E4 := Lib.hid e4
            clear e4
            go_wp2_with (first | (go_at_call 52; with_reducible refine Calls.mono (hasTables_ans h1 true (by refine iff_tf ?_; dsimp only; exact E0.out) _) ?_; rintro e w' ⟨rfl, yy, rfl⟩) | (go_at_call 53; with_reducible refine Calls.mono (sumsHold_ans h1 t true (by refine iff_tf ?_; dsimp only; exact E1.out) _) ?_; rintro e w' ⟨rfl, yy, rfl⟩) | (go_at_call 54; with_reducible refine Calls.mono (productsHold_ans h1 t true (by refine iff_tf ?_; dsimp only; exact E2.out) _) ?_; rintro e w' ⟨rfl, yy, rfl⟩) | (go_at_call 55; with_reducible refine Calls.mono (sumsAndProductsHold_ans h1 t true (by refine iff_tf ?_; dsimp only; exact E3.out) _) ?_; rintro e w' ⟨rfl, yy, rfl⟩) | (go_at_call 56; with_reducible refine Calls.mono (orderHolds_ans h1 t false (by refine iff_tf ?_; dsimp only; exact E4.out) _) ?_; rintro e w' ⟨rfl, yy, rfl⟩))
            go_ret
            exact fin_false HP (fun q => E4.out ((isSys_parts s).1 q).2.2.2.2.1) (hback yy)
        · have E3 := Lib.hid e3
          clear e3
          go_wp2_with (first | (go_at_call 52; with_reducible refine Calls.mono (hasTables_ans h1 true (by refine iff_tf ?_; dsimp only; exact E0.out) _) ?_; rintro e w' ⟨rfl, yy, rfl⟩) | (go_at_call 53; with_reducible refine Calls.mono (sumsHold_ans h1 t true (by refine iff_tf ?_; dsimp only; exact E1.out) _) ?_; rintro e w' ⟨rfl, yy, rfl⟩) | (go_at_call 54; with_reducible refine Calls.mono (productsHold_ans h1 t true (by refine iff_tf ?_; dsimp only; exact E2.out) _) ?_; rintro e w' ⟨rfl, yy, rfl⟩) | (go_at_call 55; with_reducible refine Calls.mono (sumsAndProductsHold_ans h1 t false (by refine iff_tf ?_; dsimp only; exact E3.out) _) ?_; rintro e w' ⟨rfl, yy, rfl⟩))
          go_ret
          exact fin_false HP (fun q => E3.out ((isSys_parts s).1 q).2.2.2.1) (hback yy)
      · have E2 := Lib.hid e2
        clear e2
        go_wp2_with (first | (go_at_call 52; with_reducible refine Calls.mono (hasTables_ans h1 true (by refine iff_tf ?_; dsimp only; exact E0.out) _) ?_; rintro e w' ⟨rfl, yy, rfl⟩) | (go_at_call 53; with_reducible refine Calls.mono (sumsHold_ans h1 t true (by refine iff_tf ?_; dsimp only; exact E1.out) _) ?_; rintro e w' ⟨rfl, yy, rfl⟩) | (go_at_call 54; with_reducible refine Calls.mono (productsHold_ans h1 t false (by refine iff_tf ?_; dsimp only; exact E2.out) _) ?_; rintro e w' ⟨rfl, yy, rfl⟩))
        go_ret
        exact fin_false HP (fun q => E2.out ((isSys_parts s).1 q).2.2.1) (hback yy)
    · have E1 := Lib.hid e1
      clear e1
      go_wp2_with (first | (go_at_call 52; with_reducible refine Calls.mono (hasTables_ans h1 true (by refine iff_tf ?_; dsimp only; exact E0.out) _) ?_; rintro e w' ⟨rfl, yy, rfl⟩) | (go_at_call 53; with_reducible refine Calls.mono (sumsHold_ans h1 t false (by refine iff_tf ?_; dsimp only; exact E1.out) _) ?_; rintro e w' ⟨rfl, yy, rfl⟩))
      go_ret
      exact fin_false HP (fun q => E1.out ((isSys_parts s).1 q).2.1) (hback yy)
  · have E0 := Lib.hid e0
    clear e0
    go_wp2_with ((go_at_call 52; with_reducible refine Calls.mono (hasTables_ans h1 false (by refine iff_tf ?_; dsimp only; exact E0.out) _) ?_; rintro e w' ⟨rfl, yy, rfl⟩))
    go_ret
    exact fin_false HP (fun q => E0.out ((isSys_parts s).1 q).1) (hback yy)

end Go.Proofs.Ytkokmpdmmfghhaa
