/- Texts of one claim, laid together: Sums. -/
import Derived.Test.YtkokmpdmmfghhaaZ2HA
set_option linter.unusedVariables false
set_option linter.unusedSimpArgs false
namespace Go.Proofs.Ytkokmpdmmfghhaa
open Go.RowKit

set_option maxHeartbeats 4000000 in
theorem sumsHold_ans {W : World} {r : Ref} {s : Sys} (h : SysIn W r s) (t : Tables s) (p : Bool) (hp : p = true ↔ Sums s) (x : Ext W) :
    Calls Try.prog 53 #[r.val s] x.w (Ans W (.bool p)) := by
  have HP := Lib.hid hp
  clear hp
  have h2 := t.lo
  have h16 := t.hi
  unfold Ref.val
  go_enter Try.func53, Try.ntmps53
  go_wp2
  generalize hW : x.w.alloc _ = W1
  generalize hB : x.w.heap.size = B
  obtain ⟨c0, c1, c2, c3, h1, hback, y0, hy0⟩ := boxed h x hB hW
  clear hW hB
  rw [← hy0]
  clear hy0
  go_loopw [8] (fun i wr => ∃ k : Nat, i = .int .i64 k ∧ (k : Int) ≤ s.n ∧ (∃ y : Ext W1, wr = y.w) ∧ Hid (Upto k (SumAt s))) (fun i _ => (s.n - intOf i).toNat)
  case atStart => exact ⟨0, rfl, by omega, ⟨y0, rfl⟩, Upto.zero _⟩
  case round =>
    obtain ⟨k, rfl, hk, ⟨y, rfl⟩, hU⟩ := hrel
    by_cases hlt : (k : Int) < s.n
    · have hG : G s k := ⟨by omega, hlt⟩
      have hG0 : G s 0 := ⟨by omega, by omega⟩
      by_cases e0 : s.add 0 k = k
      · have b0 : (s.add 0 k != (k : Int)) = false := by simpa using e0
        have E0 := Lib.hid e0
        clear e0
        go_wp2_with (go_at_call 60; refine (sumIn_ans h1 t hG0 hG y).mono ?_; rintro e w' ⟨rfl, y2, rfl⟩)
        clear b0
        go_loopw [18] (fun i wr => ∃ j : Nat, i = .int .i64 j ∧ (j : Int) ≤ s.n ∧ (∃ y : Ext W1, wr = y.w) ∧ Hid (Upto j (SumAt1 s k))) (fun i _ => (s.n - intOf i).toNat)
        case atStart => exact ⟨0, rfl, by omega, ⟨y2, rfl⟩, Upto.zero _⟩
        case round =>
          obtain ⟨j, rfl, hj, ⟨z, rfl⟩, hV⟩ := hrel
          by_cases hlt2 : (j : Int) < s.n
          · have hGj : G s j := ⟨by omega, hlt2⟩
            have hGs : G s (s.add k j) := t.addG hG hGj
            by_cases e1 : s.add k j = s.add j k
            · have b1 : (s.add k j != s.add j k) = false := by simpa using e1
              have E1 := Lib.hid e1
              clear e1
              go_wp2
              refine region_ext z (by kernel_rfl) (by kernel_rfl) ?_
              repeat (go_big_quiet_step (with_reducible exact sumIn_ans h1 t (by assumption) (by assumption) _))
              refine wpQuiet_nil ?_
              rintro _ ⟨z2, rfl⟩
              go_wp2
              clear b1
              go_loopw [32] (fun i wr => ∃ l : Nat, i = .int .i64 l ∧ (l : Int) ≤ s.n ∧ (∃ y : Ext W1, wr = y.w) ∧ Hid (Upto l (SumAt2 s k j))) (fun i _ => (s.n - intOf i).toNat)
              case atStart => exact ⟨0, rfl, by omega, ⟨z2, rfl⟩, Upto.zero _⟩
              case round =>
                obtain ⟨l, rfl, hl, ⟨u, rfl⟩, hX⟩ := hrel
                by_cases hlt3 : (l : Int) < s.n
                · have hGl : G s l := ⟨by omega, hlt3⟩
                  have hGt : G s (s.add j l) := t.addG hGj hGl
                  by_cases e2 : s.add (s.add k j) l = s.add k (s.add j l)
                  · have b2 : (s.add (s.add k j) l != s.add k (s.add j l)) = false := by simpa using e2
                    have E2 := Lib.hid e2
                    clear e2
                    go_wp2
                    refine region_ext u (by kernel_rfl) (by kernel_rfl) ?_
                    repeat (go_big_quiet_step (with_reducible exact sumIn_ans h1 t (by assumption) (by assumption) _))
                    refine wpQuiet_nil ?_
                    rintro _ ⟨u2, rfl⟩
                    go_wp2
                    go_roundw
                    case rel => exact ⟨l + 1, by go_num, by omega, ⟨u2, rfl⟩, hX.out.succ E2.out⟩
                    case measure => simp [intOf]; omega
                  · have b2 : (s.add (s.add k j) l != s.add k (s.add j l)) = true := by simpa using e2
                    have E2 := Lib.hid e2
                    clear e2
                    go_wp2
                    refine region_ext u (by kernel_rfl) (by kernel_rfl) ?_
                    repeat (go_big_quiet_step (with_reducible exact sumIn_ans h1 t (by assumption) (by assumption) _))
                    refine wpQuiet_nil ?_
                    rintro _ ⟨u2, rfl⟩
                    go_wp2
                    go_ret
                    exact fin_false HP (fun q => E2.out ((((q k hG).2 j hGj).2 l hGl))) (hback u2)
                · go_wp2
                  go_roundw
                  case rel => exact ⟨j + 1, by go_num, by omega, ⟨u, rfl⟩, hV.out.succ ⟨E1.out, hX.out.all _ (by omega)⟩⟩
                  case measure => simp [intOf]; omega
            · have b1 : (s.add k j != s.add j k) = true := by simpa using e1
              have E1 := Lib.hid e1
              clear e1
              go_wp2
              refine region_ext z (by kernel_rfl) (by kernel_rfl) ?_
              repeat (go_big_quiet_step (with_reducible exact sumIn_ans h1 t (by assumption) (by assumption) _))
              refine wpQuiet_nil ?_
              rintro _ ⟨z2, rfl⟩
              go_wp2
              go_ret
              exact fin_false HP (fun q => E1.out (((q k hG).2 j hGj).1)) (hback z2)
          · go_wp2
            go_roundw
            case rel => exact ⟨k + 1, by go_num, by omega, ⟨z, rfl⟩, hU.out.succ ⟨E0.out, hV.out.all _ (by omega)⟩⟩
            case measure => simp [intOf]; omega
      · have b0 : (s.add 0 k != (k : Int)) = true := by simpa using e0
        have E0 := Lib.hid e0
        clear e0
        go_wp2_with (go_at_call 60; refine (sumIn_ans h1 t hG0 hG y).mono ?_; rintro e w' ⟨rfl, y2, rfl⟩)
        go_ret
        exact fin_false HP (fun q => E0.out ((q k hG).1)) (hback y2)
    · go_wp2
      go_ret
      exact fin_true HP (hU.out.all _ (by omega)) (hback y)

end Go.Proofs.Ytkokmpdmmfghhaa
