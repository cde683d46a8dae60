
/- The program's test of a reliable system. -/
import Derived.Test.YtkokmpdmmfghhaaKSysA
namespace Go.Proofs.Ytkokmpdmmfghhaa
open Go.RowKit

def RelAt1 (s : Sys) (a b : Int) : Prop := (s.add a b = 0 → a = 0 ∧ b = 0) ∧ (s.mul a b = 0 → a = 0 ∨ b = 0)
def RelAt (s : Sys) (a : Int) : Prop := (a ≠ 0 → s.le a 0 = false) ∧ ∀ b, G s b → RelAt1 s a b
def Reliable (s : Sys) : Prop := IsSys s ∧ ∀ a, G s a → RelAt s a

set_option maxHeartbeats 8000000 in
theorem isReliable_ans {W : World} {r : Ref} {s : Sys} (h : SysIn W r s) (p : Bool) (hp : p = true ↔ Reliable s) (x : Ext W) :
    Calls Try.prog 30 #[r.val s] x.w (Ans W (.bool p)) := by
  have HP := Lib.hid hp
  clear hp
  unfold Ref.val
  by_cases is : IsSys s
  · have t := is.tab
    have IS := Lib.hid is
    clear is
    have h2 := t.lo
    have h16 := t.hi
    go_enter Try.func30, Try.ntmps30
    go_wp2_with fail
    generalize hW : x.w.alloc _ = W1
    generalize hB : x.w.heap.size = B
    obtain ⟨c0, c1, c2, c3, h1, hback, yy, hy0⟩ := boxed h x hB hW
    clear hW hB
    rw [← hy0]
    clear hy0
    (with_reducible refine Calls.mono (isSystem_ans h1 true (by refine iff_tf ?_; dsimp only; exact IS.out) _) ?_)
    rintro e w' ⟨rfl, yy, rfl⟩
    go_wp2_with fail
    go_loopw [10] (fun i wr => ∃ k : Nat, i = .int .i64 k ∧ (k : Int) ≤ s.n ∧ (∃ y : Ext W1, wr = y.w) ∧ Hid (Upto k (RelAt s))) (fun i _ => (s.n - intOf i).toNat)
    case atStart => exact ⟨0, rfl, by omega, ⟨yy, rfl⟩, Upto.zero _⟩
    case round =>
      obtain ⟨k, rfl, hk, ⟨yy, rfl⟩, hUk⟩ := hrel
      by_cases hltk : (k : Int) < s.n
      · have hGk : G s k := ⟨by omega, hltk⟩
        have hG0 : G s 0 := ⟨by omega, by omega⟩
        by_cases e0 : (k : Int) = 0
        · have fK : ((k : Int) != 0) = false := by simp; omega
          have H0 : Hid ((k : Int) ≠ 0 → s.le k 0 = false) := fun q => absurd e0 q
          have HK := Lib.hid e0
          clear e0
          go_wp2_with ((go_at_call 63; with_reducible refine Calls.mono (belowIn_is h1 t (by assumption) (by assumption) (by assumption) _) ?_; rintro e w' ⟨rfl, yy, rfl⟩))
          go_loopw [22] (fun i wr => ∃ j : Nat, i = .int .i64 j ∧ (j : Int) ≤ s.n ∧ (∃ y : Ext W1, wr = y.w) ∧ Hid (Upto j (RelAt1 s k))) (fun i _ => (s.n - intOf i).toNat)
          case atStart => exact ⟨0, rfl, by omega, ⟨yy, rfl⟩, Upto.zero _⟩
          case round =>
            obtain ⟨j, rfl, hj, ⟨yy, rfl⟩, hUj⟩ := hrel
            by_cases hltj : (j : Int) < s.n
            · have hGj : G s j := ⟨by omega, hltj⟩
              by_cases eA : s.add k j = 0
              · have fA : (s.add k j == 0) = true := by simpa using eA
                have HA := Lib.hid eA
                clear eA
                by_cases eJ : (j : Int) = 0
                · have fJ : ((j : Int) != 0) = false := by simp; omega
                  have HJ := Lib.hid eJ
                  clear eJ
                  by_cases eM : s.mul k j = 0
                  · have fM : (s.mul k j == 0) = true := by simpa using eM
                    have HM := Lib.hid eM
                    clear eM
                    go_wp2_with (first | (go_at_call 60; with_reducible refine Calls.mono (sumIn_ans h1 t (by assumption) (by assumption) _) ?_; rintro e w' ⟨rfl, yy, rfl⟩) | (go_at_call 62; with_reducible refine Calls.mono (productIn_ans h1 t (by assumption) (by assumption) _) ?_; rintro e w' ⟨rfl, yy, rfl⟩))
                    go_roundw
                    case rel => exact ⟨j + 1, by go_num, by omega, ⟨yy, rfl⟩, hUj.out.succ (⟨fun _ => ⟨by have := HK.out; omega, by have := HJ.out; omega⟩, fun _ => by have := HK.out; have := HJ.out; omega⟩)⟩
                    case measure => simp [intOf]; omega
                  · have fM : (s.mul k j == 0) = false := by simpa using eM
                    have HM := Lib.hid eM
                    clear eM
                    go_wp2_with (first | (go_at_call 60; with_reducible refine Calls.mono (sumIn_ans h1 t (by assumption) (by assumption) _) ?_; rintro e w' ⟨rfl, yy, rfl⟩) | (go_at_call 62; with_reducible refine Calls.mono (productIn_ans h1 t (by assumption) (by assumption) _) ?_; rintro e w' ⟨rfl, yy, rfl⟩))
                    go_roundw
                    case rel => exact ⟨j + 1, by go_num, by omega, ⟨yy, rfl⟩, hUj.out.succ (⟨fun _ => ⟨by have := HK.out; omega, by have := HJ.out; omega⟩, fun _ => by have := HK.out; have := HJ.out; omega⟩)⟩
                    case measure => simp [intOf]; omega
                · have fJ : ((j : Int) != 0) = true := by simp; omega
                  have HJ := Lib.hid eJ
                  clear eJ
                  by_cases eM : s.mul k j = 0
                  · have fM : (s.mul k j == 0) = true := by simpa using eM
                    have HM := Lib.hid eM
                    clear eM
                    go_wp2_with (first | (go_at_call 60; with_reducible refine Calls.mono (sumIn_ans h1 t (by assumption) (by assumption) _) ?_; rintro e w' ⟨rfl, yy, rfl⟩) | (go_at_call 62; with_reducible refine Calls.mono (productIn_ans h1 t (by assumption) (by assumption) _) ?_; rintro e w' ⟨rfl, yy, rfl⟩))
                    go_ret
                    exact fin_false HP (fun q => by have := ((q.2 k hGk).2 j hGj).1 HA.out; have := HK.out; have := HJ.out; omega) (hback yy)
                  · have fM : (s.mul k j == 0) = false := by simpa using eM
                    have HM := Lib.hid eM
                    clear eM
                    go_wp2_with (first | (go_at_call 60; with_reducible refine Calls.mono (sumIn_ans h1 t (by assumption) (by assumption) _) ?_; rintro e w' ⟨rfl, yy, rfl⟩) | (go_at_call 62; with_reducible refine Calls.mono (productIn_ans h1 t (by assumption) (by assumption) _) ?_; rintro e w' ⟨rfl, yy, rfl⟩))
                    go_ret
                    exact fin_false HP (fun q => by have := ((q.2 k hGk).2 j hGj).1 HA.out; have := HK.out; have := HJ.out; omega) (hback yy)
              · have fA : (s.add k j == 0) = false := by simpa using eA
                have HA := Lib.hid eA
                clear eA
                by_cases eJ : (j : Int) = 0
                · have fJ : ((j : Int) != 0) = false := by simp; omega
                  have HJ := Lib.hid eJ
                  clear eJ
                  by_cases eM : s.mul k j = 0
                  · have fM : (s.mul k j == 0) = true := by simpa using eM
                    have HM := Lib.hid eM
                    clear eM
                    go_wp2_with (first | (go_at_call 60; with_reducible refine Calls.mono (sumIn_ans h1 t (by assumption) (by assumption) _) ?_; rintro e w' ⟨rfl, yy, rfl⟩) | (go_at_call 62; with_reducible refine Calls.mono (productIn_ans h1 t (by assumption) (by assumption) _) ?_; rintro e w' ⟨rfl, yy, rfl⟩))
                    go_roundw
                    case rel => exact ⟨j + 1, by go_num, by omega, ⟨yy, rfl⟩, hUj.out.succ (⟨fun u => absurd u HA.out, fun u => by first | exact absurd u HM.out | (have := HK.out; have := HJ.out; omega)⟩)⟩
                    case measure => simp [intOf]; omega
                  · have fM : (s.mul k j == 0) = false := by simpa using eM
                    have HM := Lib.hid eM
                    clear eM
                    go_wp2_with (first | (go_at_call 60; with_reducible refine Calls.mono (sumIn_ans h1 t (by assumption) (by assumption) _) ?_; rintro e w' ⟨rfl, yy, rfl⟩) | (go_at_call 62; with_reducible refine Calls.mono (productIn_ans h1 t (by assumption) (by assumption) _) ?_; rintro e w' ⟨rfl, yy, rfl⟩))
                    go_roundw
                    case rel => exact ⟨j + 1, by go_num, by omega, ⟨yy, rfl⟩, hUj.out.succ (⟨fun u => absurd u HA.out, fun u => by first | exact absurd u HM.out | (have := HK.out; have := HJ.out; omega)⟩)⟩
                    case measure => simp [intOf]; omega
                · have fJ : ((j : Int) != 0) = true := by simp; omega
                  have HJ := Lib.hid eJ
                  clear eJ
                  by_cases eM : s.mul k j = 0
                  · have fM : (s.mul k j == 0) = true := by simpa using eM
                    have HM := Lib.hid eM
                    clear eM
                    go_wp2_with (first | (go_at_call 60; with_reducible refine Calls.mono (sumIn_ans h1 t (by assumption) (by assumption) _) ?_; rintro e w' ⟨rfl, yy, rfl⟩) | (go_at_call 62; with_reducible refine Calls.mono (productIn_ans h1 t (by assumption) (by assumption) _) ?_; rintro e w' ⟨rfl, yy, rfl⟩))
                    go_roundw
                    case rel => exact ⟨j + 1, by go_num, by omega, ⟨yy, rfl⟩, hUj.out.succ (⟨fun u => absurd u HA.out, fun u => by first | exact absurd u HM.out | (have := HK.out; have := HJ.out; omega)⟩)⟩
                    case measure => simp [intOf]; omega
                  · have fM : (s.mul k j == 0) = false := by simpa using eM
                    have HM := Lib.hid eM
                    clear eM
                    go_wp2_with (first | (go_at_call 60; with_reducible refine Calls.mono (sumIn_ans h1 t (by assumption) (by assumption) _) ?_; rintro e w' ⟨rfl, yy, rfl⟩) | (go_at_call 62; with_reducible refine Calls.mono (productIn_ans h1 t (by assumption) (by assumption) _) ?_; rintro e w' ⟨rfl, yy, rfl⟩))
                    go_roundw
                    case rel => exact ⟨j + 1, by go_num, by omega, ⟨yy, rfl⟩, hUj.out.succ (⟨fun u => absurd u HA.out, fun u => by first | exact absurd u HM.out | (have := HK.out; have := HJ.out; omega)⟩)⟩
                    case measure => simp [intOf]; omega
            · go_wp2
              go_roundw
              case rel => exact ⟨k + 1, by go_num, by omega, ⟨yy, rfl⟩, hUk.out.succ (⟨H0.out, hUj.out.all _ (by omega)⟩)⟩
              case measure => simp [intOf]; omega
        · have fK : ((k : Int) != 0) = true := by simp; omega
          have HK := Lib.hid e0
          clear e0
          cases hle : s.le k 0
          · have HL := Lib.hid hle
            have H0 : Hid ((k : Int) ≠ 0 → s.le k 0 = false) := fun _ => HL.out
            go_wp2_with ((go_at_call 63; with_reducible refine Calls.mono (belowIn_is h1 t (by assumption) (by assumption) (by assumption) _) ?_; rintro e w' ⟨rfl, yy, rfl⟩))
            clear hle
            go_loopw [22] (fun i wr => ∃ j : Nat, i = .int .i64 j ∧ (j : Int) ≤ s.n ∧ (∃ y : Ext W1, wr = y.w) ∧ Hid (Upto j (RelAt1 s k))) (fun i _ => (s.n - intOf i).toNat)
            case atStart => exact ⟨0, rfl, by omega, ⟨yy, rfl⟩, Upto.zero _⟩
            case round =>
              obtain ⟨j, rfl, hj, ⟨yy, rfl⟩, hUj⟩ := hrel
              by_cases hltj : (j : Int) < s.n
              · have hGj : G s j := ⟨by omega, hltj⟩
                by_cases eA : s.add k j = 0
                · have fA : (s.add k j == 0) = true := by simpa using eA
                  have HA := Lib.hid eA
                  clear eA
                  by_cases eJ : (j : Int) = 0
                  · have fJ : ((j : Int) != 0) = false := by simp; omega
                    have HJ := Lib.hid eJ
                    clear eJ
                    by_cases eM : s.mul k j = 0
                    · have fM : (s.mul k j == 0) = true := by simpa using eM
                      have HM := Lib.hid eM
                      clear eM
                      go_wp2_with (first | (go_at_call 60; with_reducible refine Calls.mono (sumIn_ans h1 t (by assumption) (by assumption) _) ?_; rintro e w' ⟨rfl, yy, rfl⟩) | (go_at_call 62; with_reducible refine Calls.mono (productIn_ans h1 t (by assumption) (by assumption) _) ?_; rintro e w' ⟨rfl, yy, rfl⟩))
                      go_ret
                      exact fin_false HP (fun q => by have := ((q.2 k hGk).2 j hGj).1 HA.out; have := HK.out; have := HJ.out; omega) (hback yy)
                    · have fM : (s.mul k j == 0) = false := by simpa using eM
                      have HM := Lib.hid eM
                      clear eM
                      go_wp2_with (first | (go_at_call 60; with_reducible refine Calls.mono (sumIn_ans h1 t (by assumption) (by assumption) _) ?_; rintro e w' ⟨rfl, yy, rfl⟩) | (go_at_call 62; with_reducible refine Calls.mono (productIn_ans h1 t (by assumption) (by assumption) _) ?_; rintro e w' ⟨rfl, yy, rfl⟩))
                      go_ret
                      exact fin_false HP (fun q => by have := ((q.2 k hGk).2 j hGj).1 HA.out; have := HK.out; have := HJ.out; omega) (hback yy)
                  · have fJ : ((j : Int) != 0) = true := by simp; omega
                    have HJ := Lib.hid eJ
                    clear eJ
                    by_cases eM : s.mul k j = 0
                    · have fM : (s.mul k j == 0) = true := by simpa using eM
                      have HM := Lib.hid eM
                      clear eM
                      go_wp2_with (first | (go_at_call 60; with_reducible refine Calls.mono (sumIn_ans h1 t (by assumption) (by assumption) _) ?_; rintro e w' ⟨rfl, yy, rfl⟩) | (go_at_call 62; with_reducible refine Calls.mono (productIn_ans h1 t (by assumption) (by assumption) _) ?_; rintro e w' ⟨rfl, yy, rfl⟩))
                      go_ret
                      exact fin_false HP (fun q => by have := ((q.2 k hGk).2 j hGj).1 HA.out; have := HK.out; have := HJ.out; omega) (hback yy)
                    · have fM : (s.mul k j == 0) = false := by simpa using eM
                      have HM := Lib.hid eM
                      clear eM
                      go_wp2_with (first | (go_at_call 60; with_reducible refine Calls.mono (sumIn_ans h1 t (by assumption) (by assumption) _) ?_; rintro e w' ⟨rfl, yy, rfl⟩) | (go_at_call 62; with_reducible refine Calls.mono (productIn_ans h1 t (by assumption) (by assumption) _) ?_; rintro e w' ⟨rfl, yy, rfl⟩))
                      go_ret
                      exact fin_false HP (fun q => by have := ((q.2 k hGk).2 j hGj).1 HA.out; have := HK.out; have := HJ.out; omega) (hback yy)
                · have fA : (s.add k j == 0) = false := by simpa using eA
                  have HA := Lib.hid eA
                  clear eA
                  by_cases eJ : (j : Int) = 0
                  · have fJ : ((j : Int) != 0) = false := by simp; omega
                    have HJ := Lib.hid eJ
                    clear eJ
                    by_cases eM : s.mul k j = 0
                    · have fM : (s.mul k j == 0) = true := by simpa using eM
                      have HM := Lib.hid eM
                      clear eM
                      go_wp2_with (first | (go_at_call 60; with_reducible refine Calls.mono (sumIn_ans h1 t (by assumption) (by assumption) _) ?_; rintro e w' ⟨rfl, yy, rfl⟩) | (go_at_call 62; with_reducible refine Calls.mono (productIn_ans h1 t (by assumption) (by assumption) _) ?_; rintro e w' ⟨rfl, yy, rfl⟩))
                      go_roundw
                      case rel => exact ⟨j + 1, by go_num, by omega, ⟨yy, rfl⟩, hUj.out.succ (⟨fun u => absurd u HA.out, fun u => by first | exact absurd u HM.out | (have := HK.out; have := HJ.out; omega)⟩)⟩
                      case measure => simp [intOf]; omega
                    · have fM : (s.mul k j == 0) = false := by simpa using eM
                      have HM := Lib.hid eM
                      clear eM
                      go_wp2_with (first | (go_at_call 60; with_reducible refine Calls.mono (sumIn_ans h1 t (by assumption) (by assumption) _) ?_; rintro e w' ⟨rfl, yy, rfl⟩) | (go_at_call 62; with_reducible refine Calls.mono (productIn_ans h1 t (by assumption) (by assumption) _) ?_; rintro e w' ⟨rfl, yy, rfl⟩))
                      go_roundw
                      case rel => exact ⟨j + 1, by go_num, by omega, ⟨yy, rfl⟩, hUj.out.succ (⟨fun u => absurd u HA.out, fun u => by first | exact absurd u HM.out | (have := HK.out; have := HJ.out; omega)⟩)⟩
                      case measure => simp [intOf]; omega
                  · have fJ : ((j : Int) != 0) = true := by simp; omega
                    have HJ := Lib.hid eJ
                    clear eJ
                    by_cases eM : s.mul k j = 0
                    · have fM : (s.mul k j == 0) = true := by simpa using eM
                      have HM := Lib.hid eM
                      clear eM
                      go_wp2_with (first | (go_at_call 60; with_reducible refine Calls.mono (sumIn_ans h1 t (by assumption) (by assumption) _) ?_; rintro e w' ⟨rfl, yy, rfl⟩) | (go_at_call 62; with_reducible refine Calls.mono (productIn_ans h1 t (by assumption) (by assumption) _) ?_; rintro e w' ⟨rfl, yy, rfl⟩))
                      go_ret
                      exact fin_false HP (fun q => by have := ((q.2 k hGk).2 j hGj).2 HM.out; have := HK.out; have := HJ.out; omega) (hback yy)
                    · have fM : (s.mul k j == 0) = false := by simpa using eM
                      have HM := Lib.hid eM
                      clear eM
                      go_wp2_with (first | (go_at_call 60; with_reducible refine Calls.mono (sumIn_ans h1 t (by assumption) (by assumption) _) ?_; rintro e w' ⟨rfl, yy, rfl⟩) | (go_at_call 62; with_reducible refine Calls.mono (productIn_ans h1 t (by assumption) (by assumption) _) ?_; rintro e w' ⟨rfl, yy, rfl⟩))
                      go_roundw
                      case rel => exact ⟨j + 1, by go_num, by omega, ⟨yy, rfl⟩, hUj.out.succ (⟨fun u => absurd u HA.out, fun u => by first | exact absurd u HM.out | (have := HK.out; have := HJ.out; omega)⟩)⟩
                      case measure => simp [intOf]; omega
              · go_wp2
                go_roundw
                case rel => exact ⟨k + 1, by go_num, by omega, ⟨yy, rfl⟩, hUk.out.succ (⟨H0.out, hUj.out.all _ (by omega)⟩)⟩
                case measure => simp [intOf]; omega
          · have HL := Lib.hid hle
            go_wp2_with ((go_at_call 63; with_reducible refine Calls.mono (belowIn_is h1 t (by assumption) (by assumption) (by assumption) _) ?_; rintro e w' ⟨rfl, yy, rfl⟩))
            go_ret
            exact fin_false HP (fun q => by have := (q.2 k hGk).1 HK.out; rw [HL.out] at this; cases this) (hback yy)
      · go_wp2
        go_ret
        exact fin_true HP (⟨IS.out, hUk.out.all _ (by omega)⟩) (hback yy)
  · have IS := Lib.hid is
    clear is
    go_enter Try.func30, Try.ntmps30
    go_wp2_with fail
    generalize hW : x.w.alloc _ = W1
    generalize hB : x.w.heap.size = B
    obtain ⟨c0, c1, c2, c3, h1, hback, yy, hy0⟩ := boxed h x hB hW
    clear hW hB
    rw [← hy0]
    clear hy0
    (with_reducible refine Calls.mono (isSystem_ans h1 false (by refine iff_tf ?_; dsimp only; exact IS.out) _) ?_)
    rintro e w' ⟨rfl, yy, rfl⟩
    go_wp2_with fail
    go_ret
    exact fin_false HP (fun q => IS.out q.1) (hback yy)

end Go.Proofs.Ytkokmpdmmfghhaa
