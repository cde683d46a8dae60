
/- Sets of grades: the walks, more of them. -/
import Derived.Test.YtkokmpdmmfghhaaKBits
namespace Go.Proofs.Ytkokmpdmmfghhaa
open Go.RowKit

theorem allGrades_ans {W : World} {r : Ref} {s : Sys} (_h : SysIn W r s) (t : Tables s) (x : Ext W) :
    Calls Try.prog 109 #[r.val s] x.w (Ans W (.int .u32 ((2 ^ s.n.toNat - 1 : Nat) : Int))) := by
  have h2 := t.lo
  have h16 := t.hi
  unfold Ref.val
  go_enter Try.func109, Try.ntmps109
  go_wp2
  go_ret
  refine fin_int ?_ ⟨x.alloc _, rfl⟩
  have h3 : ∀ n : Nat, 2 ≤ n → n ≤ 16 → ((2 : Int) ^ n % 4294967296 - 1) % 4294967296 = ((2 ^ n - 1 : Nat) : Int) := by
    intro n hn hm
    rcases (by omega : n = 2 ∨ n = 3 ∨ n = 4 ∨ n = 5 ∨ n = 6 ∨ n = 7 ∨ n = 8 ∨ n = 9 ∨ n = 10 ∨ n = 11 ∨ n = 12 ∨ n = 13 ∨ n = 14 ∨ n = 15 ∨ n = 16) with h | h | h | h | h | h | h | h | h | h | h | h | h | h | h <;> subst h <;> rfl
  exact h3 _ (by omega) (by omega)

set_option maxHeartbeats 1600000 in
theorem gradesUnder_ans {W : World} {r : Ref} {s : Sys} (h : SysIn W r s) (t : Tables s) {a : Int} (ha : G s a) (x : Ext W) :
    Calls Try.prog 65 #[r.val s, .int .i64 a] x.w (Ans W (.int .u32 (s.under a))) := by
  have h2 := t.lo
  have h16 := t.hi
  unfold Ref.val
  go_enter Try.func65, Try.ntmps65
  go_wp2
  generalize hW : x.w.alloc _ = W1
  generalize hB : x.w.heap.size = B
  obtain ⟨c0, c1, c2, c3, h1, hback, y0, hy0⟩ := boxed h x hB hW
  clear hW hB
  rw [← hy0]
  clear hy0
  go_loopw [9, 5] (fun i v wr => ∃ k S : Nat, i = .int .i64 k ∧ v = .int .u32 S ∧ (k : Int) ≤ s.n ∧ (∃ y : Ext W1, wr = y.w) ∧ Hid (S = setN (fun g => s.le g a) k)) (fun i _ _ => (s.n - intOf i).toNat)
  case atStart => exact ⟨0, 0, rfl, rfl, by omega, ⟨y0, rfl⟩, rfl⟩
  case round =>
    obtain ⟨k, S, rfl, rfl, hk, ⟨y, rfl⟩, hS⟩ := hrel
    by_cases hlt : (k : Int) < s.n
    · have hG : G s k := ⟨by omega, hlt⟩
      have hS16 : S < 65536 := by rw [hS.out]; exact setN_lt16 _ (by omega)
      have hor := or_bit (k := k) hS16 (by omega)
      cases hle : s.le k a
      · have HL := Lib.hid hle
        go_wp2_with (go_at_call 63; refine (belowIn_ans h1 t hG ha y).mono ?_; rintro e w' ⟨rfl, y2, rfl⟩)
        go_roundw
        case rel => exact ⟨k + 1, S, by go_num, rfl, by omega, ⟨y2, rfl⟩, by unfold Hid; rw [setN, HL.out, hS.out]; rfl⟩
        case measure => simp [intOf]; omega
      · have HL := Lib.hid hle
        go_wp2_with (go_at_call 63; refine (belowIn_ans h1 t hG ha y).mono ?_; rintro e w' ⟨rfl, y2, rfl⟩)
        go_roundw
        case rel => exact ⟨k + 1, S ||| 2 ^ k, by go_num, rfl, by omega, ⟨y2, rfl⟩, by unfold Hid; rw [setN, HL.out, hS.out]; rfl⟩
        case measure => simp [intOf]; omega
    · go_wp2
      go_ret
      have e : s.n.toNat = k := by omega
      refine fin_int ?_ (hback y)
      unfold Sys.under
      rw [e, hS.out]

set_option maxHeartbeats 1600000 in
theorem greatestOf_ans {W : World} {r : Ref} {s : Sys} (h : SysIn W r s) (t : Tables s) {S : Nat} (hS : S < 65536) (v : Int) (hv : v = firstI s.n (GreatestIn s S)) (x : Ext W) :
    Calls Try.prog 64 #[r.val s, .int .u32 S] x.w (Ans W (.int .i64 v)) := by
  have HV := Lib.hid hv
  clear hv
  have h2 := t.lo
  have h16 := t.hi
  unfold Ref.val
  go_enter Try.func64, Try.ntmps64
  go_wp2
  generalize hW : x.w.alloc _ = W1
  generalize hB : x.w.heap.size = B
  obtain ⟨c0, c1, c2, c3, h1, hback, y0, hy0⟩ := boxed h x hB hW
  clear hW hB
  rw [← hy0]
  clear hy0
  go_loopw [8] (fun i wr => ∃ k : Nat, i = .int .i64 k ∧ (k : Int) ≤ s.n ∧ (∃ y : Ext W1, wr = y.w) ∧ Hid (Upto k (fun g => ¬ GreatestIn s S g))) (fun i _ => (s.n - intOf i).toNat)
  case atStart => exact ⟨0, rfl, by omega, ⟨y0, rfl⟩, Upto.zero _⟩
  case round =>
    obtain ⟨k, rfl, hk, ⟨y, rfl⟩, hU⟩ := hrel
    by_cases hlt : (k : Int) < s.n
    · have hG : G s k := ⟨by omega, hlt⟩
      have hk16 : k < 16 := by omega
      have hT := under_lt s h16 (k : Int)
      cases hbit : S.testBit k
      · have HB := Lib.hid hbit
        go_wp2_with (first | (go_at_call 129; refine (has_ans S k hS hk16 y).mono ?_; rintro e w' ⟨rfl, y2, rfl⟩) | (go_at_call 65; refine (gradesUnder_ans h1 t hG y2).mono ?_; rintro e w' ⟨rfl, y2, rfl⟩))
        go_roundw
        case rel => exact ⟨k + 1, by go_num, by omega, ⟨y2, rfl⟩, hU.out.succ (fun q => by have := q.1; rw [show ((k : Int).toNat) = k from by omega, HB.out] at this; cases this)⟩
        case measure => simp [intOf]; omega
      · have HB := Lib.hid hbit
        by_cases hsub : SubSet S (s.under k)
        · have hz : (bits .andNot .u32 (S : Int) (s.under k : Int) == 0) = true := by simpa using (andNot_zero hS hT).2 hsub
          have HS := Lib.hid hsub
          clear hsub
          go_wp2_with (first | (go_at_call 129; refine (has_ans S k hS hk16 y).mono ?_; rintro e w' ⟨rfl, y2, rfl⟩) | (go_at_call 65; refine (gradesUnder_ans h1 t hG y2).mono ?_; rintro e w' ⟨rfl, y2, rfl⟩))
          go_ret
          refine fin_int ?_ (hback y2)
          have hk2 : (k : Int) = firstI s.n (GreatestIn s S) := firstI_eq (.inl ⟨by omega, hlt, ⟨by rw [show ((k : Int).toNat) = k from by omega]; exact HB.out, HS.out⟩, hU.out⟩)
          rw [HV.out]; exact hk2
        · have hz : (bits .andNot .u32 (S : Int) (s.under k : Int) == 0) = false := by
            have := mt (andNot_zero hS hT).1 hsub
            simpa using this
          have HS := Lib.hid hsub
          clear hsub
          go_wp2_with (first | (go_at_call 129; refine (has_ans S k hS hk16 y).mono ?_; rintro e w' ⟨rfl, y2, rfl⟩) | (go_at_call 65; refine (gradesUnder_ans h1 t hG y2).mono ?_; rintro e w' ⟨rfl, y2, rfl⟩))
          go_roundw
          case rel => exact ⟨k + 1, by go_num, by omega, ⟨y2, rfl⟩, hU.out.succ (fun q => HS.out q.2)⟩
          case measure => simp [intOf]; omega
    · go_wp2
      go_ret
      refine fin_int ?_ (hback y)
      have hn : (-1 : Int) = firstI s.n (GreatestIn s S) := firstI_eq (.inr ⟨rfl, fun i h0 hi => hU.out i h0 (by omega)⟩)
      rw [HV.out]; exact hn

end Go.Proofs.Ytkokmpdmmfghhaa
