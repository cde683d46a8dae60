/- Sets of grades: the walks. -/
import Derived.Test.YtkokmpdmmfghhaaZ2HA
import Derived.Test.YtkokmpdmmfghhaaZ2KSets
set_option linter.unusedVariables false
set_option linter.unusedSimpArgs false
namespace Go.Proofs.Ytkokmpdmmfghhaa
open Go.RowKit

theorem inRange_ans {W : World} (g n : Int) (p : Bool) (hp : p = true ↔ 0 ≤ g ∧ g < n) (x : Ext W) :
    Calls Try.prog 107 #[.int .i64 g, .int .i64 n] x.w (Ans W (.bool p)) := by
  have HP := Lib.hid hp
  clear hp
  by_cases h0 : 0 ≤ g
  · by_cases h1 : g < n
    · go_enter Try.func107, Try.ntmps107
      go_wp2
      go_ret
      exact fin_true HP ⟨h0, h1⟩ ⟨x, rfl⟩
    · go_enter Try.func107, Try.ntmps107
      go_wp2
      go_ret
      exact fin_false HP (by omega) ⟨x, rfl⟩
  · go_enter Try.func107, Try.ntmps107
    go_wp2
    go_ret
    exact fin_false HP (by omega) ⟨x, rfl⟩

set_option maxHeartbeats 1600000 in
theorem allInRange_ans {W : World} {a : Option Addr} {c : Nat} {l : List Int} (h : Row W (Value.int .i64) a l) (hl : l.length ≤ 1099511627776) (n : Int) (p : Bool)
    (hp : p = true ↔ ∀ g ∈ l, 0 ≤ g ∧ g < n) (x : Ext W) :
    Calls Try.prog 78 #[.slice a l.length c, .int .i64 n] x.w (Ans W (.bool p)) := by
  have HP := Lib.hid hp
  clear hp
  go_enter Try.func78, Try.ntmps78
  go_wp2
  go_loopw [9] (fun i wr => ∃ k : Nat, i = .int .i64 k ∧ k ≤ l.length ∧ (∃ y : Ext W, wr = y.w) ∧ Hid (∀ j g, j < k → l[j]? = some g → 0 ≤ g ∧ g < n)) (fun i _ => l.length - (intOf i).toNat)
  case atStart => exact ⟨0, rfl, by omega, ⟨x, rfl⟩, fun j g hj _ => by omega⟩
  case round =>
    obtain ⟨k, rfl, hk, ⟨y, rfl⟩, hU⟩ := hrel
    by_cases hlt : k < l.length
    · obtain ⟨b, o, rfl, hc⟩ := (h.ext y).at hlt
      have hcell := hc k l[k] (List.getElem?_eq_getElem hlt)
      have HG : Hid (l[k]? = some l[k]) := List.getElem?_eq_getElem hlt
      clear hc
      generalize l[k] = g at *
      by_cases hq : 0 ≤ g ∧ g < n
      · go_wp2_with (go_at_call 107; refine (inRange_ans g n true (by simp only [hq, and_self]) y).mono ?_; rintro e w' ⟨rfl, y2, rfl⟩)
        go_roundw
        case rel =>
          refine ⟨k + 1, by go_num, by omega, ⟨y2, rfl⟩, fun j g' hj hg' => ?_⟩
          by_cases e : j = k
          · subst e
            have := HG.out
            rw [hg'] at this
            cases this
            exact hq
          · exact hU.out j g' (by omega) hg'
        case measure => simp [intOf]; omega
      · have HQ := Lib.hid hq
        clear hq
        go_wp2_with (go_at_call 107; refine (inRange_ans g n false (by simp only [Bool.false_eq_true, false_iff]; exact HQ.out) y).mono ?_; rintro e w' ⟨rfl, y2, rfl⟩)
        go_ret
        exact fin_false HP (fun q => HQ.out (q g (List.mem_of_getElem? HG.out))) ⟨y2, rfl⟩
    · go_wp2
      go_ret
      refine fin_true HP (fun g hg => ?_) ⟨y, rfl⟩
      obtain ⟨j, hj, e⟩ := List.mem_iff_getElem.1 hg
      exact hU.out j g (by omega) (by rw [List.getElem?_eq_getElem hj, e])

theorem has_ans {W : World} (S k : Nat) (hS : S < 65536) (hk : k < 16) (x : Ext W) :
    Calls Try.prog 129 #[.int .u32 S, .int .i64 k] x.w (Ans W (.bool (S.testBit k))) := by
  have ht := bit_test (S := S) (k := k) hS
  go_enter Try.func129, Try.ntmps129
  go_wp2
  go_ret
  exact ⟨rfl, x, rfl⟩


set_option maxHeartbeats 1600000 in
theorem gradesAbove_ans {W : World} {r : Ref} {s : Sys} (h : SysIn W r s) (t : Tables s) {a : Int} (ha : G s a) (x : Ext W) :
    Calls Try.prog 128 #[r.val s, .int .i64 a] x.w (Ans W (.int .u32 (s.above a))) := by
  have h2 := t.lo
  have h16 := t.hi
  unfold Ref.val
  go_enter Try.func128, Try.ntmps128
  go_wp2
  generalize hW : x.w.alloc _ = W1
  generalize hB : x.w.heap.size = B
  obtain ⟨c0, c1, c2, c3, h1, hback, y0, hy0⟩ := boxed h x hB hW
  clear hW hB
  rw [← hy0]
  clear hy0
  go_loopw [9, 5] (fun i v wr => ∃ k S : Nat, i = .int .i64 k ∧ v = .int .u32 S ∧ (k : Int) ≤ s.n ∧ (∃ y : Ext W1, wr = y.w) ∧ Hid (S = setN (fun g => s.le a g) k)) (fun i _ _ => (s.n - intOf i).toNat)
  case atStart => exact ⟨0, 0, rfl, rfl, by omega, ⟨y0, rfl⟩, rfl⟩
  case round =>
    obtain ⟨k, S, rfl, rfl, hk, ⟨y, rfl⟩, hS⟩ := hrel
    by_cases hlt : (k : Int) < s.n
    · have hG : G s k := ⟨by omega, hlt⟩
      have hS16 : S < 65536 := by rw [hS.out]; exact setN_lt16 _ (by omega)
      have hor := or_bit (k := k) hS16 (by omega)
      cases hle : s.le a k
      · have HL := Lib.hid hle
        go_wp2_with (go_at_call 63; refine (belowIn_ans h1 t ha hG y).mono ?_; rintro e w' ⟨rfl, y2, rfl⟩)
        go_roundw
        case rel => exact ⟨k + 1, S, by go_num, rfl, by omega, ⟨y2, rfl⟩, by unfold Hid; rw [setN, HL.out, hS.out]; rfl⟩
        case measure => simp [intOf]; omega
      · have HL := Lib.hid hle
        go_wp2_with (go_at_call 63; refine (belowIn_ans h1 t ha hG y).mono ?_; rintro e w' ⟨rfl, y2, rfl⟩)
        go_roundw
        case rel => exact ⟨k + 1, S ||| 2 ^ k, by go_num, rfl, by omega, ⟨y2, rfl⟩, by unfold Hid; rw [setN, HL.out, hS.out]; rfl⟩
        case measure => simp [intOf]; omega
    · go_wp2
      go_ret
      have e : s.n.toNat = k := by omega
      refine fin_int ?_ (hback y)
      unfold Sys.above
      rw [e, hS.out]

set_option maxHeartbeats 1600000 in
theorem leastOf_ans {W : World} {r : Ref} {s : Sys} (h : SysIn W r s) (t : Tables s) {S : Nat} (hS : S < 65536) (v : Int) (hv : v = firstI s.n (LeastIn s S)) (x : Ext W) :
    Calls Try.prog 108 #[r.val s, .int .u32 S] x.w (Ans W (.int .i64 v)) := by
  have HV := Lib.hid hv
  clear hv
  have h2 := t.lo
  have h16 := t.hi
  unfold Ref.val
  go_enter Try.func108, Try.ntmps108
  go_wp2
  generalize hW : x.w.alloc _ = W1
  generalize hB : x.w.heap.size = B
  obtain ⟨c0, c1, c2, c3, h1, hback, y0, hy0⟩ := boxed h x hB hW
  clear hW hB
  rw [← hy0]
  clear hy0
  go_loopw [8] (fun i wr => ∃ k : Nat, i = .int .i64 k ∧ (k : Int) ≤ s.n ∧ (∃ y : Ext W1, wr = y.w) ∧ Hid (Upto k (fun g => ¬ LeastIn s S g))) (fun i _ => (s.n - intOf i).toNat)
  case atStart => exact ⟨0, rfl, by omega, ⟨y0, rfl⟩, Upto.zero _⟩
  case round =>
    obtain ⟨k, rfl, hk, ⟨y, rfl⟩, hU⟩ := hrel
    by_cases hlt : (k : Int) < s.n
    · have hG : G s k := ⟨by omega, hlt⟩
      have hk16 : k < 16 := by omega
      have hT := above_lt s h16 (k : Int)
      cases hbit : S.testBit k
      · have HB := Lib.hid hbit
        go_wp2_with (first | (go_at_call 129; refine (has_ans S k hS hk16 y).mono ?_; rintro e w' ⟨rfl, y2, rfl⟩) | (go_at_call 128; refine (gradesAbove_ans h1 t hG y2).mono ?_; rintro e w' ⟨rfl, y2, rfl⟩))
        go_roundw
        case rel => exact ⟨k + 1, by go_num, by omega, ⟨y2, rfl⟩, hU.out.succ (fun q => by have := q.1; rw [show ((k : Int).toNat) = k from by omega, HB.out] at this; cases this)⟩
        case measure => simp [intOf]; omega
      · have HB := Lib.hid hbit
        by_cases hsub : SubSet S (s.above k)
        · have hz : (bits .andNot .u32 (S : Int) (s.above k : Int) == 0) = true := by simpa using (andNot_zero hS hT).2 hsub
          have HS := Lib.hid hsub
          clear hsub
          go_wp2_with (first | (go_at_call 129; refine (has_ans S k hS hk16 y).mono ?_; rintro e w' ⟨rfl, y2, rfl⟩) | (go_at_call 128; refine (gradesAbove_ans h1 t hG y2).mono ?_; rintro e w' ⟨rfl, y2, rfl⟩))
          go_ret
          refine fin_int ?_ (hback y2)
          have hk2 : (k : Int) = firstI s.n (LeastIn s S) := firstI_eq (.inl ⟨by omega, hlt, ⟨by rw [show ((k : Int).toNat) = k from by omega]; exact HB.out, HS.out⟩, hU.out⟩)
          rw [HV.out]; exact hk2
        · have hz : (bits .andNot .u32 (S : Int) (s.above k : Int) == 0) = false := by
            have := mt (andNot_zero hS hT).1 hsub
            simpa using this
          have HS := Lib.hid hsub
          clear hsub
          go_wp2_with (first | (go_at_call 129; refine (has_ans S k hS hk16 y).mono ?_; rintro e w' ⟨rfl, y2, rfl⟩) | (go_at_call 128; refine (gradesAbove_ans h1 t hG y2).mono ?_; rintro e w' ⟨rfl, y2, rfl⟩))
          go_roundw
          case rel => exact ⟨k + 1, by go_num, by omega, ⟨y2, rfl⟩, hU.out.succ (fun q => HS.out q.2)⟩
          case measure => simp [intOf]; omega
    · go_wp2
      go_ret
      refine fin_int ?_ (hback y)
      have hn : (-1 : Int) = firstI s.n (LeastIn s S) := firstI_eq (.inr ⟨rfl, fun i h0 hi => hU.out i h0 (by omega)⟩)
      rw [HV.out]; exact hn

end Go.Proofs.Ytkokmpdmmfghhaa
