
/- The model's types: codes, where a type ends. -/
import Derived.Test.YtmifnhblhggflaaDoorTypeSpec
import Derived.Test.YtmifnhblhggflaaDoorModelA
import Derived.Test.YtmifnhblhggflaaDoorWorld
namespace Go.Proofs.YtmifnhblhggflaaDoor
open Go.RowKit

theorem l2Arrow_ans {W : World} (c : Int) (p : Bool) (hp : p = true ↔ Arr c) (x : Ext W) : Calls Tryd.prog 102 #[.int .i64 c] x.w (Ans W (.bool p)) := by
  have HP := Lib.hid hp
  clear hp
  obtain ⟨yy, hyy⟩ : ∃ y : Ext W, x = y := ⟨x, rfl⟩
  rw [hyy]
  clear hyy
  by_cases h : 3 ≤ c ∧ c ≤ 18
  · have H := Lib.hid h
    clear h
    go_enter Tryd.func102, Tryd.ntmps102
    go_wp2_with ((go_at_call 92; with_reducible refine Calls.mono (l1In_ans c 3 18 true (by refine iff_tf ?_; dsimp only; exact H.out) _) ?_; rintro e w' ⟨rfl, yy, rfl⟩))
    go_ret
    exact fin_true HP (.inl H.out) ⟨yy, rfl⟩
  · by_cases e : c = 35
    · have fe : (c == 35) = true := by simpa using e
      have H := Lib.hid h
      have E := Lib.hid e
      clear h e
      go_enter Tryd.func102, Tryd.ntmps102
      go_wp2_with ((go_at_call 92; with_reducible refine Calls.mono (l1In_ans c 3 18 false (by refine iff_tf ?_; dsimp only; exact H.out) _) ?_; rintro e w' ⟨rfl, yy, rfl⟩))
      go_ret
      exact fin_true HP (.inr E.out) ⟨yy, rfl⟩
    · have fe : (c == 35) = false := by simpa using e
      have H := Lib.hid h
      have E := Lib.hid e
      clear h e
      go_enter Tryd.func102, Tryd.ntmps102
      go_wp2_with ((go_at_call 92; with_reducible refine Calls.mono (l1In_ans c 3 18 false (by refine iff_tf ?_; dsimp only; exact H.out) _) ?_; rintro e w' ⟨rfl, yy, rfl⟩))
      go_ret
      exact fin_false HP (fun q => q.elim H.out E.out) ⟨yy, rfl⟩

theorem l2Box_ans {W : World} (c : Int) (p : Bool) (hp : p = true ↔ Bx c) (x : Ext W) : Calls Tryd.prog 103 #[.int .i64 c] x.w (Ans W (.bool p)) := by
  have HP := Lib.hid hp
  clear hp
  obtain ⟨yy, hyy⟩ : ∃ y : Ext W, x = y := ⟨x, rfl⟩
  rw [hyy]
  clear hyy
  by_cases h : 19 ≤ c ∧ c ≤ 34
  · have H := Lib.hid h
    clear h
    go_enter Tryd.func103, Tryd.ntmps103
    go_wp2_with ((go_at_call 92; with_reducible refine Calls.mono (l1In_ans c 19 34 true (by refine iff_tf ?_; dsimp only; exact H.out) _) ?_; rintro e w' ⟨rfl, yy, rfl⟩))
    go_ret
    exact fin_true HP (.inl H.out) ⟨yy, rfl⟩
  · by_cases e : c = 36
    · have fe : (c == 36) = true := by simpa using e
      have H := Lib.hid h
      have E := Lib.hid e
      clear h e
      go_enter Tryd.func103, Tryd.ntmps103
      go_wp2_with ((go_at_call 92; with_reducible refine Calls.mono (l1In_ans c 19 34 false (by refine iff_tf ?_; dsimp only; exact H.out) _) ?_; rintro e w' ⟨rfl, yy, rfl⟩))
      go_ret
      exact fin_true HP (.inr E.out) ⟨yy, rfl⟩
    · have fe : (c == 36) = false := by simpa using e
      have H := Lib.hid h
      have E := Lib.hid e
      clear h e
      go_enter Tryd.func103, Tryd.ntmps103
      go_wp2_with ((go_at_call 92; with_reducible refine Calls.mono (l1In_ans c 19 34 false (by refine iff_tf ?_; dsimp only; exact H.out) _) ?_; rintro e w' ⟨rfl, yy, rfl⟩))
      go_ret
      exact fin_false HP (fun q => q.elim H.out E.out) ⟨yy, rfl⟩

theorem l2Kids_ans {W : World} (c : Int) (x : Ext W) : Calls Tryd.prog 55 #[.int .i64 c] x.w (Ans W (.int .i64 (kidsOf c))) := by
  obtain ⟨yy, hyy⟩ : ∃ y : Ext W, x = y := ⟨x, rfl⟩
  rw [hyy]
  clear hyy
  by_cases e0 : c = 0
  · subst e0
    go_enter Tryd.func55, Tryd.ntmps55
    go_wp2
    go_ret
    exact fin_int (by decide) ⟨yy, rfl⟩
  by_cases e1 : c = 1
  · subst e1
    go_enter Tryd.func55, Tryd.ntmps55
    go_wp2
    go_ret
    exact fin_int (by decide) ⟨yy, rfl⟩
  by_cases e2 : c = 2
  · subst e2
    go_enter Tryd.func55, Tryd.ntmps55
    go_wp2
    go_ret
    exact fin_int (by decide) ⟨yy, rfl⟩
  have f0 : (c == 0) = false := by simpa using e0
  have f1 : (c == 1) = false := by simpa using e1
  have f2 : (c == 2) = false := by simpa using e2
  by_cases a : Arr c
  · have HA := Lib.hid a
    clear a e0 e1 e2
    go_enter Tryd.func55, Tryd.ntmps55
    go_wp2_with ((go_at_call 102; with_reducible refine Calls.mono (l2Arrow_ans c true (by refine iff_tf ?_; dsimp only; exact HA.out) _) ?_; rintro e w' ⟨rfl, yy, rfl⟩))
    go_ret
    exact fin_int (kidsOf_2 (.inr (.inr HA.out))).symm ⟨yy, rfl⟩
  by_cases b : Bx c
  · have HA := Lib.hid a
    have HB := Lib.hid b
    clear a b e0 e1 e2
    go_enter Tryd.func55, Tryd.ntmps55
    go_wp2_with (first | (go_at_call 102; with_reducible refine Calls.mono (l2Arrow_ans c false (by refine iff_tf ?_; dsimp only; exact HA.out) _) ?_; rintro e w' ⟨rfl, yy, rfl⟩) | (go_at_call 103; with_reducible refine Calls.mono (l2Box_ans c true (by refine iff_tf ?_; dsimp only; exact HB.out) _) ?_; rintro e w' ⟨rfl, yy, rfl⟩))
    go_ret
    exact fin_int (kidsOf_1 HB.out).symm ⟨yy, rfl⟩
  · have HA := Lib.hid a
    have HB := Lib.hid b
    have HK : Hid (-1 = kidsOf c) := (kidsOf_no e0 (by rintro (h | h | h); exact e1 h; exact e2 h; exact a h) b).symm
    clear a b e0 e1 e2
    go_enter Tryd.func55, Tryd.ntmps55
    go_wp2_with (first | (go_at_call 102; with_reducible refine Calls.mono (l2Arrow_ans c false (by refine iff_tf ?_; dsimp only; exact HA.out) _) ?_; rintro e w' ⟨rfl, yy, rfl⟩) | (go_at_call 103; with_reducible refine Calls.mono (l2Box_ans c false (by refine iff_tf ?_; dsimp only; exact HB.out) _) ?_; rintro e w' ⟨rfl, yy, rfl⟩))
    go_ret
    exact fin_int HK.out ⟨yy, rfl⟩

theorem l2Grade_ans {W : World} (c : Int) (h0 : 0 ≤ c) (h1 : c ≤ 1000) (x : Ext W) : Calls Tryd.prog 126 #[.int .i64 c] x.w (Ans W (.int .i64 (gradeOf c))) := by
  obtain ⟨yy, hyy⟩ : ∃ y : Ext W, x = y := ⟨x, rfl⟩
  rw [hyy]
  clear hyy
  by_cases e : 35 ≤ c
  · skip
    go_enter Tryd.func126, Tryd.ntmps126
    go_wp2
    go_ret
    exact fin_int (by unfold gradeOf; rw [if_pos e]) ⟨yy, rfl⟩
  by_cases e2 : 19 ≤ c
  · skip
    go_enter Tryd.func126, Tryd.ntmps126
    go_wp2
    go_ret
    exact fin_int (by unfold gradeOf; rw [if_neg (by omega), if_pos e2]) ⟨yy, rfl⟩
  · skip
    go_enter Tryd.func126, Tryd.ntmps126
    go_wp2
    go_ret
    exact fin_int (by unfold gradeOf; rw [if_neg (by omega), if_neg (by omega)]) ⟨yy, rfl⟩

set_option maxHeartbeats 1600000 in
theorem l2End_ans {W : World} {a : Option Addr} {c : Nat} {l : List Int} (hr : Row W (Value.int .i64) a l) (hl : l.length ≤ 1000) {at' : Nat} (hat : at' ≤ l.length) (x : Ext W) :
    Calls Tryd.prog 101 #[.slice a l.length c, .int .i64 at'] x.w (Ans W (.int .i64 (endOf l at' 1))) := by
  obtain ⟨yy, hyy⟩ : ∃ y : Ext W, x = y := ⟨x, rfl⟩
  rw [hyy]
  clear hyy
  generalize hR : endOf l at' 1 = R
  have HR := Lib.hid hR
  clear hR
  go_enter Tryd.func101, Tryd.ntmps101
  go_wp2
  go_loopw [6, 5] (fun i m wr => ∃ k : Nat, ∃ q : Int, i = .int .i64 k ∧ m = .int .i64 q ∧ k ≤ l.length ∧ 1 ≤ q ∧ q ≤ 1 + k ∧ (∃ y : Ext W, wr = y.w) ∧ Hid (endOf l k q = R)) (fun i _ _ => l.length - (intOf i).toNat)
  case atStart => exact ⟨at', 1, rfl, rfl, hat, by omega, by omega, ⟨yy, rfl⟩, HR⟩
  case round =>
    obtain ⟨k, q, rfl, rfl, hk, hq1, hq2, ⟨yy, rfl⟩, HU⟩ := hrel
    by_cases hlt : k < l.length
    · have hlt' : (k : Int) < (l.length : Int) := by omega
      obtain ⟨b0, o0, rfl, hc⟩ := hr.at hlt
      have HC : Hid (l[k]? = some l[k]) := List.getElem?_eq_getElem hlt
      have cc : ∀ y : Ext W, y.w.cell? ⟨b0, o0 + k, none⟩ = some (.int .i64 l[k]) := fun y => y.cell (hc k _ HC.out)
      clear hc
      generalize l[k] = c at *
      have hk1 := kidsOf_le c
      have hk2 := kidsOf_ge c
      by_cases hn : kidsOf c < 0
      · have HN := Lib.hid hn
        have HQ : Hid (1 ≤ q) := hq1
        go_wp2_with ((go_at_call 55; with_reducible refine Calls.mono (l2Kids_ans c _) ?_; rintro e w' ⟨rfl, yy, rfl⟩))
        go_ret
        exact fin_int (by rw [← HU.out, endOf_bad HC.out (by have := HQ.out; omega) HN.out]) ⟨yy, rfl⟩
      · have hs : Hid (endOf l (k + 1) (q - 1 + kidsOf c) = R) := by
          rw [← HU.out]; exact (endOf_step HC.out (by omega) (by omega)).symm
        generalize hkc : kidsOf c = kc at *
        by_cases hz : q - 1 + kc = 0
        · have fz : (q - 1 + kc == 0) = true := by simpa using hz
          have HZ := Lib.hid hz
          clear hz
          have K2 : ∀ y : Ext W, Calls Tryd.prog 55 #[.int .i64 c] y.w (Ans W (.int .i64 kc)) := fun y => by rw [← hkc]; exact l2Kids_ans c y
          clear hkc
          go_wp2_with ((go_at_call 55; with_reducible refine Calls.mono (K2 _) ?_; rintro e w' ⟨rfl, yy, rfl⟩))
          go_ret
          exact fin_int (by have := hs.out; rw [HZ.out, endOf_zero] at this; rw [← this]; rfl) ⟨yy, rfl⟩
        · have fz : (q - 1 + kc == 0) = false := by simpa using hz
          have K2 : ∀ y : Ext W, Calls Tryd.prog 55 #[.int .i64 c] y.w (Ans W (.int .i64 kc)) := fun y => by rw [← hkc]; exact l2Kids_ans c y
          clear hkc
          go_wp2_with ((go_at_call 55; with_reducible refine Calls.mono (K2 _) ?_; rintro e w' ⟨rfl, yy, rfl⟩))
          go_roundw
          case rel => exact ⟨k + 1, q - 1 + kc, by go_num, by go_num, by omega, by omega, by omega, ⟨yy, rfl⟩, hs⟩
          case measure => simp [intOf]; omega
    · go_wp2
      go_ret
      exact fin_int (by rw [← HU.out, endOf_out (by omega) (by omega)]) ⟨yy, rfl⟩

end Go.Proofs.YtmifnhblhggflaaDoor
