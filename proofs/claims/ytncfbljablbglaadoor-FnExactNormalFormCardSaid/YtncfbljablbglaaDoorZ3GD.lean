/- Texts of one claim, laid together: TypeM, TypeS, TypeI, TypeT. -/
import Derived.Test.YtncfbljablbglaaDoorZ3GA
import Derived.Test.YtncfbljablbglaaDoorZ3GB
import Derived.Test.YtncfbljablbglaaDoorZ3GC
set_option linter.unusedVariables false
set_option linter.unusedSimpArgs false
/- The model's types: codes, where a type ends. -/
namespace Go.Proofs.YtncfbljablbglaaDoor
open Go.RowKit

theorem l2Arrow_ans {W : World} (c : Int) (p : Bool) (hp : p = true ↔ Arr c) (x : Ext W) : Calls Tryd.prog 48 #[.int .i64 c] x.w (Ans W (.bool p)) := by
  have HP := Lib.hid hp
  clear hp
  obtain ⟨yy, hyy⟩ : ∃ y : Ext W, x = y := ⟨x, rfl⟩
  rw [hyy]
  clear hyy
  by_cases h : 3 ≤ c ∧ c ≤ 18
  · have H := Lib.hid h
    clear h
    go_enter Tryd.func48, Tryd.ntmps48
    go_wp2_with ((go_at_call 30; with_reducible refine Calls.mono (l1In_ans c 3 18 true (by refine iff_tf ?_; dsimp only; exact H.out) _) ?_; rintro e w' ⟨rfl, yy, rfl⟩))
    go_ret
    exact fin_true HP (.inl H.out) ⟨yy, rfl⟩
  · by_cases e : c = 35
    · have fe : (c == 35) = true := by simpa using e
      have H := Lib.hid h
      have E := Lib.hid e
      clear h e
      go_enter Tryd.func48, Tryd.ntmps48
      go_wp2_with ((go_at_call 30; with_reducible refine Calls.mono (l1In_ans c 3 18 false (by refine iff_tf ?_; dsimp only; exact H.out) _) ?_; rintro e w' ⟨rfl, yy, rfl⟩))
      go_ret
      exact fin_true HP (.inr E.out) ⟨yy, rfl⟩
    · have fe : (c == 35) = false := by simpa using e
      have H := Lib.hid h
      have E := Lib.hid e
      clear h e
      go_enter Tryd.func48, Tryd.ntmps48
      go_wp2_with ((go_at_call 30; with_reducible refine Calls.mono (l1In_ans c 3 18 false (by refine iff_tf ?_; dsimp only; exact H.out) _) ?_; rintro e w' ⟨rfl, yy, rfl⟩))
      go_ret
      exact fin_false HP (fun q => q.elim H.out E.out) ⟨yy, rfl⟩

theorem l2Box_ans {W : World} (c : Int) (p : Bool) (hp : p = true ↔ Bx c) (x : Ext W) : Calls Tryd.prog 75 #[.int .i64 c] x.w (Ans W (.bool p)) := by
  have HP := Lib.hid hp
  clear hp
  obtain ⟨yy, hyy⟩ : ∃ y : Ext W, x = y := ⟨x, rfl⟩
  rw [hyy]
  clear hyy
  by_cases h : 19 ≤ c ∧ c ≤ 34
  · have H := Lib.hid h
    clear h
    go_enter Tryd.func75, Tryd.ntmps75
    go_wp2_with ((go_at_call 30; with_reducible refine Calls.mono (l1In_ans c 19 34 true (by refine iff_tf ?_; dsimp only; exact H.out) _) ?_; rintro e w' ⟨rfl, yy, rfl⟩))
    go_ret
    exact fin_true HP (.inl H.out) ⟨yy, rfl⟩
  · by_cases e : c = 36
    · have fe : (c == 36) = true := by simpa using e
      have H := Lib.hid h
      have E := Lib.hid e
      clear h e
      go_enter Tryd.func75, Tryd.ntmps75
      go_wp2_with ((go_at_call 30; with_reducible refine Calls.mono (l1In_ans c 19 34 false (by refine iff_tf ?_; dsimp only; exact H.out) _) ?_; rintro e w' ⟨rfl, yy, rfl⟩))
      go_ret
      exact fin_true HP (.inr E.out) ⟨yy, rfl⟩
    · have fe : (c == 36) = false := by simpa using e
      have H := Lib.hid h
      have E := Lib.hid e
      clear h e
      go_enter Tryd.func75, Tryd.ntmps75
      go_wp2_with ((go_at_call 30; with_reducible refine Calls.mono (l1In_ans c 19 34 false (by refine iff_tf ?_; dsimp only; exact H.out) _) ?_; rintro e w' ⟨rfl, yy, rfl⟩))
      go_ret
      exact fin_false HP (fun q => q.elim H.out E.out) ⟨yy, rfl⟩

theorem l2Kids_ans {W : World} (c : Int) (x : Ext W) : Calls Tryd.prog 44 #[.int .i64 c] x.w (Ans W (.int .i64 (kidsOf c))) := by
  obtain ⟨yy, hyy⟩ : ∃ y : Ext W, x = y := ⟨x, rfl⟩
  rw [hyy]
  clear hyy
  by_cases e0 : c = 0
  · subst e0
    go_enter Tryd.func44, Tryd.ntmps44
    go_wp2
    go_ret
    exact fin_int (by decide) ⟨yy, rfl⟩
  by_cases e1 : c = 1
  · subst e1
    go_enter Tryd.func44, Tryd.ntmps44
    go_wp2
    go_ret
    exact fin_int (by decide) ⟨yy, rfl⟩
  by_cases e2 : c = 2
  · subst e2
    go_enter Tryd.func44, Tryd.ntmps44
    go_wp2
    go_ret
    exact fin_int (by decide) ⟨yy, rfl⟩
  have f0 : (c == 0) = false := by simpa using e0
  have f1 : (c == 1) = false := by simpa using e1
  have f2 : (c == 2) = false := by simpa using e2
  by_cases a : Arr c
  · have HA := Lib.hid a
    clear a e0 e1 e2
    go_enter Tryd.func44, Tryd.ntmps44
    go_wp2_with ((go_at_call 48; with_reducible refine Calls.mono (l2Arrow_ans c true (by refine iff_tf ?_; dsimp only; exact HA.out) _) ?_; rintro e w' ⟨rfl, yy, rfl⟩))
    go_ret
    exact fin_int (kidsOf_2 (.inr (.inr HA.out))).symm ⟨yy, rfl⟩
  by_cases b : Bx c
  · have HA := Lib.hid a
    have HB := Lib.hid b
    clear a b e0 e1 e2
    go_enter Tryd.func44, Tryd.ntmps44
    go_wp2_with (first | (go_at_call 48; with_reducible refine Calls.mono (l2Arrow_ans c false (by refine iff_tf ?_; dsimp only; exact HA.out) _) ?_; rintro e w' ⟨rfl, yy, rfl⟩) | (go_at_call 75; with_reducible refine Calls.mono (l2Box_ans c true (by refine iff_tf ?_; dsimp only; exact HB.out) _) ?_; rintro e w' ⟨rfl, yy, rfl⟩))
    go_ret
    exact fin_int (kidsOf_1 HB.out).symm ⟨yy, rfl⟩
  · have HA := Lib.hid a
    have HB := Lib.hid b
    have HK : Hid (-1 = kidsOf c) := (kidsOf_no e0 (by rintro (h | h | h); exact e1 h; exact e2 h; exact a h) b).symm
    clear a b e0 e1 e2
    go_enter Tryd.func44, Tryd.ntmps44
    go_wp2_with (first | (go_at_call 48; with_reducible refine Calls.mono (l2Arrow_ans c false (by refine iff_tf ?_; dsimp only; exact HA.out) _) ?_; rintro e w' ⟨rfl, yy, rfl⟩) | (go_at_call 75; with_reducible refine Calls.mono (l2Box_ans c false (by refine iff_tf ?_; dsimp only; exact HB.out) _) ?_; rintro e w' ⟨rfl, yy, rfl⟩))
    go_ret
    exact fin_int HK.out ⟨yy, rfl⟩

theorem l2Grade_ans {W : World} (c : Int) (h0 : 0 ≤ c) (h1 : c ≤ 1000) (x : Ext W) : Calls Tryd.prog 45 #[.int .i64 c] x.w (Ans W (.int .i64 (gradeOf c))) := by
  obtain ⟨yy, hyy⟩ : ∃ y : Ext W, x = y := ⟨x, rfl⟩
  rw [hyy]
  clear hyy
  by_cases e : 35 ≤ c
  · skip
    go_enter Tryd.func45, Tryd.ntmps45
    go_wp2
    go_ret
    exact fin_int (by unfold gradeOf; rw [if_pos e]) ⟨yy, rfl⟩
  by_cases e2 : 19 ≤ c
  · skip
    go_enter Tryd.func45, Tryd.ntmps45
    go_wp2
    go_ret
    exact fin_int (by unfold gradeOf; rw [if_neg (by omega), if_pos e2]) ⟨yy, rfl⟩
  · skip
    go_enter Tryd.func45, Tryd.ntmps45
    go_wp2
    go_ret
    exact fin_int (by unfold gradeOf; rw [if_neg (by omega), if_neg (by omega)]) ⟨yy, rfl⟩

set_option maxHeartbeats 1600000 in
theorem l2End_ans {W : World} {a : Option Addr} {c : Nat} {l : List Int} (hr : Row W (Value.int .i64) a l) (hl : l.length ≤ 1000) {at' : Nat} (hat : at' ≤ l.length) (x : Ext W) :
    Calls Tryd.prog 74 #[.slice a l.length c, .int .i64 at'] x.w (Ans W (.int .i64 (endOf l at' 1))) := by
  obtain ⟨yy, hyy⟩ : ∃ y : Ext W, x = y := ⟨x, rfl⟩
  rw [hyy]
  clear hyy
  generalize hR : endOf l at' 1 = R
  have HR := Lib.hid hR
  clear hR
  go_enter Tryd.func74, Tryd.ntmps74
  go_wp2
  go_loopw [6, 5] (fun i m wr => ∃ k : Nat, ∃ q : Int, i = .int .i64 k ∧ m = .int .i64 q ∧ k ≤ l.length ∧ 1 ≤ q ∧ q ≤ 1 + k ∧ (∃ y : Ext W, wr = y.w) ∧ Hid (endOf l k q = R)) (fun i _ _ => l.length - (intOf i).toNat)
  case atStart => exact ⟨at', 1, rfl, rfl, hat, by omega, by omega, ⟨yy, rfl⟩, HR⟩
  case round =>
    obtain ⟨k, q, rfl, rfl, hk, hq1, hq2, ⟨yy, rfl⟩, HU⟩ := hrel
    by_cases hlt : k < l.length
    · have hlt' : (k : Int) < (l.length : Int) := by omega
      obtain ⟨b0, o0, rfl, hc⟩ := hr.at hlt
      have HC : Hid (l[k]? = some l[k]) := List.getElem?_eq_getElem hlt
      have cc : ∀ y : Ext W, y.w.cell? ⟨b0, o0 + k, none⟩ = some (.int .i64 l[k]) := fun y => y.cell (hc k _ HC.out)
      clear hc
      generalize l[k] = c at *
      have hk1 := kidsOf_le c
      have hk2 := kidsOf_ge c
      by_cases hn : kidsOf c < 0
      · have HN := Lib.hid hn
        have HQ : Hid (1 ≤ q) := hq1
        go_wp2_with ((go_at_call 44; with_reducible refine Calls.mono (l2Kids_ans c _) ?_; rintro e w' ⟨rfl, yy, rfl⟩))
        go_ret
        exact fin_int (by rw [← HU.out, endOf_bad HC.out (by have := HQ.out; omega) HN.out]) ⟨yy, rfl⟩
      · have hs : Hid (endOf l (k + 1) (q - 1 + kidsOf c) = R) := by
          rw [← HU.out]; exact (endOf_step HC.out (by omega) (by omega)).symm
        generalize hkc : kidsOf c = kc at *
        by_cases hz : q - 1 + kc = 0
        · have fz : (q - 1 + kc == 0) = true := by simpa using hz
          have HZ := Lib.hid hz
          clear hz
          have K2 : ∀ y : Ext W, Calls Tryd.prog 44 #[.int .i64 c] y.w (Ans W (.int .i64 kc)) := fun y => by rw [← hkc]; exact l2Kids_ans c y
          clear hkc
          go_wp2_with ((go_at_call 44; with_reducible refine Calls.mono (K2 _) ?_; rintro e w' ⟨rfl, yy, rfl⟩))
          go_ret
          exact fin_int (by have := hs.out; rw [HZ.out, endOf_zero] at this; rw [← this]; rfl) ⟨yy, rfl⟩
        · have fz : (q - 1 + kc == 0) = false := by simpa using hz
          have K2 : ∀ y : Ext W, Calls Tryd.prog 44 #[.int .i64 c] y.w (Ans W (.int .i64 kc)) := fun y => by rw [← hkc]; exact l2Kids_ans c y
          clear hkc
          go_wp2_with ((go_at_call 44; with_reducible refine Calls.mono (K2 _) ?_; rintro e w' ⟨rfl, yy, rfl⟩))
          go_roundw
          case rel => exact ⟨k + 1, q - 1 + kc, by go_num, by go_num, by omega, by omega, by omega, ⟨yy, rfl⟩, hs⟩
          case measure => simp [intOf]; omega
    · go_wp2
      go_ret
      exact fin_int (by rw [← HU.out, endOf_out (by omega) (by omega)]) ⟨yy, rfl⟩

end Go.Proofs.YtncfbljablbglaaDoor
/- The model's IsType and IsData. -/
namespace Go.Proofs.YtncfbljablbglaaDoor
open Go.RowKit

theorem l2End0_ans {W : World} {a : Option Addr} {c : Nat} {l : List Int} (hr : Row W (Value.int .i64) a l) (hl : l.length ≤ 1000) {e : Int} (he : endOf l 0 1 = e) (x : Ext W) :
    Calls Tryd.prog 74 #[.slice a l.length c, .int .i64 0] x.w (Ans W (.int .i64 e)) := by
  subst he
  exact l2End_ans (at' := 0) hr hl (Nat.zero_le _) x

theorem l2Type_ans {W : World} {a : Option Addr} {c : Nat} {l : List Int} (hr : Row W (Value.int .i64) a l) (hl : l.length ≤ 1099511627776) (p : Bool) (hp : p = true ↔ WT l) (x : Ext W) :
    Calls Tryd.prog 43 #[.slice a l.length c] x.w (Ans W (.bool p)) := by
  have HP := Lib.hid hp
  clear hp
  obtain ⟨yy, hyy⟩ : ∃ y : Ext W, x = y := ⟨x, rfl⟩
  rw [hyy]
  clear hyy
  by_cases h40 : l.length ≤ 40
  · have f40 : (l.length : Int) ≤ 40 := by omega
    generalize hE : endOf l 0 1 = e
    replace hE := Lib.hid hE
    by_cases he : e = l.length
    · have fe : (e == (l.length : Int)) = true := by simpa using he
      have w : WT l := ⟨h40, by rw [hE.out]; exact he⟩
      have hpos := w.pos
      have fp : (0 : Int) < (l.length : Int) := by omega
      have HW := Lib.hid w
      clear w he
      go_enter Tryd.func43, Tryd.ntmps43
      go_wp2_with ((go_at_call 74; with_reducible refine Calls.mono (l2End0_ans hr (by omega) hE.out _) ?_; rintro e w' ⟨rfl, yy, rfl⟩))
      go_ret
      exact fin_true HP (HW.out) ⟨yy, rfl⟩
    · have fe : (e == (l.length : Int)) = false := by simpa using he
      have HW : Hid (¬ WT l) := fun w => he (by rw [← hE.out]; exact w.2)
      clear he
      go_enter Tryd.func43, Tryd.ntmps43
      go_wp2_with ((go_at_call 74; with_reducible refine Calls.mono (l2End0_ans hr (by omega) hE.out _) ?_; rintro e w' ⟨rfl, yy, rfl⟩))
      go_ret
      exact fin_false HP (HW.out) ⟨yy, rfl⟩
  · have f40 : ¬ (l.length : Int) ≤ 40 := by omega
    have HW : Hid (¬ WT l) := fun w => h40 w.1
    go_enter Tryd.func43, Tryd.ntmps43
    go_wp2
    go_ret
    exact fin_false HP (HW.out) ⟨yy, rfl⟩

theorem upto_next {l : List Int} {k : Nat} {P : Int → Prop} {c : Int} (HU : Hid (∀ j u, j < k → l[j]? = some u → P u)) (HC : Hid (l[k]? = some c)) (HG : Hid (P c)) : Hid (∀ j u, j < k + 1 → l[j]? = some u → P u) := fun j u hj hu => by
  by_cases e : j = k
  · subst e
    have := HC.out
    rw [this] at hu
    cases hu
    exact HG.out
  · exact HU.out j u (by omega) hu
theorem upto_all {l : List Int} {k : Nat} {P : Int → Prop} (HU : Hid (∀ j u, j < k → l[j]? = some u → P u)) (hk : l.length ≤ k) : ∀ u ∈ l, P u := fun u hu => by
  obtain ⟨j, hj, e⟩ := List.getElem_of_mem hu
  exact HU.out j u (by omega) (by rw [List.getElem?_eq_getElem hj, e])
theorem upto_none (l : List Int) (P : Int → Prop) : Hid (∀ j u, j < 0 → l[j]? = some u → P u) := fun j u hj => by omega

set_option maxHeartbeats 1600000 in
theorem l2Graded_ans {W : World} {a : Option Addr} {c : Nat} {l : List Int} (hr : Row W (Value.int .i64) a l) (hl : l.length ≤ 1099511627776) (size : Int) (closed : Bool) (p : Bool) (hp : p = true ↔ Grs size closed l) (x : Ext W) :
    Calls Tryd.prog 101 #[.slice a l.length c, .int .i64 size, .bool closed] x.w (Ans W (.bool p)) := by
  have HP := Lib.hid hp
  clear hp
  obtain ⟨yy, hyy⟩ : ∃ y : Ext W, x = y := ⟨x, rfl⟩
  rw [hyy]
  clear hyy
  go_enter Tryd.func101, Tryd.ntmps101
  go_wp2
  go_loopw [7] (fun i wr => ∃ k : Nat, i = .int .i64 k ∧ k ≤ l.length ∧ (∃ y : Ext W, wr = y.w) ∧ Hid (∀ j u, j < k → l[j]? = some u → GOk size closed u)) (fun i _ => l.length - (intOf i).toNat)
  case atStart => exact ⟨0, rfl, by omega, ⟨yy, rfl⟩, upto_none _ _⟩
  case round =>
    obtain ⟨k, rfl, hk, ⟨yy, rfl⟩, HU⟩ := hrel
    by_cases hlt : k < l.length
    · have hlt' : (k : Int) < (l.length : Int) := by omega
      obtain ⟨b0, o0, rfl, hc⟩ := hr.at hlt
      have HC : Hid (l[k]? = some l[k]) := List.getElem?_eq_getElem hlt
      have cc : ∀ y : Ext W, y.w.cell? ⟨b0, o0 + k, none⟩ = some (.int .i64 l[k]) := fun y => y.cell (hc k _ HC.out)
      clear hc
      generalize l[k] = c at *
      by_cases hk0 : 0 < kidsOf c
      · by_cases h2 : 2 < c
        · have hgr : Graded c := (graded_iff c).1 ⟨hk0, h2⟩
          have hc36 : c ≤ 36 := by unfold Graded Arr Bx at hgr; omega
          by_cases hs : gradeOf c < size
          · cases closed with
            | true =>
              by_cases hn : gradeOf c < 0
              · have HG : Hid (¬ GOk size true c) := fun q => by have := (q hgr).2 rfl; omega
                clear hgr
                go_wp2_with (first | (go_at_call 44; with_reducible refine Calls.mono (l2Kids_ans c _) ?_; rintro e w' ⟨rfl, yy, rfl⟩) | (go_at_call 45; with_reducible refine Calls.mono (l2Grade_ans c (by omega) (by omega) _) ?_; rintro e w' ⟨rfl, yy, rfl⟩))
                go_ret
                exact fin_false HP (fun q => HG.out (q c (List.mem_of_getElem? HC.out))) ⟨yy, rfl⟩
              · have HG : Hid (GOk size true c) := fun _ => ⟨hs, fun _ => by omega⟩
                clear hgr
                go_wp2_with (first | (go_at_call 44; with_reducible refine Calls.mono (l2Kids_ans c _) ?_; rintro e w' ⟨rfl, yy, rfl⟩) | (go_at_call 45; with_reducible refine Calls.mono (l2Grade_ans c (by omega) (by omega) _) ?_; rintro e w' ⟨rfl, yy, rfl⟩))
                go_roundw
                case rel => exact ⟨k + 1, by go_num, by omega, ⟨yy, rfl⟩, upto_next HU HC HG⟩
                case measure => simp [intOf]; omega
            | false =>
              have HG : Hid (GOk size false c) := fun _ => ⟨hs, fun q => by cases q⟩
              clear hgr
              go_wp2_with (first | (go_at_call 44; with_reducible refine Calls.mono (l2Kids_ans c _) ?_; rintro e w' ⟨rfl, yy, rfl⟩) | (go_at_call 45; with_reducible refine Calls.mono (l2Grade_ans c (by omega) (by omega) _) ?_; rintro e w' ⟨rfl, yy, rfl⟩))
              go_roundw
              case rel => exact ⟨k + 1, by go_num, by omega, ⟨yy, rfl⟩, upto_next HU HC HG⟩
              case measure => simp [intOf]; omega
          · have HG : Hid (¬ GOk size closed c) := fun q => by have := (q hgr).1; omega
            clear hgr
            go_wp2_with (first | (go_at_call 44; with_reducible refine Calls.mono (l2Kids_ans c _) ?_; rintro e w' ⟨rfl, yy, rfl⟩) | (go_at_call 45; with_reducible refine Calls.mono (l2Grade_ans c (by omega) (by omega) _) ?_; rintro e w' ⟨rfl, yy, rfl⟩))
            go_ret
            exact fin_false HP (fun q => HG.out (q c (List.mem_of_getElem? HC.out))) ⟨yy, rfl⟩
        · have HG : Hid (GOk size closed c) := fun q => absurd ((graded_iff c).2 q).2 h2
          go_wp2_with ((go_at_call 44; with_reducible refine Calls.mono (l2Kids_ans c _) ?_; rintro e w' ⟨rfl, yy, rfl⟩))
          go_roundw
          case rel => exact ⟨k + 1, by go_num, by omega, ⟨yy, rfl⟩, upto_next HU HC HG⟩
          case measure => simp [intOf]; omega
      · have HG : Hid (GOk size closed c) := fun q => absurd ((graded_iff c).2 q).1 hk0
        go_wp2_with ((go_at_call 44; with_reducible refine Calls.mono (l2Kids_ans c _) ?_; rintro e w' ⟨rfl, yy, rfl⟩))
        go_roundw
        case rel => exact ⟨k + 1, by go_num, by omega, ⟨yy, rfl⟩, upto_next HU HC HG⟩
        case measure => simp [intOf]; omega
    · go_wp2
      go_ret
      exact fin_true HP (upto_all HU (by omega)) ⟨yy, rfl⟩

def IsTypeP (s : Sys) (l : List Int) : Prop := IsSys s ∧ WT l ∧ Grs s.n true l

end Go.Proofs.YtncfbljablbglaaDoor
/- The program's types: where a type ends, which grades a rule allows. -/
namespace Go.Proofs.YtncfbljablbglaaDoor
open Go.RowKit

theorem form_ok {W : World} (F : Forms W) {c k : Int} (hc : c ≤ 36) (h : kidsOf c = k) (hk : 0 ≤ k) (x : Ext W) :
    Calls Tryd.prog 77 #[.int .i64 c] x.w (Ans W (.tuple #[.agg #[.string (markF c), .int .i64 (codeF c), .int .i64 (openF c), .int .i64 k, .bool (decide (Graded c))], .int .i64 (gF c), .bool true])) := by
  have := formOf_ans F c hc x
  subst h
  rw [formV, decide_eq_true hk] at this
  unfold partsF at this
  rw [if_neg (by omega)] at this
  exact this
theorem form_bad {W : World} (F : Forms W) {c : Int} (hc : c ≤ 36) (h : kidsOf c < 0) (x : Ext W) :
    Calls Tryd.prog 77 #[.int .i64 c] x.w (Ans W (.tuple #[.agg #[.string (markF c), .int .i64 (codeF c), .int .i64 (openF c), .int .i64 (partsF c), .bool (decide (Graded c))], .int .i64 (gF c), .bool false])) := by
  have := formOf_ans F c hc x
  rw [formV, show decide (0 ≤ kidsOf c) = false from decide_eq_false (by omega)] at this
  exact this
/-- A code that the program knows, whatever its grade. -/
theorem formP_ok {W : World} (F : Forms W) {c k : Int} (hm : c ≤ maxI) (h : kidsP c = k) (hk : 0 ≤ k) : ∃ (f0 : ByteArray) (f1 f2 : Int) (f4 : Bool) (g : Int), ∀ y : Ext W,
    Calls Tryd.prog 77 #[.int .i64 c] y.w (Ans W (.tuple #[.agg #[.string f0, .int .i64 f1, .int .i64 f2, .int .i64 k, .bool f4], .int .i64 g, .bool true])) := by
  by_cases h36 : 36 < c
  · obtain ⟨f0, f1, f2, C⟩ := form_far F c h36 hm
    subst h
    exact ⟨f0, f1, f2, true, _, C⟩
  · rw [kidsP_in (by omega)] at h
    exact ⟨_, _, _, _, _, fun y => form_ok F (by omega) h hk y⟩
theorem formP_bad {W : World} (F : Forms W) {c : Int} (h : kidsP c < 0) (x : Ext W) :
    Calls Tryd.prog 77 #[.int .i64 c] x.w (Ans W (.tuple #[.agg #[.string (markF c), .int .i64 (codeF c), .int .i64 (openF c), .int .i64 (partsF c), .bool (decide (Graded c))], .int .i64 (gF c), .bool false])) := by
  by_cases h36 : 36 < c
  · have := kidsP_far h36; omega
  · rw [kidsP_in (by omega)] at h
    exact form_bad F (by omega) h x

set_option maxHeartbeats 1600000 in
theorem endOfTypeP_ans {W : World} (F : Forms W) {a : Option Addr} {c : Nat} {l : List Int} (hr : Row W (Value.int .i64) a l) (hw : CodesB l) (hl : l.length ≤ 1000) {at' : Nat} (hat : at' ≤ l.length) (x : Ext W) :
    Calls Tryd.prog 98 #[.slice a l.length c, .int .i64 at'] x.w (Ans W (.int .i64 (endP l at' 1))) := by
  obtain ⟨yy, hyy⟩ : ∃ y : Ext W, x = y := ⟨x, rfl⟩
  rw [hyy]
  clear hyy
  generalize hR : endP l at' 1 = R
  have HR := Lib.hid hR
  clear hR
  go_enter Tryd.func98, Tryd.ntmps98
  go_wp2
  go_loopw [1, 5] (fun i m wr => ∃ k : Nat, ∃ q : Int, i = .int .i64 k ∧ m = .int .i64 q ∧ k ≤ l.length ∧ 0 ≤ q ∧ q ≤ 1 + k ∧ (∃ y : Ext W, wr = y.w) ∧ Hid (endP l k q = R)) (fun i _ _ => l.length - (intOf i).toNat)
  case atStart => exact ⟨at', 1, rfl, rfl, hat, by omega, by omega, ⟨yy, rfl⟩, HR⟩
  case round =>
    obtain ⟨k, q, rfl, rfl, hk, hq1, hq2, ⟨yy, rfl⟩, HU⟩ := hrel
    by_cases hq : 0 < q
    · by_cases hlt : k < l.length
      · have hlt' : (k : Int) < (l.length : Int) := by omega
        have hlt2 : ¬ (l.length : Int) ≤ (k : Int) := by omega
        obtain ⟨b0, o0, rfl, hc⟩ := hr.at hlt
        have HC : Hid (l[k]? = some l[k]) := List.getElem?_eq_getElem hlt
        have cc : ∀ y : Ext W, y.w.cell? ⟨b0, o0 + k, none⟩ = some (.int .i64 l[k]) := fun y => y.cell (hc k _ HC.out)
        clear hc
        generalize l[k] = c at *
        have hk1 := kidsP_le c
        have hcm : c ≤ maxI := hw c (List.mem_of_getElem? HC.out)
        by_cases hn : kidsP c < 0
        · have HN := Lib.hid hn
          have HQ := Lib.hid hq
          go_wp2_with ((go_at_call 77; with_reducible refine Calls.mono (formP_bad F hn _) ?_; rintro e w' ⟨rfl, yy, rfl⟩))
          go_ret
          exact fin_int (by rw [← HU.out, endP_bad HC.out (by have := HQ.out; omega) HN.out]) ⟨yy.alloc _, rfl⟩
        · have hs : Hid (endP l (k + 1) (q - 1 + kidsP c) = R) := by
            rw [← HU.out]; exact (endP_step HC.out (by omega) (by omega)).symm
          generalize hkc : kidsP c = kc at *
          obtain ⟨f0, f1, f2, f4, gg, FC⟩ := formP_ok F hcm hkc (by omega)
          clear hkc
          go_wp2_with ((go_at_call 77; with_reducible refine Calls.mono (FC _) ?_; rintro e w' ⟨rfl, yy, rfl⟩))
          go_roundw
          case rel => exact ⟨k + 1, q - 1 + kc, by go_num, by go_num; first | done | omega, by omega, by omega, by omega, ⟨yy.alloc _, rfl⟩, hs⟩
          case measure => simp [intOf]; omega
      · have hlt2 : (l.length : Int) ≤ (k : Int) := by omega
        go_wp2
        go_ret
        exact fin_int (by rw [← HU.out, endP_out (by omega) (by omega)]) ⟨yy, rfl⟩
    · go_wp2
      go_ret
      exact fin_int (by rw [← HU.out, show q = 0 by omega, endP_zero]) ⟨yy, rfl⟩
theorem endOfType0_ans {W : World} (F : Forms W) {a : Option Addr} {c : Nat} {l : List Int} (hr : Row W (Value.int .i64) a l) (hw : CodesB l) (hl : l.length ≤ 1000) {e : Int} (he : endP l 0 1 = e) (x : Ext W) :
    Calls Tryd.prog 98 #[.slice a l.length c, .int .i64 0] x.w (Ans W (.int .i64 e)) := by
  subst he
  exact endOfTypeP_ans F (at' := 0) hr hw hl (Nat.zero_le _) x

/-- The rule that a method has been handed lies in a new block of its own. -/
theorem boxedRule {W W1 : World} (x : Ext W) {T : TypeId} {B : Nat} {n : Int} {b : Bool} (hB : x.w.heap.size = B) (hW : x.w.alloc (.cells #[.int .i64 n, .bool b] T) = W1) :
    (∀ y : Ext W1, y.w.cell? ⟨B, 0, none⟩ = some (.int .i64 n)) ∧ (∀ y : Ext W1, y.w.cell? ⟨B, 1, none⟩ = some (.bool b)) ∧ (∀ y : Ext W1, ∃ z : Ext W, y.w = z.w) ∧ ∃ y0 : Ext W1, y0.w = W1 := by
  subst hW; subst hB
  refine ⟨fun y => ?_, fun y => ?_, fun y => ⟨x.on y.behind.below, rfl⟩, Ext.self _, rfl⟩
  · exact y.cell (by rw [World.cell?_alloc_at _ _ _ _ rfl]; rfl)
  · exact y.cell (by rw [World.cell?_alloc_at _ _ _ _ rfl]; rfl)

def Allows (n : Int) (b : Bool) (g : Int) : Prop := (0 ≤ g ∧ g < n) ∨ (b = true ∧ g = -1)
theorem allows_ans {W : World} (n : Int) (b : Bool) (g : Int) (p : Bool) (hp : p = true ↔ Allows n b g) (x : Ext W) :
    Calls Tryd.prog 99 #[.agg #[.int .i64 n, .bool b], .int .i64 g] x.w (Ans W (.bool p)) := by
  have HP := Lib.hid hp
  clear hp
  by_cases hi : 0 ≤ g ∧ g < n
  · have HI := Lib.hid hi
    clear hi
    go_enter Tryd.func99, Tryd.ntmps99
    go_wp2_with fail
    generalize hW : x.w.alloc _ = W1
    generalize hB : x.w.heap.size = B
    obtain ⟨c0, c1, hback, yy, hy0⟩ := boxedRule x hB hW
    clear hW hB
    rw [← hy0]
    clear hy0
    go_wp2_with ((go_at_call 36; with_reducible refine Calls.mono (inRange_ans g n true (by refine iff_tf ?_; dsimp only; exact HI.out) _) ?_; rintro e w' ⟨rfl, yy, rfl⟩))
    go_ret
    exact fin_true HP (.inl HI.out) (hback yy)
  · have HI := Lib.hid hi
    clear hi
    cases b with
    | false =>
      go_enter Tryd.func99, Tryd.ntmps99
      go_wp2_with fail
      generalize hW : x.w.alloc _ = W1
      generalize hB : x.w.heap.size = B
      obtain ⟨c0, c1, hback, yy, hy0⟩ := boxedRule x hB hW
      clear hW hB
      rw [← hy0]
      clear hy0
      go_wp2_with ((go_at_call 36; with_reducible refine Calls.mono (inRange_ans g n false (by refine iff_tf ?_; dsimp only; exact HI.out) _) ?_; rintro e w' ⟨rfl, yy, rfl⟩))
      go_ret
      exact fin_false HP (fun q => q.elim HI.out (fun q => by cases q.1)) (hback yy)
    | true =>
      by_cases e : g = -1
      · have fe : (g == -1) = true := by simpa using e
        have HE := Lib.hid e
        clear e
        go_enter Tryd.func99, Tryd.ntmps99
        go_wp2_with fail
        generalize hW : x.w.alloc _ = W1
        generalize hB : x.w.heap.size = B
        obtain ⟨c0, c1, hback, yy, hy0⟩ := boxedRule x hB hW
        clear hW hB
        rw [← hy0]
        clear hy0
        go_wp2_with ((go_at_call 36; with_reducible refine Calls.mono (inRange_ans g n false (by refine iff_tf ?_; dsimp only; exact HI.out) _) ?_; rintro e w' ⟨rfl, yy, rfl⟩))
        go_ret
        exact fin_true HP (.inr ⟨rfl, HE.out⟩) (hback yy)
      · have fe : (g == -1) = false := by simpa using e
        have HE := Lib.hid e
        clear e
        go_enter Tryd.func99, Tryd.ntmps99
        go_wp2_with fail
        generalize hW : x.w.alloc _ = W1
        generalize hB : x.w.heap.size = B
        obtain ⟨c0, c1, hback, yy, hy0⟩ := boxedRule x hB hW
        clear hW hB
        rw [← hy0]
        clear hy0
        go_wp2_with ((go_at_call 36; with_reducible refine Calls.mono (inRange_ans g n false (by refine iff_tf ?_; dsimp only; exact HI.out) _) ?_; rintro e w' ⟨rfl, yy, rfl⟩))
        go_ret
        exact fin_false HP (fun q => q.elim HI.out (fun q => HE.out q.2)) (hback yy)

/-- Grades that the rule allows. -/
def RuleP (n : Int) (b : Bool) (l : List Int) : Prop := WT l ∧ ∀ u ∈ l, Graded u → Allows n b (gradeOf u)
theorem ruleP_grs {n : Int} (hn : 0 ≤ n) (b : Bool) (l : List Int) : (∀ u ∈ l, Graded u → Allows n b (gradeOf u)) ↔ Grs n (!b) l := by
  unfold Grs GOk Allows
  refine forall_congr' fun u => forall_congr' fun _ => forall_congr' fun hg => ?_
  have := gradeOf_ge hg
  cases b <;> simp <;> omega
/-- The same, as the program looks: codes behind the written ones have grades that no rule allows. -/
theorem ruleP_prog {n : Int} (hn : n ≤ 16) {b : Bool} {l : List Int} : RuleP n b l ↔ l.length ≤ 40 ∧ endP l 0 1 = l.length ∧ ∀ u ∈ l, (36 < u → False) ∧ (Graded u → Allows n b (gradeOf u)) := by
  constructor
  · rintro ⟨w, h⟩
    exact ⟨w.1, by rw [endP_eq w.codes36]; exact w.2, fun u hu => ⟨fun q => by have := (w.codes u hu).2; omega, h u hu⟩⟩
  · rintro ⟨w, e, h⟩
    have h36 : ∀ u ∈ l, u ≤ 36 := fun u hu => Int.not_lt.1 (h u hu).1
    exact ⟨⟨w, by rw [← endP_eq h36]; exact e⟩, fun u hu => (h u hu).2⟩
def GrP (n : Int) (b : Bool) (u : Int) : Prop := (36 < u → False) ∧ (Graded u → Allows n b (gradeOf u))
set_option maxHeartbeats 1600000 in
theorem allowsType_ans {W : World} (F : Forms W) {a : Option Addr} {c : Nat} {l : List Int} (hr : Row W (Value.int .i64) a l) (hw : CodesB l) (n : Int) (hn16 : n ≤ 16) (b : Bool) (p : Bool) (hp : p = true ↔ RuleP n b l) (x : Ext W) :
    Calls Tryd.prog 76 #[.agg #[.int .i64 n, .bool b], .slice a l.length c] x.w (Ans W (.bool p)) := by
  have HP : Hid (p = true ↔ l.length ≤ 40 ∧ endP l 0 1 = l.length ∧ ∀ u ∈ l, GrP n b u) := hp.trans (ruleP_prog hn16)
  clear hp
  by_cases h40 : l.length ≤ 40
  · have f40 : ¬ (40 : Int) < (l.length : Int) := by omega
    have f41 : (l.length : Int) ≤ 40 := by omega
    generalize hE : endP l 0 1 = e
    replace hE := Lib.hid hE
    by_cases he : e = l.length
    · have fe : (e != (l.length : Int)) = false := by simpa using he
      have HW : Hid (l.length ≤ 40 ∧ e = l.length) := ⟨h40, he⟩
      clear he
      go_enter Tryd.func76, Tryd.ntmps76
      go_wp2_with fail
      generalize hW : x.w.alloc _ = W1
      generalize hB : x.w.heap.size = B
      obtain ⟨c0, c1, hback, yy, hy0⟩ := boxedRule x hB hW
      have hrow : Row W1 (Value.int .i64) a l := by rw [← hW]; exact hr.ext (x.alloc _)
      have FF : Forms W1 := by rw [← hW]; exact F.ext (x.alloc _)
      clear hW hB
      rw [← hy0]
      clear hy0
      have m0 : ∀ (y : Ext W1) o, (y.w.alloc o).cell? ⟨B, 0, none⟩ = some (.int .i64 n) := fun y o => c0 (y.alloc o)
      have m1 : ∀ (y : Ext W1) o, (y.w.alloc o).cell? ⟨B, 1, none⟩ = some (.bool b) := fun y o => c1 (y.alloc o)
      go_wp2_with ((go_at_call 98; with_reducible refine Calls.mono (endOfType0_ans FF hrow hw (by omega) hE.out _) ?_; rintro e w' ⟨rfl, yy, rfl⟩))
      go_loopw [22] (fun i wr => ∃ k : Nat, i = .int .i64 k ∧ k ≤ l.length ∧ (∃ y : Ext W1, wr = y.w) ∧ Hid (∀ j u, j < k → l[j]? = some u → GrP n b u)) (fun i _ => l.length - (intOf i).toNat)
      case atStart => exact ⟨0, rfl, by omega, ⟨yy, rfl⟩, upto_none _ _⟩
      case round =>
        obtain ⟨k, rfl, hk, ⟨yy, rfl⟩, HU⟩ := hrel
        by_cases hlt : k < l.length
        · have hlt' : (k : Int) < (l.length : Int) := by omega
          obtain ⟨b0, o0, rfl, hc⟩ := hrow.at hlt
          have HC : Hid (l[k]? = some l[k]) := List.getElem?_eq_getElem hlt
          have cc : ∀ y : Ext W1, y.w.cell? ⟨b0, o0 + k, none⟩ = some (.int .i64 l[k]) := fun y => y.cell (hc k _ HC.out)
          clear hc
          generalize l[k] = c at *
          have hcm : c ≤ maxI := hw c (List.mem_of_getElem? HC.out)
          by_cases h36 : 36 < c
          · have HG : Hid (¬ GrP n b c) := fun q => q.1 h36
            obtain ⟨f0, f1, f2, FG⟩ := form_far FF c h36 hcm
            have HA : Hid (¬ Allows n b (gradeP c)) := by
              have := gradeP_far h36
              unfold Allows
              rintro (q | q) <;> omega
            clear h36 hcm
            generalize gradeP c = gg at *
            generalize kidsP c = kk at *
            go_wp2_with (first | (go_at_call 77; with_reducible refine Calls.mono (FG _) ?_; rintro e w' ⟨rfl, yy, rfl⟩) | (go_at_call 99; with_reducible refine Calls.mono (allows_ans n b gg false (by refine iff_tf ?_; dsimp only; exact HA.out) (yy.alloc _)) ?_; rintro e w' ⟨rfl, yy, rfl⟩))
            go_ret
            exact fin_false HP (fun q => HG.out (q.2.2 c (List.mem_of_getElem? HC.out))) (hback yy)
          have hc36 : c ≤ 36 := by omega
          have N36 : Hid (36 < c → False) := fun q => h36 q
          clear h36 hcm
          by_cases hg : Graded c
          · have FG : ∃ v : Bool, ∀ y : Ext W1, Calls Tryd.prog 77 #[.int .i64 c] y.w (Ans W1 (.tuple #[.agg #[.string (markF c), .int .i64 (codeF c), .int .i64 (openF c), .int .i64 (partsF c), .bool true], .int .i64 (gradeOf c), .bool v])) := ⟨decide (0 ≤ kidsOf c), fun y => by
              have := formOf_ans FF c hc36 y
              rw [formV, decide_eq_true hg] at this
              unfold gF at this
              rw [if_pos hg] at this
              exact this⟩
            obtain ⟨vv, FG⟩ := FG
            by_cases ha : Allows n b (gradeOf c)
            · have HG : Hid (GrP n b c) := ⟨N36.out, fun _ => ha⟩
              have HA := Lib.hid ha
              clear ha hg
              go_wp2_with (first | (go_at_call 77; with_reducible refine Calls.mono (FG _) ?_; rintro e w' ⟨rfl, yy, rfl⟩) | (go_at_call 99; with_reducible refine Calls.mono (allows_ans n b (gradeOf c) true (by refine iff_tf ?_; dsimp only; exact HA.out) (yy.alloc _)) ?_; rintro e w' ⟨rfl, yy, rfl⟩))
              go_roundw
              case rel => exact ⟨k + 1, by go_num, by omega, ⟨yy, rfl⟩, upto_next HU HC HG⟩
              case measure => simp [intOf]; omega
            · have HG : Hid (¬ GrP n b c) := fun q => ha (q.2 hg)
              have HA := Lib.hid ha
              clear ha hg
              go_wp2_with (first | (go_at_call 77; with_reducible refine Calls.mono (FG _) ?_; rintro e w' ⟨rfl, yy, rfl⟩) | (go_at_call 99; with_reducible refine Calls.mono (allows_ans n b (gradeOf c) false (by refine iff_tf ?_; dsimp only; exact HA.out) (yy.alloc _)) ?_; rintro e w' ⟨rfl, yy, rfl⟩))
              go_ret
              exact fin_false HP (fun q => HG.out (q.2.2 c (List.mem_of_getElem? HC.out))) (hback yy)
          · have HG : Hid (GrP n b c) := ⟨N36.out, fun q => absurd q hg⟩
            have FG : ∃ v : Bool, ∀ y : Ext W1, Calls Tryd.prog 77 #[.int .i64 c] y.w (Ans W1 (.tuple #[.agg #[.string (markF c), .int .i64 (codeF c), .int .i64 (openF c), .int .i64 (partsF c), .bool false], .int .i64 (gF c), .bool v])) := ⟨decide (0 ≤ kidsOf c), fun y => by
              have := formOf_ans FF c hc36 y
              rw [formV, decide_eq_false hg] at this
              exact this⟩
            obtain ⟨vv, FG⟩ := FG
            clear hg
            go_wp2_with ((go_at_call 77; with_reducible refine Calls.mono (FG _) ?_; rintro e w' ⟨rfl, yy, rfl⟩))
            go_roundw
            case rel => exact ⟨k + 1, by go_num, by omega, ⟨yy.alloc _, rfl⟩, upto_next HU HC HG⟩
            case measure => simp [intOf]; omega
        · go_wp2
          go_ret
          exact fin_true HP ⟨HW.out.1, by rw [hE.out]; exact HW.out.2, upto_all HU (by omega)⟩ (hback yy)
    · have fe : (e != (l.length : Int)) = true := by simpa using he
      have HW : Hid (¬ (l.length ≤ 40 ∧ endP l 0 1 = l.length ∧ ∀ u ∈ l, GrP n b u)) := fun w => he (by rw [← hE.out]; exact w.2.1)
      clear he
      go_enter Tryd.func76, Tryd.ntmps76
      go_wp2_with fail
      generalize hW : x.w.alloc _ = W1
      generalize hB : x.w.heap.size = B
      obtain ⟨c0, c1, hback, yy, hy0⟩ := boxedRule x hB hW
      have hrow : Row W1 (Value.int .i64) a l := by rw [← hW]; exact hr.ext (x.alloc _)
      have FF : Forms W1 := by rw [← hW]; exact F.ext (x.alloc _)
      clear hW hB
      rw [← hy0]
      clear hy0
      go_wp2_with ((go_at_call 98; with_reducible refine Calls.mono (endOfType0_ans FF hrow hw (by omega) hE.out _) ?_; rintro e w' ⟨rfl, yy, rfl⟩))
      go_ret
      exact fin_false HP (HW.out) (hback yy)
  · have f40 : (40 : Int) < (l.length : Int) := by omega
    have HW : Hid (¬ (l.length ≤ 40 ∧ endP l 0 1 = l.length ∧ ∀ u ∈ l, GrP n b u)) := fun w => h40 w.1
    go_enter Tryd.func76, Tryd.ntmps76
    go_wp2
    go_ret
    exact fin_false HP HW.out ⟨x.alloc _, rfl⟩

end Go.Proofs.YtncfbljablbglaaDoor
/- The program's IsType and IsData. -/
namespace Go.Proofs.YtncfbljablbglaaDoor
open Go.RowKit

theorem IsTypeP.codes36 {s : Sys} {l : List Int} (h : IsTypeP s l) : ∀ u ∈ l, u ≤ 36 := h.2.1.codes36

end Go.Proofs.YtncfbljablbglaaDoor
