
/- The model's IsType and IsData. -/
import Derived.Test.YtiekppegfocejaaDoorTypeM
import Derived.Test.YtiekppegfocejaaDoorSysB
namespace Go.Proofs.YtiekppegfocejaaDoor
open Go.RowKit

theorem l2End0_ans {W : World} {a : Option Addr} {c : Nat} {l : List Int} (hr : Row W (Value.int .i64) a l) (hl : l.length ≤ 1000) {e : Int} (he : endOf l 0 1 = e) (x : Ext W) :
    Calls Tryd.prog 61 #[.slice a l.length c, .int .i64 0] x.w (Ans W (.int .i64 e)) := by
  subst he
  exact l2End_ans (at' := 0) hr hl (Nat.zero_le _) x

theorem l2Type_ans {W : World} {a : Option Addr} {c : Nat} {l : List Int} (hr : Row W (Value.int .i64) a l) (hl : l.length ≤ 1099511627776) (p : Bool) (hp : p = true ↔ WT l) (x : Ext W) :
    Calls Tryd.prog 30 #[.slice a l.length c] x.w (Ans W (.bool p)) := by
  have HP := Lib.hid hp
  clear hp
  obtain ⟨yy, hyy⟩ : ∃ y : Ext W, x = y := ⟨x, rfl⟩
  rw [hyy]
  clear hyy
  by_cases h40 : l.length ≤ 40
  · have f40 : (l.length : Int) ≤ 40 := by omega
    generalize hE : endOf l 0 1 = e
    replace hE := Lib.hid hE
    by_cases he : e = l.length
    · have fe : (e == (l.length : Int)) = true := by simpa using he
      have w : WT l := ⟨h40, by rw [hE.out]; exact he⟩
      have hpos := w.pos
      have fp : (0 : Int) < (l.length : Int) := by omega
      have HW := Lib.hid w
      clear w he
      go_enter Tryd.func30, Tryd.ntmps30
      go_wp2_with ((go_at_call 61; with_reducible refine Calls.mono (l2End0_ans hr (by omega) hE.out _) ?_; rintro e w' ⟨rfl, yy, rfl⟩))
      go_ret
      exact fin_true HP (HW.out) ⟨yy, rfl⟩
    · have fe : (e == (l.length : Int)) = false := by simpa using he
      have HW : Hid (¬ WT l) := fun w => he (by rw [← hE.out]; exact w.2)
      clear he
      go_enter Tryd.func30, Tryd.ntmps30
      go_wp2_with ((go_at_call 61; with_reducible refine Calls.mono (l2End0_ans hr (by omega) hE.out _) ?_; rintro e w' ⟨rfl, yy, rfl⟩))
      go_ret
      exact fin_false HP (HW.out) ⟨yy, rfl⟩
  · have f40 : ¬ (l.length : Int) ≤ 40 := by omega
    have HW : Hid (¬ WT l) := fun w => h40 w.1
    go_enter Tryd.func30, Tryd.ntmps30
    go_wp2
    go_ret
    exact fin_false HP (HW.out) ⟨yy, rfl⟩

theorem upto_next {l : List Int} {k : Nat} {P : Int → Prop} {c : Int} (HU : Hid (∀ j u, j < k → l[j]? = some u → P u)) (HC : Hid (l[k]? = some c)) (HG : Hid (P c)) : Hid (∀ j u, j < k + 1 → l[j]? = some u → P u) := fun j u hj hu => by
  by_cases e : j = k
  · subst e
    have := HC.out
    rw [this] at hu
    cases hu
    exact HG.out
  · exact HU.out j u (by omega) hu
theorem upto_all {l : List Int} {k : Nat} {P : Int → Prop} (HU : Hid (∀ j u, j < k → l[j]? = some u → P u)) (hk : l.length ≤ k) : ∀ u ∈ l, P u := fun u hu => by
  obtain ⟨j, hj, e⟩ := List.getElem_of_mem hu
  exact HU.out j u (by omega) (by rw [List.getElem?_eq_getElem hj, e])
theorem upto_none (l : List Int) (P : Int → Prop) : Hid (∀ j u, j < 0 → l[j]? = some u → P u) := fun j u hj => by omega

set_option maxHeartbeats 1600000 in
theorem l2Graded_ans {W : World} {a : Option Addr} {c : Nat} {l : List Int} (hr : Row W (Value.int .i64) a l) (hl : l.length ≤ 1099511627776) (size : Int) (closed : Bool) (p : Bool) (hp : p = true ↔ Grs size closed l) (x : Ext W) :
    Calls Tryd.prog 88 #[.slice a l.length c, .int .i64 size, .bool closed] x.w (Ans W (.bool p)) := by
  have HP := Lib.hid hp
  clear hp
  obtain ⟨yy, hyy⟩ : ∃ y : Ext W, x = y := ⟨x, rfl⟩
  rw [hyy]
  clear hyy
  go_enter Tryd.func88, Tryd.ntmps88
  go_wp2
  go_loopw [7] (fun i wr => ∃ k : Nat, i = .int .i64 k ∧ k ≤ l.length ∧ (∃ y : Ext W, wr = y.w) ∧ Hid (∀ j u, j < k → l[j]? = some u → GOk size closed u)) (fun i _ => l.length - (intOf i).toNat)
  case atStart => exact ⟨0, rfl, by omega, ⟨yy, rfl⟩, upto_none _ _⟩
  case round =>
    obtain ⟨k, rfl, hk, ⟨yy, rfl⟩, HU⟩ := hrel
    by_cases hlt : k < l.length
    · have hlt' : (k : Int) < (l.length : Int) := by omega
      obtain ⟨b0, o0, rfl, hc⟩ := hr.at hlt
      have HC : Hid (l[k]? = some l[k]) := List.getElem?_eq_getElem hlt
      have cc : ∀ y : Ext W, y.w.cell? ⟨b0, o0 + k, none⟩ = some (.int .i64 l[k]) := fun y => y.cell (hc k _ HC.out)
      clear hc
      generalize l[k] = c at *
      by_cases hk0 : 0 < kidsOf c
      · by_cases h2 : 2 < c
        · have hgr : Graded c := (graded_iff c).1 ⟨hk0, h2⟩
          have hc36 : c ≤ 36 := by unfold Graded Arr Bx at hgr; omega
          by_cases hs : gradeOf c < size
          · cases closed with
            | true =>
              by_cases hn : gradeOf c < 0
              · have HG : Hid (¬ GOk size true c) := fun q => by have := (q hgr).2 rfl; omega
                clear hgr
                go_wp2_with (first | (go_at_call 31; with_reducible refine Calls.mono (l2Kids_ans c _) ?_; rintro e w' ⟨rfl, yy, rfl⟩) | (go_at_call 54; with_reducible refine Calls.mono (l2Grade_ans c (by omega) (by omega) _) ?_; rintro e w' ⟨rfl, yy, rfl⟩))
                go_ret
                exact fin_false HP (fun q => HG.out (q c (List.mem_of_getElem? HC.out))) ⟨yy, rfl⟩
              · have HG : Hid (GOk size true c) := fun _ => ⟨hs, fun _ => by omega⟩
                clear hgr
                go_wp2_with (first | (go_at_call 31; with_reducible refine Calls.mono (l2Kids_ans c _) ?_; rintro e w' ⟨rfl, yy, rfl⟩) | (go_at_call 54; with_reducible refine Calls.mono (l2Grade_ans c (by omega) (by omega) _) ?_; rintro e w' ⟨rfl, yy, rfl⟩))
                go_roundw
                case rel => exact ⟨k + 1, by go_num, by omega, ⟨yy, rfl⟩, upto_next HU HC HG⟩
                case measure => simp [intOf]; omega
            | false =>
              have HG : Hid (GOk size false c) := fun _ => ⟨hs, fun q => by cases q⟩
              clear hgr
              go_wp2_with (first | (go_at_call 31; with_reducible refine Calls.mono (l2Kids_ans c _) ?_; rintro e w' ⟨rfl, yy, rfl⟩) | (go_at_call 54; with_reducible refine Calls.mono (l2Grade_ans c (by omega) (by omega) _) ?_; rintro e w' ⟨rfl, yy, rfl⟩))
              go_roundw
              case rel => exact ⟨k + 1, by go_num, by omega, ⟨yy, rfl⟩, upto_next HU HC HG⟩
              case measure => simp [intOf]; omega
          · have HG : Hid (¬ GOk size closed c) := fun q => by have := (q hgr).1; omega
            clear hgr
            go_wp2_with (first | (go_at_call 31; with_reducible refine Calls.mono (l2Kids_ans c _) ?_; rintro e w' ⟨rfl, yy, rfl⟩) | (go_at_call 54; with_reducible refine Calls.mono (l2Grade_ans c (by omega) (by omega) _) ?_; rintro e w' ⟨rfl, yy, rfl⟩))
            go_ret
            exact fin_false HP (fun q => HG.out (q c (List.mem_of_getElem? HC.out))) ⟨yy, rfl⟩
        · have HG : Hid (GOk size closed c) := fun q => absurd ((graded_iff c).2 q).2 h2
          go_wp2_with ((go_at_call 31; with_reducible refine Calls.mono (l2Kids_ans c _) ?_; rintro e w' ⟨rfl, yy, rfl⟩))
          go_roundw
          case rel => exact ⟨k + 1, by go_num, by omega, ⟨yy, rfl⟩, upto_next HU HC HG⟩
          case measure => simp [intOf]; omega
      · have HG : Hid (GOk size closed c) := fun q => absurd ((graded_iff c).2 q).1 hk0
        go_wp2_with ((go_at_call 31; with_reducible refine Calls.mono (l2Kids_ans c _) ?_; rintro e w' ⟨rfl, yy, rfl⟩))
        go_roundw
        case rel => exact ⟨k + 1, by go_num, by omega, ⟨yy, rfl⟩, upto_next HU HC HG⟩
        case measure => simp [intOf]; omega
    · go_wp2
      go_ret
      exact fin_true HP (upto_all HU (by omega)) ⟨yy, rfl⟩

def IsTypeP (s : Sys) (l : List Int) : Prop := IsSys s ∧ WT l ∧ Grs s.n true l
def IsDataP (s : Sys) (l : List Int) : Prop := IsTypeP s l ∧ ∀ u ∈ l, ¬ Arr u

end Go.Proofs.YtiekppegfocejaaDoor
