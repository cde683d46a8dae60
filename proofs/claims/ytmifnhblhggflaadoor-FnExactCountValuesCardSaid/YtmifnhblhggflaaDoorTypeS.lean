
/- The model's IsType and IsData. -/
import Derived.Test.YtmifnhblhggflaaDoorTypeM
import Derived.Test.YtmifnhblhggflaaDoorSysB
namespace Go.Proofs.YtmifnhblhggflaaDoor
open Go.RowKit

theorem l2End0_ans {W : World} {a : Option Addr} {c : Nat} {l : List Int} (hr : Row W (Value.int .i64) a l) (hl : l.length ≤ 1000) {e : Int} (he : endOf l 0 1 = e) (x : Ext W) :
    Calls Tryd.prog 101 #[.slice a l.length c, .int .i64 0] x.w (Ans W (.int .i64 e)) := by
  subst he
  exact l2End_ans (at' := 0) hr hl (Nat.zero_le _) x

theorem l2Type_ans {W : World} {a : Option Addr} {c : Nat} {l : List Int} (hr : Row W (Value.int .i64) a l) (hl : l.length ≤ 1099511627776) (p : Bool) (hp : p = true ↔ WT l) (x : Ext W) :
    Calls Tryd.prog 54 #[.slice a l.length c] x.w (Ans W (.bool p)) := by
  have HP := Lib.hid hp
  clear hp
  obtain ⟨yy, hyy⟩ : ∃ y : Ext W, x = y := ⟨x, rfl⟩
  rw [hyy]
  clear hyy
  by_cases h40 : l.length ≤ 40
  · have f40 : (l.length : Int) ≤ 40 := by omega
    generalize hE : endOf l 0 1 = e
    replace hE := Lib.hid hE
    by_cases he : e = l.length
    · have fe : (e == (l.length : Int)) = true := by simpa using he
      have w : WT l := ⟨h40, by rw [hE.out]; exact he⟩
      have hpos := w.pos
      have fp : (0 : Int) < (l.length : Int) := by omega
      have HW := Lib.hid w
      clear w he
      go_enter Tryd.func54, Tryd.ntmps54
      go_wp2_with ((go_at_call 101; with_reducible refine Calls.mono (l2End0_ans hr (by omega) hE.out _) ?_; rintro e w' ⟨rfl, yy, rfl⟩))
      go_ret
      exact fin_true HP (HW.out) ⟨yy, rfl⟩
    · have fe : (e == (l.length : Int)) = false := by simpa using he
      have HW : Hid (¬ WT l) := fun w => he (by rw [← hE.out]; exact w.2)
      clear he
      go_enter Tryd.func54, Tryd.ntmps54
      go_wp2_with ((go_at_call 101; with_reducible refine Calls.mono (l2End0_ans hr (by omega) hE.out _) ?_; rintro e w' ⟨rfl, yy, rfl⟩))
      go_ret
      exact fin_false HP (HW.out) ⟨yy, rfl⟩
  · have f40 : ¬ (l.length : Int) ≤ 40 := by omega
    have HW : Hid (¬ WT l) := fun w => h40 w.1
    go_enter Tryd.func54, Tryd.ntmps54
    go_wp2
    go_ret
    exact fin_false HP (HW.out) ⟨yy, rfl⟩

theorem upto_next {l : List Int} {k : Nat} {P : Int → Prop} {c : Int} (HU : Hid (∀ j u, j < k → l[j]? = some u → P u)) (HC : Hid (l[k]? = some c)) (HG : Hid (P c)) : Hid (∀ j u, j < k + 1 → l[j]? = some u → P u) := fun j u hj hu => by
  by_cases e : j = k
  · subst e
    have := HC.out
    rw [this] at hu
    cases hu
    exact HG.out
  · exact HU.out j u (by omega) hu
theorem upto_all {l : List Int} {k : Nat} {P : Int → Prop} (HU : Hid (∀ j u, j < k → l[j]? = some u → P u)) (hk : l.length ≤ k) : ∀ u ∈ l, P u := fun u hu => by
  obtain ⟨j, hj, e⟩ := List.getElem_of_mem hu
  exact HU.out j u (by omega) (by rw [List.getElem?_eq_getElem hj, e])
theorem upto_none (l : List Int) (P : Int → Prop) : Hid (∀ j u, j < 0 → l[j]? = some u → P u) := fun j u hj => by omega

set_option maxHeartbeats 1600000 in
theorem l2Graded_ans {W : World} {a : Option Addr} {c : Nat} {l : List Int} (hr : Row W (Value.int .i64) a l) (hl : l.length ≤ 1099511627776) (size : Int) (closed : Bool) (p : Bool) (hp : p = true ↔ Grs size closed l) (x : Ext W) :
    Calls Tryd.prog 130 #[.slice a l.length c, .int .i64 size, .bool closed] x.w (Ans W (.bool p)) := by
  have HP := Lib.hid hp
  clear hp
  obtain ⟨yy, hyy⟩ : ∃ y : Ext W, x = y := ⟨x, rfl⟩
  rw [hyy]
  clear hyy
  go_enter Tryd.func130, Tryd.ntmps130
  go_wp2
  go_loopw [7] (fun i wr => ∃ k : Nat, i = .int .i64 k ∧ k ≤ l.length ∧ (∃ y : Ext W, wr = y.w) ∧ Hid (∀ j u, j < k → l[j]? = some u → GOk size closed u)) (fun i _ => l.length - (intOf i).toNat)
  case atStart => exact ⟨0, rfl, by omega, ⟨yy, rfl⟩, upto_none _ _⟩
  case round =>
    obtain ⟨k, rfl, hk, ⟨yy, rfl⟩, HU⟩ := hrel
    by_cases hlt : k < l.length
    · have hlt' : (k : Int) < (l.length : Int) := by omega
      obtain ⟨b0, o0, rfl, hc⟩ := hr.at hlt
      have HC : Hid (l[k]? = some l[k]) := List.getElem?_eq_getElem hlt
      have cc : ∀ y : Ext W, y.w.cell? ⟨b0, o0 + k, none⟩ = some (.int .i64 l[k]) := fun y => y.cell (hc k _ HC.out)
      clear hc
      generalize l[k] = c at *
      by_cases hk0 : 0 < kidsOf c
      · by_cases h2 : 2 < c
        · have hgr : Graded c := (graded_iff c).1 ⟨hk0, h2⟩
          have hc36 : c ≤ 36 := by unfold Graded Arr Bx at hgr; omega
          by_cases hs : gradeOf c < size
          · cases closed with
            | true =>
              by_cases hn : gradeOf c < 0
              · have HG : Hid (¬ GOk size true c) := fun q => by have := (q hgr).2 rfl; omega
                clear hgr
                go_wp2_with (first | (go_at_call 55; with_reducible refine Calls.mono (l2Kids_ans c _) ?_; rintro e w' ⟨rfl, yy, rfl⟩) | (go_at_call 126; with_reducible refine Calls.mono (l2Grade_ans c (by omega) (by omega) _) ?_; rintro e w' ⟨rfl, yy, rfl⟩))
                go_ret
                exact fin_false HP (fun q => HG.out (q c (List.mem_of_getElem? HC.out))) ⟨yy, rfl⟩
              · have HG : Hid (GOk size true c) := fun _ => ⟨hs, fun _ => by omega⟩
                clear hgr
                go_wp2_with (first | (go_at_call 55; with_reducible refine Calls.mono (l2Kids_ans c _) ?_; rintro e w' ⟨rfl, yy, rfl⟩) | (go_at_call 126; with_reducible refine Calls.mono (l2Grade_ans c (by omega) (by omega) _) ?_; rintro e w' ⟨rfl, yy, rfl⟩))
                go_roundw
                case rel => exact ⟨k + 1, by go_num, by omega, ⟨yy, rfl⟩, upto_next HU HC HG⟩
                case measure => simp [intOf]; omega
            | false =>
              have HG : Hid (GOk size false c) := fun _ => ⟨hs, fun q => by cases q⟩
              clear hgr
              go_wp2_with (first | (go_at_call 55; with_reducible refine Calls.mono (l2Kids_ans c _) ?_; rintro e w' ⟨rfl, yy, rfl⟩) | (go_at_call 126; with_reducible refine Calls.mono (l2Grade_ans c (by omega) (by omega) _) ?_; rintro e w' ⟨rfl, yy, rfl⟩))
              go_roundw
              case rel => exact ⟨k + 1, by go_num, by omega, ⟨yy, rfl⟩, upto_next HU HC HG⟩
              case measure => simp [intOf]; omega
          · have HG : Hid (¬ GOk size closed c) := fun q => by have := (q hgr).1; omega
            clear hgr
            go_wp2_with (first | (go_at_call 55; with_reducible refine Calls.mono (l2Kids_ans c _) ?_; rintro e w' ⟨rfl, yy, rfl⟩) | (go_at_call 126; with_reducible refine Calls.mono (l2Grade_ans c (by omega) (by omega) _) ?_; rintro e w' ⟨rfl, yy, rfl⟩))
            go_ret
            exact fin_false HP (fun q => HG.out (q c (List.mem_of_getElem? HC.out))) ⟨yy, rfl⟩
        · have HG : Hid (GOk size closed c) := fun q => absurd ((graded_iff c).2 q).2 h2
          go_wp2_with ((go_at_call 55; with_reducible refine Calls.mono (l2Kids_ans c _) ?_; rintro e w' ⟨rfl, yy, rfl⟩))
          go_roundw
          case rel => exact ⟨k + 1, by go_num, by omega, ⟨yy, rfl⟩, upto_next HU HC HG⟩
          case measure => simp [intOf]; omega
      · have HG : Hid (GOk size closed c) := fun q => absurd ((graded_iff c).2 q).1 hk0
        go_wp2_with ((go_at_call 55; with_reducible refine Calls.mono (l2Kids_ans c _) ?_; rintro e w' ⟨rfl, yy, rfl⟩))
        go_roundw
        case rel => exact ⟨k + 1, by go_num, by omega, ⟨yy, rfl⟩, upto_next HU HC HG⟩
        case measure => simp [intOf]; omega
    · go_wp2
      go_ret
      exact fin_true HP (upto_all HU (by omega)) ⟨yy, rfl⟩

theorem l2Data_ans {W : World} {a : Option Addr} {c : Nat} {l : List Int} (hr : Row W (Value.int .i64) a l) (hl : l.length ≤ 1099511627776) (p : Bool) (hp : p = true ↔ ∀ u ∈ l, ¬ Arr u) (x : Ext W) :
    Calls Tryd.prog 119 #[.slice a l.length c] x.w (Ans W (.bool p)) := by
  have HP := Lib.hid hp
  clear hp
  obtain ⟨yy, hyy⟩ : ∃ y : Ext W, x = y := ⟨x, rfl⟩
  rw [hyy]
  clear hyy
  go_enter Tryd.func119, Tryd.ntmps119
  go_wp2
  go_loopw [3] (fun i wr => ∃ k : Nat, i = .int .i64 k ∧ k ≤ l.length ∧ (∃ y : Ext W, wr = y.w) ∧ Hid (∀ j u, j < k → l[j]? = some u → ¬ Arr u)) (fun i _ => l.length - (intOf i).toNat)
  case atStart => exact ⟨0, rfl, by omega, ⟨yy, rfl⟩, upto_none _ _⟩
  case round =>
    obtain ⟨k, rfl, hk, ⟨yy, rfl⟩, HU⟩ := hrel
    by_cases hlt : k < l.length
    · have hlt' : (k : Int) < (l.length : Int) := by omega
      obtain ⟨b0, o0, rfl, hc⟩ := hr.at hlt
      have HC : Hid (l[k]? = some l[k]) := List.getElem?_eq_getElem hlt
      have cc : ∀ y : Ext W, y.w.cell? ⟨b0, o0 + k, none⟩ = some (.int .i64 l[k]) := fun y => y.cell (hc k _ HC.out)
      clear hc
      generalize l[k] = c at *
      by_cases ha : Arr c
      · have HG := Lib.hid ha
        clear ha
        go_wp2_with ((go_at_call 102; with_reducible refine Calls.mono (l2Arrow_ans c true (by refine iff_tf ?_; dsimp only; exact HG.out) _) ?_; rintro e w' ⟨rfl, yy, rfl⟩))
        go_ret
        exact fin_false HP (fun q => q c (List.mem_of_getElem? HC.out) HG.out) ⟨yy, rfl⟩
      · have HG := Lib.hid ha
        clear ha
        go_wp2_with ((go_at_call 102; with_reducible refine Calls.mono (l2Arrow_ans c false (by refine iff_tf ?_; dsimp only; exact HG.out) _) ?_; rintro e w' ⟨rfl, yy, rfl⟩))
        go_roundw
        case rel => exact ⟨k + 1, by go_num, by omega, ⟨yy, rfl⟩, upto_next HU HC HG⟩
        case measure => simp [intOf]; omega
    · go_wp2
      go_ret
      exact fin_true HP (upto_all HU (by omega)) ⟨yy, rfl⟩

def IsTypeP (s : Sys) (l : List Int) : Prop := IsSys s ∧ WT l ∧ Grs s.n true l
def IsDataP (s : Sys) (l : List Int) : Prop := IsTypeP s l ∧ ∀ u ∈ l, ¬ Arr u

set_option maxHeartbeats 1600000 in
theorem specIsType_ans {W : World} {r : Ref} {s : Sys} (h : SysIn W r s) {a : Option Addr} {c : Nat} {l : List Int} (hr : Row W (Value.int .i64) a l) (hl : l.length ≤ 1099511627776) (p : Bool) (hp : p = true ↔ IsTypeP s l) (x : Ext W) :
    Calls Tryd.prog 97 #[r.val s, .slice a l.length c] x.w (Ans W (.bool p)) := by
  have HP := Lib.hid hp
  clear hp
  unfold Ref.val
  by_cases is : IsSys s
  · have IS := Lib.hid is
    clear is
    by_cases iw : WT l
    · have IW := Lib.hid iw
      clear iw
      by_cases ig : Grs s.n true l
      · have IG := Lib.hid ig
        clear ig
        go_enter Tryd.func97, Tryd.ntmps97
        go_wp2_with fail
        generalize hW : x.w.alloc _ = W1
        generalize hB : x.w.heap.size = B
        obtain ⟨c0, c1, c2, c3, h1, hback, yy, hy0⟩ := boxed h x hB hW
        have hrow : Row W1 (Value.int .i64) a l := by rw [← hW]; exact hr.ext (x.alloc _)
        clear hW hB
        rw [← hy0]
        clear hy0
        go_wp2_with (first | (go_at_call 124; with_reducible refine Calls.mono (specIsSystem_ans h1 true (by refine iff_tf ?_; dsimp only; exact IS.out) _) ?_; rintro e w' ⟨rfl, yy, rfl⟩) | (go_at_call 54; with_reducible refine Calls.mono (l2Type_ans hrow hl true (by refine iff_tf ?_; dsimp only; exact IW.out) _) ?_; rintro e w' ⟨rfl, yy, rfl⟩) | (go_at_call 130; with_reducible refine Calls.mono (l2Graded_ans hrow hl s.n true true (by refine iff_tf ?_; dsimp only; exact IG.out) _) ?_; rintro e w' ⟨rfl, yy, rfl⟩))
        go_ret
        exact fin_true HP (⟨IS.out, IW.out, IG.out⟩) (hback yy)
      · have IG := Lib.hid ig
        clear ig
        go_enter Tryd.func97, Tryd.ntmps97
        go_wp2_with fail
        generalize hW : x.w.alloc _ = W1
        generalize hB : x.w.heap.size = B
        obtain ⟨c0, c1, c2, c3, h1, hback, yy, hy0⟩ := boxed h x hB hW
        have hrow : Row W1 (Value.int .i64) a l := by rw [← hW]; exact hr.ext (x.alloc _)
        clear hW hB
        rw [← hy0]
        clear hy0
        go_wp2_with (first | (go_at_call 124; with_reducible refine Calls.mono (specIsSystem_ans h1 true (by refine iff_tf ?_; dsimp only; exact IS.out) _) ?_; rintro e w' ⟨rfl, yy, rfl⟩) | (go_at_call 54; with_reducible refine Calls.mono (l2Type_ans hrow hl true (by refine iff_tf ?_; dsimp only; exact IW.out) _) ?_; rintro e w' ⟨rfl, yy, rfl⟩) | (go_at_call 130; with_reducible refine Calls.mono (l2Graded_ans hrow hl s.n true false (by refine iff_tf ?_; dsimp only; exact IG.out) _) ?_; rintro e w' ⟨rfl, yy, rfl⟩))
        go_ret
        exact fin_false HP (fun q => IG.out q.2.2) (hback yy)
    · have IW := Lib.hid iw
      clear iw
      go_enter Tryd.func97, Tryd.ntmps97
      go_wp2_with fail
      generalize hW : x.w.alloc _ = W1
      generalize hB : x.w.heap.size = B
      obtain ⟨c0, c1, c2, c3, h1, hback, yy, hy0⟩ := boxed h x hB hW
      have hrow : Row W1 (Value.int .i64) a l := by rw [← hW]; exact hr.ext (x.alloc _)
      clear hW hB
      rw [← hy0]
      clear hy0
      go_wp2_with (first | (go_at_call 124; with_reducible refine Calls.mono (specIsSystem_ans h1 true (by refine iff_tf ?_; dsimp only; exact IS.out) _) ?_; rintro e w' ⟨rfl, yy, rfl⟩) | (go_at_call 54; with_reducible refine Calls.mono (l2Type_ans hrow hl false (by refine iff_tf ?_; dsimp only; exact IW.out) _) ?_; rintro e w' ⟨rfl, yy, rfl⟩))
      go_ret
      exact fin_false HP (fun q => IW.out q.2.1) (hback yy)
  · have IS := Lib.hid is
    clear is
    go_enter Tryd.func97, Tryd.ntmps97
    go_wp2_with fail
    generalize hW : x.w.alloc _ = W1
    generalize hB : x.w.heap.size = B
    obtain ⟨c0, c1, c2, c3, h1, hback, yy, hy0⟩ := boxed h x hB hW
    have hrow : Row W1 (Value.int .i64) a l := by rw [← hW]; exact hr.ext (x.alloc _)
    clear hW hB
    rw [← hy0]
    clear hy0
    go_wp2_with ((go_at_call 124; with_reducible refine Calls.mono (specIsSystem_ans h1 false (by refine iff_tf ?_; dsimp only; exact IS.out) _) ?_; rintro e w' ⟨rfl, yy, rfl⟩))
    go_ret
    exact fin_false HP (fun q => IS.out q.1) (hback yy)

set_option maxHeartbeats 1600000 in
theorem specIsData_ans {W : World} {r : Ref} {s : Sys} (h : SysIn W r s) {a : Option Addr} {c : Nat} {l : List Int} (hr : Row W (Value.int .i64) a l) (hl : l.length ≤ 1099511627776) (p : Bool) (hp : p = true ↔ IsDataP s l) (x : Ext W) :
    Calls Tryd.prog 82 #[r.val s, .slice a l.length c] x.w (Ans W (.bool p)) := by
  have HP := Lib.hid hp
  clear hp
  unfold Ref.val
  by_cases it : IsTypeP s l
  · have IT := Lib.hid it
    clear it
    by_cases ia : ∀ u ∈ l, ¬ Arr u
    · have IA := Lib.hid ia
      clear ia
      go_enter Tryd.func82, Tryd.ntmps82
      go_wp2_with fail
      generalize hW : x.w.alloc _ = W1
      generalize hB : x.w.heap.size = B
      obtain ⟨c0, c1, c2, c3, h1, hback, yy, hy0⟩ := boxed h x hB hW
      have hrow : Row W1 (Value.int .i64) a l := by rw [← hW]; exact hr.ext (x.alloc _)
      clear hW hB
      rw [← hy0]
      clear hy0
      go_wp2_with (first | (go_at_call 97; with_reducible refine Calls.mono (specIsType_ans h1 hrow hl true (by refine iff_tf ?_; dsimp only; exact IT.out) _) ?_; rintro e w' ⟨rfl, yy, rfl⟩) | (go_at_call 119; with_reducible refine Calls.mono (l2Data_ans hrow hl true (by refine iff_tf ?_; dsimp only; exact IA.out) _) ?_; rintro e w' ⟨rfl, yy, rfl⟩))
      go_ret
      exact fin_true HP (⟨IT.out, IA.out⟩) (hback yy)
    · have IA := Lib.hid ia
      clear ia
      go_enter Tryd.func82, Tryd.ntmps82
      go_wp2_with fail
      generalize hW : x.w.alloc _ = W1
      generalize hB : x.w.heap.size = B
      obtain ⟨c0, c1, c2, c3, h1, hback, yy, hy0⟩ := boxed h x hB hW
      have hrow : Row W1 (Value.int .i64) a l := by rw [← hW]; exact hr.ext (x.alloc _)
      clear hW hB
      rw [← hy0]
      clear hy0
      go_wp2_with (first | (go_at_call 97; with_reducible refine Calls.mono (specIsType_ans h1 hrow hl true (by refine iff_tf ?_; dsimp only; exact IT.out) _) ?_; rintro e w' ⟨rfl, yy, rfl⟩) | (go_at_call 119; with_reducible refine Calls.mono (l2Data_ans hrow hl false (by refine iff_tf ?_; dsimp only; exact IA.out) _) ?_; rintro e w' ⟨rfl, yy, rfl⟩))
      go_ret
      exact fin_false HP (fun q => IA.out q.2) (hback yy)
  · have IT := Lib.hid it
    clear it
    go_enter Tryd.func82, Tryd.ntmps82
    go_wp2_with fail
    generalize hW : x.w.alloc _ = W1
    generalize hB : x.w.heap.size = B
    obtain ⟨c0, c1, c2, c3, h1, hback, yy, hy0⟩ := boxed h x hB hW
    have hrow : Row W1 (Value.int .i64) a l := by rw [← hW]; exact hr.ext (x.alloc _)
    clear hW hB
    rw [← hy0]
    clear hy0
    go_wp2_with ((go_at_call 97; with_reducible refine Calls.mono (specIsType_ans h1 hrow hl false (by refine iff_tf ?_; dsimp only; exact IT.out) _) ?_; rintro e w' ⟨rfl, yy, rfl⟩))
    go_ret
    exact fin_false HP (fun q => IT.out q.1) (hback yy)

end Go.Proofs.YtmifnhblhggflaaDoor
