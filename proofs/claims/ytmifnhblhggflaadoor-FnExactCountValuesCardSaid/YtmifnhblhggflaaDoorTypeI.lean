
/- The program's types: where a type ends, which grades a rule allows. -/
import Derived.Test.YtmifnhblhggflaaDoorForms
import Derived.Test.YtmifnhblhggflaaDoorTypeS
import Derived.Test.YtmifnhblhggflaaDoorBits
namespace Go.Proofs.YtmifnhblhggflaaDoor
open Go.RowKit

theorem form_ok {W : World} (F : Forms W) {c k : Int} (h : kidsOf c = k) (hk : 0 ≤ k) (x : Ext W) :
    Calls Tryd.prog 123 #[.int .i64 c] x.w (Ans W (.tuple #[.agg #[.string (markF c), .int .i64 (codeF c), .int .i64 (openF c), .int .i64 k, .bool (decide (Graded c))], .int .i64 (gF c), .bool true])) := by
  have := formOf_ans F c x
  subst h
  rw [formV, decide_eq_true hk] at this
  unfold partsF at this
  rw [if_neg (by omega)] at this
  exact this
theorem form_bad {W : World} (F : Forms W) {c : Int} (h : kidsOf c < 0) (x : Ext W) :
    Calls Tryd.prog 123 #[.int .i64 c] x.w (Ans W (.tuple #[.agg #[.string (markF c), .int .i64 (codeF c), .int .i64 (openF c), .int .i64 (partsF c), .bool (decide (Graded c))], .int .i64 (gF c), .bool false])) := by
  have := formOf_ans F c x
  rw [formV, show decide (0 ≤ kidsOf c) = false from decide_eq_false (by omega)] at this
  exact this

set_option maxHeartbeats 1600000 in
theorem endOfType_ans {W : World} (F : Forms W) {a : Option Addr} {c : Nat} {l : List Int} (hr : Row W (Value.int .i64) a l) (hl : l.length ≤ 1000) {at' : Nat} (hat : at' ≤ l.length) (x : Ext W) :
    Calls Tryd.prog 107 #[.slice a l.length c, .int .i64 at'] x.w (Ans W (.int .i64 (endOf l at' 1))) := by
  obtain ⟨yy, hyy⟩ : ∃ y : Ext W, x = y := ⟨x, rfl⟩
  rw [hyy]
  clear hyy
  generalize hR : endOf l at' 1 = R
  have HR := Lib.hid hR
  clear hR
  go_enter Tryd.func107, Tryd.ntmps107
  go_wp2
  go_loopw [1, 5] (fun i m wr => ∃ k : Nat, ∃ q : Int, i = .int .i64 k ∧ m = .int .i64 q ∧ k ≤ l.length ∧ 0 ≤ q ∧ q ≤ 1 + k ∧ (∃ y : Ext W, wr = y.w) ∧ Hid (endOf l k q = R)) (fun i _ _ => l.length - (intOf i).toNat)
  case atStart => exact ⟨at', 1, rfl, rfl, hat, by omega, by omega, ⟨yy, rfl⟩, HR⟩
  case round =>
    obtain ⟨k, q, rfl, rfl, hk, hq1, hq2, ⟨yy, rfl⟩, HU⟩ := hrel
    by_cases hq : 0 < q
    · by_cases hlt : k < l.length
      · have hlt' : (k : Int) < (l.length : Int) := by omega
        have hlt2 : ¬ (l.length : Int) ≤ (k : Int) := by omega
        obtain ⟨b0, o0, rfl, hc⟩ := hr.at hlt
        have HC : Hid (l[k]? = some l[k]) := List.getElem?_eq_getElem hlt
        have cc : ∀ y : Ext W, y.w.cell? ⟨b0, o0 + k, none⟩ = some (.int .i64 l[k]) := fun y => y.cell (hc k _ HC.out)
        clear hc
        generalize l[k] = c at *
        have hk1 := kidsOf_le c
        by_cases hn : kidsOf c < 0
        · have HN := Lib.hid hn
          have HQ := Lib.hid hq
          go_wp2_with ((go_at_call 123; with_reducible refine Calls.mono (form_bad F hn _) ?_; rintro e w' ⟨rfl, yy, rfl⟩))
          go_ret
          exact fin_int (by rw [← HU.out, endOf_bad HC.out (by have := HQ.out; omega) HN.out]) ⟨yy.alloc _, rfl⟩
        · have hs : Hid (endOf l (k + 1) (q - 1 + kidsOf c) = R) := by
            rw [← HU.out]; exact (endOf_step HC.out (by omega) (by omega)).symm
          generalize hkc : kidsOf c = kc at *
          go_wp2_with ((go_at_call 123; with_reducible refine Calls.mono (form_ok F hkc (by omega) _) ?_; rintro e w' ⟨rfl, yy, rfl⟩))
          go_roundw
          case rel => exact ⟨k + 1, q - 1 + kc, by go_num, by go_num; first | done | omega, by omega, by omega, by omega, ⟨yy.alloc _, rfl⟩, hs⟩
          case measure => simp [intOf]; omega
      · have hlt2 : (l.length : Int) ≤ (k : Int) := by omega
        go_wp2
        go_ret
        exact fin_int (by rw [← HU.out, endOf_out (by omega) (by omega)]) ⟨yy, rfl⟩
    · go_wp2
      go_ret
      exact fin_int (by rw [← HU.out, show q = 0 by omega, endOf_zero]) ⟨yy, rfl⟩
theorem endOfType0_ans {W : World} (F : Forms W) {a : Option Addr} {c : Nat} {l : List Int} (hr : Row W (Value.int .i64) a l) (hl : l.length ≤ 1000) {e : Int} (he : endOf l 0 1 = e) (x : Ext W) :
    Calls Tryd.prog 107 #[.slice a l.length c, .int .i64 0] x.w (Ans W (.int .i64 e)) := by
  subst he
  exact endOfType_ans F (at' := 0) hr hl (Nat.zero_le _) x

/-- The rule that a method has been handed lies in a new block of its own. -/
theorem boxedRule {W W1 : World} (x : Ext W) {T : TypeId} {B : Nat} {n : Int} {b : Bool} (hB : x.w.heap.size = B) (hW : x.w.alloc (.cells #[.int .i64 n, .bool b] T) = W1) :
    (∀ y : Ext W1, y.w.cell? ⟨B, 0, none⟩ = some (.int .i64 n)) ∧ (∀ y : Ext W1, y.w.cell? ⟨B, 1, none⟩ = some (.bool b)) ∧ (∀ y : Ext W1, ∃ z : Ext W, y.w = z.w) ∧ ∃ y0 : Ext W1, y0.w = W1 := by
  subst hW; subst hB
  refine ⟨fun y => ?_, fun y => ?_, fun y => ⟨x.on y.behind.below, rfl⟩, Ext.self _, rfl⟩
  · exact y.cell (by rw [World.cell?_alloc_at _ _ _ _ rfl]; rfl)
  · exact y.cell (by rw [World.cell?_alloc_at _ _ _ _ rfl]; rfl)

def Allows (n : Int) (b : Bool) (g : Int) : Prop := (0 ≤ g ∧ g < n) ∨ (b = true ∧ g = -1)
theorem allows_ans {W : World} (n : Int) (b : Bool) (g : Int) (p : Bool) (hp : p = true ↔ Allows n b g) (x : Ext W) :
    Calls Tryd.prog 131 #[.agg #[.int .i64 n, .bool b], .int .i64 g] x.w (Ans W (.bool p)) := by
  have HP := Lib.hid hp
  clear hp
  by_cases hi : 0 ≤ g ∧ g < n
  · have HI := Lib.hid hi
    clear hi
    go_enter Tryd.func131, Tryd.ntmps131
    go_wp2_with fail
    generalize hW : x.w.alloc _ = W1
    generalize hB : x.w.heap.size = B
    obtain ⟨c0, c1, hback, yy, hy0⟩ := boxedRule x hB hW
    clear hW hB
    rw [← hy0]
    clear hy0
    go_wp2_with ((go_at_call 94; with_reducible refine Calls.mono (inRange_ans g n true (by refine iff_tf ?_; dsimp only; exact HI.out) _) ?_; rintro e w' ⟨rfl, yy, rfl⟩))
    go_ret
    exact fin_true HP (.inl HI.out) (hback yy)
  · have HI := Lib.hid hi
    clear hi
    cases b with
    | false =>
      go_enter Tryd.func131, Tryd.ntmps131
      go_wp2_with fail
      generalize hW : x.w.alloc _ = W1
      generalize hB : x.w.heap.size = B
      obtain ⟨c0, c1, hback, yy, hy0⟩ := boxedRule x hB hW
      clear hW hB
      rw [← hy0]
      clear hy0
      go_wp2_with ((go_at_call 94; with_reducible refine Calls.mono (inRange_ans g n false (by refine iff_tf ?_; dsimp only; exact HI.out) _) ?_; rintro e w' ⟨rfl, yy, rfl⟩))
      go_ret
      exact fin_false HP (fun q => q.elim HI.out (fun q => by cases q.1)) (hback yy)
    | true =>
      by_cases e : g = -1
      · have fe : (g == -1) = true := by simpa using e
        have HE := Lib.hid e
        clear e
        go_enter Tryd.func131, Tryd.ntmps131
        go_wp2_with fail
        generalize hW : x.w.alloc _ = W1
        generalize hB : x.w.heap.size = B
        obtain ⟨c0, c1, hback, yy, hy0⟩ := boxedRule x hB hW
        clear hW hB
        rw [← hy0]
        clear hy0
        go_wp2_with ((go_at_call 94; with_reducible refine Calls.mono (inRange_ans g n false (by refine iff_tf ?_; dsimp only; exact HI.out) _) ?_; rintro e w' ⟨rfl, yy, rfl⟩))
        go_ret
        exact fin_true HP (.inr ⟨rfl, HE.out⟩) (hback yy)
      · have fe : (g == -1) = false := by simpa using e
        have HE := Lib.hid e
        clear e
        go_enter Tryd.func131, Tryd.ntmps131
        go_wp2_with fail
        generalize hW : x.w.alloc _ = W1
        generalize hB : x.w.heap.size = B
        obtain ⟨c0, c1, hback, yy, hy0⟩ := boxedRule x hB hW
        clear hW hB
        rw [← hy0]
        clear hy0
        go_wp2_with ((go_at_call 94; with_reducible refine Calls.mono (inRange_ans g n false (by refine iff_tf ?_; dsimp only; exact HI.out) _) ?_; rintro e w' ⟨rfl, yy, rfl⟩))
        go_ret
        exact fin_false HP (fun q => q.elim HI.out (fun q => HE.out q.2)) (hback yy)

/-- Grades that the rule allows. -/
def RuleP (n : Int) (b : Bool) (l : List Int) : Prop := WT l ∧ ∀ u ∈ l, Graded u → Allows n b (gradeOf u)
theorem ruleP_grs {n : Int} (hn : 0 ≤ n) (b : Bool) (l : List Int) : (∀ u ∈ l, Graded u → Allows n b (gradeOf u)) ↔ Grs n (!b) l := by
  unfold Grs GOk Allows
  refine forall_congr' fun u => forall_congr' fun _ => forall_congr' fun hg => ?_
  have := gradeOf_ge hg
  cases b <;> simp <;> omega
set_option maxHeartbeats 1600000 in
theorem allowsType_ans {W : World} (F : Forms W) {a : Option Addr} {c : Nat} {l : List Int} (hr : Row W (Value.int .i64) a l) (n : Int) (b : Bool) (p : Bool) (hp : p = true ↔ RuleP n b l) (x : Ext W) :
    Calls Tryd.prog 106 #[.agg #[.int .i64 n, .bool b], .slice a l.length c] x.w (Ans W (.bool p)) := by
  have HP := Lib.hid hp
  clear hp
  by_cases h40 : l.length ≤ 40
  · have f40 : ¬ (40 : Int) < (l.length : Int) := by omega
    have f41 : (l.length : Int) ≤ 40 := by omega
    generalize hE : endOf l 0 1 = e
    replace hE := Lib.hid hE
    by_cases he : e = l.length
    · have fe : (e != (l.length : Int)) = false := by simpa using he
      have HW : Hid (WT l) := ⟨h40, by rw [hE.out]; exact he⟩
      clear he
      go_enter Tryd.func106, Tryd.ntmps106
      go_wp2_with fail
      generalize hW : x.w.alloc _ = W1
      generalize hB : x.w.heap.size = B
      obtain ⟨c0, c1, hback, yy, hy0⟩ := boxedRule x hB hW
      have hrow : Row W1 (Value.int .i64) a l := by rw [← hW]; exact hr.ext (x.alloc _)
      have FF : Forms W1 := by rw [← hW]; exact F.ext (x.alloc _)
      clear hW hB
      rw [← hy0]
      clear hy0
      have m0 : ∀ (y : Ext W1) o, (y.w.alloc o).cell? ⟨B, 0, none⟩ = some (.int .i64 n) := fun y o => c0 (y.alloc o)
      have m1 : ∀ (y : Ext W1) o, (y.w.alloc o).cell? ⟨B, 1, none⟩ = some (.bool b) := fun y o => c1 (y.alloc o)
      go_wp2_with ((go_at_call 107; with_reducible refine Calls.mono (endOfType0_ans FF hrow (by omega) hE.out _) ?_; rintro e w' ⟨rfl, yy, rfl⟩))
      go_loopw [22] (fun i wr => ∃ k : Nat, i = .int .i64 k ∧ k ≤ l.length ∧ (∃ y : Ext W1, wr = y.w) ∧ Hid (∀ j u, j < k → l[j]? = some u → (Graded u → Allows n b (gradeOf u)))) (fun i _ => l.length - (intOf i).toNat)
      case atStart => exact ⟨0, rfl, by omega, ⟨yy, rfl⟩, upto_none _ _⟩
      case round =>
        obtain ⟨k, rfl, hk, ⟨yy, rfl⟩, HU⟩ := hrel
        by_cases hlt : k < l.length
        · have hlt' : (k : Int) < (l.length : Int) := by omega
          obtain ⟨b0, o0, rfl, hc⟩ := hrow.at hlt
          have HC : Hid (l[k]? = some l[k]) := List.getElem?_eq_getElem hlt
          have cc : ∀ y : Ext W1, y.w.cell? ⟨b0, o0 + k, none⟩ = some (.int .i64 l[k]) := fun y => y.cell (hc k _ HC.out)
          clear hc
          generalize l[k] = c at *
          by_cases hg : Graded c
          · have FG : ∃ v : Bool, ∀ y : Ext W1, Calls Tryd.prog 123 #[.int .i64 c] y.w (Ans W1 (.tuple #[.agg #[.string (markF c), .int .i64 (codeF c), .int .i64 (openF c), .int .i64 (partsF c), .bool true], .int .i64 (gradeOf c), .bool v])) := ⟨decide (0 ≤ kidsOf c), fun y => by
              have := formOf_ans FF c y
              rw [formV, decide_eq_true hg] at this
              unfold gF at this
              rw [if_pos hg] at this
              exact this⟩
            obtain ⟨vv, FG⟩ := FG
            by_cases ha : Allows n b (gradeOf c)
            · have HG : Hid (Graded c → Allows n b (gradeOf c)) := fun _ => ha
              have HA := Lib.hid ha
              clear ha hg
              go_wp2_with (first | (go_at_call 123; with_reducible refine Calls.mono (FG _) ?_; rintro e w' ⟨rfl, yy, rfl⟩) | (go_at_call 131; with_reducible refine Calls.mono (allows_ans n b (gradeOf c) true (by refine iff_tf ?_; dsimp only; exact HA.out) (yy.alloc _)) ?_; rintro e w' ⟨rfl, yy, rfl⟩))
              go_roundw
              case rel => exact ⟨k + 1, by go_num, by omega, ⟨yy, rfl⟩, upto_next HU HC HG⟩
              case measure => simp [intOf]; omega
            · have HG : Hid (¬ (Graded c → Allows n b (gradeOf c))) := fun q => ha (q hg)
              have HA := Lib.hid ha
              clear ha hg
              go_wp2_with (first | (go_at_call 123; with_reducible refine Calls.mono (FG _) ?_; rintro e w' ⟨rfl, yy, rfl⟩) | (go_at_call 131; with_reducible refine Calls.mono (allows_ans n b (gradeOf c) false (by refine iff_tf ?_; dsimp only; exact HA.out) (yy.alloc _)) ?_; rintro e w' ⟨rfl, yy, rfl⟩))
              go_ret
              exact fin_false HP (fun q => HG.out (q.2 c (List.mem_of_getElem? HC.out))) (hback yy)
          · have HG : Hid (Graded c → Allows n b (gradeOf c)) := fun q => absurd q hg
            have FG : ∃ v : Bool, ∀ y : Ext W1, Calls Tryd.prog 123 #[.int .i64 c] y.w (Ans W1 (.tuple #[.agg #[.string (markF c), .int .i64 (codeF c), .int .i64 (openF c), .int .i64 (partsF c), .bool false], .int .i64 (gF c), .bool v])) := ⟨decide (0 ≤ kidsOf c), fun y => by
              have := formOf_ans FF c y
              rw [formV, decide_eq_false hg] at this
              exact this⟩
            obtain ⟨vv, FG⟩ := FG
            clear hg
            go_wp2_with ((go_at_call 123; with_reducible refine Calls.mono (FG _) ?_; rintro e w' ⟨rfl, yy, rfl⟩))
            go_roundw
            case rel => exact ⟨k + 1, by go_num, by omega, ⟨yy.alloc _, rfl⟩, upto_next HU HC HG⟩
            case measure => simp [intOf]; omega
        · go_wp2
          go_ret
          exact fin_true HP ⟨HW.out, upto_all HU (by omega)⟩ (hback yy)
    · have fe : (e != (l.length : Int)) = true := by simpa using he
      have HW : Hid (¬ RuleP n b l) := fun w => he (by rw [← hE.out]; exact w.1.2)
      clear he
      go_enter Tryd.func106, Tryd.ntmps106
      go_wp2_with fail
      generalize hW : x.w.alloc _ = W1
      generalize hB : x.w.heap.size = B
      obtain ⟨c0, c1, hback, yy, hy0⟩ := boxedRule x hB hW
      have hrow : Row W1 (Value.int .i64) a l := by rw [← hW]; exact hr.ext (x.alloc _)
      have FF : Forms W1 := by rw [← hW]; exact F.ext (x.alloc _)
      clear hW hB
      rw [← hy0]
      clear hy0
      go_wp2_with ((go_at_call 107; with_reducible refine Calls.mono (endOfType0_ans FF hrow (by omega) hE.out _) ?_; rintro e w' ⟨rfl, yy, rfl⟩))
      go_ret
      exact fin_false HP (HW.out) (hback yy)
  · have f40 : (40 : Int) < (l.length : Int) := by omega
    have HW : Hid (¬ RuleP n b l) := fun w => h40 w.1.1
    go_enter Tryd.func106, Tryd.ntmps106
    go_wp2
    go_ret
    exact fin_false HP HW.out ⟨x.alloc _, rfl⟩

theorem isArrow_ans {W : World} (F : Forms W) (c : Int) (p : Bool) (hp : p = true ↔ Arr c) (x : Ext W) : Calls Tryd.prog 122 #[.int .i64 c] x.w (Ans W (.bool p)) := by
  have HP := Lib.hid hp
  clear hp
  obtain ⟨yy, hyy⟩ : ∃ y : Ext W, x = y := ⟨x, rfl⟩
  rw [hyy]
  clear hyy
  by_cases hn : kidsOf c < 0
  · have HN : Hid (¬ Arr c) := fun q => by rw [kidsOf_2 (.inr (.inr q))] at hn; omega
    go_enter Tryd.func122, Tryd.ntmps122
    go_wp2_with ((go_at_call 123; with_reducible refine Calls.mono (form_bad F hn _) ?_; rintro e w' ⟨rfl, yy, rfl⟩))
    go_ret
    exact fin_false HP HN.out ⟨yy.alloc _, rfl⟩
  · by_cases ha : Arr c
    · have f3 : (codeF c == 3) = true := by
        have h1 : c ≠ 1 := by unfold Arr at ha; omega
        have h2 : c ≠ 2 := by unfold Arr at ha; omega
        simp [codeF, h1, h2, ha]
      have HA := Lib.hid ha
      clear ha
      generalize hkc : kidsOf c = kc at *
      go_enter Tryd.func122, Tryd.ntmps122
      go_wp2_with ((go_at_call 123; with_reducible refine Calls.mono (form_ok F hkc (by omega) _) ?_; rintro e w' ⟨rfl, yy, rfl⟩))
      go_ret
      exact fin_true HP HA.out ⟨yy.alloc _, rfl⟩
    · have f3 : (codeF c == 3) = false := by
        unfold codeF
        rw [if_neg ha]
        split
        · rfl
        · split
          · rfl
          · split <;> rfl
      have HA := Lib.hid ha
      clear ha
      generalize hkc : kidsOf c = kc at *
      go_enter Tryd.func122, Tryd.ntmps122
      go_wp2_with ((go_at_call 123; with_reducible refine Calls.mono (form_ok F hkc (by omega) _) ?_; rintro e w' ⟨rfl, yy, rfl⟩))
      go_ret
      exact fin_false HP HA.out ⟨yy.alloc _, rfl⟩

end Go.Proofs.YtmifnhblhggflaaDoor
