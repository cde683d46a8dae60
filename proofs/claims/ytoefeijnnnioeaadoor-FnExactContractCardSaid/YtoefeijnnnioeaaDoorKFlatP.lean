
/- The program's other languages: types without grades. -/
import Derived.Test.YtoefeijnnnioeaaDoorKFlatSpec
import Derived.Test.YtoefeijnnnioeaaDoorKGrow
import Derived.Test.YtoefeijnnnioeaaDoorKHoldL
import Derived.Test.YtoefeijnnnioeaaDoorGH
import Derived.Laws.EntriesVeiled
set_option linter.unusedVariables false
set_option linter.unusedSimpArgs false
namespace Go.Proofs.YtoefeijnnnioeaaDoor
open Go.RowKit

theorem rule16' {l : List Int} : RuleP 16 true l ↔ WT l := by
  unfold RuleP
  refine ⟨fun h => h.1, fun h => ⟨h, fun u _ hg => ?_⟩⟩
  have h1 := gradeOf_ge hg
  have h2 := gradeOf_le hg
  unfold Allows
  by_cases h : gradeOf u = -1
  · exact .inr ⟨rfl, h⟩
  · exact .inl (by omega)
theorem isWrittenType_ok {W : World} (F : Forms W) {a : Option Addr} {c : Nat} {l : List Int} (hr : Row W (Value.int .i64) a l) (hw : CodesB l) (p : Bool) (hp : p = true ↔ WT l) (x : Ext W) :
    Calls Tryd.prog 61 #[.slice a l.length c] x.w (Ans W (.bool p)) := by
  obtain ⟨yy, hyy⟩ : ∃ y : Ext W, x = y := ⟨x, rfl⟩
  rw [hyy]
  clear hyy
  have C : ∀ y : Ext W, Calls Tryd.prog 113 #[.agg #[.int .i64 16, .bool true], .slice a l.length c] y.w (Ans W (.bool p)) := fun y => allowsType_ans F hr hw 16 (by omega) true p (hp.trans rule16'.symm) y
  clear hp
  go_enter Tryd.func61, Tryd.ntmps61
  go_wp2_with (first | (go_at_call 112; with_reducible refine Calls.mono (writtenRule_ans _) ?_; rintro e w' ⟨rfl, yy, rfl⟩) | (go_at_call 113; with_reducible refine Calls.mono (C _) ?_; rintro e w' ⟨rfl, yy, rfl⟩))
  go_ret
  exact ⟨rfl, yy, rfl⟩

theorem form_code {W : World} (F : Forms W) (c : Int) (hc : c ≤ 36) {k : Int} (hk : codeF c = k) : ∃ (f0 : ByteArray) (f2 f3 : Int) (f4 f6 : Bool), ∀ y : Ext W, Calls Tryd.prog 114 #[.int .i64 c] y.w (Ans W (.tuple #[.agg #[.string f0, .int .i64 k, .int .i64 f2, .int .i64 f3, .bool f4], .int .i64 (gF c), .bool f6])) := by
  subst hk
  exact ⟨_, _, _, _, _, fun y => formOf_ans F c hc y⟩
end Go.Proofs.YtoefeijnnnioeaaDoor
