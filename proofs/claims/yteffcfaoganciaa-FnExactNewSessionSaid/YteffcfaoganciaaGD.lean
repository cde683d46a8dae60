/- Texts of one claim, laid together: TypeM, TypeS, TypeI, TypeT. -/
import Derived.Test.YteffcfaoganciaaGA
import Derived.Test.YteffcfaoganciaaGB
import Derived.Test.YteffcfaoganciaaGC
set_option linter.unusedVariables false
set_option linter.unusedSimpArgs false

/- The model's types: codes, where a type ends. -/
namespace Go.Proofs.Yteffcfaoganciaa
open Go.RowKit

end Go.Proofs.Yteffcfaoganciaa

/- The model's IsType and IsData. -/
namespace Go.Proofs.Yteffcfaoganciaa
open Go.RowKit

theorem upto_next {l : List Int} {k : Nat} {P : Int → Prop} {c : Int} (HU : Hid (∀ j u, j < k → l[j]? = some u → P u)) (HC : Hid (l[k]? = some c)) (HG : Hid (P c)) : Hid (∀ j u, j < k + 1 → l[j]? = some u → P u) := fun j u hj hu => by
  by_cases e : j = k
  · subst e
    have := HC.out
    rw [this] at hu
    cases hu
    exact HG.out
  · exact HU.out j u (by omega) hu
theorem upto_all {l : List Int} {k : Nat} {P : Int → Prop} (HU : Hid (∀ j u, j < k → l[j]? = some u → P u)) (hk : l.length ≤ k) : ∀ u ∈ l, P u := fun u hu => by
  obtain ⟨j, hj, e⟩ := List.getElem_of_mem hu
  exact HU.out j u (by omega) (by rw [List.getElem?_eq_getElem hj, e])
theorem upto_none (l : List Int) (P : Int → Prop) : Hid (∀ j u, j < 0 → l[j]? = some u → P u) := fun j u hj => by omega

def IsTypeP (s : Sys) (l : List Int) : Prop := IsSys s ∧ WT l ∧ Grs s.n true l
def IsDataP (s : Sys) (l : List Int) : Prop := IsTypeP s l ∧ ∀ u ∈ l, ¬ Arr u

end Go.Proofs.Yteffcfaoganciaa

/- The program's types: where a type ends, which grades a rule allows. -/
namespace Go.Proofs.Yteffcfaoganciaa
open Go.RowKit

/-- The rule that a method has been handed lies in a new block of its own. -/
theorem boxedRule {W W1 : World} (x : Ext W) {T : TypeId} {B : Nat} {n : Int} {b : Bool} (hB : x.w.heap.size = B) (hW : x.w.alloc (.cells #[.int .i64 n, .bool b] T) = W1) :
    (∀ y : Ext W1, y.w.cell? ⟨B, 0, none⟩ = some (.int .i64 n)) ∧ (∀ y : Ext W1, y.w.cell? ⟨B, 1, none⟩ = some (.bool b)) ∧ (∀ y : Ext W1, ∃ z : Ext W, y.w = z.w) ∧ ∃ y0 : Ext W1, y0.w = W1 := by
  subst hW; subst hB
  refine ⟨fun y => ?_, fun y => ?_, fun y => ⟨x.on y.behind.below, rfl⟩, Ext.self _, rfl⟩
  · exact y.cell (by rw [World.cell?_alloc_at _ _ _ _ rfl]; rfl)
  · exact y.cell (by rw [World.cell?_alloc_at _ _ _ _ rfl]; rfl)

def Allows (n : Int) (b : Bool) (g : Int) : Prop := (0 ≤ g ∧ g < n) ∨ (b = true ∧ g = -1)
/-- Grades that the rule allows. -/
def RuleP (n : Int) (b : Bool) (l : List Int) : Prop := WT l ∧ ∀ u ∈ l, Graded u → Allows n b (gradeOf u)
theorem ruleP_grs {n : Int} (hn : 0 ≤ n) (b : Bool) (l : List Int) : (∀ u ∈ l, Graded u → Allows n b (gradeOf u)) ↔ Grs n (!b) l := by
  unfold Grs GOk Allows
  refine forall_congr' fun u => forall_congr' fun _ => forall_congr' fun hg => ?_
  have := gradeOf_ge hg
  cases b <;> simp <;> omega
/-- The same, as the program looks: codes behind the written ones have grades that no rule allows. -/
theorem ruleP_prog {n : Int} (hn : n ≤ 16) {b : Bool} {l : List Int} : RuleP n b l ↔ l.length ≤ 40 ∧ endP l 0 1 = l.length ∧ ∀ u ∈ l, (36 < u → False) ∧ (Graded u → Allows n b (gradeOf u)) := by
  constructor
  · rintro ⟨w, h⟩
    exact ⟨w.1, by rw [endP_eq w.codes36]; exact w.2, fun u hu => ⟨fun q => by have := (w.codes u hu).2; omega, h u hu⟩⟩
  · rintro ⟨w, e, h⟩
    have h36 : ∀ u ∈ l, u ≤ 36 := fun u hu => Int.not_lt.1 (h u hu).1
    exact ⟨⟨w, by rw [← endP_eq h36]; exact e⟩, fun u hu => (h u hu).2⟩
def GrP (n : Int) (b : Bool) (u : Int) : Prop := (36 < u → False) ∧ (Graded u → Allows n b (gradeOf u))
end Go.Proofs.Yteffcfaoganciaa

/- The program's IsType and IsData. -/
namespace Go.Proofs.Yteffcfaoganciaa
open Go.RowKit

theorem isType_iff {s : Sys} {l : List Int} (hn : 0 ≤ s.n) : (IsSys s ∧ RuleP s.n false l) ↔ IsTypeP s l := by
  unfold IsTypeP RuleP
  rw [ruleP_grs hn]
  rfl

theorem fin_dec {W : World} {p : Bool} {Q : Prop} {v : Int} (HP : Hid (p = true ↔ Q)) (hv : 0 ≤ v ↔ Q) {w : World} (hz : ∃ z : Ext W, w = z.w) : Ans W (.bool p) (.returned (.bool (decide (0 ≤ v)))) w := by
  have : p = decide (0 ≤ v) := by
    rw [Bool.eq_iff_iff, HP.out, ← hv]
    simp
  subst this
  exact ⟨rfl, hz⟩

theorem IsTypeP.codes36 {s : Sys} {l : List Int} (h : IsTypeP s l) : ∀ u ∈ l, u ≤ 36 := h.2.1.codes36

end Go.Proofs.Yteffcfaoganciaa
