
/- What the program says of a code of a type: the table of forms, looked up. -/
import Derived.Test.YteffcfaoganciaaGA
import Derived.Deep.MidRow
import Derived.RegionTactic
set_option linter.unusedVariables false
set_option linter.unusedSimpArgs false
namespace Go.Proofs.Yteffcfaoganciaa
open Go.RowKit

def formCells : List Value := [.string ⟨#[110]⟩, .int .i64 0, .int .i64 0, .int .i64 0, .bool false, .string ⟨#[42]⟩, .int .i64 1, .int .i64 0, .int .i64 2, .bool false, .string ⟨#[43]⟩, .int .i64 2, .int .i64 0, .int .i64 2, .bool false, .string ⟨#[62]⟩, .int .i64 3, .int .i64 35, .int .i64 2, .bool true, .string ⟨#[33]⟩, .int .i64 19, .int .i64 36, .int .i64 1, .bool true]
def markF (c : Int) : ByteArray := if c = 0 then ⟨#[110]⟩ else if c = 1 then ⟨#[42]⟩ else if c = 2 then ⟨#[43]⟩ else if Arr c then ⟨#[62]⟩ else if Bx c then ⟨#[33]⟩ else ⟨#[]⟩
def codeF (c : Int) : Int := if c = 1 then 1 else if c = 2 then 2 else if Arr c then 3 else if Bx c then 19 else 0
def openF (c : Int) : Int := if Arr c then 35 else if Bx c then 36 else 0
def partsF (c : Int) : Int := if kidsOf c < 0 then 0 else kidsOf c
def gF (c : Int) : Int := if Graded c then gradeOf c else 0
/-- What formOfCode hands back. -/
abbrev formV (c : Int) : Value := .tuple #[.agg #[.string (markF c), .int .i64 (codeF c), .int .i64 (openF c), .int .i64 (partsF c), .bool (decide (Graded c))], .int .i64 (gF c), .bool (decide (0 ≤ kidsOf c))]
theorem formV_arr {c : Int} (h : Arr c) : formV c = .tuple #[.agg #[.string ⟨#[62]⟩, .int .i64 3, .int .i64 35, .int .i64 2, .bool true], .int .i64 (gradeOf c), .bool true] := by
  have h0 : c ≠ 0 := by unfold Arr at h; omega
  have h1 : c ≠ 1 := by unfold Arr at h; omega
  have h2 : c ≠ 2 := by unfold Arr at h; omega
  simp [formV, markF, codeF, openF, partsF, gF, kidsOf_2 (.inr (.inr h)), Graded, h, h0, h1, h2]
theorem formV_bx {c : Int} (h : Bx c) : formV c = .tuple #[.agg #[.string ⟨#[33]⟩, .int .i64 19, .int .i64 36, .int .i64 1, .bool true], .int .i64 (gradeOf c), .bool true] := by
  have h0 : c ≠ 0 := by unfold Bx at h; omega
  have h1 : c ≠ 1 := by unfold Bx at h; omega
  have h2 : c ≠ 2 := by unfold Bx at h; omega
  have h3 : ¬ Arr c := by unfold Bx at h; unfold Arr; omega
  simp [formV, markF, codeF, openF, partsF, gF, kidsOf_1 h, Graded, h, h0, h1, h2, h3]
theorem formV_no {c : Int} (h : c < 0) : formV c = .tuple #[.agg #[.string ⟨#[]⟩, .int .i64 0, .int .i64 0, .int .i64 0, .bool false], .int .i64 0, .bool false] := by
  have h0 : c ≠ 0 := by omega
  have h1 : c ≠ 1 := by omega
  have h2 : c ≠ 2 := by omega
  have h3 : ¬ Arr c := by unfold Arr; omega
  have h4 : ¬ Bx c := by unfold Bx; omega
  have h5 : ¬ (c = 1 ∨ c = 2 ∨ Arr c) := by rintro (h | h | h); exact h1 h; exact h2 h; exact h3 h
  simp [formV, markF, codeF, openF, partsF, gF, kidsOf_no h0 h5 h4, Graded, h0, h1, h2, h3, h4]
end Go.Proofs.Yteffcfaoganciaa
