
/- Types, plainly: codes, how many types stand behind a code, where a type ends. Nothing of a program stands here. -/
import Derived.Test.YtmifnhblhggflaaDoorBase
namespace Go.Proofs.YtmifnhblhggflaaDoor
open Go.RowKit

def Arr (c : Int) : Prop := (3 ≤ c ∧ c ≤ 18) ∨ c = 35
def Bx (c : Int) : Prop := (19 ≤ c ∧ c ≤ 34) ∨ c = 36
instance (c : Int) : Decidable (Arr c) := by unfold Arr; infer_instance
instance (c : Int) : Decidable (Bx c) := by unfold Bx; infer_instance
/-- How many types stand behind a code; -1: it is no code. -/
def kidsOf (c : Int) : Int := if c = 0 then 0 else if c = 1 ∨ c = 2 ∨ Arr c then 2 else if Bx c then 1 else -1
/-- The grade of a code of an arrow or a box; -1: it is open. -/
def gradeOf (c : Int) : Int := if 35 ≤ c then -1 else if 19 ≤ c then c - 19 else c - 3
def Graded (c : Int) : Prop := Arr c ∨ Bx c
instance (c : Int) : Decidable (Graded c) := by unfold Graded; infer_instance

def endL : List Int → Nat → Int → Int
  | [], i, m => if m = 0 then i else -1
  | c :: l, i, m => if m = 0 then i else if kidsOf c < 0 then -1 else endL l (i + 1) (m - 1 + kidsOf c)
/-- Where what begins at i ends, when so many types are missing; -1: nowhere. -/
def endOf (l : List Int) (i : Nat) (m : Int) : Int := endL (l.drop i) i m

theorem endOf_zero (l : List Int) (i : Nat) : endOf l i 0 = i := by
  unfold endOf
  cases l.drop i <;> simp [endL]
theorem endOf_out {l : List Int} {i : Nat} {m : Int} (h : l.length ≤ i) (hm : m ≠ 0) : endOf l i m = -1 := by
  unfold endOf
  rw [List.drop_eq_nil_of_le h]
  simp [endL, hm]
theorem endOf_at {l : List Int} {i : Nat} {m : Int} {c : Int} (h : l[i]? = some c) (hm : m ≠ 0) : endOf l i m = if kidsOf c < 0 then -1 else endOf l (i + 1) (m - 1 + kidsOf c) := by
  obtain ⟨hi, h⟩ := List.getElem?_eq_some_iff.1 h
  unfold endOf
  rw [List.drop_eq_getElem_cons hi, h]
  simp [endL, hm]
theorem endOf_bad {l : List Int} {i : Nat} {m : Int} {c : Int} (h : l[i]? = some c) (hm : m ≠ 0) (hk : kidsOf c < 0) : endOf l i m = -1 := by rw [endOf_at h hm, if_pos hk]
theorem endOf_step {l : List Int} {i : Nat} {m : Int} {c : Int} (h : l[i]? = some c) (hm : m ≠ 0) (hk : 0 ≤ kidsOf c) : endOf l i m = endOf l (i + 1) (m - 1 + kidsOf c) := by rw [endOf_at h hm, if_neg (by omega)]

theorem kidsOf_le (c : Int) : kidsOf c ≤ 2 := by unfold kidsOf; split; omega; split; omega; split <;> omega
theorem kidsOf_ge (c : Int) : -1 ≤ kidsOf c := by unfold kidsOf; split; omega; split; omega; split <;> omega

/-- A written type. -/
def WT (l : List Int) : Prop := l.length ≤ 40 ∧ endOf l 0 1 = l.length
theorem WT.pos {l : List Int} (h : WT l) : 0 < l.length := by
  cases l with
  | nil => have := h.2; rw [endOf_out (by simp) (by omega)] at this; simp at this
  | cons a l => simp
/-- Grades below a number, and, if closed, nothing open. -/
def GOk (size : Int) (closed : Bool) (c : Int) : Prop := Graded c → gradeOf c < size ∧ (closed = true → 0 ≤ gradeOf c)
def Grs (size : Int) (closed : Bool) (l : List Int) : Prop := ∀ c ∈ l, GOk size closed c

theorem gradeOf_ge {c : Int} (_h : Graded c) : -1 ≤ gradeOf c := by
  unfold Graded Arr Bx at _h
  unfold gradeOf
  split
  · omega
  · split <;> omega
theorem gradeOf_le {c : Int} (_h : Graded c) : gradeOf c ≤ 15 := by
  unfold Graded Arr Bx at _h
  unfold gradeOf
  split
  · omega
  · split <;> omega
theorem kidsOf_0 : kidsOf 0 = 0 := by decide
theorem kidsOf_2 {c : Int} (h : c = 1 ∨ c = 2 ∨ Arr c) : kidsOf c = 2 := by
  have h0 : c ≠ 0 := by unfold Arr at h; omega
  simp [kidsOf, h0, h]
theorem kidsOf_1 {c : Int} (h : Bx c) : kidsOf c = 1 := by
  have h0 : c ≠ 0 := by unfold Bx at h; omega
  have h1 : ¬ (c = 1 ∨ c = 2 ∨ Arr c) := by unfold Bx at h; unfold Arr; omega
  simp [kidsOf, h0, h1, h]
theorem kidsOf_no {c : Int} (h0 : c ≠ 0) (h1 : ¬ (c = 1 ∨ c = 2 ∨ Arr c)) (h2 : ¬ Bx c) : kidsOf c = -1 := by
  simp [kidsOf, h0, h1, h2]
theorem graded_iff (c : Int) : (0 < kidsOf c ∧ 2 < c) ↔ Graded c := by
  by_cases a0 : c = 0
  · subst a0; simp [kidsOf_0, Graded, Arr, Bx]
  · by_cases a1 : c = 1 ∨ c = 2 ∨ Arr c
    · rw [kidsOf_2 a1]
      unfold Graded
      unfold Arr at a1 ⊢
      unfold Bx
      omega
    · by_cases a2 : Bx c
      · rw [kidsOf_1 a2]
        unfold Graded
        unfold Bx at a2 ⊢
        omega
      · rw [kidsOf_no a0 a1 a2]
        unfold Graded
        constructor
        · rintro ⟨h, _⟩; omega
        · rintro (h | h)
          · exact absurd (.inr (.inr h)) a1
          · exact absurd h a2
end Go.Proofs.YtmifnhblhggflaaDoor
