
/- Places of values, plainly. Nothing of a program stands here. -/
import Derived.Test.YtmifnhblhggflaaDoorRowCut
import Derived.Test.YtmifnhblhggflaaDoorTermOk
namespace Go.Proofs.YtmifnhblhggflaaDoor
open Go.RowKit

namespace Ty
/-- No arrows. -/
def Data : Ty → Prop | leaf => True | two c a b => (c = 1 ∨ c = 2) ∧ a.Data ∧ b.Data | one _ a => a.Data
theorem bx_of {c : Int} (h : kidsOf c = 1) : Bx c := by
  unfold kidsOf at h
  split at h
  · omega
  · split at h
    · omega
    · split at h
      · assumption
      · omega
theorem two_of {c : Int} (h : kidsOf c = 2) : c = 1 ∨ c = 2 ∨ Arr c := by
  unfold kidsOf at h
  split at h
  · omega
  · split at h
    · assumption
    · split at h <;> omega
theorem data_of {t : Ty} (h : t.Ok) (hd : ∀ c ∈ t.enc, ¬ Arr c) : t.Data := by
  induction t with
  | leaf => trivial
  | two c a b iha ihb =>
    have h1 := hd c (by simp [enc])
    refine ⟨?_, iha h.2.1 fun u hu => hd u (by simp [enc, hu]), ihb h.2.2 fun u hu => hd u (by simp [enc, hu])⟩
    rcases two_of h.1 with h2 | h2 | h2
    · exact .inl h2
    · exact .inr h2
    · exact absurd h2 h1
  | one c a iha => exact iha h.2 fun u hu => hd u (by simp [enc, hu])
/-- The place of a value; none: it is no value. -/
def place : Ty → Tm → Option Nat
  | leaf, v => if v.op = 1 then some v.n.toNat else none
  | two c a b, v =>
    if c = 1 then (if v.op = 4 then match v.kids with | [x, y] => (a.place x).bind fun p => (b.place y).map fun q => p * b.cnt + q | _ => none else none)
    else if v.op = 6 ∧ v.ty = b.enc then match v.kids with | [x] => a.place x | _ => none
    else if v.op = 7 ∧ v.ty = a.enc then match v.kids with | [x] => (b.place x).map (a.cnt + ·) | _ => none
    else none
  | one c a, v => if v.op = 11 ∧ v.n = gradeOf c then match v.kids with | [x] => a.place x | _ => none else none
theorem place_lt (t : Ty) : ∀ {size vars : Int} {closed : Bool} {v : Tm} (_ : OkT size closed vars v) {p : Nat} (_ : t.place v = some p), p < t.cnt := by
  induction t with
  | leaf =>
    intro size vars closed v ok p h
    simp only [place] at h
    split at h
    · rename_i ho
      cases h
      have := ok.node.nok
      unfold NOk at this
      rw [if_neg (by omega), if_pos ho] at this
      simp only [cnt]
      omega
    · cases h
  | two c a b iha ihb =>
    intro size vars closed v ok p h
    simp only [place] at h
    split at h
    · rename_i hc
      split at h
      · split at h
        · rename_i x y hk
          obtain ⟨q, hq, h⟩ := Option.bind_eq_some_iff.1 h
          obtain ⟨r, hr, h⟩ := Option.map_eq_some_iff.1 h
          have h1 := iha (ok.kid (i := 0) (by rw [hk]; rfl)) hq
          have h2 := ihb (ok.kid (i := 1) (by rw [hk]; rfl)) hr
          simp only [cnt, hc, if_true]
          have h3 : (q + 1) * b.cnt ≤ a.cnt * b.cnt := Nat.mul_le_mul_right _ (by omega)
          rw [Nat.add_mul] at h3
          omega
        · cases h
      · cases h
    · rename_i hc
      simp only [cnt, hc, if_false]
      split at h
      · split at h
        · rename_i x hk
          have h1 := iha (ok.kid (i := 0) (by rw [hk]; rfl)) h
          omega
        · cases h
      · split at h
        · split at h
          · rename_i x hk
            obtain ⟨r, hr, h⟩ := Option.map_eq_some_iff.1 h
            have h1 := ihb (ok.kid (i := 0) (by rw [hk]; rfl)) hr
            omega
          · cases h
        · cases h
  | one c a iha =>
    intro size vars closed v ok p h
    simp only [place] at h
    split at h
    · split at h
      · rename_i x hk
        exact iha (ok.kid (i := 0) (by rw [hk]; rfl)) h
      · cases h
    · cases h
section
variable {c : Int} {a b : Ty} {v x y : Tm}
theorem place_leaf (h : v.op = 1) : leaf.place v = some v.n.toNat := by simp [place, h]
theorem place_leaf_no (h : v.op ≠ 1) : leaf.place v = none := by simp [place, h]
theorem place_pair (h : v.op = 4) (hk : v.kids = [x, y]) : (two 1 a b).place v = (a.place x).bind fun p => (b.place y).map fun q => p * b.cnt + q := by simp [place, h, hk]
theorem place_pair_no (h : v.op ≠ 4) : (two 1 a b).place v = none := by simp [place, h]
theorem place_left (h : v.op = 6) (ht : v.ty = b.enc) (hk : v.kids = [x]) : (two 2 a b).place v = a.place x := by simp [place, h, ht, hk]
theorem place_right (h : v.op = 7) (ht : v.ty = a.enc) (hk : v.kids = [x]) : (two 2 a b).place v = (b.place x).map (a.cnt + ·) := by simp [place, h, ht, hk]
theorem place_sum_no (h1 : ¬ (v.op = 6 ∧ v.ty = b.enc)) (h2 : ¬ (v.op = 7 ∧ v.ty = a.enc)) : (two 2 a b).place v = none := by
  simp only [place]
  rw [if_neg (by omega), if_neg h1, if_neg h2]
theorem place_box (h : v.op = 11) (hn : v.n = gradeOf c) (hk : v.kids = [x]) : (one c a).place v = a.place x := by simp [place, h, hn, hk]
theorem place_box_no (h : ¬ (v.op = 11 ∧ v.n = gradeOf c)) : (one c a).place v = none := by
  simp only [place]
  rw [if_neg h]
end
/-- What is told of a place. -/
def placeI (o : Option Nat) : Int := match o with | some p => p | none => -1
end Ty
end Go.Proofs.YtmifnhblhggflaaDoor
