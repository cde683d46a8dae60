
/- Types with other grades, plainly. -/
import Derived.Test.YtiekppegfocejaaDoorTypeSpec
namespace Go.Proofs.YtiekppegfocejaaDoor
open Go.RowKit

/-- The code of an arrow or a box with another grade. -/
def codeOf (c u : Int) : Int := if Arr c then 3 + u else 19 + u
/-- The grade that a list has in place of one. -/
def imgOf (f : List Int) (g : Int) : Option Int := match f[g.toNat]? with | some u => if 0 ≤ u ∧ u ≤ 15 then some u else none | none => none
def mapC (f : List Int) (c : Int) : Option Int := if Graded c ∧ 0 ≤ gradeOf c then (imgOf f (gradeOf c)).map (codeOf c) else some c
def mapL (f : List Int) : List Int → Option (List Int) | [] => some [] | c :: l => (mapC f c).bind fun d => (mapL f l).map (d :: ·)
theorem mapL_append (f : List Int) (l m : List Int) : mapL f (l ++ m) = (mapL f l).bind fun xs => (mapL f m).map (xs ++ ·) := by
  induction l with
  | nil => cases h : mapL f m <;> simp [mapL, h]
  | cons c l ih =>
    simp only [List.cons_append, mapL, ih]
    cases mapC f c <;> cases mapL f l <;> cases mapL f m <;> rfl
theorem mapL_take_succ {f l : List Int} {k : Nat} {c : Int} (h : l[k]? = some c) : mapL f (l.take (k + 1)) = (mapL f (l.take k)).bind fun xs => (mapC f c).map fun d => xs ++ [d] := by
  obtain ⟨hk, h⟩ := List.getElem?_eq_some_iff.1 h
  rw [List.take_succ_eq_append_getElem hk, mapL_append, h]
  cases mapL f (l.take k) with
  | none => rfl
  | some xs => cases e : mapC f c <;> simp [mapL, e]
theorem mapL_step {f l xs : List Int} {k : Nat} {c d : Int} (h : l[k]? = some c) (hx : mapL f (l.take k) = some xs) (hd : mapC f c = some d) : mapL f (l.take (k + 1)) = some (xs ++ [d]) := by
  rw [mapL_take_succ h, hx, hd]; rfl
theorem mapL_none {f l : List Int} {k : Nat} {c : Int} (h : l[k]? = some c) (hd : mapC f c = none) : mapL f l = none := by
  obtain ⟨hk, h⟩ := List.getElem?_eq_some_iff.1 h
  rw [← List.take_append_drop k l, mapL_append, List.drop_eq_getElem_cons hk, h]
  cases mapL f (l.take k) <;> simp [mapL, hd]
theorem mapL_len {f l xs : List Int} (h : mapL f l = some xs) : xs.length = l.length := by
  induction l generalizing xs with
  | nil => simp [mapL] at h; subst h; rfl
  | cons c l ih =>
    simp only [mapL] at h
    cases hc : mapC f c with
    | none => rw [hc] at h; cases h
    | some d =>
      cases hl : mapL f l with
      | none => rw [hc, hl] at h; cases h
      | some ys => rw [hc, hl] at h; simp at h; subst h; simp [ih hl]
theorem mapC_plain {f : List Int} {c : Int} (h : ¬ Graded c) : mapC f c = some c := by unfold mapC; rw [if_neg (fun q => h q.1)]
theorem mapC_open {f : List Int} {c : Int} (h : gradeOf c < 0) : mapC f c = some c := by unfold mapC; rw [if_neg (fun q => by omega)]
theorem mapC_ok {f : List Int} {c u : Int} (h : Graded c) (hg : 0 ≤ gradeOf c) (hu : imgOf f (gradeOf c) = some u) : mapC f c = some (codeOf c u) := by unfold mapC; rw [if_pos ⟨h, hg⟩, hu]; rfl
theorem mapC_bad {f : List Int} {c : Int} (h : Graded c) (hg : 0 ≤ gradeOf c) (hu : imgOf f (gradeOf c) = none) : mapC f c = none := by unfold mapC; rw [if_pos ⟨h, hg⟩, hu]; rfl
theorem imgOf_some {f : List Int} {g u : Int} (h : imgOf f g = some u) : f[g.toNat]? = some u ∧ 0 ≤ u ∧ u ≤ 15 := by
  unfold imgOf at h
  split at h
  · rename_i v hv
    split at h
    · cases h; exact ⟨hv, by assumption⟩
    · cases h
  · cases h
theorem imgOf_none {f : List Int} {g : Int} (h : imgOf f g = none) : f.length ≤ g.toNat ∨ ∃ u, f[g.toNat]? = some u ∧ ¬ (0 ≤ u ∧ u ≤ 15) := by
  unfold imgOf at h
  split at h
  · rename_i v hv
    split at h
    · cases h
    · exact .inr ⟨v, hv, by assumption⟩
  · rename_i hv
    exact .inl (List.getElem?_eq_none_iff.1 hv)
/-- What MapType answers. -/
def MapTyV (f l : List Int) (o : List Int) : Prop := (WT l ∧ mapL f l = some o) ∨ (¬ (WT l ∧ ∃ xs, mapL f l = some xs) ∧ o = [])
theorem mapTyV_ex (f l : List Int) : ∃ o, MapTyV f l o := by
  by_cases h : WT l ∧ ∃ xs, mapL f l = some xs
  · obtain ⟨h1, xs, h2⟩ := h
    exact ⟨xs, .inl ⟨h1, h2⟩⟩
  · exact ⟨[], .inr ⟨h, rfl⟩⟩
theorem mapTyV_len {f l o : List Int} (h : MapTyV f l o) : o.length ≤ 40 := by
  rcases h with ⟨h1, h2⟩ | ⟨_, rfl⟩
  · rw [mapL_len h2]; exact h1.1
  · simp

end Go.Proofs.YtiekppegfocejaaDoor
