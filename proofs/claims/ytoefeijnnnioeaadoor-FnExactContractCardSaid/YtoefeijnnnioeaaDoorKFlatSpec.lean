
/- Types in other languages, plainly: code by code. Nothing of a program stands here. -/
import Derived.Test.YtoefeijnnnioeaaDoorGR
set_option linter.unusedVariables false
set_option linter.unusedSimpArgs false
namespace Go.Proofs.YtoefeijnnnioeaaDoor
open Go.RowKit
/-- What stands for a code where nothing tells how much is used. -/
def plainC (c : Int) : List Int := if Arr c then [4] else if Bx c then [] else [c]
/-- What stands for a code where boxes alone tell it. -/
def boxC (c : Int) : List Int := if Arr c then [4, if gradeOf c = -1 then 36 else 19 + gradeOf c] else [c]
def plainL (l : List Int) : List Int := l.flatMap plainC
def boxL (l : List Int) : List Int := l.flatMap boxC
theorem plainC_len (c : Int) : (plainC c).length ≤ 1 := by unfold plainC; split; simp; split <;> simp
theorem boxC_len (c : Int) : (boxC c).length ≤ 2 := by unfold boxC; split <;> simp
theorem flat_len {f : Int → List Int} {m : Nat} (h : ∀ c, (f c).length ≤ m) (l : List Int) : (l.flatMap f).length ≤ m * l.length := by
  induction l with
  | nil => simp
  | cons c l ih =>
    have := h c
    simp only [List.flatMap_cons, List.length_append, List.length_cons, Nat.mul_add, Nat.mul_one]
    omega
theorem plainL_len (l : List Int) : (plainL l).length ≤ l.length := by have := flat_len plainC_len l; unfold plainL; omega
theorem boxL_len (l : List Int) : (boxL l).length ≤ 2 * l.length := flat_len boxC_len l
theorem flat_take_succ {f : Int → List Int} {l : List Int} {k : Nat} {c : Int} (h : l[k]? = some c) : (l.take (k + 1)).flatMap f = (l.take k).flatMap f ++ f c := by
  obtain ⟨hk, rfl⟩ := List.getElem?_eq_some_iff.1 h
  rw [List.take_succ_eq_append_getElem hk, List.flatMap_append]
  simp
/-- What ForgetType answers. -/
def ForgetV (l o : List Int) : Prop := (WT l ∧ o = plainL l) ∨ (¬ WT l ∧ o = [])
/-- What BoxType answers. -/
def BoxV (l o : List Int) : Prop := ((WT l ∧ (boxL l).length ≤ 40) ∧ o = boxL l) ∨ (¬ (WT l ∧ (boxL l).length ≤ 40) ∧ o = [])
theorem forgetV_ex (l : List Int) : ∃ o, ForgetV l o := by
  by_cases h : WT l
  · exact ⟨_, .inl ⟨h, rfl⟩⟩
  · exact ⟨_, .inr ⟨h, rfl⟩⟩
theorem boxV_ex (l : List Int) : ∃ o, BoxV l o := by
  by_cases h : WT l ∧ (boxL l).length ≤ 40
  · exact ⟨_, .inl ⟨h, rfl⟩⟩
  · exact ⟨_, .inr ⟨h, rfl⟩⟩
theorem ForgetV.len {l o : List Int} (h : ForgetV l o) : o.length ≤ 40 := by
  rcases h with ⟨w, rfl⟩ | ⟨_, rfl⟩
  · have := plainL_len l; have := w.1; omega
  · simp
theorem BoxV.len {l o : List Int} (h : BoxV l o) : o.length ≤ 40 := by
  rcases h with ⟨w, rfl⟩ | ⟨_, rfl⟩
  · exact w.2
  · simp
theorem flat_two (f : Int → List Int) (c : Int) (A B : Ty) : (Ty.two c A B).enc.flatMap f = (f c ++ A.enc.flatMap f) ++ B.enc.flatMap f := by simp [Ty.enc]
theorem flat_one (f : Int → List Int) (c : Int) (A : Ty) : (Ty.one c A).enc.flatMap f = f c ++ A.enc.flatMap f := by simp [Ty.enc]
/-- The first code, and the types behind it. -/
def Ty.code : Ty → Int | .leaf => 0 | .two c _ _ => c | .one c _ => c
def Ty.parts : Ty → List Ty | .leaf => [] | .two _ a b => [a, b] | .one _ a => [a]
theorem Ty.enc_parts (T : Ty) : T.enc = T.code :: Ty.encs T.parts := by cases T <;> simp [Ty.enc, Ty.code, Ty.parts, Ty.encs]
theorem Ty.kids_parts {T : Ty} (h : T.Ok) : kidsOf T.code = (T.parts.length : Int) := by
  cases T with
  | leaf => exact kidsOf_0
  | two c a b => exact h.1
  | one c a => exact h.1
theorem Ty.ok_parts {T : Ty} (h : T.Ok) : ∀ p ∈ T.parts, p.Ok := by
  cases T with
  | leaf => intro p hp; cases hp
  | two c a b => intro p hp; simp [Ty.parts] at hp; rcases hp with rfl | rfl; exact h.2.1; exact h.2.2
  | one c a => intro p hp; simp [Ty.parts] at hp; subst hp; exact h.2
theorem Ty.indP {P : Ty → Prop} (h : ∀ T, (∀ p ∈ T.parts, P p) → P T) (T : Ty) : P T := by
  induction T with
  | leaf => exact h _ (fun p hp => by cases hp)
  | two c a b iha ihb => exact h _ (fun p hp => by simp [Ty.parts] at hp; rcases hp with rfl | rfl; exact iha; exact ihb)
  | one c a ih => exact h _ (fun p hp => by simp [Ty.parts] at hp; subst hp; exact ih)
theorem Ty.encs_take_succ {ps : List Ty} {k : Nat} {p : Ty} (h : ps[k]? = some p) : Ty.encs (ps.take (k + 1)) = Ty.encs (ps.take k) ++ p.enc := by
  induction ps generalizing k with
  | nil => simp at h
  | cons a ps ih =>
    cases k with
    | zero => simp at h; subst h; simp [Ty.encs]
    | succ k => simp at h; simp [Ty.encs, ih h]
theorem Ty.encs_split {ps : List Ty} {k : Nat} {p : Ty} (h : ps[k]? = some p) : ∃ post, Ty.encs ps = Ty.encs (ps.take k) ++ (p.enc ++ post) := by
  induction ps generalizing k with
  | nil => simp at h
  | cons a ps ih =>
    cases k with
    | zero => simp at h; subst h; exact ⟨Ty.encs ps, by simp [Ty.encs]⟩
    | succ k =>
      simp at h
      obtain ⟨post, e⟩ := ih h
      exact ⟨post, by simp [Ty.encs, e]⟩
/-- What a model's recursion over parts has made so far, and how far it has come. -/
def boxP (c : Int) (ps : List Ty) (k : Nat) : List Int := boxC c ++ boxL (Ty.encs (ps.take k))
def posP (ps : List Ty) (k : Nat) : Nat := (Ty.encs (ps.take k)).length
theorem boxP_zero (c : Int) (ps : List Ty) : boxP c ps 0 = boxC c := by simp [boxP, Ty.encs, boxL]
theorem boxP_succ {c : Int} {ps : List Ty} {k : Nat} {p : Ty} (h : ps[k]? = some p) : boxP c ps (k + 1) = boxP c ps k ++ boxL p.enc := by
  unfold boxP boxL
  rw [Ty.encs_take_succ h, List.flatMap_append, List.append_assoc]
theorem boxP_all (T : Ty) : boxP T.code T.parts T.parts.length = boxL T.enc := by
  unfold boxP boxL
  rw [List.take_length, T.enc_parts, List.flatMap_cons]
theorem boxP_len (c : Int) (ps : List Ty) (k : Nat) : (boxP c ps k).length ≤ 2 + 2 * posP ps k := by
  have h1 := boxC_len c
  have h2 := boxL_len (Ty.encs (ps.take k))
  unfold boxP posP
  rw [List.length_append]
  omega
theorem posP_zero (ps : List Ty) : posP ps 0 = 0 := by simp [posP, Ty.encs]
theorem posP_succ {ps : List Ty} {k : Nat} {p : Ty} (h : ps[k]? = some p) : posP ps (k + 1) = posP ps k + p.enc.length := by
  unfold posP
  rw [Ty.encs_take_succ h, List.length_append]
theorem posP_all (T : Ty) : 1 + posP T.parts T.parts.length = T.enc.length := by
  unfold posP
  rw [List.take_length, T.enc_parts, List.length_cons]
  omega
/-- A part stands where the recursion has come to. -/
theorem part_at {T p : Ty} {k i : Nat} {l post : List Int} (hd : l.drop i = T.enc ++ post) (hp : T.parts[k]? = some p) : ∃ post2, l.drop (i + (1 + posP T.parts k)) = p.enc ++ post2 := by
  obtain ⟨post2, hs⟩ := Ty.encs_split hp
  refine ⟨post2 ++ post, ?_⟩
  rw [← List.drop_drop, hd, T.enc_parts, hs]
  unfold posP
  rw [Nat.add_comm 1, List.cons_append, List.drop_succ_cons, List.append_assoc, List.drop_left', List.append_assoc]
  rfl
end Go.Proofs.YtoefeijnnnioeaaDoor
