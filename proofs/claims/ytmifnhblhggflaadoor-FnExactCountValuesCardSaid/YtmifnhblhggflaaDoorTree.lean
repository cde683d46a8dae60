
/- Types as trees, plainly: every written type is the list of one tree. Nothing of a program stands here. -/
import Derived.Test.YtmifnhblhggflaaDoorTypeSpec
namespace Go.Proofs.YtmifnhblhggflaaDoor
open Go.RowKit

inductive Ty where
  | leaf
  | two (c : Int) (a b : Ty)
  | one (c : Int) (a : Ty)
namespace Ty
/-- Its codes. -/
def enc : Ty → List Int | leaf => [0] | two c a b => c :: (a.enc ++ b.enc) | one c a => c :: a.enc
/-- Each code has its parts. -/
def Ok : Ty → Prop | leaf => True | two c a b => kidsOf c = 2 ∧ a.Ok ∧ b.Ok | one c a => kidsOf c = 1 ∧ a.Ok
def encs : List Ty → List Int | [] => [] | t :: l => t.enc ++ encs l
theorem enc_pos (t : Ty) : 0 < t.enc.length := by cases t <;> simp [enc]
theorem endL_enc {t : Ty} (h : t.Ok) : ∀ (post : List Int) (i : Nat) (m : Int), 0 ≤ m → endL (t.enc ++ post) i (m + 1) = endL post (i + t.enc.length) m := by
  induction t with
  | leaf =>
    intro post i m hm
    have h0 : ¬ m + 1 = 0 := by omega
    simp only [enc, List.cons_append, List.nil_append, endL, h0, if_false, kidsOf_0, List.length_cons, List.length_nil]
    rw [if_neg (by omega), show m + 1 - 1 + 0 = m by omega]
  | two c a b iha ihb =>
    obtain ⟨hc, ha, hb⟩ := h
    intro post i m hm
    have h0 : ¬ m + 1 = 0 := by omega
    simp only [enc, List.cons_append, endL, h0, if_false, hc, List.length_cons, List.length_append]
    rw [if_neg (by omega), show m + 1 - 1 + 2 = (m + 1) + 1 by omega, List.append_assoc, iha ha _ _ _ (by omega), ihb hb _ _ _ hm]
    congr 1
    omega
  | one c a iha =>
    obtain ⟨hc, ha⟩ := h
    intro post i m hm
    have h0 : ¬ m + 1 = 0 := by omega
    simp only [enc, List.cons_append, endL, h0, if_false, hc, List.length_cons]
    rw [if_neg (by omega), show m + 1 - 1 + 1 = m + 1 by omega, iha ha _ _ _ hm]
    congr 1
    omega
/-- A tree that stands in a list ends where its codes end. -/
theorem endOf_enc {t : Ty} (h : t.Ok) {l : List Int} {i : Nat} {post : List Int} (hl : l.drop i = t.enc ++ post) : endOf l i 1 = i + t.enc.length := by
  unfold endOf
  rw [hl, show (1 : Int) = 0 + 1 from rfl, endL_enc h _ _ _ (by omega)]
  cases post <;> simp [endL]
theorem parse (l : List Int) : ∀ (i : Nat) (m : Nat), 0 ≤ endL l i m → ∃ (ts : List Ty) (post : List Int), ts.length = m ∧ (∀ t ∈ ts, t.Ok) ∧ l = encs ts ++ post ∧ endL l i m = i + (encs ts).length := by
  induction l with
  | nil =>
    intro i m h
    cases m with
    | zero => exact ⟨[], [], rfl, by simp, rfl, by simp [endL, encs]⟩
    | succ m =>
      exfalso
      simp only [endL] at h
      rw [if_neg (by omega)] at h
      omega
  | cons c l ih =>
    intro i m h
    cases m with
    | zero => exact ⟨[], c :: l, rfl, by simp, rfl, by simp [endL, encs]⟩
    | succ m =>
      have h0 : ¬ ((m + 1 : Nat) : Int) = 0 := by omega
      simp only [endL, h0, if_false] at h ⊢
      have hk : ¬ kidsOf c < 0 := fun q => by rw [if_pos q] at h; omega
      rw [if_neg hk] at h ⊢
      have hle := kidsOf_le c
      obtain ⟨k, hkk⟩ : ∃ k : Nat, kidsOf c = k := ⟨(kidsOf c).toNat, by omega⟩
      rw [show ((m + 1 : Nat) : Int) - 1 + kidsOf c = ((m + k : Nat) : Int) by omega] at h ⊢
      obtain ⟨ts, post, h1, h2, h3, h4⟩ := ih (i + 1) (m + k) h
      have hk3 : k = 0 ∨ k = 1 ∨ k = 2 := by omega
      rcases hk3 with rfl | rfl | rfl
      · have hc : c = 0 := by
          unfold kidsOf at hkk
          split at hkk
          · assumption
          · split at hkk
            · omega
            · split at hkk <;> omega
        subst hc
        refine ⟨leaf :: ts, post, by simp [h1], ?_, by simp [encs, enc, h3], ?_⟩
        · intro t ht
          rcases List.mem_cons.1 ht with rfl | ht
          · trivial
          · exact h2 t ht
        · rw [h4]; simp [encs, enc]; omega
      · match ts, h1 with
        | a :: ts, h1 =>
          refine ⟨one c a :: ts, post, by simpa using h1, ?_, by simp [encs, enc, h3], ?_⟩
          · intro t ht
            rcases List.mem_cons.1 ht with rfl | ht
            · exact ⟨by omega, h2 a (by simp)⟩
            · exact h2 t (by simp [ht])
          · rw [h4]; simp [encs, enc]; omega
      · match ts, h1 with
        | a :: b :: ts, h1 =>
          refine ⟨two c a b :: ts, post, by simpa using h1, ?_, by simp [encs, enc, h3], ?_⟩
          · intro t ht
            rcases List.mem_cons.1 ht with rfl | ht
            · exact ⟨by omega, h2 a (by simp), h2 b (by simp)⟩
            · exact h2 t (by simp [ht])
          · rw [h4]; simp [encs, enc]; omega
/-- Every written type is the list of a tree. -/
theorem _root_.Go.Proofs.YtmifnhblhggflaaDoor.WT.tree {l : List Int} (h : WT l) : ∃ t : Ty, t.Ok ∧ l = t.enc := by
  have h1 := h.2
  unfold endOf at h1
  obtain ⟨ts, post, h2, h3, h4, h5⟩ := parse (l.drop 0) 0 1 (by have := h1; simp at this ⊢; omega)
  have h6 : endL (l.drop 0) 0 1 = (l.length : Int) := h1
  match ts, h2 with
  | [t], _ =>
    have h7 : l = t.enc ++ post := by simpa [encs] using h4
    have h8 : ((0 : Nat) : Int) + (t.enc.length : Int) = l.length := by
      have := h5.symm.trans h6
      simpa [encs] using this
    have h9 : post = [] := by
      have := congrArg List.length h7
      simp at this
      exact List.eq_nil_of_length_eq_zero (by omega)
    exact ⟨t, h3 t (by simp), by simpa [h9] using h7⟩
/-- How many leaves. -/
def leaves : Ty → Nat | leaf => 1 | two _ a b => a.leaves + b.leaves | one _ a => a.leaves
theorem leaves_pos (t : Ty) : 1 ≤ t.leaves := by
  induction t with
  | leaf => simp [leaves]
  | two c a b iha ihb => simp [leaves]; omega
  | one c a ih => simpa [leaves] using ih
theorem leaves_le (t : Ty) : 2 * t.leaves ≤ t.enc.length + 1 := by
  induction t with
  | leaf => simp [leaves, enc]
  | two c a b iha ihb => simp [leaves, enc]; omega
  | one c a ih => simp [leaves, enc]; omega
/-- How many values. -/
def cnt : Ty → Nat | leaf => 3 | two c a b => if c = 1 then a.cnt * b.cnt else a.cnt + b.cnt | one _ a => a.cnt
theorem cnt_pos (t : Ty) : 1 ≤ t.cnt := by
  induction t with
  | leaf => simp [cnt]
  | two c a b iha ihb =>
    simp only [cnt]
    split
    · exact Nat.mul_pos iha ihb
    · omega
  | one c a ih => simpa [cnt] using ih
theorem cnt_le_pow (t : Ty) : t.cnt ≤ 3 ^ t.leaves := by
  induction t with
  | leaf => simp [cnt, leaves]
  | two c a b iha ihb =>
    have ha := a.leaves_pos
    have hb := b.leaves_pos
    simp only [cnt, leaves, Nat.pow_add]
    have h1 : 3 ≤ 3 ^ a.leaves := by simpa using Nat.pow_le_pow_right (n := 3) (by omega) ha
    have h2 : 3 ≤ 3 ^ b.leaves := by simpa using Nat.pow_le_pow_right (n := 3) (by omega) hb
    split
    · exact Nat.mul_le_mul iha ihb
    · have h3 : 3 ^ a.leaves * 2 ≤ 3 ^ a.leaves * 3 ^ b.leaves := Nat.mul_le_mul_left _ (by omega)
      have h4 : 3 ^ b.leaves * 2 ≤ 3 ^ b.leaves * 3 ^ a.leaves := Nat.mul_le_mul_left _ (by omega)
      rw [Nat.mul_comm (3 ^ b.leaves) (3 ^ a.leaves)] at h4
      omega
  | one c a ih => simpa [cnt, leaves] using ih
theorem cnt_le {t : Ty} (h : t.enc.length ≤ 40) : t.cnt ≤ 3486784401 := by
  have h1 := t.leaves_le
  have h2 := t.cnt_le_pow
  have h3 : 3 ^ t.leaves ≤ 3 ^ 20 := Nat.pow_le_pow_right (by omega) (by omega)
  have h4 : (3 : Nat) ^ 20 = 3486784401 := by decide
  omega
/-- How many values, but no more than 301. -/
def cap (t : Ty) : Nat := min t.cnt 301
theorem cap_leaf : cap leaf = 3 := rfl
theorem cap_one (c : Int) (a : Ty) : cap (one c a) = cap a := rfl
theorem cap_pair (a b : Ty) : cap (two 1 a b) = min (cap a * cap b) 301 := by
  unfold cap
  simp only [cnt, if_true]
  have ha := a.cnt_pos
  have hb := b.cnt_pos
  by_cases h1 : a.cnt ≤ 301
  · by_cases h2 : b.cnt ≤ 301
    · rw [Nat.min_eq_left h1, Nat.min_eq_left h2]
    · have h3 : 1 * b.cnt ≤ a.cnt * b.cnt := Nat.mul_le_mul_right _ ha
      have h4 : 1 * 301 ≤ a.cnt * 301 := Nat.mul_le_mul_right _ ha
      rw [Nat.min_eq_left h1, Nat.min_eq_right (a := b.cnt) (by omega)]
      omega
  · have h3 : a.cnt * 1 ≤ a.cnt * b.cnt := Nat.mul_le_mul_left _ hb
    have h4 : 301 * 1 ≤ 301 * min b.cnt 301 := Nat.mul_le_mul_left _ (by omega)
    rw [Nat.min_eq_right (a := a.cnt) (by omega)]
    omega
theorem cap_sum (c : Int) (hc : c ≠ 1) (a b : Ty) : cap (two c a b) = min (cap a + cap b) 301 := by
  unfold cap
  simp only [cnt, hc, if_false]
  omega
theorem cap_le (t : Ty) : t.cap ≤ 301 := by unfold cap; omega
end Ty
end Go.Proofs.YtmifnhblhggflaaDoor
