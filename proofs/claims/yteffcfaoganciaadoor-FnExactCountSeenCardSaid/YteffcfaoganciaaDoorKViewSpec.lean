
/- Views of a system, plainly. -/
import Derived.Test.YteffcfaoganciaaDoorGB
set_option linter.unusedVariables false
set_option linter.unusedSimpArgs false
namespace Go.Proofs.YteffcfaoganciaaDoor
open Go.RowKit

def bitI (S : Nat) (g : Int) : Bool := S.testBit g.toNat
/-- A set of grades that a view sees: on one pair, on all behind one grade, whole. -/
def ViewAt1 (s : Sys) (p : Int → Prop) (a b : Int) : Prop := (p (s.add a b) ↔ p a ∨ p b) ∧ (p (s.mul a b) ↔ p a ∧ p b) ∧ (p a → s.le a b = true → p b)
def ViewAt (s : Sys) (p : Int → Prop) (a : Int) : Prop := ∀ b, G s b → ViewAt1 s p a b
def ViewP (s : Sys) (p : Int → Prop) : Prop := (p 1 ∧ ¬ p 0) ∧ ∀ a, G s a → ViewAt s p a
def AscP (n : Int) (l : List Int) : Prop := ∀ i g, l[i]? = some g → (0 ≤ g ∧ g < n) ∧ ∀ j f, j + 1 = i → l[j]? = some f → f < g
def IsViewP (s : Sys) (l : List Int) : Prop := IsSys s ∧ AscP s.n l ∧ ViewP s (fun g => g ∈ l)
theorem viewP_congr {s : Sys} (t : Tables s) {p q : Int → Prop} (h : ∀ g, G s g → (p g ↔ q g)) : ViewP s p ↔ ViewP s q := by
  have h0 : G s 0 := ⟨by omega, by have := t.lo; omega⟩
  have h1 : G s 1 := ⟨by omega, by have := t.lo; omega⟩
  unfold ViewP ViewAt ViewAt1
  rw [h 1 h1, h 0 h0]
  constructor
  · rintro ⟨k, r⟩
    refine ⟨k, fun a ha b hb => ?_⟩
    have := r a ha b hb
    rw [h _ (t.addG ha hb), h _ (t.mulG ha hb), h a ha, h b hb] at this
    exact this
  · rintro ⟨k, r⟩
    refine ⟨k, fun a ha b hb => ?_⟩
    have := r a ha b hb
    rw [← h _ (t.addG ha hb), ← h _ (t.mulG ha hb), ← h a ha, ← h b hb] at this
    exact this
def setL (l : List Int) : Nat := l.foldl (fun S g => S ||| 2 ^ g.toNat) 0
theorem setL_snoc (l : List Int) (g : Int) : setL (l ++ [g]) = setL l ||| 2 ^ g.toNat := by simp [setL]
theorem setL_take {l : List Int} {k : Nat} {g : Int} (h : l[k]? = some g) : setL (l.take (k + 1)) = setL (l.take k) ||| 2 ^ g.toNat := by
  have hk : k < l.length := by
    by_cases hk : k < l.length
    · exact hk
    · rw [List.getElem?_eq_none (by omega)] at h; cases h
  rw [List.take_succ_eq_append_getElem hk, setL_snoc]
  rw [List.getElem?_eq_getElem hk] at h
  cases h
  rfl
theorem setL_lt : ∀ (l : List Int), (∀ g ∈ l, 0 ≤ g ∧ g < 16) → setL l < 65536 := by
  have : ∀ (l : List Int) (S : Nat), S < 65536 → (∀ g ∈ l, 0 ≤ g ∧ g < 16) → l.foldl (fun S g => S ||| 2 ^ g.toNat) S < 65536 := by
    intro l
    induction l with
    | nil => intro S hS _; exact hS
    | cons x l ih => intro S hS h; exact ih _ (or_lt16 hS (by have := h x (by simp); omega)) (fun g hg => h g (by simp [hg]))
  exact fun l h => this l 0 (by omega) h
theorem setL_bit (l : List Int) (h : ∀ g ∈ l, 0 ≤ g) (i : Nat) : (setL l).testBit i = true ↔ (i : Int) ∈ l := by
  have : ∀ (l : List Int) (S : Nat), (∀ g ∈ l, 0 ≤ g) → ((l.foldl (fun S g => S ||| 2 ^ g.toNat) S).testBit i = true ↔ S.testBit i = true ∨ (i : Int) ∈ l) := by
    intro l
    induction l with
    | nil => intro S _; simp
    | cons x l ih =>
      intro S h
      have h0 := h x (by simp)
      rw [List.foldl_cons, ih _ (fun g hg => h g (by simp [hg])), Nat.testBit_or, Nat.testBit_two_pow]
      simp only [Bool.or_eq_true, decide_eq_true_eq, List.mem_cons]
      constructor
      · rintro ((h | h) | h)
        · exact .inl h
        · exact .inr (.inl (by omega))
        · exact .inr (.inr h)
      · rintro (h | h | h)
        · exact .inl (.inl h)
        · exact .inl (.inr (by omega))
        · exact .inr h
  rw [setL, this l 0 h]
  simp
theorem asc_range {n : Int} {l : List Int} (h : AscP n l) : ∀ g ∈ l, 0 ≤ g ∧ g < n := fun g hg => by
  obtain ⟨i, hi, e⟩ := List.mem_iff_getElem.1 hg
  exact (h i g (by rw [List.getElem?_eq_getElem hi, e])).1

end Go.Proofs.YteffcfaoganciaaDoor
