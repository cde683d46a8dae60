/- Sets of small numbers as the bits of a number, plainly. -/
import Derived.Test.YtkokmpdmmfghhaaZ2HA
set_option linter.unusedVariables false
set_option linter.unusedSimpArgs false
namespace Go.Proofs.Ytkokmpdmmfghhaa

def setN (p : Nat → Bool) : Nat → Nat
  | 0 => 0
  | k + 1 => if p k then setN p k ||| 2 ^ k else setN p k

theorem testBit_setN (p : Nat → Bool) : ∀ n i, (setN p n).testBit i = (decide (i < n) && p i)
  | 0, i => by simp [setN]
  | k + 1, i => by
    unfold setN
    by_cases e : i = k
    · subst e
      cases hp : p i
      · simp [testBit_setN p i i]
      · simp
    · have hki : ¬ k = i := fun h => e h.symm
      have hd : decide (i < k + 1) = decide (i < k) := by rw [decide_eq_decide]; omega
      split
      · rw [Nat.testBit_or, testBit_setN p k i, Nat.testBit_two_pow, hd]; simp [hki]
      · rw [testBit_setN p k i, hd]

theorem setN_lt (p : Nat → Bool) (n : Nat) : setN p n < 2 ^ n := by
  apply Nat.lt_pow_two_of_testBit
  intro i hi
  rw [testBit_setN]; simp; omega

theorem setN_lt16 (p : Nat → Bool) {n : Nat} (h : n ≤ 16) : setN p n < 65536 :=
  Nat.lt_of_lt_of_le (setN_lt p n) (Nat.pow_le_pow_right (by omega) h)

theorem pow_lt16 {k : Nat} (h : k < 16) : 2 ^ k < 65536 :=
  Nat.lt_of_lt_of_le (Nat.pow_lt_pow_right (by omega) h) (Nat.le_refl _)

theorem or_bit {S k : Nat} (hS : S < 65536) (hk : k < 16) : bits .or .u32 (S : Int) (2 ^ k % 4294967296) = ((S ||| 2 ^ k : Nat) : Int) := by
  have h1 := pow_lt16 hk
  have h2 : ((2 : Int) ^ k % 4294967296) = ((2 ^ k : Nat) : Int) := by
    rw [Int.emod_eq_of_lt (by exact Int.le_of_lt (Int.pow_pos (by omega))) ?_]
    · push_cast; rfl
    · have : ((2 ^ k : Nat) : Int) < 4294967296 := by omega
      have e : ((2 ^ k : Nat) : Int) = (2 : Int) ^ k := by push_cast; rfl
      rw [e] at this; exact this
  rw [h2]
  exact u32_or_nat S (2 ^ k) (by omega) (by omega)

theorem and_lt16 {S T : Nat} (hS : S < 65536) : S &&& T < 65536 := Nat.lt_of_le_of_lt Nat.and_le_left hS

theorem bit_test {S k : Nat} (hS : S < 65536) : (bits .and .u32 ((S : Int) / 2 ^ k) 1 != 0) = S.testBit k := by
  have e : ((S : Int) / 2 ^ k) = ((S / 2 ^ k : Nat) : Int) := by push_cast; rfl
  have h1 : S / 2 ^ k < 65536 := Nat.lt_of_le_of_lt (Nat.div_le_self _ _) hS
  rw [e, show (1 : Int) = ((1 : Nat) : Int) from rfl, u32_and_nat _ 1 (by omega) (by omega), nat_mask1]
  rw [Nat.testBit_eq_decide_div_mod_eq]
  have := Nat.mod_two_eq_zero_or_one (S / 2 ^ k)
  rcases this with h | h <;> rw [h] <;> decide

/-- Every bit of S is one of T. -/
def SubSet (S T : Nat) : Prop := ∀ i, S.testBit i = true → T.testBit i = true

theorem andNot_zero {S T : Nat} (hS : S < 65536) (hT : T < 65536) : bits .andNot .u32 (S : Int) (T : Int) = 0 ↔ SubSet S T := by
  rw [u32_andNot_nat S T (by omega) (by omega)]
  have hb : ∀ i, i < 16 → (4294967295 - T).testBit i = !T.testBit i := by
    intro i hi
    have := Nat.testBit_two_pow_sub_succ (x := T) (n := 32) (by omega) i
    simp only [Nat.reducePow] at this
    rw [show 4294967295 - T = 4294967296 - (T + 1) by omega, this]
    simp; omega
  have hz : ∀ i, 16 ≤ i → S.testBit i = false := fun i hi => Nat.testBit_lt_two_pow (Nat.lt_of_lt_of_le hS (Nat.pow_le_pow_right (n := 2) (by omega) hi))
  constructor
  · intro h i hi
    have h0 : S &&& (4294967295 - T) = 0 := by omega
    have h1 : (S &&& (4294967295 - T)).testBit i = false := by rw [h0]; simp
    rw [Nat.testBit_and, hi] at h1
    by_cases h16 : i < 16
    · rw [hb i h16] at h1
      simpa using h1
    · rw [hz i (by omega)] at hi; cases hi
  · intro h
    have : S &&& (4294967295 - T) = 0 := by
      apply Nat.eq_of_testBit_eq
      intro i
      rw [Nat.testBit_and]
      by_cases h16 : i < 16
      · rw [hb i h16]
        cases hs : S.testBit i
        · simp
        · simp [h i hs]
      · rw [hz i (by omega)]; simp
    rw [this]; rfl

variable (s : Sys)
def Sys.above (a : Int) : Nat := setN (fun g => s.le a g) s.n.toNat

theorem above_bit (a : Int) (i : Nat) : (s.above a).testBit i = (decide ((i : Int) < s.n) && s.le a i) := by
  unfold Sys.above
  rw [testBit_setN]
  congr 1
  rw [decide_eq_decide]; omega
theorem above_lt (h : s.n ≤ 16) (a : Int) : s.above a < 65536 := setN_lt16 _ (by omega)

def LeastIn (S : Nat) (g : Int) : Prop := S.testBit g.toNat = true ∧ SubSet S (s.above g)

theorem joinAt_bits (a b g : Int) (hg : G s g) : LeastIn s (s.above a &&& s.above b) g ↔ JoinAt s a b g := by
  have e : ((g.toNat : Nat) : Int) = g := by have := hg.1; omega
  unfold LeastIn SubSet
  simp only [Nat.testBit_and, above_bit, Bool.and_eq_true, decide_eq_true_eq]
  constructor
  · rintro ⟨⟨⟨_, h1⟩, _, h2⟩, h3⟩
    rw [e] at h1 h2
    refine ⟨h1, h2, fun h hh k1 k2 => ?_⟩
    have eh : ((h.toNat : Nat) : Int) = h := by have := hh.1; omega
    have := (h3 h.toNat ⟨⟨by rw [eh]; exact hh.2, by rw [eh]; exact k1⟩, by rw [eh]; exact hh.2, by rw [eh]; exact k2⟩).2
    rwa [eh] at this
  · rintro ⟨h1, h2, h3⟩
    rw [e]
    exact ⟨⟨⟨hg.2, h1⟩, hg.2, h2⟩, fun i ⟨⟨hi, k1⟩, _, k2⟩ => ⟨hi, h3 i ⟨by omega, hi⟩ k1 k2⟩⟩

theorem join_bits (a b : Int) : s.join a b = firstI s.n (LeastIn s (s.above a &&& s.above b)) :=
  firstI_congr fun g h0 h1 => (joinAt_bits s a b g ⟨h0, h1⟩).symm

end Go.Proofs.Ytkokmpdmmfghhaa
