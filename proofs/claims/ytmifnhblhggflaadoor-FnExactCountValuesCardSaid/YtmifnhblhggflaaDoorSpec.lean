
/- What a system is, plainly: the laws of grades, as the program's own checks part them and as the model's do. -/
import Derived.Test.YtmifnhblhggflaaDoorBase
namespace Go.Proofs.YtmifnhblhggflaaDoor

/-- v is the first number below n of which P holds; -1 if there is none. -/
def IsFirst (n : Int) (P : Int → Prop) (v : Int) : Prop :=
  (0 ≤ v ∧ v < n ∧ P v ∧ ∀ i, 0 ≤ i → i < v → ¬ P i) ∨ (v = -1 ∧ ∀ i, 0 ≤ i → i < n → ¬ P i)

theorem isFirst_ex (n : Int) (P : Int → Prop) : ∃ v, IsFirst n P v := by
  by_cases h : ∃ i : Nat, (i : Int) < n ∧ P i
  · obtain ⟨i, hi⟩ := h
    induction i using Nat.strongRecOn with
    | _ i ih =>
      by_cases h2 : ∃ j : Nat, j < i ∧ P j
      · obtain ⟨j, hj, hp⟩ := h2
        exact ih j hj ⟨by omega, hp⟩
      · refine ⟨i, .inl ⟨by omega, hi.1, hi.2, fun k hk0 hk hp => h2 ⟨k.toNat, by omega, ?_⟩⟩⟩
        rw [show ((k.toNat : Nat) : Int) = k by omega]; exact hp
  · refine ⟨-1, .inr ⟨rfl, fun i h0 hi hp => h ⟨i.toNat, by omega, ?_⟩⟩⟩
    rw [show ((i.toNat : Nat) : Int) = i by omega]; exact hp

theorem isFirst_one {n : Int} {P : Int → Prop} {v u : Int} (h : IsFirst n P v) (k : IsFirst n P u) : v = u := by
  rcases h with ⟨h0, h1, h2, h3⟩ | ⟨h1, h2⟩ <;> rcases k with ⟨k0, k1, k2, k3⟩ | ⟨k1, k2⟩
  · rcases Int.lt_trichotomy v u with h | h | h
    · exact absurd h2 (k3 v h0 h)
    · exact h
    · exact absurd k2 (h3 u k0 h)
  · exact absurd h2 (k2 v h0 h1)
  · exact absurd k2 (h2 u k0 k1)
  · omega

noncomputable def firstI (n : Int) (P : Int → Prop) : Int := Classical.choose (isFirst_ex n P)
theorem firstI_is (n : Int) (P : Int → Prop) : IsFirst n P (firstI n P) := Classical.choose_spec (isFirst_ex n P)
theorem firstI_eq {n : Int} {P : Int → Prop} {v : Int} (h : IsFirst n P v) : v = firstI n P := isFirst_one h (firstI_is n P)
theorem firstI_congr {n : Int} {P Q : Int → Prop} (h : ∀ i, 0 ≤ i → i < n → (P i ↔ Q i)) : firstI n P = firstI n Q := by
  apply firstI_eq
  rcases firstI_is n P with ⟨h0, h1, h2, h3⟩ | ⟨h1, h2⟩
  · exact .inl ⟨h0, h1, (h _ h0 h1).1 h2, fun i hi0 hi hq => h3 i hi0 hi ((h i hi0 (by omega)).2 hq)⟩
  · exact .inr ⟨h1, fun i hi0 hi hq => h2 i hi0 hi ((h i hi0 hi).2 hq)⟩

variable (s : Sys)

def JoinAt (a b g : Int) : Prop := s.le a g = true ∧ s.le b g = true ∧ ∀ h, G s h → s.le a h = true → s.le b h = true → s.le g h = true
def MeetAt (a b g : Int) : Prop := s.le g a = true ∧ s.le g b = true ∧ ∀ h, G s h → s.le h a = true → s.le h b = true → s.le h g = true
def LeastAt (g : Int) : Prop := ∀ h, G s h → s.le g h = true
noncomputable def Sys.join (a b : Int) : Int := firstI s.n (JoinAt s a b)
noncomputable def Sys.meet (a b : Int) : Int := firstI s.n (MeetAt s a b)
noncomputable def Sys.least : Int := firstI s.n (LeastAt s)

structure One (a : Int) : Prop where
  z : s.add 0 a = a
  o1 : s.mul 1 a = a
  o2 : s.mul a 1 = a
  z1 : s.mul 0 a = 0
  z2 : s.mul a 0 = 0
  rf : s.le a a = true

structure Two (a b : Int) : Prop where
  comm : s.add a b = s.add b a
  anti : a = b ∨ s.le a b = false ∨ s.le b a = false
  join : 0 ≤ s.join a b

structure Three (a b c : Int) : Prop where
  aa : s.add (s.add a b) c = s.add a (s.add b c)
  mm : s.mul (s.mul a b) c = s.mul a (s.mul b c)
  dl : s.mul a (s.add b c) = s.add (s.mul a b) (s.mul a c)
  dr : s.mul (s.add a b) c = s.add (s.mul a c) (s.mul b c)
  tr : s.le a b = true → s.le b c = true → s.le a c = true
  ka : s.le a b = true → s.le (s.add a c) (s.add b c) = true
  k1 : s.le a b = true → s.le (s.mul a c) (s.mul b c) = true
  k2 : s.le a b = true → s.le (s.mul c a) (s.mul c b) = true

structure IsSys : Prop where
  tab : Tables s
  one : ∀ a, G s a → One s a
  two : ∀ a b, G s a → G s b → Two s a b
  three : ∀ a b c, G s a → G s b → G s c → Three s a b c

/-- The program's own checks. -/
def SumAt2 (a b c : Int) : Prop := s.add (s.add a b) c = s.add a (s.add b c)
def SumAt1 (a b : Int) : Prop := s.add a b = s.add b a ∧ ∀ c, G s c → SumAt2 s a b c
def SumAt (a : Int) : Prop := s.add 0 a = a ∧ ∀ b, G s b → SumAt1 s a b
def Sums : Prop := ∀ a, G s a → SumAt s a
def ProdAt2 (a b c : Int) : Prop := s.mul (s.mul a b) c = s.mul a (s.mul b c)
def ProdAt1 (a b : Int) : Prop := ∀ c, G s c → ProdAt2 s a b c
def ProdAt (a : Int) : Prop := s.mul 1 a = a ∧ s.mul a 1 = a ∧ s.mul 0 a = 0 ∧ s.mul a 0 = 0 ∧ ∀ b, G s b → ProdAt1 s a b
def Prods : Prop := ∀ a, G s a → ProdAt s a
def DistAt2 (a b c : Int) : Prop := s.mul a (s.add b c) = s.add (s.mul a b) (s.mul a c) ∧ s.mul (s.add a b) c = s.add (s.mul a c) (s.mul b c)
def DistAt1 (a b : Int) : Prop := ∀ c, G s c → DistAt2 s a b c
def DistAt (a : Int) : Prop := ∀ b, G s b → DistAt1 s a b
def Dists : Prop := ∀ a, G s a → DistAt s a
def OrdAt1 (a b : Int) : Prop := s.le a b = true → (a = b ∨ s.le b a = false) ∧ ∀ c, G s c → s.le b c = true → s.le a c = true
def OrdAt (a : Int) : Prop := s.le a a = true ∧ ∀ b, G s b → OrdAt1 s a b
def Ords : Prop := ∀ a, G s a → OrdAt s a
def KeptAt2 (a b c : Int) : Prop := s.le (s.add a c) (s.add b c) = true ∧ s.le (s.mul a c) (s.mul b c) = true ∧ s.le (s.mul c a) (s.mul c b) = true
def KeptAt1 (a b : Int) : Prop := s.le a b = true → ∀ c, G s c → KeptAt2 s a b c
def KeptAt (a : Int) : Prop := ∀ b, G s b → KeptAt1 s a b
def Kepts : Prop := ∀ a, G s a → KeptAt s a
def JoinsAt (a : Int) : Prop := ∀ b, G s b → 0 ≤ s.join a b
def Joins : Prop := ∀ a, G s a → JoinsAt s a

theorem isSys_parts : IsSys s ↔ Tables s ∧ Sums s ∧ Prods s ∧ Dists s ∧ Ords s ∧ Kepts s ∧ Joins s := by
  constructor
  · rintro ⟨t, h1, h2, h3⟩
    refine ⟨t, ?_, ?_, ?_, ?_, ?_, ?_⟩
    · exact fun a ha => ⟨(h1 a ha).z, fun b hb => ⟨(h2 a b ha hb).comm, fun c hc => (h3 a b c ha hb hc).aa⟩⟩
    · exact fun a ha => ⟨(h1 a ha).o1, (h1 a ha).o2, (h1 a ha).z1, (h1 a ha).z2, fun b hb c hc => (h3 a b c ha hb hc).mm⟩
    · exact fun a ha b hb c hc => ⟨(h3 a b c ha hb hc).dl, (h3 a b c ha hb hc).dr⟩
    · refine fun a ha => ⟨(h1 a ha).rf, fun b hb hl => ⟨?_, fun c hc => (h3 a b c ha hb hc).tr hl⟩⟩
      rcases (h2 a b ha hb).anti with h | h | h
      · exact .inl h
      · rw [h] at hl; cases hl
      · exact .inr h
    · exact fun a ha b hb hl c hc => ⟨(h3 a b c ha hb hc).ka hl, (h3 a b c ha hb hc).k1 hl, (h3 a b c ha hb hc).k2 hl⟩
    · exact fun a ha b hb => (h2 a b ha hb).join
  · rintro ⟨t, h1, h2, h3, h4, h5, h6⟩
    refine ⟨t, fun a ha => ?_, fun a b ha hb => ?_, fun a b c ha hb hc => ?_⟩
    · obtain ⟨p1, p2, p3, p4, _⟩ := h2 a ha
      exact ⟨(h1 a ha).1, p1, p2, p3, p4, (h4 a ha).1⟩
    · refine ⟨((h1 a ha).2 b hb).1, ?_, h6 a ha b hb⟩
      cases hl : s.le a b
      · exact .inr (.inl rfl)
      · rcases ((h4 a ha).2 b hb hl).1 with h | h
        · exact .inl h
        · exact .inr (.inr h)
    · exact ⟨((h1 a ha).2 b hb).2 c hc, (h2 a ha).2.2.2.2 b hb c hc, (h3 a ha b hb c hc).1, (h3 a ha b hb c hc).2,
        fun hl hm => ((h4 a ha).2 b hb hl).2 c hc hm, fun hl => (h5 a ha b hb hl c hc).1, fun hl => (h5 a ha b hb hl c hc).2.1, fun hl => (h5 a ha b hb hl c hc).2.2⟩

/-- Upwards over the grades: 'all below k', as a loop holds it. -/
def Upto (k : Nat) (P : Int → Prop) : Prop := ∀ i, 0 ≤ i → i < (k : Int) → P i
theorem Upto.zero (P : Int → Prop) : Upto 0 P := fun i h0 h1 => by omega
theorem Upto.succ {k : Nat} {P : Int → Prop} (h : Upto k P) (hk : P k) : Upto (k + 1) P := fun i h0 h1 => by
  by_cases e : i = k
  · rw [e]; exact hk
  · exact h i h0 (by omega)
theorem Upto.all {k : Nat} {P : Int → Prop} (h : Upto k P) (hk : s.n ≤ k) : ∀ a, G s a → P a := fun a ha => h a ha.1 (by have := ha.2; omega)

end Go.Proofs.YtmifnhblhggflaaDoor
