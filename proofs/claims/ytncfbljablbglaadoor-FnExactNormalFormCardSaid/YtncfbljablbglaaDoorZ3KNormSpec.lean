/- Normal forms, plainly. Nothing of a program stands here. -/
import Derived.Test.YtncfbljablbglaaDoorZ3GX8
import Derived.Test.YtncfbljablbglaaDoorZ3GX1
set_option linter.unusedVariables false
set_option linter.unusedSimpArgs false
namespace Go.Proofs.YtncfbljablbglaaDoor
open Go.RowKit

/-- The step of a term. -/
noncomputable def stepO (t : Tm) : Tm := Classical.choose (stepV_ex t)
noncomputable def stepB (t : Tm) : Bool := Classical.choose (Classical.choose_spec (stepV_ex t))
theorem step_is (t : Tm) : StepV t (stepO t) (stepB t) := Classical.choose_spec (Classical.choose_spec (stepV_ex t))
theorem StepV.written {t o : Tm} {b : Bool} (h : StepV t o b) (hb : b = true) : Written o := by
  rcases h with ⟨p, ps, _, hc⟩ | ⟨_, _, e⟩
  · rcases hc with ⟨_, _, _, _, _, _, hr⟩ | ⟨_, _, e⟩
    · rcases hr with ⟨_, _, hw, _⟩ | ⟨_, _, e⟩
      · exact hw
      · rw [hb] at e; cases e
    · rw [hb] at e; cases e
  · rw [hb] at e; cases e
open Classical in
/-- The term without redexes to which at most so many steps lead, and how many there were. -/
noncomputable def normN : Nat → Tm → Option (Nat × Tm)
  | 0, t => if t.reds [] = [] then some (0, t) else none
  | m + 1, t => if t.reds [] = [] then some (0, t) else if stepB t = true then (normN m (stepO t)).map fun p => (p.1 + 1, p.2) else none
theorem normN_end {m : Nat} {t : Tm} (h : t.reds [] = []) : normN m t = some (0, t) := by cases m <;> simp [normN, h]
theorem normN_zero {t : Tm} (h : ¬ t.reds [] = []) : normN 0 t = none := by simp [normN, h]
theorem normN_stuck {m : Nat} {t : Tm} (h : ¬ t.reds [] = []) (hs : stepB t = false) : normN m t = none := by cases m <;> simp [normN, h, hs]
theorem normN_step {m : Nat} {t : Tm} (h : ¬ t.reds [] = []) (hs : stepB t = true) : normN (m + 1) t = (normN m (stepO t)).map fun p => (p.1 + 1, p.2) := by simp [normN, h, hs]
/-- So far: k steps led to x. -/
def NormR (M : Nat) (t : Tm) (k : Nat) (x : Tm) : Prop := k ≤ M ∧ Written x ∧ normN M t = (normN (M - k) x).map fun p => (p.1 + k, p.2)
theorem NormR.start {M : Nat} {t : Tm} (h : Written t) : NormR M t 0 t := by
  refine ⟨by omega, h, ?_⟩
  cases e : normN M t with
  | none => simp [e]
  | some p => simp [e]
theorem NormR.next {M : Nat} {t x : Tm} {k : Nat} (h : NormR M t k x) (hr : ¬ x.reds [] = []) (hs : stepB x = true) (hk : k ≠ M) : NormR M t (k + 1) (stepO x) := by
  obtain ⟨h1, h2, h3⟩ := h
  refine ⟨by omega, (step_is x).written hs, ?_⟩
  rw [h3, show M - k = (M - (k + 1)) + 1 by omega, normN_step hr hs, Option.map_map]
  congr 1
  funext p
  show (p.1 + 1 + k, p.2) = (p.1 + (k + 1), p.2)
  congr 1
  omega
/-- What NormalForm answers. -/
def NormV (t : Tm) (most : Int) (o : Tm) (n : Int) (b : Bool) : Prop :=
  ((Written t ∧ 0 ≤ most ∧ most ≤ 300) ∧ ∃ k : Nat, normN most.toNat t = some (k, o) ∧ n = k ∧ b = true) ∨ (¬ ((Written t ∧ 0 ≤ most ∧ most ≤ 300) ∧ ∃ p, normN most.toNat t = some p) ∧ o = zeroT ∧ n = 0 ∧ b = false)
theorem normV_ex (t : Tm) (most : Int) : ∃ o n b, NormV t most o n b := by
  by_cases h : (Written t ∧ 0 ≤ most ∧ most ≤ 300) ∧ ∃ p, normN most.toNat t = some p
  · obtain ⟨h1, ⟨k, z⟩, h2⟩ := h
    exact ⟨z, k, true, .inl ⟨h1, k, h2, rfl, rfl⟩⟩
  · exact ⟨zeroT, 0, false, .inr ⟨h, rfl, rfl, rfl⟩⟩
theorem normN_written : ∀ (m : Nat) {t : Tm} {k : Nat} {o : Tm}, Written t → normN m t = some (k, o) → Written o
  | 0, t, k, o, hw, h => by
    simp only [normN] at h
    split at h
    · cases h; exact hw
    · cases h
  | m + 1, t, k, o, hw, h => by
    simp only [normN] at h
    split at h
    · cases h; exact hw
    · split at h
      · rename_i hs
        cases e : normN m (stepO t) with
        | none => rw [e] at h; cases h
        | some p =>
          rw [e] at h
          cases h
          exact normN_written m ((step_is t).written hs) e
      · cases h
theorem NormV.wt {t o : Tm} {most n : Int} {b : Bool} (h : NormV t most o n b) : o.wt ≤ 16400 := by
  rcases h with ⟨⟨hw, _⟩, k, h, _⟩ | ⟨_, rfl, _⟩
  · exact (normN_written _ hw h).wt
  · simp [Tm.wt, Tm.wtL]
theorem NormV.no {t o : Tm} {most n : Int} {b : Bool} (h : NormV t most o n b) (hn : ¬ ((Written t ∧ 0 ≤ most ∧ most ≤ 300) ∧ ∃ p, normN most.toNat t = some p)) : o = zeroT ∧ n = 0 ∧ b = false := by
  rcases h with ⟨g, k, e, _⟩ | ⟨_, e⟩
  · exact absurd ⟨g, _, e⟩ hn
  · exact e
/-- The end of the way. -/
theorem NormV.fin {t o x : Tm} {most n : Int} {b : Bool} {k : Nat} (h : NormV t most o n b) (g : Written t ∧ 0 ≤ most ∧ most ≤ 300) (hr : NormR most.toNat t k x) (hx : x.reds [] = []) : o = x ∧ n = k ∧ b = true := by
  have e := hr.2.2
  rw [normN_end hx] at e
  rcases h with ⟨_, k', e', hn, hb⟩ | ⟨hn, _⟩
  · rw [e] at e'
    cases e'
    exact ⟨rfl, by rw [hn]; simp, hb⟩
  · exact absurd ⟨g, _, e⟩ hn
theorem NormV.stop {t o x : Tm} {most n : Int} {b : Bool} {k : Nat} (h : NormV t most o n b) (hr : NormR most.toNat t k x) (hx : ¬ x.reds [] = []) (hs : stepB x = false ∨ k = most.toNat) : o = zeroT ∧ n = 0 ∧ b = false := by
  refine h.no fun ⟨_, p, e⟩ => ?_
  rw [hr.2.2] at e
  rcases hs with q | q
  · rw [normN_stuck hx q] at e; cases e
  · rw [q, Nat.sub_self, normN_zero hx] at e; cases e
theorem own_k {w : World} {t : Tm} {r : TV} {B : Nat → Prop} (h : TmOwn w t r B) {P : Nat → Prop} (hp : ∀ g, B g → P g) : TmK w t r P := fun w' hk =>
  (h.keep fun g hg => hk g (hp g hg) (h.lt g hg)).tm (fun _ _ => Nat.zero_le _)
/-- Three results, the first a new term in blocks of its own. -/
def NewTmIB (W : World) (o : Tm) (n : Int) (b : Bool) : Ending → World → Prop := fun e w' => ∃ (r : TV) (B : Nat → Prop) (y : Ext W), e = .returned (.tuple #[r.val o, .int .i64 n, .bool b]) ∧ w' = y.w ∧ TmOwn y.w o r B ∧ ∀ q, B q → W.heap.size ≤ q
end Go.Proofs.YtncfbljablbglaaDoor
