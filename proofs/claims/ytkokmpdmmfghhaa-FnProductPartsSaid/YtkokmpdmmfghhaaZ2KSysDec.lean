/- Whether a system is one, by reckoning; the systems of few numbers and levels are. Nothing of a program stands here. -/
import Derived.Test.YtkokmpdmmfghhaaZ2KProdSpec
import Derived.Test.YtkokmpdmmfghhaaZ2KNumSpec
import Derived.Test.YtkokmpdmmfghhaaZ2KLevelModel
import Derived.KernelRfl
set_option linter.unusedVariables false
set_option linter.unusedSimpArgs false
namespace Go.Proofs.Ytkokmpdmmfghhaa
open Go.RowKit

def upN (n : Nat) : List Int := (List.range n).map fun (i : Nat) => (i : Int)
theorem upN_mem {n : Nat} {a : Int} (h0 : 0 ≤ a) (h1 : a < n) : a ∈ upN n := by
  unfold upN
  exact List.mem_map.2 ⟨a.toNat, List.mem_range.2 (by omega), by omega⟩
theorem upN_in {n : Nat} {a : Int} (h : a ∈ upN n) : 0 ≤ a ∧ a < n := by
  unfold upN at h
  obtain ⟨i, hi, rfl⟩ := List.mem_map.1 h
  have := List.mem_range.1 hi
  omega
/-- All laws of a system, reckoned. -/
def isSysB (s : Sys) : Bool :=
  let N := s.n.toNat
  decide (2 ≤ s.n ∧ s.n ≤ 16) && decide (s.plus.length = N * N ∧ s.times.length = N * N ∧ s.below.length = N * N) &&
  s.plus.all (fun g => decide (0 ≤ g ∧ g < s.n)) && s.times.all (fun g => decide (0 ≤ g ∧ g < s.n)) &&
  (upN N).all fun a =>
    s.add 0 a == a && s.mul 1 a == a && s.mul a 1 == a && s.mul 0 a == 0 && s.mul a 0 == 0 && s.le a a &&
    (upN N).all fun b =>
      s.add a b == s.add b a && (a == b || !s.le a b || !s.le b a) &&
      (upN N).any (fun g => s.le a g && s.le b g && (upN N).all fun h => !s.le a h || !s.le b h || s.le g h) &&
      (upN N).all fun c =>
        s.add (s.add a b) c == s.add a (s.add b c) && s.mul (s.mul a b) c == s.mul a (s.mul b c) &&
        s.mul a (s.add b c) == s.add (s.mul a b) (s.mul a c) && s.mul (s.add a b) c == s.add (s.mul a c) (s.mul b c) &&
        (!s.le a b || ((!s.le b c || s.le a c) && s.le (s.add a c) (s.add b c) && s.le (s.mul a c) (s.mul b c) && s.le (s.mul c a) (s.mul c b)))
theorem isSys_of {s : Sys} (h : isSysB s = true) : IsSys s := by
  unfold isSysB at h
  simp only [Bool.and_eq_true, decide_eq_true_eq, List.all_eq_true, beq_iff_eq] at h
  obtain ⟨⟨⟨⟨⟨h1, h2⟩, h3, h4, h5⟩, h6⟩, h7⟩, h8⟩ := h
  have hN : ((s.n.toNat : Nat) : Int) = s.n := by omega
  have hm : ∀ a, G s a → a ∈ upN s.n.toNat := fun a ha => upN_mem ha.1 (by have := ha.2; omega)
  have hq : ((s.n.toNat * s.n.toNat : Nat) : Int) = s.n * s.n := by rw [Int.natCast_mul, hN]
  refine ⟨⟨h1, h2, by rw [h3]; exact hq, by rw [h4]; exact hq, by rw [h5]; exact hq, h6, h7⟩, fun a ha => ?_, fun a b ha hb => ?_, fun a b c ha hb hc => ?_⟩
  · obtain ⟨⟨⟨⟨⟨⟨q1, q2⟩, q3⟩, q4⟩, q5⟩, q6⟩, _⟩ := h8 a (hm a ha)
    exact ⟨q1, q2, q3, q4, q5, q6⟩
  · obtain ⟨⟨⟨q1, q2⟩, q3⟩, _⟩ := (h8 a (hm a ha)).2 b (hm b hb)
    refine ⟨q1, ?_, ?_⟩
    · simp only [Bool.or_eq_true, beq_iff_eq, Bool.not_eq_true'] at q2
      rcases q2 with (q | q) | q
      · exact .inl q
      · exact .inr (.inl q)
      · exact .inr (.inr q)
    · rw [List.any_eq_true] at q3
      obtain ⟨g, hg, q⟩ := q3
      simp only [Bool.and_eq_true, List.all_eq_true, Bool.or_eq_true, Bool.not_eq_true'] at q
      obtain ⟨⟨j1, j2⟩, j3⟩ := q
      obtain ⟨g0, g1⟩ := upN_in hg
      rcases firstI_is s.n (JoinAt s a b) with ⟨z, _⟩ | ⟨_, z⟩
      · exact z
      · refine absurd ⟨j1, j2, fun h hh k1 k2 => ?_⟩ (z g g0 (by omega))
        rcases j3 h (hm h hh) with (q | q) | q
        · rw [k1] at q; cases q
        · rw [k2] at q; cases q
        · exact q
  · obtain ⟨⟨⟨⟨q1, q2⟩, q3⟩, q4⟩, q5⟩ := ((h8 a (hm a ha)).2 b (hm b hb)).2 c (hm c hc)
    simp only [Bool.and_eq_true, Bool.or_eq_true, Bool.not_eq_true'] at q5
    refine ⟨q1, q2, q3, q4, fun l m => ?_, fun l => ?_, fun l => ?_, fun l => ?_⟩
    · rcases q5 with q | ⟨⟨⟨q, _⟩, _⟩, _⟩
      · rw [l] at q; cases q
      · rcases q with q | q
        · rw [m] at q; cases q
        · exact q
    · rcases q5 with q | ⟨⟨⟨_, q⟩, _⟩, _⟩
      · rw [l] at q; cases q
      · exact q
    · rcases q5 with q | ⟨⟨⟨_, _⟩, q⟩, _⟩
      · rw [l] at q; cases q
      · exact q
    · rcases q5 with q | ⟨⟨⟨_, _⟩, _⟩, q⟩
      · rw [l] at q; cases q
      · exact q
abbrev numS (F : Int → Nat → Nat → Bool) (m : Nat) : Sys := ⟨(m + 2 : Nat), grid (m + 2) (sumF m), grid (m + 2) (mulF m), grid (m + 2) (F m)⟩
abbrev levS (m : Nat) : Sys := ⟨(m + 1 : Nat), grid (m + 1) (highF m), grid (m + 1) (lowF m), grid (m + 1) (leF m)⟩
theorem count1_sys : IsSys (numS countF 1) := isSys_of (by decide +kernel)
theorem lev1_sys : IsSys (levS 1) := isSys_of (by decide +kernel)
theorem lev2_sys : IsSys (levS 2) := isSys_of (by decide +kernel)
theorem lev3_sys : IsSys (levS 3) := isSys_of (by decide +kernel)

end Go.Proofs.Ytkokmpdmmfghhaa
