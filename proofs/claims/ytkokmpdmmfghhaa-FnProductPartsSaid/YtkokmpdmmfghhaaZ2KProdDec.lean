/- Products of the counts up to 1 with few levels, by reckoning: parts, joins, maps. Nothing of a program stands here. -/
import Derived.Test.YtkokmpdmmfghhaaZ2KSysDec
import Derived.Test.YtkokmpdmmfghhaaZ2KMapSpec
set_option linter.unusedVariables false
set_option linter.unusedSimpArgs false
namespace Go.Proofs.Ytkokmpdmmfghhaa
open Go.RowKit

def joinAtB (s : Sys) (a b g : Int) : Bool := s.le a g && s.le b g && (upN s.n.toNat).all fun h => !s.le a h || !s.le b h || s.le g h
theorem joinAtB_iff {s : Sys} {a b g : Int} : joinAtB s a b g = true ↔ JoinAt s a b g := by
  unfold joinAtB JoinAt
  simp only [Bool.and_eq_true, List.all_eq_true, Bool.or_eq_true, Bool.not_eq_true']
  constructor
  · rintro ⟨⟨j1, j2⟩, j3⟩
    refine ⟨j1, j2, fun h hh k1 k2 => ?_⟩
    rcases j3 h (upN_mem hh.1 (by have := hh.2; omega)) with (q | q) | q
    · rw [k1] at q; cases q
    · rw [k2] at q; cases q
    · exact q
  · rintro ⟨j1, j2, j3⟩
    refine ⟨⟨j1, j2⟩, fun h hh => ?_⟩
    obtain ⟨h0, h1⟩ := upN_in hh
    cases k1 : s.le a h
    · exact .inl (.inl rfl)
    · cases k2 : s.le b h
      · exact .inl (.inr rfl)
      · exact .inr (j3 h ⟨h0, by omega⟩ k1 k2)
def isJoinB (s : Sys) (a b v : Int) : Bool := decide (0 ≤ v ∧ v < s.n) && joinAtB s a b v && (upN s.n.toNat).all fun i => !decide (i < v) || !joinAtB s a b i
theorem join_is {s : Sys} {a b v : Int} (h : isJoinB s a b v = true) : s.join a b = v := by
  unfold isJoinB at h
  simp only [Bool.and_eq_true, decide_eq_true_eq, List.all_eq_true, Bool.or_eq_true, Bool.not_eq_true', decide_eq_false_iff_not] at h
  obtain ⟨⟨⟨h0, h1⟩, h2⟩, h3⟩ := h
  refine (firstI_eq (.inl ⟨h0, h1, joinAtB_iff.1 h2, fun i i0 i1 hj => ?_⟩)).symm
  rcases h3 i (upN_mem i0 (by omega)) with q | q
  · exact q i1
  · rw [joinAtB_iff.2 hj] at q; cases q
def isMapB (A B : Sys) (f : List Int) : Bool :=
  decide ((f.length : Int) = A.n) && f.all (fun g => decide (0 ≤ g ∧ g < B.n)) && fI f 0 == 0 && fI f 1 == 1 &&
  (upN A.n.toNat).all fun x => (upN A.n.toNat).all fun y => fI f (A.add x y) == B.add (fI f x) (fI f y) && fI f (A.mul x y) == B.mul (fI f x) (fI f y) && (!A.le x y || B.le (fI f x) (fI f y))
theorem isMap_of {A B : Sys} {f : List Int} (hA : IsSys A) (hB : IsSys B) (h : isMapB A B f = true) : IsMapP A B f := by
  unfold isMapB at h
  simp only [Bool.and_eq_true, decide_eq_true_eq, List.all_eq_true, beq_iff_eq] at h
  obtain ⟨⟨⟨⟨h1, h2⟩, h3⟩, h4⟩, h5⟩ := h
  refine ⟨hA, hB, h1, h2, h3, h4, fun x hx y hy => ?_⟩
  obtain ⟨⟨q1, q2⟩, q3⟩ := h5 x (upN_mem hx.1 (by have := hx.2; omega)) y (upN_mem hy.1 (by have := hy.2; omega))
  refine ⟨q1, q2, fun hl => ?_⟩
  simp only [Bool.or_eq_true, Bool.not_eq_true'] at q3
  rcases q3 with q | q
  · rw [hl] at q; cases q
  · exact q
/-- The first parts, and the second parts, of all numbers of pairs. -/
def firsts (n : Int) (N : Nat) : List Int := (upN N).map (firstN n)
def seconds (n : Int) (N : Nat) : List Int := (upN N).map (secondN n)
/-- All that is asked of a product, reckoned. -/
def prodChk (A B : Sys) : Bool :=
  let P := prodS A B
  let N := P.n.toNat
  isMapB P A (firsts B.n N) && isMapB P B (seconds B.n N) &&
  (upN N).all fun g => decide (0 ≤ firstN B.n g ∧ firstN B.n g < A.n) && decide (0 ≤ secondN B.n g ∧ secondN B.n g < B.n) && pairN B.n (firstN B.n g) (secondN B.n g) == g &&
    (upN N).all fun h => (upN N).any fun v => isJoinB P g h v && isJoinB A (firstN B.n g) (firstN B.n h) (firstN B.n v) && isJoinB B (secondN B.n g) (secondN B.n h) (secondN B.n v)
structure ProdOk (A B : Sys) : Prop where
  sys : IsSys (prodS A B)
  has : HasProduct A B
  ma : IsMapP (prodS A B) A (firsts B.n (prodS A B).n.toNat)
  mb : IsMapP (prodS A B) B (seconds B.n (prodS A B).n.toNat)
  one : ∀ g, G (prodS A B) g → G A (firstN B.n g) ∧ G B (secondN B.n g) ∧ pairN B.n (firstN B.n g) (secondN B.n g) = g
  join : ∀ g h, G (prodS A B) g → G (prodS A B) h → G (prodS A B) ((prodS A B).join g h) ∧ firstN B.n ((prodS A B).join g h) = A.join (firstN B.n g) (firstN B.n h) ∧ secondN B.n ((prodS A B).join g h) = B.join (secondN B.n g) (secondN B.n h)
theorem prodOk_of {A B : Sys} (hA : IsSys A) (hB : IsSys B) (hn : A.n * B.n ≤ 16) (hs : isSysB (prodS A B) = true) (h : prodChk A B = true) : ProdOk A B := by
  have hP := isSys_of hs
  unfold prodChk at h
  simp only [Bool.and_eq_true, decide_eq_true_eq, List.all_eq_true, beq_iff_eq, List.any_eq_true] at h
  obtain ⟨⟨h1, h2⟩, h3⟩ := h
  have hm : ∀ a, G (prodS A B) a → a ∈ upN (prodS A B).n.toNat := fun a ha => upN_mem ha.1 (by have := ha.2; omega)
  refine ⟨hP, ⟨hA, hB, hn⟩, isMap_of hP hA h1, isMap_of hP hB h2, fun g hg => ?_, fun g h hg hh => ?_⟩
  · obtain ⟨⟨⟨q1, q2⟩, q3⟩, _⟩ := h3 g (hm g hg)
    exact ⟨q1, q2, q3⟩
  · obtain ⟨v, hv, ⟨j1, j2⟩, j3⟩ := (h3 g (hm g hg)).2 h (hm h hh)
    obtain ⟨v0, v1⟩ := upN_in hv
    have e := join_is j1
    have hlo := hP.tab.lo
    rw [e, join_is j2, join_is j3]
    exact ⟨⟨v0, by omega⟩, rfl, rfl⟩
theorem prod3_ok (m : Nat) (h1 : 1 ≤ m) (h3 : m ≤ 3) : ProdOk (numS countF 1) (levS m) := by
  have : m = 1 ∨ m = 2 ∨ m = 3 := by omega
  rcases this with rfl | rfl | rfl
  · exact prodOk_of count1_sys lev1_sys (by decide) (by decide +kernel) (by decide +kernel)
  · exact prodOk_of count1_sys lev2_sys (by decide) (by decide +kernel) (by decide +kernel)
  · exact prodOk_of count1_sys lev3_sys (by decide) (by decide +kernel) (by decide +kernel)
theorem firsts_at {n : Int} {N i : Nat} (h : i < N) : (firsts n N)[i]? = some (firstN n i) := by simp [firsts, upN, h]
theorem seconds_at {n : Int} {N i : Nat} (h : i < N) : (seconds n N)[i]? = some (secondN n i) := by simp [seconds, upN, h]
theorem firsts_len (n : Int) (N : Nat) : (firsts n N).length = N := by simp [firsts, upN]
theorem seconds_len (n : Int) (N : Nat) : (seconds n N).length = N := by simp [seconds, upN]
theorem firsts_succ (n : Int) (N : Nat) : firsts n (N + 1) = firsts n N ++ [firstN n N] := by simp [firsts, upN, List.range_succ]
theorem seconds_succ (n : Int) (N : Nat) : seconds n (N + 1) = seconds n N ++ [secondN n N] := by simp [seconds, upN, List.range_succ]

end Go.Proofs.Ytkokmpdmmfghhaa
