/- How often a variable occurs in a term, plainly. Nothing of a program stands here. -/
import Derived.Test.YtncfbljablbglaaDoorZ3GA
set_option linter.unusedVariables false
set_option linter.unusedSimpArgs false
namespace Go.Proofs.YtncfbljablbglaaDoor
open Go.RowKit
namespace Tm
mutual
/-- How often the variable i of the root occurs. -/
def uses : Tm → Int → Nat | .mk op n _ ks, i => if op = 0 then (if n = i then 1 else 0) else usesL op i 0 ks
def usesL (op i : Int) (j : Nat) : List Tm → Nat | [] => 0 | t :: l => t.uses (i + addsO op j) + usesL op i (j + 1) l
end
theorem uses_var {t : Tm} (h : t.op = 0) (i : Int) : t.uses i = if t.n = i then 1 else 0 := by
  cases t with
  | mk o m l ks =>
    simp only [op] at h
    unfold uses
    rw [if_pos h]
    rfl
theorem uses_node {t : Tm} (h : t.op ≠ 0) (i : Int) : t.uses i = usesL t.op i 0 t.kids := by
  cases t with
  | mk o m l ks => simp only [op] at h; simp [uses, h, op, kids]
theorem usesL_take_succ (op i : Int) : ∀ {l : List Tm} {j k : Nat} {u : Tm}, l[k]? = some u → usesL op i j (l.take (k + 1)) = usesL op i j (l.take k) + u.uses (i + addsO op (j + k))
  | [], j, k, u, h => by simp at h
  | a :: l, j, 0, u, h => by simp at h; subst h; simp [usesL]
  | a :: l, j, k + 1, u, h => by
    simp at h
    have := usesL_take_succ op i (l := l) (j := j + 1) h
    simp only [List.take_succ_cons, usesL, this]
    rw [show j + 1 + k = j + (k + 1) by omega]
    omega
theorem usesL_le (op i : Int) : ∀ (l : List Tm) (j : Nat), (∀ u ∈ l, ∀ q, u.uses q ≤ u.sz) → usesL op i j l ≤ szL l
  | [], j, h => by simp [usesL]
  | a :: l, j, h => by
    have h1 := h a (by simp) (i + addsO op j)
    have h2 := usesL_le op i l (j + 1) (fun u hu => h u (by simp [hu]))
    simp [usesL, szL]
    omega
theorem uses_le (t : Tm) : ∀ i, t.uses i ≤ t.sz := by
  induction t using ind with
  | h t ih =>
    intro i
    by_cases h : t.op = 0
    · rw [uses_var h]
      have := t.sz_pos
      split <;> omega
    · rw [uses_node h, sz_eq]
      have := usesL_le t.op i t.kids 0 (fun u hu q => ih u hu q)
      omega
end Tm
end Go.Proofs.YtncfbljablbglaaDoor
