
/- The paths to all redexes, plainly. Nothing of a program stands here. -/
import Derived.Test.YtoefeijnnnioeaaDoorGA
import Derived.Test.YtoefeijnnnioeaaDoorKGrowL
set_option linter.unusedVariables false
set_option linter.unusedSimpArgs false
namespace Go.Proofs.YtoefeijnnnioeaaDoor
open Go.RowKit

namespace Tm
open Classical in
mutual
/-- The paths to all redexes of a term that stands at a path. -/
noncomputable def reds : Tm → List Int → List (List Int) | .mk op n l ks, p => (if Red (.mk op n l ks) then [p] else []) ++ redsL p 0 ks
noncomputable def redsL (p : List Int) (j : Nat) : List Tm → List (List Int) | [] => [] | t :: l => t.reds (p ++ [(j : Int)]) ++ redsL p (j + 1) l
end
open Classical in
theorem reds_eq (t : Tm) (p : List Int) : t.reds p = (if Red t then [p] else []) ++ redsL p 0 t.kids := by
  cases t
  rw [reds]
  rfl
theorem reds_yes {t : Tm} (h : Red t) (p : List Int) : t.reds p = [p] ++ redsL p 0 t.kids := by rw [reds_eq, if_pos h]
theorem reds_no {t : Tm} (h : ¬ Red t) (p : List Int) : t.reds p = [] ++ redsL p 0 t.kids := by rw [reds_eq, if_neg h]
theorem redsL_take_succ (p : List Int) : ∀ {l : List Tm} {j k : Nat} {u : Tm}, l[k]? = some u → redsL p j (l.take (k + 1)) = redsL p j (l.take k) ++ u.reds (p ++ [((j + k : Nat) : Int)])
  | [], _, _, _, h => by simp at h
  | t :: l, j, 0, u, h => by simp at h; subst h; simp [redsL]
  | t :: l, j, k + 1, u, h => by
    simp only [List.take_succ_cons, redsL]
    rw [redsL_take_succ p (j := j + 1) (k := k) h, List.append_assoc, show j + 1 + k = j + (k + 1) by omega]
theorem redsL_len (p : List Int) : ∀ (l : List Tm) (j : Nat), (∀ t ∈ l, ∀ q, (t.reds q).length ≤ t.sz) → (redsL p j l).length ≤ szL l
  | [], _, _ => by simp [redsL]
  | t :: l, j, h => by
    simp only [redsL, List.length_append, szL]
    have h1 := h t (by simp) (p ++ [(j : Int)])
    have h2 := redsL_len p l (j + 1) fun u hu => h u (by simp [hu])
    omega
theorem reds_len (t : Tm) : ∀ p, (t.reds p).length ≤ t.sz := by
  induction t using Tm.ind with
  | h t ih =>
    intro p
    have h1 := redsL_len p t.kids 0 ih
    have h2 := t.sz_eq
    by_cases h : Red t
    · rw [reds_yes h]; simp; omega
    · rw [reds_no h]; simp; omega
theorem redsL_path (p : List Int) {n : Nat} : ∀ (l : List Tm) (j : Nat), (∀ t ∈ l, ∀ q, ∀ u ∈ t.reds q, u.length ≤ q.length + t.sz) → (∀ t ∈ l, t.sz ≤ n) → ∀ u ∈ redsL p j l, u.length ≤ p.length + 1 + n
  | [], _, _, _, u, hu => by simp [redsL] at hu
  | t :: l, j, h, hn, u, hu => by
    simp only [redsL, List.mem_append] at hu
    rcases hu with hu | hu
    · have h1 := h t (by simp) _ u hu
      have h2 := hn t (by simp)
      simp at h1
      omega
    · exact redsL_path p l (j + 1) (fun v hv => h v (by simp [hv])) (fun v hv => hn v (by simp [hv])) u hu
theorem reds_path (t : Tm) : ∀ p, ∀ u ∈ t.reds p, u.length ≤ p.length + t.sz := by
  induction t using Tm.ind with
  | h t ih =>
    intro p u hu
    have h2 := t.sz_eq
    rw [reds_eq, List.mem_append] at hu
    rcases hu with hu | hu
    · split at hu
      · simp at hu
        subst hu
        omega
      · simp at hu
    · have := redsL_path p (n := szL t.kids) t.kids 0 ih (fun v hv => szL_mem hv) u hu
      omega
end Tm
theorem cntLs_le {n : Nat} : ∀ {ls : List (List Int)}, (∀ l ∈ ls, l.length ≤ n) → cntLs ls ≤ ls.length * n
  | [], _ => by simp [cntLs]
  | l :: ls, h => by
    have h1 := h l (by simp)
    have h2 := cntLs_le (ls := ls) fun u hu => h u (by simp [hu])
    simp only [cntLs, List.length_cons, Nat.add_mul]
    omega
/-- What RedexesOf answers. -/
def RedsV (t : Tm) (o : List (List Int)) : Prop := (Written t ∧ o = t.reds []) ∨ (¬ Written t ∧ o = [])
theorem redsV_ex (t : Tm) : ∃ o, RedsV t o := by
  by_cases h : Written t
  · exact ⟨_, .inl ⟨h, rfl⟩⟩
  · exact ⟨_, .inr ⟨h, rfl⟩⟩
theorem RedsV.small {t : Tm} {o : List (List Int)} (h : RedsV t o) : o.length ≤ 400 ∧ cntLs o ≤ 160000 := by
  rcases h with ⟨h, rfl⟩ | ⟨_, rfl⟩
  · have h1 := t.reds_len []
    have h2 := h.1
    have h3 := cntLs_le (n := 400) fun u hu => by have := t.reds_path [] u hu; simp at this; omega
    have : (t.reds []).length * 400 ≤ 400 * 400 := Nat.mul_le_mul_right _ (by omega)
    omega
  · simp [cntLs]
end Go.Proofs.YtoefeijnnnioeaaDoor
