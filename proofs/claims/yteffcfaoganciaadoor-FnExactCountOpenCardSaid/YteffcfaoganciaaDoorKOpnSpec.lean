
/- How many open places a term has, plainly. Nothing of a program stands here. -/
import Derived.Test.YteffcfaoganciaaDoorGA
set_option linter.unusedVariables false
set_option linter.unusedSimpArgs false
namespace Go.Proofs.YteffcfaoganciaaDoor
open Go.RowKit
/-- How many codes are open. -/
def opnTy (l : List Int) : Nat := (l.filter fun c => decide (35 ≤ c)).length
theorem opnTy_le (l : List Int) : opnTy l ≤ l.length := List.length_filter_le _ _
theorem opnTy_take_succ {l : List Int} {k : Nat} {c : Int} (h : l[k]? = some c) : opnTy (l.take (k + 1)) = opnTy (l.take k) + (if 35 ≤ c then 1 else 0) := by
  obtain ⟨hk, rfl⟩ := List.getElem?_eq_some_iff.1 h
  unfold opnTy
  rw [List.take_succ_eq_append_getElem hk, List.filter_append, List.length_append]
  by_cases e : 35 ≤ l[k]
  · simp [List.filter_cons, e]
  · simp [List.filter_cons, e]
namespace Tm
mutual
def opn : Tm → Nat | .mk _ n ty ks => (if n = -1 then 1 else 0) + opnTy ty + opnL ks
def opnL : List Tm → Nat | [] => 0 | t :: l => t.opn + opnL l
end
theorem opn_eq (t : Tm) : t.opn = (if t.n = -1 then 1 else 0) + opnTy t.ty + opnL t.kids := by cases t; rfl
theorem opnL_take_succ {l : List Tm} {i : Nat} {k : Tm} (h : l[i]? = some k) : opnL (l.take (i + 1)) = opnL (l.take i) + k.opn := by
  induction l generalizing i with
  | nil => simp at h
  | cons a l ih =>
    cases i with
    | zero => simp at h; subst h; simp [opnL]
    | succ i => simp at h; simp [opnL, ih h]; omega
theorem opnL_le (l : List Tm) (h : ∀ k ∈ l, k.opn ≤ 41 * k.sz) : opnL l ≤ 41 * szL l := by
  induction l with
  | nil => simp [opnL]
  | cons a l ih =>
    have h1 := h a (by simp)
    have h2 := ih (fun k hk => h k (by simp [hk]))
    simp [opnL, szL]
    omega
end Tm
theorem TyOk.len {size : Int} {closed : Bool} {op : Int} {ty : List Int} (h : TyOk size closed op ty) : ty.length ≤ 40 := by
  unfold TyOk at h
  split at h
  · exact h.1.1
  · subst h; simp
theorem TyOk.c36 {size : Int} {closed : Bool} {op : Int} {ty : List Int} (h : TyOk size closed op ty) : ∀ u ∈ ty, 0 ≤ u ∧ u ≤ 36 := by
  unfold TyOk at h
  split at h
  · exact h.1.codes
  · subst h; intro u hu; cases hu
theorem OkT.opn_le {size : Int} {closed : Bool} (t : Tm) : ∀ {vars : Int}, OkT size closed vars t → t.opn ≤ 41 * t.sz := by
  induction t using Tm.ind with
  | h t ih =>
    intro vars ok
    have h1 := Tm.opnL_le t.kids (fun k hk => by obtain ⟨i, hi, e⟩ := List.getElem_of_mem hk; exact ih k hk (ok.kid (i := i) (by rw [List.getElem?_eq_getElem hi, e])))
    have h2 := opnTy_le t.ty
    have h3 := ok.node.tok.len
    rw [Tm.opn_eq, Tm.sz_eq]
    split <;> omega
/-- What CountOpen answers. -/
def OpnV (t : Tm) (v : Int) : Prop := (Written t ∧ v = (t.opn : Int)) ∨ (¬ Written t ∧ v = -1)
theorem opnV_ex (t : Tm) : ∃ v, OpnV t v := by
  by_cases h : Written t
  · exact ⟨_, .inl ⟨h, rfl⟩⟩
  · exact ⟨_, .inr ⟨h, rfl⟩⟩
end Go.Proofs.YteffcfaoganciaaDoor
