
/- Which terms are terms, plainly. Nothing of a program stands here. -/
import Derived.Test.YtmifnhblhggflaaDoorTermSpec
import Derived.Test.YtmifnhblhggflaaDoorSpec
namespace Go.Proofs.YtmifnhblhggflaaDoor
open Go.RowKit

/-- How many kids a term of an op has; -1: there is no such op. -/
def manyO (op : Int) : Int := if 0 ≤ op ∧ op ≤ 12 then [0, 0, 2, 3, 2, 2, 1, 1, 3, 1, 2, 1, 2].getD op.toNat 0 else -1
def HasG (op : Int) : Prop := op = 5 ∨ op = 8 ∨ op = 9 ∨ op = 11 ∨ op = 12
def TypedO (op : Int) : Prop := op = 6 ∨ op = 7 ∨ op = 9
instance (c : Int) : Decidable (HasG c) := by unfold HasG; infer_instance
instance (c : Int) : Decidable (TypedO c) := by unfold TypedO; infer_instance
/-- How many variables a term of an op adds for a kid. -/
def addsO (op : Int) (k : Nat) : Int := if op = 5 ∧ k = 1 then 2 else if (op = 8 ∧ 0 < k) ∨ op = 9 ∨ (op = 12 ∧ k = 1) then 1 else 0
theorem addsO_ge (op : Int) (k : Nat) : 0 ≤ addsO op k := by unfold addsO; split; omega; split <;> omega
theorem addsO_le (op : Int) (k : Nat) : addsO op k ≤ 2 := by unfold addsO; split; omega; split <;> omega
theorem ops13 {op : Int} (h : 0 ≤ op ∧ op ≤ 12) : op = 0 ∨ op = 1 ∨ op = 2 ∨ op = 3 ∨ op = 4 ∨ op = 5 ∨ op = 6 ∨ op = 7 ∨ op = 8 ∨ op = 9 ∨ op = 10 ∨ op = 11 ∨ op = 12 := by omega
theorem manyO_le (op : Int) : manyO op ≤ 3 := by
  unfold manyO
  split
  · rename_i h
    rcases ops13 h with rfl | rfl | rfl | rfl | rfl | rfl | rfl | rfl | rfl | rfl | rfl | rfl | rfl <;> decide
  · omega
theorem manyO_in {op : Int} (h : 0 ≤ manyO op) : 0 ≤ op ∧ op ≤ 12 := by
  unfold manyO at h
  split at h
  · assumption
  · omega
/-- Whether N is as the op asks, with so many variables and grades. -/
def NOk (size : Int) (closed : Bool) (vars : Int) (op N : Int) : Prop :=
  if op = 0 then 0 ≤ N ∧ N < vars else if op = 1 then 0 ≤ N ∧ N < 3 else if HasG op then N < size ∧ -1 ≤ N ∧ (closed = true → 0 ≤ N) else N = 0
def TyOk (size : Int) (closed : Bool) (op : Int) (ty : List Int) : Prop := if TypedO op then WT ty ∧ Grs size closed ty else ty = []
structure NodeOk (size : Int) (closed : Bool) (vars : Int) (t : Tm) : Prop where
  many : (t.kids.length : Int) = manyO t.op
  nok : NOk size closed vars t.op t.n
  tok : TyOk size closed t.op t.ty
/-- A term with so many variables, and grades. -/
inductive OkT (size : Int) (closed : Bool) : Int → Tm → Prop
  | mk (vars : Int) (t : Tm) (node : NodeOk size closed vars t) (kid : ∀ (i : Nat) k, t.kids[i]? = some k → OkT size closed (vars + addsO t.op i) k) : OkT size closed vars t
theorem OkT.node {size : Int} {closed : Bool} {vars : Int} {t : Tm} (h : OkT size closed vars t) : NodeOk size closed vars t := by
  cases h with
  | mk _ _ node kid => exact node
theorem OkT.kid {size : Int} {closed : Bool} {vars : Int} {t : Tm} (h : OkT size closed vars t) {i : Nat} {k : Tm} (hk : t.kids[i]? = some k) : OkT size closed (vars + addsO t.op i) k := by
  cases h with
  | mk _ _ node kid => exact kid i k hk
/-- A written term. -/
def Written (t : Tm) : Prop := t.sz ≤ 400 ∧ OkT 16 false 8 t
def IsTermP (s : Sys) (t : Tm) (n : Int) : Prop := IsSys s ∧ (0 ≤ n ∧ n ≤ 8) ∧ t.sz ≤ 400 ∧ OkT s.n true n t
end Go.Proofs.YtmifnhblhggflaaDoor
