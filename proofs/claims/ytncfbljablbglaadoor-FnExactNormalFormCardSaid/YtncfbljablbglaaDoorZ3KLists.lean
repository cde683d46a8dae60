/- Lists of lists of numbers: where they lie, in blocks of their own or not; the laws' comparison and marks of them. -/
import Derived.Test.YtncfbljablbglaaDoorZ3GE
set_option linter.unusedVariables false
set_option linter.unusedSimpArgs false
namespace Go.Proofs.YtncfbljablbglaaDoor
open Go.RowKit

/-- The values of the inner slices. -/
def hds (ls : List (List Int)) (hd : Nat → Option Addr × Nat) : List Value := (List.range ls.length).map fun i => Value.slice (hd i).1 (ls.getD i []).length (hd i).2
theorem hds_len (ls : List (List Int)) (hd : Nat → Option Addr × Nat) : (hds ls hd).length = ls.length := by simp [hds]
theorem hds_at {ls : List (List Int)} {i : Nat} {l : List Int} (h : ls[i]? = some l) (hd : Nat → Option Addr × Nat) : (hds ls hd)[i]? = some (.slice (hd i).1 l.length (hd i).2) := by
  obtain ⟨hi, rfl⟩ := List.getElem?_eq_some_iff.1 h
  simp [hds, hi]
/-- Lists in rows. -/
structure LsIn (w : World) (a : Option Addr) (ls : List (List Int)) (hd : Nat → Option Addr × Nat) : Prop where
  row : Row w id a (hds ls hd)
  sub : ∀ (i : Nat) (l : List Int), ls[i]? = some l → Row w (Value.int .i64) (hd i).1 l
  len : ∀ (i : Nat) (l : List Int), ls[i]? = some l → l.length ≤ 1099511627776
  all : ls.length ≤ 1099511627776
theorem LsIn.ext {W : World} {a : Option Addr} {ls : List (List Int)} {hd : Nat → Option Addr × Nat} (h : LsIn W a ls hd) (x : Ext W) : LsIn x.w a ls hd :=
  ⟨h.row.ext x, fun i l hi => (h.sub i l hi).ext x, h.len, h.all⟩

/-- Lists in blocks of their own, no two in one; B: these blocks. -/
structure LsOwn (w : World) (a : Option Addr) (c : Nat) (ls : List (List Int)) (hd : Nat → Option Addr × Nat) (B : Nat → Prop) : Prop where
  row : w.ownsRow 0 22 1 (.slice a ls.length c) ls.length (hds ls hd)
  sub : ∀ (i : Nat) (l : List Int), ls[i]? = some l → w.ownsRow 0 3 1 (.slice (hd i).1 l.length (hd i).2) l.length (l.map (Value.int .i64))
  dj : ∀ (i j g : Nat), i < ls.length → j < ls.length → i ≠ j → ob (hd i).1 = some g → ob (hd j).1 ≠ some g
  da : ∀ (i g : Nat), i < ls.length → ob (hd i).1 = some g → ob a ≠ some g
  bl : ∀ g, B g ↔ (ob a = some g ∨ ∃ i : Nat, i < ls.length ∧ ob (hd i).1 = some g)
section
variable {w w' : World} {a : Option Addr} {c : Nat} {ls : List (List Int)} {hd : Nat → Option Addr × Nat} {B : Nat → Prop}
theorem LsOwn.keep (h : LsOwn w a c ls hd B) (hk : ∀ g, B g → w'.heap[g]? = w.heap[g]?) : LsOwn w' a c ls hd B :=
  ⟨owns_of_block h.row fun g hg => hk g ((h.bl g).2 (.inl (by rw [← ob_eq]; exact hg))),
    fun i l hi => owns_of_block (h.sub i l hi) fun g hg => hk g ((h.bl g).2 (.inr ⟨i, (List.getElem?_eq_some_iff.1 hi).1, by rw [← ob_eq]; exact hg⟩)), h.dj, h.da, h.bl⟩
theorem LsOwn.lt (h : LsOwn w a c ls hd B) : ∀ g, B g → g < w.heap.size := fun g hg => by
  rcases (h.bl g).1 hg with e | ⟨i, hi, e⟩
  · exact (h.row.lt g (by rw [ob_eq]; exact e)).2
  · exact ((h.sub i _ (List.getElem?_eq_getElem hi)).lt g (by rw [ob_eq]; exact e)).2
theorem LsOwn.ext (h : LsOwn w a c ls hd B) (y : Ext w) : LsOwn y.w a c ls hd B := h.keep fun g hg => y.below.block g (h.lt g hg)
theorem LsOwn.only {B' : Nat → Prop} (h : LsOwn w a c ls hd B) (ho : Only w w' B') (hd' : ∀ g, B g → ¬ B' g) : LsOwn w' a c ls hd B := h.keep fun g hg => ho.block g (h.lt g hg) (hd' g hg)
end
def cntLs : List (List Int) → Nat
  | [] => 0
  | l :: ls => l.length + cntLs ls

end Go.Proofs.YtncfbljablbglaaDoor
