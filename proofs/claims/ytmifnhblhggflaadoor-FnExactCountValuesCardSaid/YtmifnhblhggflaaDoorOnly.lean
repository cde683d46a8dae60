
/- Blocks of slices; worlds that differ in some blocks alone. Nothing is walked here. -/
import Derived.Test.YtmifnhblhggflaaDoorWorld
import Derived.Maps.AppendAt
import Derived.Laws.OwnMore
namespace Go.Proofs.YtmifnhblhggflaaDoor
open Go.RowKit

/-- The block of a slice. -/
def ob : Option Addr → Option Nat | none => none | some a => some a.block
theorem ob_eq (a : Option Addr) (n c : Nat) : (Value.slice a n c).ownBlock = ob a := by cases a <;> rfl
theorem owns_of_block {w w' : World} {base : Nat} {e : TypeId} {size : Nat} {v : Value} {n : Nat} {xs : List Value} (h : w.ownsRow base e size v n xs) (hk : ∀ g, v.ownBlock = some g → w'.heap[g]? = w.heap[g]?) : w'.ownsRow base e size v n xs := by
  obtain ⟨h1, h2⟩ := h
  refine ⟨h1, ?_⟩
  rcases h2 with h2 | ⟨g, cap, cur, hv, hb, hg, r⟩
  · exact .inl h2
  · subst hv
    exact .inr ⟨g, cap, cur, rfl, hb, (hk g rfl).trans hg, r⟩
theorem owns_len {w : World} {base : Nat} {e : TypeId} {size : Nat} {a : Option Addr} {n c : Nat} {xs : List Value} (h : w.ownsRow base e size (.slice a n c) n xs) : n ≤ 9223372036854775807 := by
  rcases h.2 with ⟨_, rfl⟩ | ⟨g, cap, cur, _, _, _, h1, h2, _⟩
  · omega
  · unfold maxLen at h2; omega
theorem owns_at {w : World} {base : Nat} {e : TypeId} {size : Nat} {a : Option Addr} {n c : Nat} {xs : List Value} (h : w.ownsRow base e size (.slice a n c) n xs) (hn : 0 < n) : ∃ g, a = some ⟨g, 0, none⟩ ∧ ob a = some g := by
  rcases h.2 with ⟨_, rfl⟩ | ⟨g, cap, cur, e, _⟩
  · omega
  · cases e; exact ⟨g, rfl, rfl⟩

/-- All blocks but those in B are as they were. -/
structure Only (w w' : World) (B : Nat → Prop) : Prop where
  os : w'.os = w.os
  tape : w'.tape = w.tape
  output : w'.output = w.output
  size : w.heap.size ≤ w'.heap.size
  block : ∀ g, g < w.heap.size → ¬ B g → w'.heap[g]? = w.heap[g]?
theorem Only.refl (w : World) (B : Nat → Prop) : Only w w B := ⟨rfl, rfl, rfl, Nat.le_refl _, fun _ _ _ => rfl⟩
theorem Only.trans {w w' w'' : World} {B : Nat → Prop} (h : Only w w' B) (k : Only w' w'' B) : Only w w'' B :=
  ⟨k.os.trans h.os, k.tape.trans h.tape, k.output.trans h.output, Nat.le_trans h.size k.size, fun g hg hn => (k.block g (Nat.lt_of_lt_of_le hg h.size) hn).trans (h.block g hg hn)⟩
theorem Only.mono {w w' : World} {B B' : Nat → Prop} (h : Only w w' B) (hb : ∀ g, g < w.heap.size → B g → B' g) : Only w w' B' :=
  ⟨h.os, h.tape, h.output, h.size, fun g hg hn => h.block g hg (fun q => hn (hb g hg q))⟩
theorem Only.grown {w w' : World} {o : Option Nat} {B : Nat → Prop} (h : w.grownBy w' o) (hb : ∀ g, o = some g → B g) : Only w w' B :=
  ⟨h.os, h.tape, h.output, h.size, fun g hg hn => h.block g hg (fun e => hn (hb g e.symm))⟩
theorem Only.alloc (w : World) (o : Obj) (B : Nat → Prop) : Only w (w.alloc o) B := ⟨rfl, rfl, rfl, by simp, fun g hg _ => by show (w.heap.push o)[g]? = _; rw [Array.getElem?_push_lt hg, Array.getElem?_eq_getElem hg]⟩
theorem Only.of {w w' : World} (h : Below w.heap.size w w') (B : Nat → Prop) : Only w w' B := ⟨h.os, h.tape, h.output, h.size, fun g hg _ => h.block g hg⟩
theorem Only.below {w w' : World} {B : Nat → Prop} {n : Nat} (h : Only w w' B) (hb : ∀ g, B g → n ≤ g) (hn : n ≤ w.heap.size) : Below n w w' :=
  ⟨h.os, h.tape, h.output, h.size, fun g hg => h.block g (by omega) (fun q => by have := hb g q; omega)⟩

end Go.Proofs.YtmifnhblhggflaaDoor
