/- The model's systems of numbers: tables that grow by append. -/
import Derived.Test.YtkokmpdmmfghhaaZ2HA
import Derived.Test.YtkokmpdmmfghhaaZ2KBuildS
set_option linter.unusedVariables false
set_option linter.unusedSimpArgs false
namespace Go.Proofs.Ytkokmpdmmfghhaa
open Go.RowKit

abbrev accV (N : Int) (v1 v2 v3 : Value) : Obj := .cells #[.int .i64 N, v1, v2, v3] 27 (0, 0)
/-- A system whose tables grow. -/
structure AccS (Y w : World) (R C : Nat) (N : Int) (v1 v2 v3 : Value) (p1 p2 : List Int) (p3 : List Bool) : Prop where
  blk : w.heap[C]? = some (accV N v1 v2 v3)
  o1 : w.ownsRow Y.heap.size 3 1 v1 p1.length (p1.map (Value.int .i64))
  o2 : w.ownsRow Y.heap.size 3 1 v2 p2.length (p2.map (Value.int .i64))
  o3 : w.ownsRow Y.heap.size 4 1 v3 p3.length (p3.map Value.bool)
  d12 : Apart v1 v2
  lo : Y.heap.size ≤ C
  bel : Below Y.heap.size Y w
  res : w.heap[R]? = some (accV 0 (.slice none 0 0) (.slice none 0 0) (.slice none 0 0))
  hRC : R ≠ C

theorem cell_one_at (w : World) (x : Value) (t : TypeId) (n : Nat) (hn : n = w.heap.size) : ∀ j u, [x][j]? = some u → (w.alloc (.cells #[x] t)).cell? ((⟨n, 0, none⟩ : Addr).add j) = some u := by
  subst hn
  exact cell_one_new w x t
theorem own_slice {w : World} {base : Nat} {e : TypeId} {size n : Nat} {v : Value} {xs : List Value} (h : w.ownsRow base e size v n xs) : ∃ a c, v = .slice a n c := by
  rcases h.2 with ⟨rfl, rfl⟩ | ⟨g, cap, cur, rfl, _⟩
  · exact ⟨_, _, rfl⟩
  · exact ⟨_, _, rfl⟩
theorem own_ne {w : World} {base : Nat} {e t : TypeId} {size n : Nat} {v : Value} {xs : List Value} {cs : Array Value} {g : Nat} (h : w.ownsRow base e size v n xs) (hg : w.heap[g]? = some (.cells cs t (0, 0))) (hne : e ≠ t) : v.ownBlock ≠ some g := by
  rcases h.2 with ⟨rfl, _⟩ | ⟨g', cap, cur, rfl, _, hh, _⟩
  · simp [Value.ownBlock]
  · intro he
    have : g' = g := by simpa [Value.ownBlock] using he
    subst this
    rw [hh] at hg
    injection hg with hg
    injection hg with _ ht
    exact hne ht

/-- One step's worlds: a new block, a row that grows, a cell of the struct. -/
structure Step (w w1 w2 : World) (o : Obj) (v : Value) (v' : Value) (C i : Nat) : Prop where
  grow : (w.alloc o).grownBy w1 v.ownBlock
  hat : v'.ownBlock = v.ownBlock ∨ v'.ownBlock = some (w.alloc o).heap.size
  set : w1.setCell ⟨C, i, none⟩ v' = w2

section
variable {Y w w1 w2 : World} {R C : Nat} {N : Int} {v1 v2 v3 v' : Value} {p1 p2 : List Int} {p3 : List Bool} {o : Obj}
theorem Step.keep {v : Value} {i : Nat} (s : Step w w1 w2 o v v' C i) {base : Nat} {e : TypeId} {size n : Nat} {u : Value} {xs : List Value} (h : w.ownsRow base e size u n xs) (hv : Apart u v) (hC : u.ownBlock ≠ some C) : w2.ownsRow base e size u n xs := by
  have h1 := (h.alloc o).kept s.grow hv
  exact owns_of_block h1 fun g hg => set_other s.set (fun e => hC (by rw [← e]; exact hg))
theorem Step.bel {v : Value} {i : Nat} (s : Step w w1 w2 o v v' C i) {base : Nat} {W : World} (h : Below base W w) (hs : base ≤ w.heap.size) (hv : ∀ k, v.ownBlock = some k → base ≤ k) (hC : base ≤ C) : Below base W w2 := by
  have := s.set
  subst this
  exact ((h.alloc hs o).grown s.grow (by simp; omega) hv).setCell hC _
theorem Step.blk {v : Value} {i : Nat} (s : Step w w1 w2 o v v' C i) {base : Nat} {e : TypeId} {size n : Nat} {xs : List Value} (h : w.ownsRow base e size v n xs) {R : Nat} {cs : Array Value} {t : TypeId} (hR : w.heap[R]? = some (.cells cs t (0, 0))) (hne : e ≠ t) (hRC : R ≠ C) : w2.heap[R]? = some (.cells cs t (0, 0)) := by
  have hl : R < w.heap.size := (Array.getElem?_eq_some_iff.1 hR).1
  rw [set_other s.set hRC, s.grow.block R (by simp; omega) (fun e => own_ne h hR hne e.symm)]
  show (w.heap.push o)[R]? = _
  rw [Array.getElem?_push_lt hl, ← hR, Array.getElem?_eq_getElem hl]
theorem AccS.cells (h : AccS Y w R C N v1 v2 v3 p1 p2 p3) : w.cell? ⟨C, 0, none⟩ = some (.int .i64 N) ∧ w.cell? ⟨C, 1, none⟩ = some v1 ∧ w.cell? ⟨C, 2, none⟩ = some v2 ∧ w.cell? ⟨C, 3, none⟩ = some v3 :=
  ⟨blk_cell h.blk 0, blk_cell h.blk 1, blk_cell h.blk 2, blk_cell h.blk 3⟩
theorem AccS.cLt (h : AccS Y w R C N v1 v2 v3 p1 p2 p3) : C < w.heap.size := (Array.getElem?_eq_some_iff.1 h.blk).1
end

end Go.Proofs.Ytkokmpdmmfghhaa
