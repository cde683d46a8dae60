
/- The model's systems of numbers: tables that grow by append. -/
import Derived.Test.YteffcfaoganciaaGE
import Derived.Test.YteffcfaoganciaaKBuildS
set_option linter.unusedVariables false
set_option linter.unusedSimpArgs false
namespace Go.Proofs.Yteffcfaoganciaa
open Go.RowKit

abbrev accV (N : Int) (v1 v2 v3 : Value) : Obj := .cells #[.int .i64 N, v1, v2, v3] 30 (0, 0)
/-- A system whose tables grow. -/
structure AccS (Y w : World) (R C : Nat) (N : Int) (v1 v2 v3 : Value) (p1 p2 : List Int) (p3 : List Bool) : Prop where
  blk : w.heap[C]? = some (accV N v1 v2 v3)
  o1 : w.ownsRow Y.heap.size 3 1 v1 p1.length (p1.map (Value.int .i64))
  o2 : w.ownsRow Y.heap.size 3 1 v2 p2.length (p2.map (Value.int .i64))
  o3 : w.ownsRow Y.heap.size 4 1 v3 p3.length (p3.map Value.bool)
  d12 : Apart v1 v2
  lo : Y.heap.size ≤ C
  bel : Below Y.heap.size Y w
  res : w.heap[R]? = some (accV 0 (.slice none 0 0) (.slice none 0 0) (.slice none 0 0))
  hRC : R ≠ C

theorem cell_one_at (w : World) (x : Value) (t : TypeId) (n : Nat) (hn : n = w.heap.size) : ∀ j u, [x][j]? = some u → (w.alloc (.cells #[x] t)).cell? ((⟨n, 0, none⟩ : Addr).add j) = some u := by
  subst hn
  exact cell_one_new w x t
theorem own_slice {w : World} {base : Nat} {e : TypeId} {size n : Nat} {v : Value} {xs : List Value} (h : w.ownsRow base e size v n xs) : ∃ a c, v = .slice a n c := by
  rcases h.2 with ⟨rfl, rfl⟩ | ⟨g, cap, cur, rfl, _⟩
  · exact ⟨_, _, rfl⟩
  · exact ⟨_, _, rfl⟩
theorem own_ne {w : World} {base : Nat} {e t : TypeId} {size n : Nat} {v : Value} {xs : List Value} {cs : Array Value} {g : Nat} (h : w.ownsRow base e size v n xs) (hg : w.heap[g]? = some (.cells cs t (0, 0))) (hne : e ≠ t) : v.ownBlock ≠ some g := by
  rcases h.2 with ⟨rfl, _⟩ | ⟨g', cap, cur, rfl, _, hh, _⟩
  · simp [Value.ownBlock]
  · intro he
    have : g' = g := by simpa [Value.ownBlock] using he
    subst this
    rw [hh] at hg
    injection hg with hg
    injection hg with _ ht
    exact hne ht
theorem own_ne2 {w : World} {base base' : Nat} {e t : TypeId} {size n size' n' : Nat} {v u : Value} {xs ys : List Value} (h : w.ownsRow base e size v n xs) (k : w.ownsRow base' t size' u n' ys) (hne : e ≠ t) : Apart v u := by
  rcases k.2 with ⟨rfl, _⟩ | ⟨g, cap, cur, rfl, _, hh, _⟩
  · unfold Apart
    cases hv : v.ownBlock
    · exact .inl rfl
    · exact .inr (by simp [Value.ownBlock])
  · exact .inr (own_ne h hh hne)
theorem no_int_sys : (3 : TypeId) ≠ 30 := by decide
theorem no_bool_sys : (4 : TypeId) ≠ 30 := by decide
theorem no_int_bool : (3 : TypeId) ≠ 4 := by decide

/-- One step's worlds: a new block, a row that grows, a cell of the struct. -/
structure Step (w w1 w2 : World) (o : Obj) (v : Value) (v' : Value) (C i : Nat) : Prop where
  grow : (w.alloc o).grownBy w1 v.ownBlock
  hat : v'.ownBlock = v.ownBlock ∨ v'.ownBlock = some (w.alloc o).heap.size
  set : w1.setCell ⟨C, i, none⟩ v' = w2

section
variable {Y w w1 w2 : World} {R C : Nat} {N : Int} {v1 v2 v3 v' : Value} {p1 p2 : List Int} {p3 : List Bool} {o : Obj}
theorem Step.keep {v : Value} {i : Nat} (s : Step w w1 w2 o v v' C i) {base : Nat} {e : TypeId} {size n : Nat} {u : Value} {xs : List Value} (h : w.ownsRow base e size u n xs) (hv : Apart u v) (hC : u.ownBlock ≠ some C) : w2.ownsRow base e size u n xs := by
  have h1 := (h.alloc o).kept s.grow hv
  exact owns_of_block h1 fun g hg => set_other s.set (fun e => hC (by rw [← e]; exact hg))
theorem Step.bel {v : Value} {i : Nat} (s : Step w w1 w2 o v v' C i) {base : Nat} {W : World} (h : Below base W w) (hs : base ≤ w.heap.size) (hv : ∀ k, v.ownBlock = some k → base ≤ k) (hC : base ≤ C) : Below base W w2 := by
  have := s.set
  subst this
  exact ((h.alloc hs o).grown s.grow (by simp; omega) hv).setCell hC _
theorem Step.blk {v : Value} {i : Nat} (s : Step w w1 w2 o v v' C i) {base : Nat} {e : TypeId} {size n : Nat} {xs : List Value} (h : w.ownsRow base e size v n xs) {R : Nat} {cs : Array Value} {t : TypeId} (hR : w.heap[R]? = some (.cells cs t (0, 0))) (hne : e ≠ t) (hRC : R ≠ C) : w2.heap[R]? = some (.cells cs t (0, 0)) := by
  have hl : R < w.heap.size := (Array.getElem?_eq_some_iff.1 hR).1
  rw [set_other s.set hRC, s.grow.block R (by simp; omega) (fun e => own_ne h hR hne e.symm)]
  show (w.heap.push o)[R]? = _
  rw [Array.getElem?_push_lt hl, ← hR, Array.getElem?_eq_getElem hl]
theorem AccS.cells (h : AccS Y w R C N v1 v2 v3 p1 p2 p3) : w.cell? ⟨C, 0, none⟩ = some (.int .i64 N) ∧ w.cell? ⟨C, 1, none⟩ = some v1 ∧ w.cell? ⟨C, 2, none⟩ = some v2 ∧ w.cell? ⟨C, 3, none⟩ = some v3 :=
  ⟨blk_cell h.blk 0, blk_cell h.blk 1, blk_cell h.blk 2, blk_cell h.blk 3⟩
theorem AccS.cLt (h : AccS Y w R C N v1 v2 v3 p1 p2 p3) : C < w.heap.size := (Array.getElem?_eq_some_iff.1 h.blk).1
/-- Behind the append the struct is as it was. -/
theorem AccS.mid (h : AccS Y w R C N v1 v2 v3 p1 p2 p3) {v : Value} (hv : v.ownBlock ≠ some C) (hg : (w.alloc o).grownBy w1 v.ownBlock) : w1.heap[C]? = some (accV N v1 v2 v3) := by
  rw [hg.block C (by simp; have := h.cLt; omega) (fun e => hv e.symm)]
  show (w.heap.push o)[C]? = _
  rw [Array.getElem?_push_lt h.cLt, ← h.blk, Array.getElem?_eq_getElem h.cLt]
theorem AccS.app1 (h : AccS Y w R C N v1 v2 v3 p1 p2 p3) {x : Int} (hown : w1.ownsRow Y.heap.size 3 1 v' (p1.length + 1) (p1.map (Value.int .i64) ++ [.int .i64 x])) (s : Step w w1 w2 o v1 v' C 1) : AccS Y w2 R C N v' v2 v3 (p1 ++ [x]) p2 p3 := by
  have e1 := own_ne h.o1 h.blk no_int_sys
  have e2 := own_ne h.o2 h.blk no_int_sys
  have e3 := own_ne h.o3 h.blk no_bool_sys
  have hb := s.bel h.bel h.bel.size (fun k hk => (h.o1.lt k hk).1) h.lo
  have hmid := h.mid e1 s.grow
  refine ⟨?_, ?_, s.keep h.o2 h.d12.symm e2, s.keep h.o3 (own_ne2 h.o3 h.o1 no_int_bool.symm) e3, ?_, h.lo, hb, s.blk h.o1 h.res no_int_sys h.hRC, h.hRC⟩
  · have := set_blk hmid 1 v' s.set
    rw [this]; rfl
  · have : w1.ownsRow Y.heap.size 3 1 v' (p1 ++ [x]).length ((p1 ++ [x]).map (Value.int .i64)) := by simpa using hown
    exact owns_of_block this fun g hg => set_other s.set (fun e => own_ne hown hmid no_int_sys (by rw [← e]; exact hg))
  · rcases s.hat with e | e
    · unfold Apart; rw [e]; exact h.d12
    · refine .inr ?_
      rw [e]
      intro q
      have := (h.o2.lt _ q.symm).2
      simp at this
      omega
theorem AccS.app2 (h : AccS Y w R C N v1 v2 v3 p1 p2 p3) {x : Int} (hown : w1.ownsRow Y.heap.size 3 1 v' (p2.length + 1) (p2.map (Value.int .i64) ++ [.int .i64 x])) (s : Step w w1 w2 o v2 v' C 2) : AccS Y w2 R C N v1 v' v3 p1 (p2 ++ [x]) p3 := by
  have e1 := own_ne h.o1 h.blk no_int_sys
  have e2 := own_ne h.o2 h.blk no_int_sys
  have e3 := own_ne h.o3 h.blk no_bool_sys
  have hb := s.bel h.bel h.bel.size (fun k hk => (h.o2.lt k hk).1) h.lo
  have hmid := h.mid e2 s.grow
  refine ⟨?_, s.keep h.o1 h.d12 e1, ?_, s.keep h.o3 (own_ne2 h.o3 h.o2 no_int_bool.symm) e3, ?_, h.lo, hb, s.blk h.o2 h.res no_int_sys h.hRC, h.hRC⟩
  · have := set_blk hmid 2 v' s.set
    rw [this]; rfl
  · have : w1.ownsRow Y.heap.size 3 1 v' (p2 ++ [x]).length ((p2 ++ [x]).map (Value.int .i64)) := by simpa using hown
    exact owns_of_block this fun g hg => set_other s.set (fun e => own_ne hown hmid no_int_sys (by rw [← e]; exact hg))
  · refine Apart.symm ?_
    rcases s.hat with e | e
    · unfold Apart; rw [e]; exact h.d12.symm
    · refine .inr ?_
      rw [e]
      intro q
      have := (h.o1.lt _ q.symm).2
      simp at this
      omega
theorem AccS.app3 (h : AccS Y w R C N v1 v2 v3 p1 p2 p3) {x : Bool} (hown : w1.ownsRow Y.heap.size 4 1 v' (p3.length + 1) (p3.map Value.bool ++ [.bool x])) (s : Step w w1 w2 o v3 v' C 3) : AccS Y w2 R C N v1 v2 v' p1 p2 (p3 ++ [x]) := by
  have e1 := own_ne h.o1 h.blk no_int_sys
  have e2 := own_ne h.o2 h.blk no_int_sys
  have e3 := own_ne h.o3 h.blk no_bool_sys
  have hb := s.bel h.bel h.bel.size (fun k hk => (h.o3.lt k hk).1) h.lo
  have hmid := h.mid e3 s.grow
  refine ⟨?_, s.keep h.o1 (own_ne2 h.o1 h.o3 no_int_bool) e1, s.keep h.o2 (own_ne2 h.o2 h.o3 no_int_bool) e2, ?_, h.d12, h.lo, hb, s.blk h.o3 h.res no_bool_sys h.hRC, h.hRC⟩
  · have := set_blk hmid 3 v' s.set
    rw [this]; rfl
  · have : w1.ownsRow Y.heap.size 4 1 v' (p3 ++ [x]).length ((p3 ++ [x]).map Value.bool) := by simpa using hown
    exact owns_of_block this fun g hg => set_other s.set (fun e => own_ne hown hmid no_bool_sys (by rw [← e]; exact hg))
end
/-- The first m entries of a table of pairs. -/
def gridTo {α : Type} (N : Nat) (f : Nat → Nat → α) (m : Nat) : List α := (List.range m).map fun i => f (i / N) (i % N)
theorem gridTo_len {α : Type} (N : Nat) (f : Nat → Nat → α) (m : Nat) : (gridTo N f m).length = m := by simp [gridTo]
theorem gridTo_succ {α : Type} {N a b : Nat} (f : Nat → Nat → α) (hb : b < N) : gridTo N f (a * N + b) ++ [f a b] = gridTo N f (a * N + b + 1) := by
  obtain ⟨p, q⟩ := pair_div (a := a) hb
  unfold gridTo
  rw [List.range_succ, List.map_append]
  simp [p, q]
theorem gridTo_all {α : Type} (N : Nat) (f : Nat → Nat → α) : gridTo N f (N * N) = grid N f := rfl

theorem l1Min_q (a b : Int) (w : World) : Calls Try.prog 74 #[.int .i64 a, .int .i64 b] w (fun e w' => e = .returned (.int .i64 (min a b)) ∧ w = w') := by
  by_cases h : a < b
  · rw [Int.min_eq_left (by omega)]
    go_enter Try.func74, Try.ntmps74
    go_wp2
    go_ret
    exact ⟨rfl, rfl⟩
  · rw [Int.min_eq_right (by omega)]
    have h' : ¬ a < b := h
    go_enter Try.func74, Try.ntmps74
    go_wp2
    go_ret
    exact ⟨rfl, rfl⟩
theorem l1In_q (n a b : Int) (v : Bool) (hv : v = decide (a ≤ n ∧ n ≤ b)) (w : World) : Calls Try.prog 64 #[.int .i64 n, .int .i64 a, .int .i64 b] w (fun e w' => e = .returned (.bool v) ∧ w = w') := by
  by_cases h : a ≤ n
  · by_cases k : n ≤ b
    · rw [decide_eq_true ⟨h, k⟩] at hv
      subst hv
      go_enter Try.func64, Try.ntmps64
      go_wp2
      go_ret
      exact ⟨rfl, rfl⟩
    · have k' : decide (n ≤ b) = false := by simpa using k
      rw [decide_eq_false (fun q => k q.2)] at hv
      subst hv
      go_enter Try.func64, Try.ntmps64
      go_wp2
      go_ret
      exact ⟨rfl, rfl⟩
  · have h' : decide (a ≤ n) = false := by simpa using h
    rw [decide_eq_false (fun q => h q.1)] at hv
    subst hv
    go_enter Try.func64, Try.ntmps64
    go_wp2
    go_ret
    exact ⟨rfl, rfl⟩

end Go.Proofs.Yteffcfaoganciaa
