
/- A list of numbers in a block of its own that is being made by append. -/
import Derived.Test.YtoefeijnnnioeaaDoorGA
set_option linter.unusedVariables false
set_option linter.unusedSimpArgs false
namespace Go.Proofs.YtoefeijnnnioeaaDoor
open Go.RowKit

/-- What has been made so far; Y: the world behind which it lies. -/
structure Grow (Y w : World) (a : Option Addr) (c : Nat) (l : List Int) : Prop where
  own : w.ownsRow Y.heap.size 3 1 (.slice a l.length c) l.length (l.map (Value.int .i64))
  bel : Below Y.heap.size Y w
section
variable {Y w : World} {a : Option Addr} {c : Nat} {l : List Int}
theorem Grow.nil (bel : Below Y.heap.size Y w) : Grow Y w none 0 [] := ⟨World.ownsRow_nil _ _ _ _, bel⟩
theorem Grow.ext (h : Grow Y w a c l) (y : Ext w) : Grow Y y.w a c l := ⟨owns_ext h.own y, h.bel.trans (y.below.mono h.bel.size)⟩
theorem Grow.alloc (h : Grow Y w a c l) (o : Obj) : Grow Y (w.alloc o) a c l := h.ext ((Ext.self w).alloc o)
theorem Grow.new (bel : Below Y.heap.size Y w) (l : List Int) (hl : l.length ≤ 1000000) (n : Nat) (hn : n = w.heap.size) : Grow Y (w.alloc (.cells (l.map (Value.int .i64)).toArray 3)) (some ⟨n, 0, none⟩) l.length l := by
  subst hn
  refine ⟨⟨by simp, .inr ⟨w.heap.size, l.length, (l.map (Value.int .i64)).toArray, rfl, bel.size, ?_, Nat.le_refl _, by unfold maxLen; omega, by simp, ?_⟩⟩, bel.alloc bel.size _⟩
  · show (w.heap.push _)[w.heap.size]? = _
    rw [Array.getElem?_push, if_pos rfl]
  · simp only [Nat.mul_one]
    exact List.take_of_length_le (by simp)
theorem Grow.row (h : Grow Y w a c l) : Row w (Value.int .i64) a l := by
  obtain ⟨a', c', e, hr, _⟩ := owned_row h.own
  cases e
  exact hr
theorem Grow.len (h : Grow Y w a c l) : l.length ≤ 9223372036854775807 := owns_len h.own
/-- One number in a new block. -/
theorem row_new1 (w : World) (v : Int) (t : TypeId) (n : Nat) (hn : n = w.heap.size) : Row (w.alloc (.cells #[.int .i64 v] t)) (Value.int .i64) (some ⟨n, 0, none⟩) [v] := by
  subst hn
  refine .inr ⟨w.heap.size, 0, rfl, fun i x hx => ?_⟩
  match i, hx with
  | 0, hx =>
    simp at hx
    subst hx
    rw [World.cell?_alloc_at _ _ _ _ rfl]
    rfl
theorem row_new2 (w : World) (v u : Int) (t : TypeId) (n : Nat) (hn : n = w.heap.size) : Row (w.alloc (.cells #[.int .i64 v, .int .i64 u] t)) (Value.int .i64) (some ⟨n, 0, none⟩) [v, u] := by
  subst hn
  refine .inr ⟨w.heap.size, 0, rfl, fun i x hx => ?_⟩
  match i, hx with
  | 0, hx =>
    simp at hx
    subst hx
    rw [World.cell?_alloc_at _ _ _ _ rfl]
    rfl
  | 1, hx =>
    simp at hx
    subst hx
    rw [World.cell?_alloc_at _ _ _ _ rfl]
    rfl
theorem wpList_grow {ops : Array Oper} {rest : List Oper} {o : Oper} {ac : Act} {Q : Exit → Act → World → Prop} (hgd : o.guard = none) (s x : Operand)
    (ho : o.op = .call { callee := .builtin .append, args := #[s, x], argTypes := #[22, 22] })
    (h : Grow Y w a c l) (hv : ac.eval s = .slice a l.length c) {A : Option Addr} {d : Nat} {news : List Int} (hx : ac.eval x = .slice A news.length d) (hs : Row w (Value.int .i64) A news) (hl : l.length + news.length ≤ 1000000)
    (k : ∀ a' c' w', Grow Y w' a' c' (l ++ news) → wpList Tryd.prog ops Q rest (ac.put o.dst (.slice a' (l.length + news.length) c')) w') : wpList Tryd.prog ops Q (o :: rest) ac w := by
  obtain ⟨i0, hi, hz0, hz1, hz2⟩ := info_parts info_int
  refine wpList_app_src hgd s x 22 ho Y.heap.size 3 i0 (.int .i64 0) 1 8 Tryd.underlying22 hi hz0 hz1 hz2 rfl (by decide) (.slice a l.length c) l.length (l.map (Value.int .i64)) hv h.own A news.length d (news.map (Value.int .i64)) hx (src_ints hs) (by unfold maxLen; omega) (by omega) h.bel.size ?_
  intro A' c' w' own gr _
  refine k A' c' w' ⟨?_, h.bel.grown gr h.bel.size (fun g hg => (h.own.lt g hg).1)⟩
  rw [List.length_append, List.map_append]
  exact own
end
end Go.Proofs.YtoefeijnnnioeaaDoor
