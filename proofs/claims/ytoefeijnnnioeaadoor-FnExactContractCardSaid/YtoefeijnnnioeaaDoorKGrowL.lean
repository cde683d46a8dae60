
/- Lists of numbers, each in a block of its own, that are being gathered in a row of their own. -/
import Derived.Test.YtoefeijnnnioeaaDoorKGrow
import Derived.Test.YtoefeijnnnioeaaDoorKHoldL
import Derived.Test.YtoefeijnnnioeaaDoorGA
import Derived.Maps.AppendAt
set_option linter.unusedVariables false
set_option linter.unusedSimpArgs false
namespace Go.Proofs.YtoefeijnnnioeaaDoor
open Go.RowKit

theorem info_intss : (Tryd.prog.info? 22).map (fun i => (i.zero, i.size, i.bytes)) = some (some (.slice none 0 0), 1, 24) := by kernel_rfl
theorem owns_cap {w : World} {base : Nat} {e : TypeId} {size : Nat} {a : Option Addr} {n c : Nat} {xs : List Value} (h : w.ownsRow base e size (.slice a n c) n xs) : n ≤ c := by
  rcases h.2 with ⟨e1, e2⟩ | ⟨g, cap, cur, e1, _, _, h1, _⟩
  · cases e1
    omega
  · cases e1
    exact h1
theorem HoldR.cap {w : World} {lo hi : Nat} {a : Option Addr} {d : Nat} {l : List Int} (h : HoldR w lo hi a d l) : l.length ≤ d := by
  obtain ⟨⟨b, h3⟩, _⟩ := h
  exact owns_cap h3
/-- One more head. -/
def upd (hd : Nat → Option Addr × Nat) (k : Nat) (p : Option Addr × Nat) : Nat → Option Addr × Nat := fun i => if i = k then p else hd i
theorem upd_eq (hd : Nat → Option Addr × Nat) (k : Nat) (p : Option Addr × Nat) : upd hd k p k = p := by simp [upd]
theorem upd_ne {hd : Nat → Option Addr × Nat} {i k : Nat} (p : Option Addr × Nat) (h : i ≠ k) : upd hd k p i = hd i := by simp [upd, h]
theorem hds_snoc (ls : List (List Int)) (l : List Int) (hd : Nat → Option Addr × Nat) (p : Option Addr × Nat) : hds (ls ++ [l]) (upd hd ls.length p) = hds ls hd ++ [.slice p.1 l.length p.2] := by
  apply List.ext_getElem?
  intro i
  by_cases h1 : i < ls.length
  · have e1 : ls[i]? = some ls[i] := List.getElem?_eq_getElem h1
    have e2 : (ls ++ [l])[i]? = some ls[i] := by rw [List.getElem?_append_left h1]; exact e1
    rw [hds_at e2, List.getElem?_append_left (by rw [hds_len]; exact h1), hds_at e1, upd_ne p (by omega)]
  · by_cases h2 : i = ls.length
    · subst h2
      have e2 : (ls ++ [l])[ls.length]? = some l := by simp
      rw [hds_at e2, upd_eq, List.getElem?_append_right (by rw [hds_len]; omega), hds_len]
      simp
    · rw [List.getElem?_eq_none (by rw [hds_len]; simp; omega), List.getElem?_eq_none (by simp [hds_len]; omega)]

theorem newLs_nil {W : World} (y : Ext W) : NewLs W [] (.returned (.slice none 0 0)) y.w :=
  ⟨none, 0, fun _ => (none, 0), fun _ => False, y, rfl, rfl, ⟨World.ownsRow_nil _ _ _ _, fun i l h => by simp at h, fun i j g h => by simp at h, fun i g h => by simp at h, fun g => by simp [ob]⟩, fun q h => h.elim⟩
/-- The row out is the call's own; of its slices these lists are: each in a block of its own, made behind Y. -/
structure GrowL (Y w : World) (a : Option Addr) (c : Nat) (out : List Value) (ls : List (List Int)) (hd : Nat → Option Addr × Nat) : Prop where
  own : w.ownsRow Y.heap.size 22 1 (.slice a out.length c) out.length out
  sub : ∀ (i : Nat) (l : List Int), ls[i]? = some l → w.ownsRow Y.heap.size 3 1 (.slice (hd i).1 l.length (hd i).2) l.length (l.map (Value.int .i64))
  dj : ∀ (i j g : Nat), i < ls.length → j < ls.length → i ≠ j → ob (hd i).1 = some g → ob (hd j).1 ≠ some g
  da : ∀ (i g : Nat), i < ls.length → ob (hd i).1 = some g → ob a ≠ some g
  bel : Below Y.heap.size Y w
section
variable {Y w : World} {a : Option Addr} {c : Nat} {out : List Value} {ls : List (List Int)} {hd : Nat → Option Addr × Nat}
theorem GrowL.start (bel : Below Y.heap.size Y w) (own : w.ownsRow Y.heap.size 22 1 (.slice a out.length c) out.length out) (hd : Nat → Option Addr × Nat) : GrowL Y w a c out [] hd :=
  ⟨own, fun i l h => by simp at h, fun i j g h => by simp at h, fun i g h => by simp at h, bel⟩
theorem GrowL.ext (h : GrowL Y w a c out ls hd) (y : Ext w) : GrowL Y y.w a c out ls hd :=
  ⟨owns_ext h.own y, fun i l hi => owns_ext (h.sub i l hi) y, h.dj, h.da, h.bel.trans (y.below.mono h.bel.size)⟩
theorem GrowL.alloc (h : GrowL Y w a c out ls hd) (o : Obj) : GrowL Y (w.alloc o) a c out ls hd := h.ext ((Ext.self w).alloc o)
theorem GrowL.lt (h : GrowL Y w a c out ls hd) {i g : Nat} (hi : i < ls.length) (e : ob (hd i).1 = some g) : Y.heap.size ≤ g ∧ g < w.heap.size :=
  (h.sub i _ (List.getElem?_eq_getElem hi)).lt g (by rw [ob_eq]; exact e)
theorem GrowL.lta (h : GrowL Y w a c out ls hd) {g : Nat} (e : ob a = some g) : Y.heap.size ≤ g ∧ g < w.heap.size := h.own.lt g (by rw [ob_eq]; exact e)
theorem GrowL.add (h : GrowL Y w a c out ls hd) (y : Ext w) {b : Option Addr} {d : Nat} {l : List Int} (own : y.w.ownsRow w.heap.size 3 1 (.slice b l.length d) l.length (l.map (Value.int .i64))) :
    GrowL Y y.w a c out (ls ++ [l]) (upd hd ls.length (b, d)) := by
  have k := h.ext y
  have hn : ∀ g, ob b = some g → w.heap.size ≤ g := fun g e => (own.lt g (by rw [ob_eq]; exact e)).1
  refine ⟨k.own, fun i u hi => ?_, fun i j g hi hj hij e1 e2 => ?_, fun i g hi e1 e2 => ?_, k.bel⟩
  · by_cases e : i = ls.length
    · subst e
      simp at hi
      subst hi
      rw [upd_eq]
      exact owns_lower own h.bel.size
    · have hi2 : i < ls.length := by have := (List.getElem?_eq_some_iff.1 hi).1; simp at this; omega
      rw [List.getElem?_append_left hi2] at hi
      rw [upd_ne _ e]
      exact k.sub i u hi
  · simp at hi hj
    by_cases ei : i = ls.length
    · subst ei
      have hj2 : j < ls.length := by omega
      rw [upd_eq] at e1
      rw [upd_ne _ (by omega)] at e2
      have := h.lt hj2 e2
      have := hn g e1
      omega
    · have hi2 : i < ls.length := by omega
      rw [upd_ne _ ei] at e1
      by_cases ej : j = ls.length
      · subst ej
        rw [upd_eq] at e2
        have := h.lt hi2 e1
        have := hn g e2
        omega
      · rw [upd_ne _ ej] at e2
        exact h.dj i j g hi2 (by omega) hij e1 e2
  · simp at hi
    by_cases ei : i = ls.length
    · subst ei
      rw [upd_eq] at e1
      have := h.lta e2
      have := hn g e1
      omega
    · rw [upd_ne _ ei] at e1
      exact h.da i g (by omega) e1 e2
theorem GrowL.put (h : GrowL Y w a c out ls hd) {w' : World} {a' : Option Addr} {c' : Nat} {out' : List Value} (own : w'.ownsRow Y.heap.size 22 1 (.slice a' out'.length c') out'.length out') (gr : w.grownBy w' (ob a)) (hat : ob a' = ob a ∨ ob a' = some w.heap.size) :
    GrowL Y w' a' c' out' ls hd := by
  refine ⟨own, fun i l hi => owns_of_block (h.sub i l hi) fun g hg => ?_, h.dj, fun i g hi e1 e2 => ?_, h.bel.grown gr h.bel.size fun g hg => (h.lta hg).1⟩
  · rw [ob_eq] at hg
    have hi2 := (List.getElem?_eq_some_iff.1 hi).1
    exact gr.block g (h.lt hi2 hg).2 (fun e => h.da i g hi2 hg e.symm)
  · have := h.lt hi e1
    rcases hat with e | e
    · rw [e] at e2
      exact h.da i g hi e1 e2
    · rw [e] at e2
      cases e2
      omega
theorem GrowL.newLs (h : GrowL Y w a c (hds ls hd) ls hd) : NewLs Y ls (.returned (.slice a ls.length c)) w := by
  refine ⟨a, c, hd, fun g => ob a = some g ∨ ∃ i : Nat, i < ls.length ∧ ob (hd i).1 = some g, ⟨w, h.bel⟩, rfl, rfl, ⟨?_, fun i l hi => owns_lower (h.sub i l hi) (Nat.zero_le _), h.dj, h.da, fun g => Iff.rfl⟩, fun g hg => ?_⟩
  · have := h.own
    rw [hds_len] at this
    exact owns_lower this (Nat.zero_le _)
  · rcases hg with e | ⟨i, hi, e⟩
    · exact (h.lta e).1
    · exact (h.lt hi e).1
theorem wpList_growL {ops : Array Oper} {rest : List Oper} {o : Oper} {ac : Act} {Q : Exit → Act → World → Prop} (hgd : o.guard = none) (s x : Operand)
    (ho : o.op = .call { callee := .builtin .append, args := #[s, x], argTypes := #[51, 51] })
    (h : GrowL Y w a c out ls hd) (hl : out.length ≤ 1000) {n : Nat} (hn : n = out.length) (hv : ac.eval s = .slice a n c) {u : Value} (h1 : u.oneCell' = true) {ad : Addr} {d : Nat} (hx : ac.eval x = .slice (some ad) 1 d) (hs : ∀ j v, [u][j]? = some v → w.cell? (ad.add j) = some v)
    (k : ∀ a' c' w', GrowL Y w' a' c' (out ++ [u]) ls hd → wpList Tryd.prog ops Q rest (ac.put o.dst (.slice a' (n + 1) c')) w') : wpList Tryd.prog ops Q (o :: rest) ac w := by
  subst hn
  obtain ⟨i0, hi0, hz0, hz1, hz2⟩ := info_parts info_intss
  refine wpList_append_own_at w hgd s x 51 ho Y.heap.size 22 i0 (.slice none 0 0) 1 24 Tryd.underlying51 hi0 hz0 hz1 hz2 rfl (by decide) (.slice a out.length c) out.length out hv h.own ad 1 d [u] hx rfl hs (by simpa using h1) (by unfold maxLen; omega) (by omega) h.bel.size ?_
  intro v' w' own gr _ hat
  obtain ⟨a', c', rfl⟩ : ∃ a' c', v' = .slice a' (out.length + 1) c' := by
    rcases own.2 with ⟨_, e⟩ | ⟨g, cap, cur, e, _⟩
    · omega
    · exact ⟨_, _, e⟩
  refine k a' c' w' (h.put ?_ (by rw [ob_eq] at gr; exact gr) (by rw [ob_eq, ob_eq] at hat; exact hat))
  rw [List.length_append]
  exact own
end
end Go.Proofs.YtoefeijnnnioeaaDoor
