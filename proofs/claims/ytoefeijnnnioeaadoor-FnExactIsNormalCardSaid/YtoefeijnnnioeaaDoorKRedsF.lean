
/- What the gathering of paths leaves as it was. Nothing is walked here. -/
import Derived.Test.YtoefeijnnnioeaaDoorKRedsSpec
import Derived.Test.YtoefeijnnnioeaaDoorKGrowP
set_option linter.unusedVariables false
set_option linter.unusedSimpArgs false
namespace Go.Proofs.YtoefeijnnnioeaaDoor
open Go.RowKit

/-- A block of the lists gathered. -/
def Blk (a : Option Addr) (n : Nat) (hd : Nat → Option Addr × Nat) (g : Nat) : Prop := ob a = some g ∨ ∃ i : Nat, i < n ∧ ob (hd i).1 = some g
/-- All is as it was but the lists, and the path behind its length. -/
def Fr (w w' : World) (a : Option Addr) (n : Nat) (hd : Nat → Option Addr × Nat) (pa : Option Addr) : Prop := w.heap.size ≤ w'.heap.size ∧ ∀ g, g < w.heap.size → ¬ Blk a n hd g → ob pa ≠ some g → w'.heap[g]? = w.heap[g]?
/-- The state of the gathering: the lists, and a path that may be appended to. -/
structure RP (Y w : World) (a : Option Addr) (c : Nat) (ls : List (List Int)) (hd : Nat → Option Addr × Nat) (pa : Option Addr) (pc : Nat) (p : List Int) : Prop where
  gl : GrowL Y w a c (hds ls hd) ls hd
  own : w.ownsRow Y.heap.size 3 1 (.slice pa p.length pc) p.length (p.map (Value.int .i64))
  dj : ∀ g, ob pa = some g → ¬ Blk a ls.length hd g
section
variable {Y w : World} {a : Option Addr} {c : Nat} {ls : List (List Int)} {hd : Nat → Option Addr × Nat} {pa : Option Addr} {pc : Nat} {p : List Int}
theorem RP.start (bel : Below Y.heap.size Y w) (hd : Nat → Option Addr × Nat) : RP Y w none 0 [] hd none 0 [] :=
  ⟨GrowL.start bel (World.ownsRow_nil _ _ _ _) hd, World.ownsRow_nil _ _ _ _, fun g h => by cases h⟩
theorem RP.blt (h : RP Y w a c ls hd pa pc p) {g : Nat} (hb : Blk a ls.length hd g) : Y.heap.size ≤ g ∧ g < w.heap.size := by
  rcases hb with e | ⟨i, hi, e⟩
  · exact h.gl.lta e
  · exact h.gl.lt hi e
theorem RP.plt (h : RP Y w a c ls hd pa pc p) {g : Nat} (e : ob pa = some g) : Y.heap.size ≤ g ∧ g < w.heap.size := h.own.lt g (by rw [ob_eq]; exact e)
theorem RP.ext (h : RP Y w a c ls hd pa pc p) (y : Ext w) : RP Y y.w a c ls hd pa pc p := ⟨h.gl.ext y, owns_ext h.own y, h.dj⟩
theorem RP.bel (h : RP Y w a c ls hd pa pc p) : Below Y.heap.size Y w := h.gl.bel
theorem RP.row (h : RP Y w a c ls hd pa pc p) : Row w (Value.int .i64) pa p := own_row h.own
/-- One list more, in a new block: its head is put. -/
theorem RP.snoc (h : RP Y w a c ls hd pa pc p) (y : Ext w) {b : Option Addr} {d : Nat} {l : List Int} (own : y.w.ownsRow w.heap.size 3 1 (.slice b l.length d) l.length (l.map (Value.int .i64)))
    {w' : World} {a' : Option Addr} {c' : Nat} (g' : GrowL Y w' a' c' (hds (ls ++ [l]) (upd hd ls.length (b, d))) (ls ++ [l]) (upd hd ls.length (b, d))) (gr : y.w.grownBy w' (ob a)) (hat : ob a' = ob a ∨ ob a' = some y.w.heap.size) :
    RP Y w' a' c' (ls ++ [l]) (upd hd ls.length (b, d)) pa pc p ∧ Fr w w' a ls.length hd pa ∧ ∀ g, Blk a' (ls ++ [l]).length (upd hd ls.length (b, d)) g → Blk a ls.length hd g ∨ w.heap.size ≤ g := by
  have hys := y.size
  have hbl : ∀ g, Blk a' (ls ++ [l]).length (upd hd ls.length (b, d)) g → Blk a ls.length hd g ∨ w.heap.size ≤ g := by
    rintro g (e | ⟨i, hi, e⟩)
    · rcases hat with e2 | e2
      · exact .inl (.inl (by rw [← e2]; exact e))
      · rw [e2] at e; cases e; exact .inr hys
    · by_cases ei : i = ls.length
      · subst ei
        rw [upd_eq] at e
        exact .inr (own.lt g (by rw [ob_eq]; exact e)).1
      · rw [upd_ne _ ei] at e
        simp at hi
        exact .inl (.inr ⟨i, by omega, e⟩)
  have hfr : Fr w w' a ls.length hd pa := ⟨Nat.le_trans hys gr.size, fun g hg ha _ => (gr.block g (by omega) (fun e => ha (.inl e.symm))).trans (y.below.block g hg)⟩
  refine ⟨⟨g', owns_of_block (owns_ext h.own y) fun g hg => ?_, fun g hg hb => ?_⟩, hfr, hbl⟩
  · rw [ob_eq] at hg
    exact gr.block g (by have := (h.plt hg).2; omega) fun e => h.dj g hg (.inl e.symm)
  · rcases hbl g hb with h1 | h1
    · exact h.dj g hg h1
    · have := (h.plt hg).2
      omega
/-- The path of a kid: longer by one. -/
theorem RP.down (h : RP Y w a c ls hd pa pc p) (y : Ext w) {v : Int} {w' : World} {pa' : Option Addr} {pc' : Nat} (own : w'.ownsRow Y.heap.size 3 1 (.slice pa' (p ++ [v]).length pc') (p ++ [v]).length ((p ++ [v]).map (Value.int .i64))) (gr : y.w.grownBy w' (ob pa)) (hat : (pa' = pa ∧ pc' = pc) ∨ (ob pa' = some y.w.heap.size ∧ ∃ z : Ext y.w, w' = z.w)) :
    RP Y w' a c ls hd pa' pc' (p ++ [v]) ∧ w'.ownsRow Y.heap.size 3 1 (.slice pa p.length pc) p.length (p.map (Value.int .i64)) := by
  have hys := y.size
  have hlen : (p ++ [v]).length = p.length + 1 := by simp
  have hmap : (p ++ [v]).map (Value.int .i64) = p.map (Value.int .i64) ++ [.int .i64 v] := by simp
  have gl : GrowL Y w' a c (hds ls hd) ls hd := by
    have k := h.gl.ext y
    have hne : ∀ g, Blk a ls.length hd g → w'.heap[g]? = y.w.heap[g]? := fun g hb => gr.block g (by have := (h.blt hb).2; omega) fun e => h.dj g e.symm hb
    refine ⟨owns_of_block k.own fun g hg => hne g (.inl (by rw [← ob_eq]; exact hg)), fun i l hi => owns_of_block (k.sub i l hi) fun g hg => hne g (.inr ⟨i, (List.getElem?_eq_some_iff.1 hi).1, by rw [← ob_eq]; exact hg⟩), k.dj, k.da, ?_⟩
    exact k.bel.grown gr k.bel.size fun g hg => (h.plt hg).1
  refine ⟨⟨gl, own, fun g hg hb => ?_⟩, ?_⟩
  · rcases hat with ⟨rfl, _⟩ | ⟨e, _⟩
    · exact h.dj g hg hb
    · rw [e] at hg
      cases hg
      have := (h.blt hb).2
      omega
  · rcases hat with ⟨rfl, rfl⟩ | ⟨e, z, rfl⟩
    · rw [hlen, hmap] at own
      exact owns_prefix own
    · exact owns_ext (owns_ext h.own y) z
/-- Behind the call on a kid the path is as it was. -/
theorem RP.up (h : RP Y w a c ls hd pa pc p) (y : Ext w) {v : Int} {w1 : World} {pa' : Option Addr} {pc' : Nat} (gr : y.w.grownBy w1 (ob pa)) (hat : (pa' = pa ∧ pc' = pc) ∨ (ob pa' = some y.w.heap.size ∧ ∃ z : Ext y.w, w1 = z.w))
    {w2 : World} {a' : Option Addr} {c' : Nat} {l2 : List (List Int)} {hd' : Nat → Option Addr × Nat} (h2 : RP Y w2 a' c' l2 hd' pa' pc' (p ++ [v])) (fr : Fr w1 w2 a ls.length hd pa') (hb2 : ∀ g, Blk a' l2.length hd' g → Blk a ls.length hd g ∨ w1.heap.size ≤ g)
    (hown : w1.ownsRow Y.heap.size 3 1 (.slice pa p.length pc) p.length (p.map (Value.int .i64))) :
    RP Y w2 a' c' l2 hd' pa pc p ∧ Fr w w2 a ls.length hd pa ∧ ∀ g, Blk a' l2.length hd' g → Blk a ls.length hd g ∨ w.heap.size ≤ g := by
  have hys := y.size
  have hs1 := gr.size
  have hlen : (p ++ [v]).length = p.length + 1 := by simp
  have hmap : (p ++ [v]).map (Value.int .i64) = p.map (Value.int .i64) ++ [.int .i64 v] := by simp
  refine ⟨⟨h2.gl, ?_, fun g hg hb => ?_⟩, ⟨Nat.le_trans hys (Nat.le_trans hs1 fr.1), fun g hg ha hp => ?_⟩, fun g hb => ?_⟩
  · rcases hat with ⟨rfl, rfl⟩ | ⟨e, _⟩
    · have := h2.own
      rw [hlen, hmap] at this
      exact owns_prefix this
    · refine owns_of_block hown fun g hg => ?_
      rw [ob_eq] at hg
      have hlt := (h.plt hg).2
      refine fr.2 g (by omega) (h.dj g hg) fun e2 => ?_
      rw [e] at e2
      cases e2
      omega
  · rcases hb2 g hb with h1 | h1
    · exact h.dj g hg h1
    · have := (h.plt hg).2
      omega
  · rw [fr.2 g (by omega) ha fun e2 => ?_, gr.block g (by omega) (fun e => hp e.symm), y.below.block g hg]
    rcases hat with ⟨rfl, _⟩ | ⟨e, _⟩
    · exact hp e2
    · rw [e] at e2
      cases e2
      omega
  · rcases hb2 g hb with h1 | h1
    · exact .inl h1
    · exact .inr (by omega)
theorem Fr.trans {w1 w2 w3 : World} {n : Nat} {a2 : Option Addr} {n2 : Nat} {hd2 : Nat → Option Addr × Nat} (h : Fr w1 w2 a n hd pa) (k : Fr w2 w3 a2 n2 hd2 pa) (ha : ∀ g, Blk a2 n2 hd2 g → Blk a n hd g ∨ w1.heap.size ≤ g) : Fr w1 w3 a n hd pa :=
  ⟨Nat.le_trans h.1 k.1, fun g hg h1 h2 => (k.2 g (by have := h.1; omega) (fun e => by rcases ha g e with q | q; exact h1 q; omega) h2).trans (h.2 g hg h1 h2)⟩
theorem Fr.ext {w' : World} {n : Nat} (y : Ext w) (h : Fr y.w w' a n hd pa) : Fr w w' a n hd pa :=
  ⟨Nat.le_trans y.size h.1, fun g hg h1 h2 => (h.2 g (by have := y.size; omega) h1 h2).trans (y.below.block g hg)⟩
theorem Fr.of {n : Nat} (y : Ext w) : Fr w y.w a n hd pa := ⟨y.size, fun g hg _ _ => y.below.block g hg⟩
/-- What a call of the gathering answers. -/
def RedA (Y w : World) (a : Option Addr) (ls : List (List Int)) (hd : Nat → Option Addr × Nat) (pa : Option Addr) (pc : Nat) (p : List Int) (l2 : List (List Int)) : Ending → World → Prop := fun e w' =>
  ∃ (a' : Option Addr) (c' : Nat) (hd' : Nat → Option Addr × Nat), e = .returned (.slice a' l2.length c') ∧ RP Y w' a' c' l2 hd' pa pc p ∧ Fr w w' a ls.length hd pa ∧ ∀ g, Blk a' l2.length hd' g → Blk a ls.length hd g ∨ w.heap.size ≤ g
end
end Go.Proofs.YtoefeijnnnioeaaDoor
