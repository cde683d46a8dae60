/- Texts of one claim, laid together: Base, Open, OpenB, World, LawHead, At0, Spec, PairSpec, Only, Marks, NumRet, Acc. -/
import Derived.WalkKit
import Derived.ProofKit
import Derived.Below
import Derived.Lib.Hide
import Derived.BigQuiet
import Derived.Handy
import Derived.Test.YtkokmpdmmfghhaaRows
import Derived.OpenShut
import Derived.ShutString
import Derived.ChangeOld
import Derived.Lib.SmallJoins
import Derived.Deep.Grids
import Derived.Test.YtkokmpdmmfghhaaProg
import Derived.Deep.RegionHeld3
import Derived.Maps.AppendAt
import Derived.Laws.OwnMore
set_option linter.unusedVariables false
set_option linter.unusedSimpArgs false
/- Plain notions for all proofs of this seat: a world that extends another one, rows of cells, the value of a grade system. Nothing of a program stands here. -/
namespace Go.Proofs.Ytkokmpdmmfghhaa
open Go.RowKit

/-- A world in which all that W has is as it was in W. -/
structure Ext (W : World) where
  w : World
  below : Below W.heap.size W w

theorem cell_lt {w : World} {a : Addr} {v : Value} (h : w.cell? a = some v) : a.block < w.heap.size := by
  unfold World.cell? at h
  by_cases hb : a.block < w.heap.size
  · exact hb
  · rw [Array.getElem?_eq_none (by omega)] at h; simp at h

namespace Ext
variable {W : World}
abbrev self (W : World) : Ext W := ⟨W, Below.refl _ _⟩
instance : Nonempty (Ext W) := ⟨self W⟩
theorem size (x : Ext W) : W.heap.size ≤ x.w.heap.size := x.below.size
theorem cell (x : Ext W) {a : Addr} {v : Value} (h : W.cell? a = some v) : x.w.cell? a = some v := by
  rw [x.below.cell (cell_lt h)]; exact h
abbrev alloc (x : Ext W) (o : Obj) : Ext W := ⟨x.w.alloc o, x.below.alloc x.size o⟩
abbrev drew (x : Ext W) : Ext W := ⟨x.w.drew, x.below.drew⟩
abbrev trans (x : Ext W) (y : Ext x.w) : Ext W := ⟨y.w, x.below.trans (y.below.mono x.size)⟩
/-- An extension of a world that extends W. -/
def on (x : Ext W) {w : World} (h : Below x.w.heap.size x.w w) : Ext W := ⟨w, x.below.trans (h.mono x.size)⟩
/-- Behind a new block. -/
def behind {o : Obj} (y : Ext (W.alloc o)) : Ext W := ⟨y.w, ((Below.refl _ _).alloc (Nat.le_refl _) o).trans (y.below.mono (by simp))⟩
end Ext

/-- A call hands back v, and leaves all that W has. -/
abbrev Ans (W : World) (v : Value) : Ending → World → Prop := fun e w' => e = .returned v ∧ ∃ y : Ext W, w' = y.w

/-- A region that draws its order, whose operations read and call alone, every call leaving what W has: one walk in the text's order. -/
theorem region_ext {W : World} {P : Program} {id : Nat} {Q : Exit → Act → World → Prop} {a : Act} {l : List Oper} (y : Ext W) (hm : P.follows .mixedOrders = true) (hB : Region.lexB .any l.toArray = true)
    (h : wpQuiet P l.toArray (fun w' => ∃ y : Ext W, w' = y.w) (fun a' => ∀ w', (∃ y : Ext W, w' = y.w) → Q .normal a' w') l a) : (Code.region id l.toArray true).wp P Q a y.w :=
  wp_region_quiet (C := fun w' => ∃ y : Ext W, w' = y.w) hm hB ⟨y.drew, rfl⟩ (by simpa using h)

/-- The end of a walk that answers a Bool. -/
theorem fin_true {W : World} {p : Bool} {Q : Prop} (HP : Hid (p = true ↔ Q)) (hq : Q) {w : World} (hz : ∃ z : Ext W, w = z.w) : Ans W (.bool p) (.returned (.bool true)) w := by
  have : p = true := HP.out.2 hq
  subst this
  exact ⟨rfl, hz⟩
theorem fin_false {W : World} {p : Bool} {Q : Prop} (HP : Hid (p = true ↔ Q)) (hq : ¬ Q) {w : World} (hz : ∃ z : Ext W, w = z.w) : Ans W (.bool p) (.returned (.bool false)) w := by
  have : p = false := by cases p; rfl; exact absurd (HP.out.1 rfl) hq
  subst this
  exact ⟨rfl, hz⟩

theorem fin_int {W : World} {k : IntKind} {a v : Int} (h : a = v) {w : World} (hz : ∃ z : Ext W, w = z.w) : Ans W (.int k v) (.returned (.int k a)) w := by
  subst h
  exact ⟨rfl, hz⟩

theorem iff_tf {b : Bool} {P : Prop} (h : match b with | true => P | false => ¬ P) : b = true ↔ P := by
  cases b
  · exact ⟨fun q => (by cases q), fun q => absurd q h⟩
  · exact ⟨fun _ => h, fun _ => rfl⟩

/-- Cells in a row that read as a list. -/
def Row {α : Type} (w : World) (mk : α → Value) (a : Option Addr) (l : List α) : Prop :=
  l = [] ∨ ∃ b o, a = some ⟨b, o, none⟩ ∧ ∀ i x, l[i]? = some x → w.cell? ⟨b, o + i, none⟩ = some (mk x)

theorem Row.ext {α : Type} {W : World} {mk : α → Value} {a : Option Addr} {l : List α} (h : Row W mk a l) (x : Ext W) : Row x.w mk a l := by
  rcases h with h | ⟨b, o, ha, hc⟩
  · exact .inl h
  · exact .inr ⟨b, o, ha, fun i y hy => x.cell (hc i y hy)⟩

theorem Row.at {α : Type} {w : World} {mk : α → Value} {a : Option Addr} {l : List α} (h : Row w mk a l) {i : Nat} (hi : i < l.length) :
    ∃ b o, a = some ⟨b, o, none⟩ ∧ ∀ i x, l[i]? = some x → w.cell? ⟨b, o + i, none⟩ = some (mk x) := by
  rcases h with rfl | h
  · simp at hi
  · exact h

/-- A grade system, plainly. -/
structure Sys where
  n : Int
  plus : List Int
  times : List Int
  below : List Bool

/-- Where the tables of a system lie. -/
structure Ref where
  pa : Option Addr
  ta : Option Addr
  ba : Option Addr
  pc : Nat
  tc : Nat
  bc : Nat

abbrev Ref.val (r : Ref) (s : Sys) : Value :=
  .agg #[.int .i64 s.n, .slice r.pa s.plus.length r.pc, .slice r.ta s.times.length r.tc, .slice r.ba s.below.length r.bc]

structure SysIn (w : World) (r : Ref) (s : Sys) : Prop where
  plus : Row w (Value.int .i64) r.pa s.plus
  times : Row w (Value.int .i64) r.ta s.times
  below : Row w Value.bool r.ba s.below
  lp : s.plus.length ≤ 9223372036854775807
  lt : s.times.length ≤ 9223372036854775807
  lb : s.below.length ≤ 9223372036854775807

/-- Tables that are not too long to be copied. -/
structure Small (s : Sys) : Prop where
  p : s.plus.length ≤ 1099511627776
  t : s.times.length ≤ 1099511627776
  b : s.below.length ≤ 1099511627776

theorem SysIn.ext {W : World} {r : Ref} {s : Sys} (h : SysIn W r s) (x : Ext W) : SysIn x.w r s :=
  ⟨h.plus.ext x, h.times.ext x, h.below.ext x, h.lp, h.lt, h.lb⟩

/-- A system that a function has been handed lies in a new block of its own: what the block reads as in every later world. -/
theorem boxed {W W1 : World} {r : Ref} {s : Sys} (h : SysIn W r s) (x : Ext W) {T : TypeId} {B : Nat} (hB : x.w.heap.size = B)
    (hW : x.w.alloc (.cells #[.int .i64 s.n, .slice r.pa s.plus.length r.pc, .slice r.ta s.times.length r.tc, .slice r.ba s.below.length r.bc] T) = W1) :
    (∀ y : Ext W1, y.w.cell? ⟨B, 0, none⟩ = some (.int .i64 s.n)) ∧ (∀ y : Ext W1, y.w.cell? ⟨B, 1, none⟩ = some (.slice r.pa s.plus.length r.pc)) ∧
    (∀ y : Ext W1, y.w.cell? ⟨B, 2, none⟩ = some (.slice r.ta s.times.length r.tc)) ∧ (∀ y : Ext W1, y.w.cell? ⟨B, 3, none⟩ = some (.slice r.ba s.below.length r.bc)) ∧
    SysIn W1 r s ∧ (∀ y : Ext W1, ∃ z : Ext W, y.w = z.w) ∧ ∃ y0 : Ext W1, y0.w = W1 := by
  subst hW; subst hB
  refine ⟨fun y => ?_, fun y => ?_, fun y => ?_, fun y => ?_, ?_, fun y => ⟨x.on y.behind.below, rfl⟩, Ext.self _, rfl⟩
  · exact y.cell (by rw [World.cell?_alloc_at _ _ _ _ rfl]; rfl)
  · exact y.cell (by rw [World.cell?_alloc_at _ _ _ _ rfl]; rfl)
  · exact y.cell (by rw [World.cell?_alloc_at _ _ _ _ rfl]; rfl)
  · exact y.cell (by rw [World.cell?_alloc_at _ _ _ _ rfl]; rfl)
  · exact h.ext (x.alloc _)

/-- The entry of a table at a pair of grades. -/
def Sys.idx (s : Sys) (a b : Int) : Nat := (a * s.n + b).toNat
def Sys.add (s : Sys) (a b : Int) : Int := s.plus.getD (s.idx a b) 0
def Sys.mul (s : Sys) (a b : Int) : Int := s.times.getD (s.idx a b) 0
def Sys.le (s : Sys) (a b : Int) : Bool := s.below.getD (s.idx a b) false

/-- A grade of s. -/
def G (s : Sys) (a : Int) : Prop := 0 ≤ a ∧ a < s.n

/-- The tables have their form. -/
structure Tables (s : Sys) : Prop where
  lo : 2 ≤ s.n
  hi : s.n ≤ 16
  lp : (s.plus.length : Int) = s.n * s.n
  lt : (s.times.length : Int) = s.n * s.n
  lb : (s.below.length : Int) = s.n * s.n
  rp : ∀ g ∈ s.plus, 0 ≤ g ∧ g < s.n
  rt : ∀ g ∈ s.times, 0 ≤ g ∧ g < s.n

theorem idx_facts {n a b : Int} (hlo : 2 ≤ n) (hhi : n ≤ 16) (ha : 0 ≤ a ∧ a < n) (hb : 0 ≤ b ∧ b < n) :
    0 ≤ a * n ∧ a * n ≤ 240 ∧ 0 ≤ a * n + b ∧ a * n + b < n * n ∧ n * n ≤ 256 := by
  have h1 : 0 ≤ a * n := Int.mul_nonneg ha.1 (by omega)
  have h2 : a * n ≤ (n - 1) * n := Int.mul_le_mul_of_nonneg_right (by omega) (by omega)
  have h3 : (n - 1) * n = n * n - n := by rw [Int.sub_mul]; omega
  have h4 : n * n ≤ 16 * n := Int.mul_le_mul_of_nonneg_right (by omega) (by omega)
  have h5 : a * n ≤ 15 * n := Int.mul_le_mul_of_nonneg_right (by omega) (by omega)
  omega

theorem Sys.idx_lt {s : Sys} {a b : Int} (hlo : 2 ≤ s.n) (hhi : s.n ≤ 16) (ha : G s a) (hb : G s b) {k : Nat} (hk : (k : Int) = s.n * s.n) : s.idx a b < k := by
  have h := idx_facts hlo hhi ha hb
  unfold Sys.idx
  generalize s.n * s.n = m at *
  generalize a * s.n = q at *
  omega

theorem Tables.addG {s : Sys} (t : Tables s) {a b : Int} (ha : G s a) (hb : G s b) : G s (s.add a b) := by
  have h := Sys.idx_lt t.lo t.hi ha hb t.lp
  unfold Sys.add
  rw [List.getD_eq_getElem?_getD, List.getElem?_eq_getElem h]
  exact t.rp _ (List.getElem_mem h)
theorem Tables.mulG {s : Sys} (t : Tables s) {a b : Int} (ha : G s a) (hb : G s b) : G s (s.mul a b) := by
  have h := Sys.idx_lt t.lo t.hi ha hb t.lt
  unfold Sys.mul
  rw [List.getD_eq_getElem?_getD, List.getElem?_eq_getElem h]
  exact t.rt _ (List.getElem_mem h)

end Go.Proofs.Ytkokmpdmmfghhaa
/- What the rows' arguments read as: a system, a slice of numbers. -/
set_option linter.unusedVariables false
namespace Go.Proofs.Ytkokmpdmmfghhaa
open Go.RowKit Go.ChangeShapes Go.WideShapes Go.ChangeAt

open Go.ChangeShapes Go.WideShapes Go.ChangeAt
theorem laidOut : laidOutB Try.prog = true := by kernel_rfl
theorem own : ownKnob Try.prog.godebug = none := by kernel_rfl

section
variable {H : Type} {enc : TypeId × Value → H} {w : World}
theorem row_of_cells {α : Type} {mk : α → Value} {a : Addr} {l : List α} {len : Nat} {f : Nat → α} (hl : l.length = len) (hf : ∀ i (h : i < l.length), l[i] = f i) (h : ∀ i, i < len → w.cell? (a.add i) = some (mk (f i))) : Row w mk (some a) l := by
  by_cases h0 : len = 0
  · exact .inl (List.eq_nil_of_length_eq_zero (by omega))
  · have hc := h 0 (by omega)
    obtain ⟨b, o, spot⟩ := a
    have hspot : spot = none := by simpa [Addr.add] using World.cell?_spot hc
    subst hspot
    refine .inr ⟨b, o, rfl, fun i x hx => ?_⟩
    obtain ⟨hi, hx⟩ := List.getElem?_eq_some_iff.1 hx
    rw [← add_plain, h i (by omega), ← hx, hf i hi]
end

end Go.Proofs.Ytkokmpdmmfghhaa
/- A code that comes in: bytes in a row. -/
namespace Go.Proofs.Ytkokmpdmmfghhaa
open Go.RowKit Go.ChangeShapes Go.WideShapes Go.ChangeAt

variable {H : Type} {enc : TypeId × Value → H} {w : World}
theorem open_code {b0 : Nat} {v : Value} {d : DataW H} {p : List MemPlace} (hv : Value.okWide Try.prog w .any b0 22 v) (h : DataW.Trod enc Try.prog w 0 (fun _ => true) true 22 v d p) :
    ∃ (a : Option Addr) (cap : Nat) (l : List Int), v = .slice a l.length cap ∧ Row w (Value.int .u8) a l ∧ (∀ u ∈ l, 0 ≤ u ∧ u ≤ 255) ∧ (∀ q, a = some q → q.block < w.heap.size) := by
  obtain ⟨a0, len0, cap0, rfl⟩ := okWide_slice Try.underlying22 hv
  have hlt : ∀ q, a0 = some q → q.block < w.heap.size := fun q hq => by
    subst hq
    simp only [Value.okWide, Try.underlying22, Cell.okWide, Cell.ok] at hv
    obtain ⟨_, _, _, _, row, cells, hs, _⟩ := hv
    unfold World.shape? at hs
    cases e : w.heap[q.block]? with
    | none => rw [e] at hs; cases hs
    | some o => exact (Array.getElem?_eq_some_iff.1 e).1
  obtain ⟨fuel, h⟩ := h
  rcases open_ints Try.underlying22 Try.underlying5 (by kernel_rfl) h with ⟨hcs, _⟩ | ⟨a, len, cap, zs, hcs, _, hl, hm, hz, _, hcell, hwz⟩
  · simp [Value.cells] at hcs
    obtain ⟨rfl, rfl, rfl⟩ := hcs
    exact ⟨none, 0, [], rfl, .inl rfl, by simp, by simp⟩
  · simp [Value.cells] at hcs hz
    obtain ⟨rfl, rfl, rfl⟩ := hcs
    have e : (zs.take len0).length = len0 := by simp; omega
    refine ⟨some a, cap0, zs.take len0, by rw [e], row_of_cells e (f := fun i => zs.getD i 0) (fun i hi => ?_) (fun i hi => hcell i (by omega)), fun u hu => ?_, hlt⟩
    · rw [List.getElem_take]; simp [List.getD_eq_getElem?_getD, List.getElem?_eq_getElem (show i < zs.length by omega)]
    · have := hwz u (List.mem_of_mem_take hu)
      simp [Lit.wf] at this
      exact ⟨Int.le_trans (by decide) this.1, Int.le_trans this.2 (by decide)⟩

end Go.Proofs.Ytkokmpdmmfghhaa
/- Worlds, blocks and owned rows, plainly; two facts of the program's table of types. -/
namespace Go.Proofs.Ytkokmpdmmfghhaa
open Go.RowKit

theorem info_int : (Try.prog.info? 3).map (fun i => (i.zero, i.size, i.bytes)) = some (some (.int .i64 0), 1, 8) := by kernel_rfl
theorem info_bool : (Try.prog.info? 4).map (fun i => (i.zero, i.size, i.bytes)) = some (some (.bool false), 1, 1) := by kernel_rfl

theorem owns_lower {w : World} {base base' : Nat} {e : TypeId} {size : Nat} {v : Value} {n : Nat} {xs : List Value} (h : w.ownsRow base e size v n xs) (hb : base' ≤ base) : w.ownsRow base' e size v n xs := by
  obtain ⟨h1, h2⟩ := h
  refine ⟨h1, ?_⟩
  rcases h2 with h2 | ⟨g, cap, cur, hv, hg, r⟩
  · exact .inl h2
  · exact .inr ⟨g, cap, cur, hv, by omega, r⟩

/-- What is owned reads as a row. -/
theorem owned_row {α : Type} {w : World} {base : Nat} {E : TypeId} {mk : α → Value} {v : Value} {l : List α} (h : w.ownsRow base E 1 v l.length (l.map mk)) :
    ∃ a c, v = .slice a l.length c ∧ Row w mk a l ∧ ∀ p, a = some p → base ≤ p.block ∧ p.block < w.heap.size := by
  rcases h.2 with ⟨rfl, hn⟩ | ⟨g, cap, cur, rfl, hg, hh, r1, r2, r3, r4⟩
  · refine ⟨none, 0, by rw [hn], .inl (List.eq_nil_of_length_eq_zero hn), fun p hp => by cases hp⟩
  · refine ⟨_, cap, rfl, .inr ⟨g, 0, rfl, fun i x hx => ?_⟩, fun p hp => by cases hp; exact ⟨hg, by have := Array.getElem?_eq_some_iff.1 hh; exact this.1⟩⟩
    have hi : i < l.length := by
      by_cases hi : i < l.length
      · exact hi
      · rw [List.getElem?_eq_none (by omega)] at hx; cases hx
    rw [Nat.zero_add, h.cellAt i (by omega), List.getElem?_map, hx]; rfl

theorem blocks3 {w w3 : World} {o1 o2 o3 : Obj} {B : Nat} (hB : w.heap.size = B) (h : ((w.alloc o1).alloc o2).alloc o3 = w3) :
    w3.heap[B]? = some o1 ∧ w3.heap[B + 1]? = some o2 ∧ w3.heap[B + 1 + 1]? = some o3 ∧ w3.heap.size = B + 3 ∧ Below w.heap.size w w3 := by
  subst h; subst hB
  refine ⟨?_, ?_, ?_, by simp, ?_⟩
  · show (((w.heap.push o1).push o2).push o3)[w.heap.size]? = _
    rw [Array.getElem?_push, if_neg (by simp; omega), Array.getElem?_push, if_neg (by simp), Array.getElem?_push, if_pos rfl]
  · show (((w.heap.push o1).push o2).push o3)[w.heap.size + 1]? = _
    rw [Array.getElem?_push, if_neg (by simp), Array.getElem?_push, if_pos (by simp)]
  · show (((w.heap.push o1).push o2).push o3)[w.heap.size + 1 + 1]? = _
    rw [Array.getElem?_push, if_pos (by simp)]
  · exact (((Below.refl _ _).alloc (Nat.le_refl _) _).alloc (by simp) _).alloc (by simp; omega) _

theorem blk_cell {w : World} {g : Nat} {cur : Array Value} {e : TypeId} (h : w.heap[g]? = some (.cells cur e (0, 0))) (j : Nat) : w.cell? ⟨g, j, none⟩ = cur[j]? := cell_of_row w g j cur e (0, 0) h
theorem blk_free {w : World} {g : Nat} {cur : Array Value} {e : TypeId} (h : w.heap[g]? = some (.cells cur e (0, 0))) (j : Nat) : w.frozen? ⟨g, j, none⟩ = false := frozen_of_row w g j cur e h
theorem Ext.blk {W : World} (y : Ext W) {k : Nat} {o : Obj} (h : W.heap[k]? = some o) : y.w.heap[k]? = some o := by
  have hk : k < W.heap.size := (Array.getElem?_eq_some_iff.1 h).1
  rw [y.below.block k hk]; exact h
theorem set_blk {w w' : World} {g : Nat} {cur : Array Value} {e : TypeId} (h : w.heap[g]? = some (.cells cur e (0, 0))) (j : Nat) (u : Value) (hw : w.setCell ⟨g, j, none⟩ u = w') :
    w'.heap[g]? = some (.cells (cur.setIfInBounds j u) e (0, 0)) := by subst hw; exact heap_setCell_same w g j cur e u h
theorem set_other {w w' : World} {g j : Nat} {u : Value} (hw : w.setCell ⟨g, j, none⟩ u = w') {k : Nat} (hk : k ≠ g) : w'.heap[k]? = w.heap[k]? := by
  subst hw; exact Below.heap_setCell _ _ _ _ hk

/-- A row that lies below a block number stays where nothing below it turns. -/
theorem row_keep {α : Type} {w w' : World} {mk : α → Value} {a : Option Addr} {l : List α} (h : Row w mk a l) (hk : ∀ p, a = some p → w'.heap[p.block]? = w.heap[p.block]?) : Row w' mk a l := by
  rcases h with h | ⟨b, o, ha, hc⟩
  · exact .inl h
  · refine .inr ⟨b, o, ha, fun i x hx => ?_⟩
    rw [World.cell?_of_block (w := w) (a := ⟨b, o + i, none⟩) (show w'.heap[b]? = w.heap[b]? from hk ⟨b, o, none⟩ ha)]
    exact hc i x hx

theorem boxed2 {W W1 : World} {r r' : Ref} {s s' : Sys} (h : SysIn W r s) (h' : SysIn W r' s') (x : Ext W) {T T' : TypeId} {B : Nat} (hB : x.w.heap.size = B)
    (hW : (x.w.alloc (.cells #[.int .i64 s.n, .slice r.pa s.plus.length r.pc, .slice r.ta s.times.length r.tc, .slice r.ba s.below.length r.bc] T)).alloc
      (.cells #[.int .i64 s'.n, .slice r'.pa s'.plus.length r'.pc, .slice r'.ta s'.times.length r'.tc, .slice r'.ba s'.below.length r'.bc] T') = W1) :
    (∀ y : Ext W1, y.w.cell? ⟨B, 0, none⟩ = some (.int .i64 s.n)) ∧ (∀ y : Ext W1, y.w.cell? ⟨B, 1, none⟩ = some (.slice r.pa s.plus.length r.pc)) ∧
    (∀ y : Ext W1, y.w.cell? ⟨B, 2, none⟩ = some (.slice r.ta s.times.length r.tc)) ∧ (∀ y : Ext W1, y.w.cell? ⟨B, 3, none⟩ = some (.slice r.ba s.below.length r.bc)) ∧
    (∀ y : Ext W1, y.w.cell? ⟨B + 1, 0, none⟩ = some (.int .i64 s'.n)) ∧ (∀ y : Ext W1, y.w.cell? ⟨B + 1, 1, none⟩ = some (.slice r'.pa s'.plus.length r'.pc)) ∧
    (∀ y : Ext W1, y.w.cell? ⟨B + 1, 2, none⟩ = some (.slice r'.ta s'.times.length r'.tc)) ∧ (∀ y : Ext W1, y.w.cell? ⟨B + 1, 3, none⟩ = some (.slice r'.ba s'.below.length r'.bc)) ∧
    SysIn W1 r s ∧ SysIn W1 r' s' ∧ (∀ y : Ext W1, ∃ z : Ext W, y.w = z.w) ∧ ∃ y0 : Ext W1, y0.w = W1 := by
  obtain ⟨a0, a1, a2, a3, g1, gb, y0, hy0⟩ := boxed h x (W1 := x.w.alloc _) hB rfl
  obtain ⟨b0, b1, b2, b3, g2, gb2, y1, hy1⟩ := boxed (h'.ext (x.alloc _)) (Ext.self (x.w.alloc _)) (T := T') (B := B + 1) (by rw [← hB]; simp) hW
  have hf : ∀ y : Ext W1, ∃ z : Ext (x.w.alloc (.cells #[.int .i64 s.n, .slice r.pa s.plus.length r.pc, .slice r.ta s.times.length r.tc, .slice r.ba s.below.length r.bc] T)), y.w = z.w := gb2
  refine ⟨?_, ?_, ?_, ?_, b0, b1, b2, b3, ?_, g2, ?_, y1, hy1⟩
  · intro y; obtain ⟨z, hz⟩ := hf y; rw [hz]; exact a0 z
  · intro y; obtain ⟨z, hz⟩ := hf y; rw [hz]; exact a1 z
  · intro y; obtain ⟨z, hz⟩ := hf y; rw [hz]; exact a2 z
  · intro y; obtain ⟨z, hz⟩ := hf y; rw [hz]; exact a3 z
  · obtain ⟨z, hz⟩ := hf y1; rw [← hy1, hz]; exact g1.ext z
  · intro y; obtain ⟨z, hz⟩ := hf y; obtain ⟨u, hu⟩ := gb z; exact ⟨u, by rw [hz, hu]⟩

theorem blocks2 {w w2 : World} {o1 o2 : Obj} {B : Nat} (hB : w.heap.size = B) (h : (w.alloc o1).alloc o2 = w2) :
    w2.heap[B]? = some o1 ∧ w2.heap[B + 1]? = some o2 ∧ w2.heap.size = B + 2 ∧ Below w.heap.size w w2 := by
  subst h; subst hB
  refine ⟨?_, ?_, by simp, ?_⟩
  · show ((w.heap.push o1).push o2)[w.heap.size]? = _
    rw [Array.getElem?_push, if_neg (by simp), Array.getElem?_push, if_pos rfl]
  · show ((w.heap.push o1).push o2)[w.heap.size + 1]? = _
    rw [Array.getElem?_push, if_pos (by simp)]
  · exact ((Below.refl _ _).alloc (Nat.le_refl _) _).alloc (by simp) _

/-- A system and the two numbers that are handed on as a list. -/
theorem boxedRow {W W1 : World} {r : Ref} {s : Sys} (h : SysIn W r s) (x : Ext W) {T T' : TypeId} {B : Nat} {a b : Int} (hB : x.w.heap.size = B)
    (hW : (x.w.alloc (.cells #[.int .i64 s.n, .slice r.pa s.plus.length r.pc, .slice r.ta s.times.length r.tc, .slice r.ba s.below.length r.bc] T)).alloc (.cells #[.int .i64 a, .int .i64 b] T') = W1) :
    (∀ y : Ext W1, y.w.cell? ⟨B, 0, none⟩ = some (.int .i64 s.n)) ∧ (∀ y : Ext W1, y.w.cell? ⟨B, 1, none⟩ = some (.slice r.pa s.plus.length r.pc)) ∧
    (∀ y : Ext W1, y.w.cell? ⟨B, 2, none⟩ = some (.slice r.ta s.times.length r.tc)) ∧ (∀ y : Ext W1, y.w.cell? ⟨B, 3, none⟩ = some (.slice r.ba s.below.length r.bc)) ∧
    SysIn W1 r s ∧ Row W1 (Value.int .i64) (some ⟨B + 1, 0, none⟩) [a, b] ∧ (∀ y : Ext W1, ∃ z : Ext W, y.w = z.w) ∧ ∃ y0 : Ext W1, y0.w = W1 := by
  obtain ⟨b1, b2, _, bel⟩ := blocks2 hB hW
  have f : ∀ j, W1.cell? ⟨B, j, none⟩ = _ := fun j => cell_of_row _ _ j _ _ _ b1
  have g : ∀ j, W1.cell? ⟨B + 1, j, none⟩ = _ := fun j => cell_of_row _ _ j _ _ _ b2
  refine ⟨fun y => y.cell (by rw [f]; rfl), fun y => y.cell (by rw [f]; rfl), fun y => y.cell (by rw [f]; rfl), fun y => y.cell (by rw [f]; rfl), h.ext (x.on bel), .inr ⟨B + 1, 0, rfl, fun i u hu => ?_⟩, fun y => ⟨x.on (bel.trans (y.below.mono bel.size)), rfl⟩, Ext.self _, rfl⟩
  rw [Nat.zero_add, g]
  match i, hu with
  | 0, hu => simp at hu; subst hu; rfl
  | 1, hu => simp at hu; subst hu; rfl

theorem owns_ext {w : World} {base : Nat} {e : TypeId} {size : Nat} {v : Value} {n : Nat} {xs : List Value} (h : w.ownsRow base e size v n xs) (z : Ext w) : z.w.ownsRow base e size v n xs := by
  obtain ⟨h1, h2⟩ := h
  refine ⟨h1, ?_⟩
  rcases h2 with h2 | ⟨g, cap, cur, hv, hb, hg, r⟩
  · exact .inl h2
  · exact .inr ⟨g, cap, cur, hv, hb, z.blk hg, r⟩

end Go.Proofs.Ytkokmpdmmfghhaa
/- What the laws' walks end in. -/
namespace Go.Proofs.Ytkokmpdmmfghhaa
open Go.RowKit
/-- A law's walk ends: true; nothing that was there has changed. -/
def LawEnd (W : World) : Ending → World → Prop := fun e w' => e = .returned (.bool true) ∧ Below W.heap.size W w'
theorem law_end {W : World} {w : World} (hz : ∃ z : Ext W, w = z.w) : LawEnd W (.returned (.bool true)) w := by
  obtain ⟨z, rfl⟩ := hz
  exact ⟨rfl, z.below⟩

end Go.Proofs.Ytkokmpdmmfghhaa
/- What the laws take from a code: whether it is big, a byte of it. -/
namespace Go.Proofs.Ytkokmpdmmfghhaa
open Go.RowKit

theorem big_ans {W : World} {a : Option Addr} {c n : Nat} (b : Bool) (hb : decide ((n : Int) > 1048576) = b) (x : Ext W) : Calls Try.prog 11 #[.slice a n c] x.w (Ans W (.bool b)) := by
  subst hb
  go_enter Try.func11, Try.ntmps11
  go_wp2
  go_ret
  exact ⟨rfl, x, rfl⟩

end Go.Proofs.Ytkokmpdmmfghhaa
/- What a system is, plainly: the laws of grades, as the program's own checks part them and as the model's do. -/
namespace Go.Proofs.Ytkokmpdmmfghhaa

/-- v is the first number below n of which P holds; -1 if there is none. -/
def IsFirst (n : Int) (P : Int → Prop) (v : Int) : Prop :=
  (0 ≤ v ∧ v < n ∧ P v ∧ ∀ i, 0 ≤ i → i < v → ¬ P i) ∨ (v = -1 ∧ ∀ i, 0 ≤ i → i < n → ¬ P i)

theorem isFirst_ex (n : Int) (P : Int → Prop) : ∃ v, IsFirst n P v := by
  by_cases h : ∃ i : Nat, (i : Int) < n ∧ P i
  · obtain ⟨i, hi⟩ := h
    induction i using Nat.strongRecOn with
    | _ i ih =>
      by_cases h2 : ∃ j : Nat, j < i ∧ P j
      · obtain ⟨j, hj, hp⟩ := h2
        exact ih j hj ⟨by omega, hp⟩
      · refine ⟨i, .inl ⟨by omega, hi.1, hi.2, fun k hk0 hk hp => h2 ⟨k.toNat, by omega, ?_⟩⟩⟩
        rw [show ((k.toNat : Nat) : Int) = k by omega]; exact hp
  · refine ⟨-1, .inr ⟨rfl, fun i h0 hi hp => h ⟨i.toNat, by omega, ?_⟩⟩⟩
    rw [show ((i.toNat : Nat) : Int) = i by omega]; exact hp

theorem isFirst_one {n : Int} {P : Int → Prop} {v u : Int} (h : IsFirst n P v) (k : IsFirst n P u) : v = u := by
  rcases h with ⟨h0, h1, h2, h3⟩ | ⟨h1, h2⟩ <;> rcases k with ⟨k0, k1, k2, k3⟩ | ⟨k1, k2⟩
  · rcases Int.lt_trichotomy v u with h | h | h
    · exact absurd h2 (k3 v h0 h)
    · exact h
    · exact absurd k2 (h3 u k0 h)
  · exact absurd h2 (k2 v h0 h1)
  · exact absurd k2 (h2 u k0 k1)
  · omega

noncomputable def firstI (n : Int) (P : Int → Prop) : Int := Classical.choose (isFirst_ex n P)
theorem firstI_is (n : Int) (P : Int → Prop) : IsFirst n P (firstI n P) := Classical.choose_spec (isFirst_ex n P)
theorem firstI_eq {n : Int} {P : Int → Prop} {v : Int} (h : IsFirst n P v) : v = firstI n P := isFirst_one h (firstI_is n P)
theorem firstI_congr {n : Int} {P Q : Int → Prop} (h : ∀ i, 0 ≤ i → i < n → (P i ↔ Q i)) : firstI n P = firstI n Q := by
  apply firstI_eq
  rcases firstI_is n P with ⟨h0, h1, h2, h3⟩ | ⟨h1, h2⟩
  · exact .inl ⟨h0, h1, (h _ h0 h1).1 h2, fun i hi0 hi hq => h3 i hi0 hi ((h i hi0 (by omega)).2 hq)⟩
  · exact .inr ⟨h1, fun i hi0 hi hq => h2 i hi0 hi ((h i hi0 hi).2 hq)⟩

variable (s : Sys)

def JoinAt (a b g : Int) : Prop := s.le a g = true ∧ s.le b g = true ∧ ∀ h, G s h → s.le a h = true → s.le b h = true → s.le g h = true
noncomputable def Sys.join (a b : Int) : Int := firstI s.n (JoinAt s a b)

structure One (a : Int) : Prop where
  z : s.add 0 a = a
  o1 : s.mul 1 a = a
  o2 : s.mul a 1 = a
  z1 : s.mul 0 a = 0
  z2 : s.mul a 0 = 0
  rf : s.le a a = true

structure Two (a b : Int) : Prop where
  comm : s.add a b = s.add b a
  anti : a = b ∨ s.le a b = false ∨ s.le b a = false
  join : 0 ≤ s.join a b

structure Three (a b c : Int) : Prop where
  aa : s.add (s.add a b) c = s.add a (s.add b c)
  mm : s.mul (s.mul a b) c = s.mul a (s.mul b c)
  dl : s.mul a (s.add b c) = s.add (s.mul a b) (s.mul a c)
  dr : s.mul (s.add a b) c = s.add (s.mul a c) (s.mul b c)
  tr : s.le a b = true → s.le b c = true → s.le a c = true
  ka : s.le a b = true → s.le (s.add a c) (s.add b c) = true
  k1 : s.le a b = true → s.le (s.mul a c) (s.mul b c) = true
  k2 : s.le a b = true → s.le (s.mul c a) (s.mul c b) = true

structure IsSys : Prop where
  tab : Tables s
  one : ∀ a, G s a → One s a
  two : ∀ a b, G s a → G s b → Two s a b
  three : ∀ a b c, G s a → G s b → G s c → Three s a b c

/-- The program's own checks. -/
def SumAt2 (a b c : Int) : Prop := s.add (s.add a b) c = s.add a (s.add b c)
def SumAt1 (a b : Int) : Prop := s.add a b = s.add b a ∧ ∀ c, G s c → SumAt2 s a b c
def SumAt (a : Int) : Prop := s.add 0 a = a ∧ ∀ b, G s b → SumAt1 s a b
def Sums : Prop := ∀ a, G s a → SumAt s a
def ProdAt2 (a b c : Int) : Prop := s.mul (s.mul a b) c = s.mul a (s.mul b c)
def ProdAt1 (a b : Int) : Prop := ∀ c, G s c → ProdAt2 s a b c
def ProdAt (a : Int) : Prop := s.mul 1 a = a ∧ s.mul a 1 = a ∧ s.mul 0 a = 0 ∧ s.mul a 0 = 0 ∧ ∀ b, G s b → ProdAt1 s a b
def Prods : Prop := ∀ a, G s a → ProdAt s a
def DistAt2 (a b c : Int) : Prop := s.mul a (s.add b c) = s.add (s.mul a b) (s.mul a c) ∧ s.mul (s.add a b) c = s.add (s.mul a c) (s.mul b c)
def DistAt1 (a b : Int) : Prop := ∀ c, G s c → DistAt2 s a b c
def DistAt (a : Int) : Prop := ∀ b, G s b → DistAt1 s a b
def Dists : Prop := ∀ a, G s a → DistAt s a
def OrdAt1 (a b : Int) : Prop := s.le a b = true → (a = b ∨ s.le b a = false) ∧ ∀ c, G s c → s.le b c = true → s.le a c = true
def OrdAt (a : Int) : Prop := s.le a a = true ∧ ∀ b, G s b → OrdAt1 s a b
def Ords : Prop := ∀ a, G s a → OrdAt s a
def KeptAt2 (a b c : Int) : Prop := s.le (s.add a c) (s.add b c) = true ∧ s.le (s.mul a c) (s.mul b c) = true ∧ s.le (s.mul c a) (s.mul c b) = true
def KeptAt1 (a b : Int) : Prop := s.le a b = true → ∀ c, G s c → KeptAt2 s a b c
def KeptAt (a : Int) : Prop := ∀ b, G s b → KeptAt1 s a b
def Kepts : Prop := ∀ a, G s a → KeptAt s a
def JoinsAt (a : Int) : Prop := ∀ b, G s b → 0 ≤ s.join a b
def Joins : Prop := ∀ a, G s a → JoinsAt s a

theorem isSys_parts : IsSys s ↔ Tables s ∧ Sums s ∧ Prods s ∧ Dists s ∧ Ords s ∧ Kepts s ∧ Joins s := by
  constructor
  · rintro ⟨t, h1, h2, h3⟩
    refine ⟨t, ?_, ?_, ?_, ?_, ?_, ?_⟩
    · exact fun a ha => ⟨(h1 a ha).z, fun b hb => ⟨(h2 a b ha hb).comm, fun c hc => (h3 a b c ha hb hc).aa⟩⟩
    · exact fun a ha => ⟨(h1 a ha).o1, (h1 a ha).o2, (h1 a ha).z1, (h1 a ha).z2, fun b hb c hc => (h3 a b c ha hb hc).mm⟩
    · exact fun a ha b hb c hc => ⟨(h3 a b c ha hb hc).dl, (h3 a b c ha hb hc).dr⟩
    · refine fun a ha => ⟨(h1 a ha).rf, fun b hb hl => ⟨?_, fun c hc => (h3 a b c ha hb hc).tr hl⟩⟩
      rcases (h2 a b ha hb).anti with h | h | h
      · exact .inl h
      · rw [h] at hl; cases hl
      · exact .inr h
    · exact fun a ha b hb hl c hc => ⟨(h3 a b c ha hb hc).ka hl, (h3 a b c ha hb hc).k1 hl, (h3 a b c ha hb hc).k2 hl⟩
    · exact fun a ha b hb => (h2 a b ha hb).join
  · rintro ⟨t, h1, h2, h3, h4, h5, h6⟩
    refine ⟨t, fun a ha => ?_, fun a b ha hb => ?_, fun a b c ha hb hc => ?_⟩
    · obtain ⟨p1, p2, p3, p4, _⟩ := h2 a ha
      exact ⟨(h1 a ha).1, p1, p2, p3, p4, (h4 a ha).1⟩
    · refine ⟨((h1 a ha).2 b hb).1, ?_, h6 a ha b hb⟩
      cases hl : s.le a b
      · exact .inr (.inl rfl)
      · rcases ((h4 a ha).2 b hb hl).1 with h | h
        · exact .inl h
        · exact .inr (.inr h)
    · exact ⟨((h1 a ha).2 b hb).2 c hc, (h2 a ha).2.2.2.2 b hb c hc, (h3 a ha b hb c hc).1, (h3 a ha b hb c hc).2,
        fun hl hm => ((h4 a ha).2 b hb hl).2 c hc hm, fun hl => (h5 a ha b hb hl c hc).1, fun hl => (h5 a ha b hb hl c hc).2.1, fun hl => (h5 a ha b hb hl c hc).2.2⟩

/-- Upwards over the grades: 'all below k', as a loop holds it. -/
def Upto (k : Nat) (P : Int → Prop) : Prop := ∀ i, 0 ≤ i → i < (k : Int) → P i
theorem Upto.zero (P : Int → Prop) : Upto 0 P := fun i h0 h1 => by omega
theorem Upto.succ {k : Nat} {P : Int → Prop} (h : Upto k P) (hk : P k) : Upto (k + 1) P := fun i h0 h1 => by
  by_cases e : i = k
  · rw [e]; exact hk
  · exact h i h0 (by omega)
theorem Upto.all {k : Nat} {P : Int → Prop} (h : Upto k P) (hk : s.n ≤ k) : ∀ a, G s a → P a := fun a ha => h a ha.1 (by have := ha.2; omega)

end Go.Proofs.Ytkokmpdmmfghhaa
/- Pairs of grades, plainly. -/
namespace Go.Proofs.Ytkokmpdmmfghhaa
open Go.RowKit

/-- The place of a pair among the pairs in lexicographic order, and its number. -/
def placeN (n g : Int) : Int := if g = 1 then n + 1 else if 1 < g ∧ g ≤ n + 1 then g - 1 else g
def pairN (n x y : Int) : Int := if x * n + y = n + 1 then 1 else if 0 < x * n + y ∧ x * n + y < n + 1 then x * n + y + 1 else x * n + y
def firstN (n g : Int) : Int := placeN n g / n
def secondN (n g : Int) : Int := placeN n g % n
theorem mul_bounds {x n : Int} (hx0 : 0 ≤ x) (hx : x < 16) (hn0 : 0 ≤ n) (hn : n ≤ 16) : 0 ≤ x * n ∧ x * n ≤ 240 := by
  have h1 : 0 ≤ x * n := Int.mul_nonneg hx0 hn0
  have h2 : x * n ≤ 15 * n := Int.mul_le_mul_of_nonneg_right (by omega) hn0
  omega
def HasProduct (A B : Sys) : Prop := IsSys A ∧ IsSys B ∧ A.n * B.n ≤ 16

end Go.Proofs.Ytkokmpdmmfghhaa
/- Blocks of slices; worlds that differ in some blocks alone. Nothing is walked here. -/
namespace Go.Proofs.Ytkokmpdmmfghhaa
open Go.RowKit

/-- The block of a slice. -/
def ob : Option Addr → Option Nat | none => none | some a => some a.block
theorem ob_eq (a : Option Addr) (n c : Nat) : (Value.slice a n c).ownBlock = ob a := by cases a <;> rfl
theorem owns_of_block {w w' : World} {base : Nat} {e : TypeId} {size : Nat} {v : Value} {n : Nat} {xs : List Value} (h : w.ownsRow base e size v n xs) (hk : ∀ g, v.ownBlock = some g → w'.heap[g]? = w.heap[g]?) : w'.ownsRow base e size v n xs := by
  obtain ⟨h1, h2⟩ := h
  refine ⟨h1, ?_⟩
  rcases h2 with h2 | ⟨g, cap, cur, hv, hb, hg, r⟩
  · exact .inl h2
  · subst hv
    exact .inr ⟨g, cap, cur, rfl, hb, (hk g rfl).trans hg, r⟩
theorem owns_at {w : World} {base : Nat} {e : TypeId} {size : Nat} {a : Option Addr} {n c : Nat} {xs : List Value} (h : w.ownsRow base e size (.slice a n c) n xs) (hn : 0 < n) : ∃ g, a = some ⟨g, 0, none⟩ ∧ ob a = some g := by
  rcases h.2 with ⟨_, rfl⟩ | ⟨g, cap, cur, e, _⟩
  · omega
  · cases e; exact ⟨g, rfl, rfl⟩

/-- All blocks but those in B are as they were. -/
structure Only (w w' : World) (B : Nat → Prop) : Prop where
  os : w'.os = w.os
  tape : w'.tape = w.tape
  output : w'.output = w.output
  size : w.heap.size ≤ w'.heap.size
  block : ∀ g, g < w.heap.size → ¬ B g → w'.heap[g]? = w.heap[g]?
theorem Only.refl (w : World) (B : Nat → Prop) : Only w w B := ⟨rfl, rfl, rfl, Nat.le_refl _, fun _ _ _ => rfl⟩
theorem Only.trans {w w' w'' : World} {B : Nat → Prop} (h : Only w w' B) (k : Only w' w'' B) : Only w w'' B :=
  ⟨k.os.trans h.os, k.tape.trans h.tape, k.output.trans h.output, Nat.le_trans h.size k.size, fun g hg hn => (k.block g (Nat.lt_of_lt_of_le hg h.size) hn).trans (h.block g hg hn)⟩
theorem Only.mono {w w' : World} {B B' : Nat → Prop} (h : Only w w' B) (hb : ∀ g, g < w.heap.size → B g → B' g) : Only w w' B' :=
  ⟨h.os, h.tape, h.output, h.size, fun g hg hn => h.block g hg (fun q => hn (hb g hg q))⟩
theorem Only.grown {w w' : World} {o : Option Nat} {B : Nat → Prop} (h : w.grownBy w' o) (hb : ∀ g, o = some g → B g) : Only w w' B :=
  ⟨h.os, h.tape, h.output, h.size, fun g hg hn => h.block g hg (fun e => hn (hb g e.symm))⟩
theorem Only.alloc (w : World) (o : Obj) (B : Nat → Prop) : Only w (w.alloc o) B := ⟨rfl, rfl, rfl, by simp, fun g hg _ => by show (w.heap.push o)[g]? = _; rw [Array.getElem?_push_lt hg, Array.getElem?_eq_getElem hg]⟩
theorem Only.of {w w' : World} (h : Below w.heap.size w w') (B : Nat → Prop) : Only w w' B := ⟨h.os, h.tape, h.output, h.size, fun g hg _ => h.block g hg⟩
theorem Only.below {w w' : World} {B : Nat → Prop} {n : Nat} (h : Only w w' B) (hb : ∀ g, B g → n ≤ g) (hn : n ≤ w.heap.size) : Below n w w' :=
  ⟨h.os, h.tape, h.output, h.size, fun g hg => h.block g (by omega) (fun q => by have := hb g q; omega)⟩

end Go.Proofs.Ytkokmpdmmfghhaa
/- The laws' marks of a system. -/
namespace Go.Proofs.Ytkokmpdmmfghhaa
open Go.RowKit

def Apart (v u : Value) : Prop := v.ownBlock = none ∨ v.ownBlock ≠ u.ownBlock
theorem Apart.symm {v u : Value} (h : Apart v u) : Apart u v := by
  unfold Apart at *
  cases hv : v.ownBlock <;> cases hu : u.ownBlock <;> simp_all
  exact fun e => h e.symm
/-- A system whose three tables lie in blocks of their own, from base on. -/
structure Own3 (w : World) (base : Nat) (r : Ref) (n1 n2 n3 : Nat) (x1 x2 x3 : List Value) : Prop where
  o1 : w.ownsRow base 3 1 (.slice r.pa n1 r.pc) n1 x1
  o2 : w.ownsRow base 3 1 (.slice r.ta n2 r.tc) n2 x2
  o3 : w.ownsRow base 4 1 (.slice r.ba n3 r.bc) n3 x3
  d12 : Apart (.slice r.pa n1 r.pc) (.slice r.ta n2 r.tc)
  d13 : Apart (.slice r.pa n1 r.pc) (.slice r.ba n3 r.bc)
  d23 : Apart (.slice r.ta n2 r.tc) (.slice r.ba n3 r.bc)
theorem Own3.ext {W : World} {base : Nat} {r : Ref} {n1 n2 n3 : Nat} {x1 x2 x3 : List Value} (h : Own3 W base r n1 n2 n3 x1 x2 x3) (y : Ext W) : Own3 y.w base r n1 n2 n3 x1 x2 x3 :=
  ⟨owns_ext h.o1 y, owns_ext h.o2 y, owns_ext h.o3 y, h.d12, h.d13, h.d23⟩
theorem Own3.lower {W : World} {base base' : Nat} {r : Ref} {n1 n2 n3 : Nat} {x1 x2 x3 : List Value} (h : Own3 W base r n1 n2 n3 x1 x2 x3) (hb : base' ≤ base) : Own3 W base' r n1 n2 n3 x1 x2 x3 :=
  ⟨owns_lower h.o1 hb, owns_lower h.o2 hb, owns_lower h.o3 hb, h.d12, h.d13, h.d23⟩
theorem own_row {α : Type} {w : World} {base : Nat} {E : TypeId} {mk : α → Value} {a : Option Addr} {c : Nat} {l : List α} (h : w.ownsRow base E 1 (.slice a l.length c) l.length (l.map mk)) : Row w mk a l := by
  obtain ⟨a', c', e, hr, _⟩ := owned_row h
  cases e
  exact hr
/-- A new system whose tables lie in blocks of their own. -/
def NewOwn (W : World) (s : Sys) : Ending → World → Prop := fun e w' => ∃ (r : Ref) (y : Ext W), e = .returned (r.val s) ∧ w' = y.w ∧
  Own3 y.w W.heap.size r s.plus.length s.times.length s.below.length (s.plus.map (Value.int .i64)) (s.times.map (Value.int .i64)) (s.below.map Value.bool)
theorem Own3.sys {w : World} {base : Nat} {r : Ref} {s : Sys} (h : Own3 w base r s.plus.length s.times.length s.below.length (s.plus.map (Value.int .i64)) (s.times.map (Value.int .i64)) (s.below.map Value.bool)) (sm : Small s) : SysIn w r s :=
  ⟨own_row h.o1, own_row h.o2, own_row h.o3, by have := sm.p; omega, by have := sm.t; omega, by have := sm.b; omega⟩

end Go.Proofs.Ytkokmpdmmfghhaa
/- A struct of four cells that is handed back through its cell. -/
namespace Go.Proofs.Ytkokmpdmmfghhaa
open Go.RowKit

theorem ret4 {W y Y4 : World} {B : Nat} {T : TypeId} {z0 z1 z2 z3 a0 a1 a2 a3 : Value} (hb : Below W.heap.size W y) (hB : W.heap.size ≤ B) (bA : y.heap[B]? = some (.cells #[z0, z1, z2, z3] T (0, 0)))
    (hY : (((y.setCell ⟨B, 0, none⟩ a0).setCell ⟨B, 1, none⟩ a1).setCell ⟨B, 2, none⟩ a2).setCell ⟨B, 3, none⟩ a3 = Y4) :
    Below W.heap.size W Y4 ∧ (∀ k, k ≠ B → Y4.heap[k]? = y.heap[k]?) ∧ y.grownBy Y4 (some B) ∧ Y4.cell? ⟨B, 0, none⟩ = some a0 ∧ Y4.cell? ⟨B, 1, none⟩ = some a1 ∧ Y4.cell? ⟨B, 2, none⟩ = some a2 ∧ Y4.cell? ⟨B, 3, none⟩ = some a3 := by
  have hsame : ∀ k, k ≠ B → Y4.heap[k]? = y.heap[k]? := fun k hk => by
    subst hY
    rw [set_other rfl hk, set_other rfl hk, set_other rfl hk, set_other rfl hk]
  have q5 := set_blk (set_blk (set_blk (set_blk bA 0 a0 rfl) 1 a1 rfl) 2 a2 rfl) 3 a3 hY
  simp at q5
  refine ⟨?_, hsame, ⟨?_, ?_, ?_, ?_, fun k _ hk => hsame k (fun e => hk (by rw [e]))⟩, blk_cell q5 0, blk_cell q5 1, blk_cell q5 2, blk_cell q5 3⟩
  · subst hY
    exact (((hb.setCell hB _).setCell hB _).setCell hB _).setCell hB _
  · subst hY; rfl
  · subst hY; rfl
  · subst hY; rfl
  · subst hY; simp

/-- A block of plain cells. -/
def PlainB (w : World) (g : Nat) : Prop := ∃ (cur : Array Value) (T : TypeId), w.heap[g]? = some (.cells cur T (0, 0))
theorem PlainB.free {w : World} {g : Nat} (h : PlainB w g) (j : Nat) : w.frozen? ⟨g, j, none⟩ = false := by
  obtain ⟨cur, T, h⟩ := h
  exact blk_free h j
theorem PlainB.lt {w : World} {g : Nat} (h : PlainB w g) : g < w.heap.size := by
  obtain ⟨cur, T, h⟩ := h
  exact (Array.getElem?_eq_some_iff.1 h).1
theorem SysIn.keep {w w' : World} {r : Ref} {s : Sys} {B : Nat} (h : SysIn w r s) (hk : ∀ k, k ≠ B → w'.heap[k]? = w.heap[k]?) (hp : ∀ p, r.pa = some p ∨ r.ta = some p ∨ r.ba = some p → p.block ≠ B) : SysIn w' r s :=
  ⟨row_keep h.plus (fun p q => hk _ (hp p (.inl q))), row_keep h.times (fun p q => hk _ (hp p (.inr (.inl q)))), row_keep h.below (fun p q => hk _ (hp p (.inr (.inr q)))), h.lp, h.lt, h.lb⟩

end Go.Proofs.Ytkokmpdmmfghhaa
/- The accessors of the tables of a system: sum, product, below, of the program and of its model. -/
namespace Go.Proofs.Ytkokmpdmmfghhaa
open Go.RowKit

set_option maxHeartbeats 800000 in
theorem sumIn_ans {W : World} {r : Ref} {s : Sys} (h : SysIn W r s) (t : Tables s) {a b : Int} (ha : G s a) (hb : G s b) (x : Ext W) :
    Calls Try.prog 60 #[r.val s, .int .i64 a, .int .i64 b] x.w (Ans W (.int .i64 (s.add a b))) := by
  have hi := Sys.idx_lt t.lo t.hi ha hb t.lp
  obtain ⟨bp, op, hpa, hc⟩ := (h.ext x).plus.at hi
  obtain ⟨g1, g2, g3, g4, g5⟩ := idx_facts t.lo t.hi ha hb
  have hcell := hc (s.idx a b) (s.add a b) (by unfold Sys.add; rw [List.getD_eq_getElem?_getD, List.getElem?_eq_getElem hi]; rfl)
  have hlen : a * s.n + b < (s.plus.length : Int) := by rw [t.lp]; exact g4
  have hbk := cell_lt hcell
  unfold Sys.idx at hcell
  simp only at hbk
  have g6 : a * s.n + b ≤ 255 := by omega
  clear hc hi h t g4 g5 ha hb
  generalize s.add a b = v at *
  unfold Ref.val
  rw [hpa]
  go_enter Try.func60, Try.ntmps60
  go_wp2
  go_ret
  exact ⟨rfl, x.alloc _, rfl⟩

set_option maxHeartbeats 800000 in
theorem productIn_ans {W : World} {r : Ref} {s : Sys} (h : SysIn W r s) (t : Tables s) {a b : Int} (ha : G s a) (hb : G s b) (x : Ext W) :
    Calls Try.prog 62 #[r.val s, .int .i64 a, .int .i64 b] x.w (Ans W (.int .i64 (s.mul a b))) := by
  have hi := Sys.idx_lt t.lo t.hi ha hb t.lt
  obtain ⟨bp, op, hta, hc⟩ := (h.ext x).times.at hi
  obtain ⟨g1, g2, g3, g4, g5⟩ := idx_facts t.lo t.hi ha hb
  have hcell := hc (s.idx a b) (s.mul a b) (by unfold Sys.mul; rw [List.getD_eq_getElem?_getD, List.getElem?_eq_getElem hi]; rfl)
  have hlen : a * s.n + b < (s.times.length : Int) := by rw [t.lt]; exact g4
  have hbk := cell_lt hcell
  unfold Sys.idx at hcell
  simp only at hbk
  have g6 : a * s.n + b ≤ 255 := by omega
  clear hc hi h t g4 g5 ha hb
  generalize s.mul a b = v at *
  unfold Ref.val
  rw [hta]
  go_enter Try.func62, Try.ntmps62
  go_wp2
  go_ret
  exact ⟨rfl, x.alloc _, rfl⟩

set_option maxHeartbeats 800000 in
theorem belowIn_ans {W : World} {r : Ref} {s : Sys} (h : SysIn W r s) (t : Tables s) {a b : Int} (ha : G s a) (hb : G s b) (x : Ext W) :
    Calls Try.prog 63 #[r.val s, .int .i64 a, .int .i64 b] x.w (Ans W (.bool (s.le a b))) := by
  have hi := Sys.idx_lt t.lo t.hi ha hb t.lb
  obtain ⟨bp, op, hpa, hc⟩ := (h.ext x).below.at hi
  obtain ⟨g1, g2, g3, g4, g5⟩ := idx_facts t.lo t.hi ha hb
  have hcell := hc (s.idx a b) (s.le a b) (by unfold Sys.le; rw [List.getD_eq_getElem?_getD, List.getElem?_eq_getElem hi]; rfl)
  have hlen : a * s.n + b < (s.below.length : Int) := by rw [t.lb]; exact g4
  have hbk := cell_lt hcell
  unfold Sys.idx at hcell
  simp only at hbk
  have g6 : a * s.n + b ≤ 255 := by omega
  clear hc hi h t g4 g5 ha hb
  generalize s.le a b = v at *
  unfold Ref.val
  rw [hpa]
  go_enter Try.func63, Try.ntmps63
  go_wp2
  go_ret
  exact ⟨rfl, x.alloc _, rfl⟩

theorem belowIn_is {W : World} {r : Ref} {s : Sys} (h : SysIn W r s) (t : Tables s) {a b : Int} {v : Bool} (ha : G s a) (hb : G s b) (hv : s.le a b = v) (x : Ext W) :
    Calls Try.prog 63 #[r.val s, .int .i64 a, .int .i64 b] x.w (Ans W (.bool v)) := by
  subst hv
  exact belowIn_ans h t ha hb x

end Go.Proofs.Ytkokmpdmmfghhaa
