
/- Plain notions for all proofs of this seat: a world that extends another one, rows of cells, the value of a grade system. Nothing of a program stands here. -/
import Derived.WalkKit
import Derived.ProofKit
import Derived.Below
import Derived.Lib.Hide
import Derived.BigQuiet
import Derived.Handy
namespace Go.Proofs.YtmifnhblhggflaaDoor
open Go.RowKit

/-- A world in which all that W has is as it was in W. -/
structure Ext (W : World) where
  w : World
  below : Below W.heap.size W w

theorem cell_lt {w : World} {a : Addr} {v : Value} (h : w.cell? a = some v) : a.block < w.heap.size := by
  unfold World.cell? at h
  by_cases hb : a.block < w.heap.size
  · exact hb
  · rw [Array.getElem?_eq_none (by omega)] at h; simp at h

namespace Ext
variable {W : World}
abbrev self (W : World) : Ext W := ⟨W, Below.refl _ _⟩
instance : Nonempty (Ext W) := ⟨self W⟩
theorem size (x : Ext W) : W.heap.size ≤ x.w.heap.size := x.below.size
theorem cell (x : Ext W) {a : Addr} {v : Value} (h : W.cell? a = some v) : x.w.cell? a = some v := by
  rw [x.below.cell (cell_lt h)]; exact h
theorem frozen (x : Ext W) {a : Addr} (hb : a.block < W.heap.size) : x.w.frozen? a = W.frozen? a := x.below.frozen hb
abbrev alloc (x : Ext W) (o : Obj) : Ext W := ⟨x.w.alloc o, x.below.alloc x.size o⟩
abbrev drew (x : Ext W) : Ext W := ⟨x.w.drew, x.below.drew⟩
abbrev trans (x : Ext W) (y : Ext x.w) : Ext W := ⟨y.w, x.below.trans (y.below.mono x.size)⟩
/-- An extension of a world that extends W. -/
def on (x : Ext W) {w : World} (h : Below x.w.heap.size x.w w) : Ext W := ⟨w, x.below.trans (h.mono x.size)⟩
/-- Behind a new block. -/
def behind {o : Obj} (y : Ext (W.alloc o)) : Ext W := ⟨y.w, ((Below.refl _ _).alloc (Nat.le_refl _) o).trans (y.below.mono (by simp))⟩
end Ext

/-- A call hands back v, and leaves all that W has. -/
abbrev Ans (W : World) (v : Value) : Ending → World → Prop := fun e w' => e = .returned v ∧ ∃ y : Ext W, w' = y.w

theorem ans_mk {W : World} {v : Value} {w' : World} (y : Ext W) (h : w' = y.w) : Ans W v (.returned v) w' := ⟨rfl, y, h⟩

/-- A region that draws its order, whose operations read and call alone, every call leaving what W has: one walk in the text's order. -/
theorem region_ext {W : World} {P : Program} {id : Nat} {Q : Exit → Act → World → Prop} {a : Act} {l : List Oper} (y : Ext W) (hm : P.follows .mixedOrders = true) (hB : Region.lexB .any l.toArray = true)
    (h : wpQuiet P l.toArray (fun w' => ∃ y : Ext W, w' = y.w) (fun a' => ∀ w', (∃ y : Ext W, w' = y.w) → Q .normal a' w') l a) : (Code.region id l.toArray true).wp P Q a y.w :=
  wp_region_quiet (C := fun w' => ∃ y : Ext W, w' = y.w) hm hB ⟨y.drew, rfl⟩ (by simpa using h)

/-- The end of a walk that answers a Bool. -/
theorem fin_true {W : World} {p : Bool} {Q : Prop} (HP : Hid (p = true ↔ Q)) (hq : Q) {w : World} (hz : ∃ z : Ext W, w = z.w) : Ans W (.bool p) (.returned (.bool true)) w := by
  have : p = true := HP.out.2 hq
  subst this
  exact ⟨rfl, hz⟩
theorem fin_false {W : World} {p : Bool} {Q : Prop} (HP : Hid (p = true ↔ Q)) (hq : ¬ Q) {w : World} (hz : ∃ z : Ext W, w = z.w) : Ans W (.bool p) (.returned (.bool false)) w := by
  have : p = false := by cases p; rfl; exact absurd (HP.out.1 rfl) hq
  subst this
  exact ⟨rfl, hz⟩

theorem fin_int {W : World} {k : IntKind} {a v : Int} (h : a = v) {w : World} (hz : ∃ z : Ext W, w = z.w) : Ans W (.int k v) (.returned (.int k a)) w := by
  subst h
  exact ⟨rfl, hz⟩

theorem iff_tf {b : Bool} {P : Prop} (h : match b with | true => P | false => ¬ P) : b = true ↔ P := by
  cases b
  · exact ⟨fun q => (by cases q), fun q => absurd q h⟩
  · exact ⟨fun _ => h, fun _ => rfl⟩
theorem bool_of (P : Prop) : ∃ p : Bool, p = true ↔ P := by
  by_cases h : P
  · exact ⟨true, by simp [h]⟩
  · exact ⟨false, by simp [h]⟩

/-- Cells in a row that read as a list. -/
def Row {α : Type} (w : World) (mk : α → Value) (a : Option Addr) (l : List α) : Prop :=
  l = [] ∨ ∃ b o, a = some ⟨b, o, none⟩ ∧ ∀ i x, l[i]? = some x → w.cell? ⟨b, o + i, none⟩ = some (mk x)

theorem Row.ext {α : Type} {W : World} {mk : α → Value} {a : Option Addr} {l : List α} (h : Row W mk a l) (x : Ext W) : Row x.w mk a l := by
  rcases h with h | ⟨b, o, ha, hc⟩
  · exact .inl h
  · exact .inr ⟨b, o, ha, fun i y hy => x.cell (hc i y hy)⟩

theorem Row.at {α : Type} {w : World} {mk : α → Value} {a : Option Addr} {l : List α} (h : Row w mk a l) {i : Nat} (hi : i < l.length) :
    ∃ b o, a = some ⟨b, o, none⟩ ∧ ∀ i x, l[i]? = some x → w.cell? ⟨b, o + i, none⟩ = some (mk x) := by
  rcases h with rfl | h
  · simp at hi
  · exact h

/-- A grade system, plainly. -/
structure Sys where
  n : Int
  plus : List Int
  times : List Int
  below : List Bool

/-- Where the tables of a system lie. -/
structure Ref where
  pa : Option Addr
  ta : Option Addr
  ba : Option Addr
  pc : Nat
  tc : Nat
  bc : Nat

abbrev Ref.val (r : Ref) (s : Sys) : Value :=
  .agg #[.int .i64 s.n, .slice r.pa s.plus.length r.pc, .slice r.ta s.times.length r.tc, .slice r.ba s.below.length r.bc]

structure SysIn (w : World) (r : Ref) (s : Sys) : Prop where
  plus : Row w (Value.int .i64) r.pa s.plus
  times : Row w (Value.int .i64) r.ta s.times
  below : Row w Value.bool r.ba s.below
  lp : s.plus.length ≤ 9223372036854775807
  lt : s.times.length ≤ 9223372036854775807
  lb : s.below.length ≤ 9223372036854775807

/-- Tables that are not too long to be copied. -/
structure Small (s : Sys) : Prop where
  p : s.plus.length ≤ 1099511627776
  t : s.times.length ≤ 1099511627776
  b : s.below.length ≤ 1099511627776

theorem SysIn.ext {W : World} {r : Ref} {s : Sys} (h : SysIn W r s) (x : Ext W) : SysIn x.w r s :=
  ⟨h.plus.ext x, h.times.ext x, h.below.ext x, h.lp, h.lt, h.lb⟩

/-- A system that a function has been handed lies in a new block of its own: what the block reads as in every later world. -/
theorem boxed {W W1 : World} {r : Ref} {s : Sys} (h : SysIn W r s) (x : Ext W) {T : TypeId} {B : Nat} (hB : x.w.heap.size = B)
    (hW : x.w.alloc (.cells #[.int .i64 s.n, .slice r.pa s.plus.length r.pc, .slice r.ta s.times.length r.tc, .slice r.ba s.below.length r.bc] T) = W1) :
    (∀ y : Ext W1, y.w.cell? ⟨B, 0, none⟩ = some (.int .i64 s.n)) ∧ (∀ y : Ext W1, y.w.cell? ⟨B, 1, none⟩ = some (.slice r.pa s.plus.length r.pc)) ∧
    (∀ y : Ext W1, y.w.cell? ⟨B, 2, none⟩ = some (.slice r.ta s.times.length r.tc)) ∧ (∀ y : Ext W1, y.w.cell? ⟨B, 3, none⟩ = some (.slice r.ba s.below.length r.bc)) ∧
    SysIn W1 r s ∧ (∀ y : Ext W1, ∃ z : Ext W, y.w = z.w) ∧ ∃ y0 : Ext W1, y0.w = W1 := by
  subst hW; subst hB
  refine ⟨fun y => ?_, fun y => ?_, fun y => ?_, fun y => ?_, ?_, fun y => ⟨x.on y.behind.below, rfl⟩, Ext.self _, rfl⟩
  · exact y.cell (by rw [World.cell?_alloc_at _ _ _ _ rfl]; rfl)
  · exact y.cell (by rw [World.cell?_alloc_at _ _ _ _ rfl]; rfl)
  · exact y.cell (by rw [World.cell?_alloc_at _ _ _ _ rfl]; rfl)
  · exact y.cell (by rw [World.cell?_alloc_at _ _ _ _ rfl]; rfl)
  · exact h.ext (x.alloc _)

/-- The entry of a table at a pair of grades. -/
def Sys.idx (s : Sys) (a b : Int) : Nat := (a * s.n + b).toNat
def Sys.add (s : Sys) (a b : Int) : Int := s.plus.getD (s.idx a b) 0
def Sys.mul (s : Sys) (a b : Int) : Int := s.times.getD (s.idx a b) 0
def Sys.le (s : Sys) (a b : Int) : Bool := s.below.getD (s.idx a b) false

/-- A grade of s. -/
def G (s : Sys) (a : Int) : Prop := 0 ≤ a ∧ a < s.n

/-- The tables have their form. -/
structure Tables (s : Sys) : Prop where
  lo : 2 ≤ s.n
  hi : s.n ≤ 16
  lp : (s.plus.length : Int) = s.n * s.n
  lt : (s.times.length : Int) = s.n * s.n
  lb : (s.below.length : Int) = s.n * s.n
  rp : ∀ g ∈ s.plus, 0 ≤ g ∧ g < s.n
  rt : ∀ g ∈ s.times, 0 ≤ g ∧ g < s.n

theorem idx_facts {n a b : Int} (hlo : 2 ≤ n) (hhi : n ≤ 16) (ha : 0 ≤ a ∧ a < n) (hb : 0 ≤ b ∧ b < n) :
    0 ≤ a * n ∧ a * n ≤ 240 ∧ 0 ≤ a * n + b ∧ a * n + b < n * n ∧ n * n ≤ 256 := by
  have h1 : 0 ≤ a * n := Int.mul_nonneg ha.1 (by omega)
  have h2 : a * n ≤ (n - 1) * n := Int.mul_le_mul_of_nonneg_right (by omega) (by omega)
  have h3 : (n - 1) * n = n * n - n := by rw [Int.sub_mul]; omega
  have h4 : n * n ≤ 16 * n := Int.mul_le_mul_of_nonneg_right (by omega) (by omega)
  have h5 : a * n ≤ 15 * n := Int.mul_le_mul_of_nonneg_right (by omega) (by omega)
  omega

theorem Sys.idx_lt {s : Sys} {a b : Int} (hlo : 2 ≤ s.n) (hhi : s.n ≤ 16) (ha : G s a) (hb : G s b) {k : Nat} (hk : (k : Int) = s.n * s.n) : s.idx a b < k := by
  have h := idx_facts hlo hhi ha hb
  unfold Sys.idx
  generalize s.n * s.n = m at *
  generalize a * s.n = q at *
  omega

theorem Tables.addG {s : Sys} (t : Tables s) {a b : Int} (ha : G s a) (hb : G s b) : G s (s.add a b) := by
  have h := Sys.idx_lt t.lo t.hi ha hb t.lp
  unfold Sys.add
  rw [List.getD_eq_getElem?_getD, List.getElem?_eq_getElem h]
  exact t.rp _ (List.getElem_mem h)
theorem Tables.mulG {s : Sys} (t : Tables s) {a b : Int} (ha : G s a) (hb : G s b) : G s (s.mul a b) := by
  have h := Sys.idx_lt t.lo t.hi ha hb t.lt
  unfold Sys.mul
  rw [List.getD_eq_getElem?_getD, List.getElem?_eq_getElem h]
  exact t.rt _ (List.getElem_mem h)

end Go.Proofs.YtmifnhblhggflaaDoor
