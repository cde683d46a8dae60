/- Texts of one claim, laid together: Base, TypeSpec, Open, World, LawA, LawB, Mark, Only, Marks, LawHead, NumRet, Spec, PairSpec, Acc, AppRow, OpenB, At0. -/
import Derived.WalkKit
import Derived.ProofKit
import Derived.Below
import Derived.Lib.Hide
import Derived.BigQuiet
import Derived.Handy
import Derived.Test.YtkokmpdmmfghhaaRows
import Derived.OpenShut
import Derived.ShutString
import Derived.ChangeOld
import Derived.Lib.SmallJoins
import Derived.Deep.Grids
import Derived.Test.YtkokmpdmmfghhaaProg
import Derived.Maps.AppendAt
import Derived.Laws.OwnMore
import Derived.Deep.RegionHeld3
import Derived.Deep.AppendLies

/- Plain notions for all proofs of this seat: a world that extends another one, rows of cells, the value of a grade system. Nothing of a program stands here. -/
namespace Go.Proofs.Ytkokmpdmmfghhaa
open Go.RowKit

/-- A world in which all that W has is as it was in W. -/
structure Ext (W : World) where
  w : World
  below : Below W.heap.size W w

theorem cell_lt {w : World} {a : Addr} {v : Value} (h : w.cell? a = some v) : a.block < w.heap.size := by
  unfold World.cell? at h
  by_cases hb : a.block < w.heap.size
  · exact hb
  · rw [Array.getElem?_eq_none (by omega)] at h; simp at h

namespace Ext
variable {W : World}
abbrev self (W : World) : Ext W := ⟨W, Below.refl _ _⟩
instance : Nonempty (Ext W) := ⟨self W⟩
theorem size (x : Ext W) : W.heap.size ≤ x.w.heap.size := x.below.size
theorem cell (x : Ext W) {a : Addr} {v : Value} (h : W.cell? a = some v) : x.w.cell? a = some v := by
  rw [x.below.cell (cell_lt h)]; exact h
theorem frozen (x : Ext W) {a : Addr} (hb : a.block < W.heap.size) : x.w.frozen? a = W.frozen? a := x.below.frozen hb
abbrev alloc (x : Ext W) (o : Obj) : Ext W := ⟨x.w.alloc o, x.below.alloc x.size o⟩
abbrev drew (x : Ext W) : Ext W := ⟨x.w.drew, x.below.drew⟩
abbrev trans (x : Ext W) (y : Ext x.w) : Ext W := ⟨y.w, x.below.trans (y.below.mono x.size)⟩
/-- An extension of a world that extends W. -/
def on (x : Ext W) {w : World} (h : Below x.w.heap.size x.w w) : Ext W := ⟨w, x.below.trans (h.mono x.size)⟩
/-- Behind a new block. -/
def behind {o : Obj} (y : Ext (W.alloc o)) : Ext W := ⟨y.w, ((Below.refl _ _).alloc (Nat.le_refl _) o).trans (y.below.mono (by simp))⟩
end Ext

/-- A call hands back v, and leaves all that W has. -/
abbrev Ans (W : World) (v : Value) : Ending → World → Prop := fun e w' => e = .returned v ∧ ∃ y : Ext W, w' = y.w

theorem ans_mk {W : World} {v : Value} {w' : World} (y : Ext W) (h : w' = y.w) : Ans W v (.returned v) w' := ⟨rfl, y, h⟩

/-- A region that draws its order, whose operations read and call alone, every call leaving what W has: one walk in the text's order. -/
theorem region_ext {W : World} {P : Program} {id : Nat} {Q : Exit → Act → World → Prop} {a : Act} {l : List Oper} (y : Ext W) (hm : P.follows .mixedOrders = true) (hB : Region.lexB .any l.toArray = true)
    (h : wpQuiet P l.toArray (fun w' => ∃ y : Ext W, w' = y.w) (fun a' => ∀ w', (∃ y : Ext W, w' = y.w) → Q .normal a' w') l a) : (Code.region id l.toArray true).wp P Q a y.w :=
  wp_region_quiet (C := fun w' => ∃ y : Ext W, w' = y.w) hm hB ⟨y.drew, rfl⟩ (by simpa using h)

/-- The end of a walk that answers a Bool. -/
theorem fin_true {W : World} {p : Bool} {Q : Prop} (HP : Hid (p = true ↔ Q)) (hq : Q) {w : World} (hz : ∃ z : Ext W, w = z.w) : Ans W (.bool p) (.returned (.bool true)) w := by
  have : p = true := HP.out.2 hq
  subst this
  exact ⟨rfl, hz⟩
theorem fin_false {W : World} {p : Bool} {Q : Prop} (HP : Hid (p = true ↔ Q)) (hq : ¬ Q) {w : World} (hz : ∃ z : Ext W, w = z.w) : Ans W (.bool p) (.returned (.bool false)) w := by
  have : p = false := by cases p; rfl; exact absurd (HP.out.1 rfl) hq
  subst this
  exact ⟨rfl, hz⟩

theorem fin_int {W : World} {k : IntKind} {a v : Int} (h : a = v) {w : World} (hz : ∃ z : Ext W, w = z.w) : Ans W (.int k v) (.returned (.int k a)) w := by
  subst h
  exact ⟨rfl, hz⟩

theorem iff_tf {b : Bool} {P : Prop} (h : match b with | true => P | false => ¬ P) : b = true ↔ P := by
  cases b
  · exact ⟨fun q => (by cases q), fun q => absurd q h⟩
  · exact ⟨fun _ => h, fun _ => rfl⟩
theorem bool_of (P : Prop) : ∃ p : Bool, p = true ↔ P := by
  by_cases h : P
  · exact ⟨true, by simp [h]⟩
  · exact ⟨false, by simp [h]⟩

/-- Cells in a row that read as a list. -/
def Row {α : Type} (w : World) (mk : α → Value) (a : Option Addr) (l : List α) : Prop :=
  l = [] ∨ ∃ b o, a = some ⟨b, o, none⟩ ∧ ∀ i x, l[i]? = some x → w.cell? ⟨b, o + i, none⟩ = some (mk x)

theorem Row.ext {α : Type} {W : World} {mk : α → Value} {a : Option Addr} {l : List α} (h : Row W mk a l) (x : Ext W) : Row x.w mk a l := by
  rcases h with h | ⟨b, o, ha, hc⟩
  · exact .inl h
  · exact .inr ⟨b, o, ha, fun i y hy => x.cell (hc i y hy)⟩

theorem Row.at {α : Type} {w : World} {mk : α → Value} {a : Option Addr} {l : List α} (h : Row w mk a l) {i : Nat} (hi : i < l.length) :
    ∃ b o, a = some ⟨b, o, none⟩ ∧ ∀ i x, l[i]? = some x → w.cell? ⟨b, o + i, none⟩ = some (mk x) := by
  rcases h with rfl | h
  · simp at hi
  · exact h

/-- A grade system, plainly. -/
structure Sys where
  n : Int
  plus : List Int
  times : List Int
  below : List Bool

/-- Where the tables of a system lie. -/
structure Ref where
  pa : Option Addr
  ta : Option Addr
  ba : Option Addr
  pc : Nat
  tc : Nat
  bc : Nat

abbrev Ref.val (r : Ref) (s : Sys) : Value :=
  .agg #[.int .i64 s.n, .slice r.pa s.plus.length r.pc, .slice r.ta s.times.length r.tc, .slice r.ba s.below.length r.bc]

structure SysIn (w : World) (r : Ref) (s : Sys) : Prop where
  plus : Row w (Value.int .i64) r.pa s.plus
  times : Row w (Value.int .i64) r.ta s.times
  below : Row w Value.bool r.ba s.below
  lp : s.plus.length ≤ 9223372036854775807
  lt : s.times.length ≤ 9223372036854775807
  lb : s.below.length ≤ 9223372036854775807

/-- Tables that are not too long to be copied. -/
structure Small (s : Sys) : Prop where
  p : s.plus.length ≤ 1099511627776
  t : s.times.length ≤ 1099511627776
  b : s.below.length ≤ 1099511627776

theorem SysIn.ext {W : World} {r : Ref} {s : Sys} (h : SysIn W r s) (x : Ext W) : SysIn x.w r s :=
  ⟨h.plus.ext x, h.times.ext x, h.below.ext x, h.lp, h.lt, h.lb⟩

/-- A system that a function has been handed lies in a new block of its own: what the block reads as in every later world. -/
theorem boxed {W W1 : World} {r : Ref} {s : Sys} (h : SysIn W r s) (x : Ext W) {T : TypeId} {B : Nat} (hB : x.w.heap.size = B)
    (hW : x.w.alloc (.cells #[.int .i64 s.n, .slice r.pa s.plus.length r.pc, .slice r.ta s.times.length r.tc, .slice r.ba s.below.length r.bc] T) = W1) :
    (∀ y : Ext W1, y.w.cell? ⟨B, 0, none⟩ = some (.int .i64 s.n)) ∧ (∀ y : Ext W1, y.w.cell? ⟨B, 1, none⟩ = some (.slice r.pa s.plus.length r.pc)) ∧
    (∀ y : Ext W1, y.w.cell? ⟨B, 2, none⟩ = some (.slice r.ta s.times.length r.tc)) ∧ (∀ y : Ext W1, y.w.cell? ⟨B, 3, none⟩ = some (.slice r.ba s.below.length r.bc)) ∧
    SysIn W1 r s ∧ (∀ y : Ext W1, ∃ z : Ext W, y.w = z.w) ∧ ∃ y0 : Ext W1, y0.w = W1 := by
  subst hW; subst hB
  refine ⟨fun y => ?_, fun y => ?_, fun y => ?_, fun y => ?_, ?_, fun y => ⟨x.on y.behind.below, rfl⟩, Ext.self _, rfl⟩
  · exact y.cell (by rw [World.cell?_alloc_at _ _ _ _ rfl]; rfl)
  · exact y.cell (by rw [World.cell?_alloc_at _ _ _ _ rfl]; rfl)
  · exact y.cell (by rw [World.cell?_alloc_at _ _ _ _ rfl]; rfl)
  · exact y.cell (by rw [World.cell?_alloc_at _ _ _ _ rfl]; rfl)
  · exact h.ext (x.alloc _)

/-- The entry of a table at a pair of grades. -/
def Sys.idx (s : Sys) (a b : Int) : Nat := (a * s.n + b).toNat
def Sys.add (s : Sys) (a b : Int) : Int := s.plus.getD (s.idx a b) 0
def Sys.mul (s : Sys) (a b : Int) : Int := s.times.getD (s.idx a b) 0
def Sys.le (s : Sys) (a b : Int) : Bool := s.below.getD (s.idx a b) false

/-- A grade of s. -/
def G (s : Sys) (a : Int) : Prop := 0 ≤ a ∧ a < s.n

/-- The tables have their form. -/
structure Tables (s : Sys) : Prop where
  lo : 2 ≤ s.n
  hi : s.n ≤ 16
  lp : (s.plus.length : Int) = s.n * s.n
  lt : (s.times.length : Int) = s.n * s.n
  lb : (s.below.length : Int) = s.n * s.n
  rp : ∀ g ∈ s.plus, 0 ≤ g ∧ g < s.n
  rt : ∀ g ∈ s.times, 0 ≤ g ∧ g < s.n

theorem idx_facts {n a b : Int} (hlo : 2 ≤ n) (hhi : n ≤ 16) (ha : 0 ≤ a ∧ a < n) (hb : 0 ≤ b ∧ b < n) :
    0 ≤ a * n ∧ a * n ≤ 240 ∧ 0 ≤ a * n + b ∧ a * n + b < n * n ∧ n * n ≤ 256 := by
  have h1 : 0 ≤ a * n := Int.mul_nonneg ha.1 (by omega)
  have h2 : a * n ≤ (n - 1) * n := Int.mul_le_mul_of_nonneg_right (by omega) (by omega)
  have h3 : (n - 1) * n = n * n - n := by rw [Int.sub_mul]; omega
  have h4 : n * n ≤ 16 * n := Int.mul_le_mul_of_nonneg_right (by omega) (by omega)
  have h5 : a * n ≤ 15 * n := Int.mul_le_mul_of_nonneg_right (by omega) (by omega)
  omega

theorem Sys.idx_lt {s : Sys} {a b : Int} (hlo : 2 ≤ s.n) (hhi : s.n ≤ 16) (ha : G s a) (hb : G s b) {k : Nat} (hk : (k : Int) = s.n * s.n) : s.idx a b < k := by
  have h := idx_facts hlo hhi ha hb
  unfold Sys.idx
  generalize s.n * s.n = m at *
  generalize a * s.n = q at *
  omega

theorem Tables.addG {s : Sys} (t : Tables s) {a b : Int} (ha : G s a) (hb : G s b) : G s (s.add a b) := by
  have h := Sys.idx_lt t.lo t.hi ha hb t.lp
  unfold Sys.add
  rw [List.getD_eq_getElem?_getD, List.getElem?_eq_getElem h]
  exact t.rp _ (List.getElem_mem h)
theorem Tables.mulG {s : Sys} (t : Tables s) {a b : Int} (ha : G s a) (hb : G s b) : G s (s.mul a b) := by
  have h := Sys.idx_lt t.lo t.hi ha hb t.lt
  unfold Sys.mul
  rw [List.getD_eq_getElem?_getD, List.getElem?_eq_getElem h]
  exact t.rt _ (List.getElem_mem h)

end Go.Proofs.Ytkokmpdmmfghhaa

/- Types, plainly: codes, how many types stand behind a code, where a type ends. Nothing of a program stands here. -/
namespace Go.Proofs.Ytkokmpdmmfghhaa
open Go.RowKit

def Arr (c : Int) : Prop := (3 ≤ c ∧ c ≤ 18) ∨ c = 35
def Bx (c : Int) : Prop := (19 ≤ c ∧ c ≤ 34) ∨ c = 36
instance (c : Int) : Decidable (Arr c) := by unfold Arr; infer_instance
instance (c : Int) : Decidable (Bx c) := by unfold Bx; infer_instance
/-- How many types stand behind a code; -1: it is no code. -/
def kidsOf (c : Int) : Int := if c = 0 then 0 else if c = 1 ∨ c = 2 ∨ Arr c then 2 else if Bx c then 1 else -1
/-- The grade of a code of an arrow or a box; -1: it is open. -/
def gradeOf (c : Int) : Int := if 35 ≤ c then -1 else if 19 ≤ c then c - 19 else c - 3
def Graded (c : Int) : Prop := Arr c ∨ Bx c
instance (c : Int) : Decidable (Graded c) := by unfold Graded; infer_instance

def endL : List Int → Nat → Int → Int
  | [], i, m => if m = 0 then i else -1
  | c :: l, i, m => if m = 0 then i else if kidsOf c < 0 then -1 else endL l (i + 1) (m - 1 + kidsOf c)
/-- Where what begins at i ends, when so many types are missing; -1: nowhere. -/
def endOf (l : List Int) (i : Nat) (m : Int) : Int := endL (l.drop i) i m

theorem endOf_zero (l : List Int) (i : Nat) : endOf l i 0 = i := by
  unfold endOf
  cases l.drop i <;> simp [endL]
theorem endOf_out {l : List Int} {i : Nat} {m : Int} (h : l.length ≤ i) (hm : m ≠ 0) : endOf l i m = -1 := by
  unfold endOf
  rw [List.drop_eq_nil_of_le h]
  simp [endL, hm]
theorem endOf_at {l : List Int} {i : Nat} {m : Int} {c : Int} (h : l[i]? = some c) (hm : m ≠ 0) : endOf l i m = if kidsOf c < 0 then -1 else endOf l (i + 1) (m - 1 + kidsOf c) := by
  obtain ⟨hi, h⟩ := List.getElem?_eq_some_iff.1 h
  unfold endOf
  rw [List.drop_eq_getElem_cons hi, h]
  simp [endL, hm]
theorem endOf_bad {l : List Int} {i : Nat} {m : Int} {c : Int} (h : l[i]? = some c) (hm : m ≠ 0) (hk : kidsOf c < 0) : endOf l i m = -1 := by rw [endOf_at h hm, if_pos hk]
theorem endOf_step {l : List Int} {i : Nat} {m : Int} {c : Int} (h : l[i]? = some c) (hm : m ≠ 0) (hk : 0 ≤ kidsOf c) : endOf l i m = endOf l (i + 1) (m - 1 + kidsOf c) := by rw [endOf_at h hm, if_neg (by omega)]

theorem kidsOf_le (c : Int) : kidsOf c ≤ 2 := by unfold kidsOf; split; omega; split; omega; split <;> omega
theorem kidsOf_ge (c : Int) : -1 ≤ kidsOf c := by unfold kidsOf; split; omega; split; omega; split <;> omega

/-- A written type. -/
def WT (l : List Int) : Prop := l.length ≤ 40 ∧ endOf l 0 1 = l.length
theorem WT.pos {l : List Int} (h : WT l) : 0 < l.length := by
  cases l with
  | nil => have := h.2; rw [endOf_out (by simp) (by omega)] at this; simp at this
  | cons a l => simp
/-- Grades below a number, and, if closed, nothing open. -/
def GOk (size : Int) (closed : Bool) (c : Int) : Prop := Graded c → gradeOf c < size ∧ (closed = true → 0 ≤ gradeOf c)
def Grs (size : Int) (closed : Bool) (l : List Int) : Prop := ∀ c ∈ l, GOk size closed c

theorem gradeOf_ge {c : Int} (_h : Graded c) : -1 ≤ gradeOf c := by
  unfold Graded Arr Bx at _h
  unfold gradeOf
  split
  · omega
  · split <;> omega
theorem gradeOf_le {c : Int} (_h : Graded c) : gradeOf c ≤ 15 := by
  unfold Graded Arr Bx at _h
  unfold gradeOf
  split
  · omega
  · split <;> omega
theorem kidsOf_0 : kidsOf 0 = 0 := by decide
theorem kidsOf_2 {c : Int} (h : c = 1 ∨ c = 2 ∨ Arr c) : kidsOf c = 2 := by
  have h0 : c ≠ 0 := by unfold Arr at h; omega
  simp [kidsOf, h0, h]
theorem kidsOf_1 {c : Int} (h : Bx c) : kidsOf c = 1 := by
  have h0 : c ≠ 0 := by unfold Bx at h; omega
  have h1 : ¬ (c = 1 ∨ c = 2 ∨ Arr c) := by unfold Bx at h; unfold Arr; omega
  simp [kidsOf, h0, h1, h]
theorem kidsOf_no {c : Int} (h0 : c ≠ 0) (h1 : ¬ (c = 1 ∨ c = 2 ∨ Arr c)) (h2 : ¬ Bx c) : kidsOf c = -1 := by
  simp [kidsOf, h0, h1, h2]
theorem graded_iff (c : Int) : (0 < kidsOf c ∧ 2 < c) ↔ Graded c := by
  by_cases a0 : c = 0
  · subst a0; simp [kidsOf_0, Graded, Arr, Bx]
  · by_cases a1 : c = 1 ∨ c = 2 ∨ Arr c
    · rw [kidsOf_2 a1]
      unfold Graded
      unfold Arr at a1 ⊢
      unfold Bx
      omega
    · by_cases a2 : Bx c
      · rw [kidsOf_1 a2]
        unfold Graded
        unfold Bx at a2 ⊢
        omega
      · rw [kidsOf_no a0 a1 a2]
        unfold Graded
        constructor
        · rintro ⟨h, _⟩; omega
        · rintro (h | h)
          · exact absurd (.inr (.inr h)) a1
          · exact absurd h a2

/-- The greatest number. -/
def maxI : Int := 9223372036854775807
theorem maxI_eq : maxI = 9223372036854775807 := rfl
/-- How many types the program lets stand behind a code: those behind the written ones count as arrows and boxes with grades from 16 on. -/
def kidsP (c : Int) : Int := if 36 < c then (if c % 2 = 1 then 2 else 1) else kidsOf c
def gradeP (c : Int) : Int := if 36 < c then 15 + (c - 35) / 2 else gradeOf c
theorem kidsP_in {c : Int} (h : c ≤ 36) : kidsP c = kidsOf c := by unfold kidsP; rw [if_neg (by omega)]
theorem kidsP_le (c : Int) : kidsP c ≤ 2 := by unfold kidsP; have := kidsOf_le c; split <;> (try split) <;> omega
theorem kidsP_ge (c : Int) : -1 ≤ kidsP c := by unfold kidsP; have := kidsOf_ge c; split <;> (try split) <;> omega
theorem kidsP_far {c : Int} (h : 36 < c) : 1 ≤ kidsP c := by unfold kidsP; rw [if_pos h]; split <;> omega
theorem gradeP_far {c : Int} (h : 36 < c) : 16 ≤ gradeP c := by unfold gradeP; rw [if_pos h]; omega
theorem kidsOf_out {c : Int} (h : 36 < c) : kidsOf c = -1 := kidsOf_no (by omega) (by unfold Arr; omega) (by unfold Bx; omega)
def endPL : List Int → Nat → Int → Int
  | [], i, m => if m = 0 then i else -1
  | c :: l, i, m => if m = 0 then i else if kidsP c < 0 then -1 else endPL l (i + 1) (m - 1 + kidsP c)
/-- As endOf, by the program. -/
def endP (l : List Int) (i : Nat) (m : Int) : Int := endPL (l.drop i) i m
theorem endP_zero (l : List Int) (i : Nat) : endP l i 0 = i := by
  unfold endP
  cases l.drop i <;> simp [endPL]
theorem endP_out {l : List Int} {i : Nat} {m : Int} (h : l.length ≤ i) (hm : m ≠ 0) : endP l i m = -1 := by
  unfold endP
  rw [List.drop_eq_nil_of_le h]
  simp [endPL, hm]
theorem endP_at {l : List Int} {i : Nat} {m : Int} {c : Int} (h : l[i]? = some c) (hm : m ≠ 0) : endP l i m = if kidsP c < 0 then -1 else endP l (i + 1) (m - 1 + kidsP c) := by
  obtain ⟨hi, h⟩ := List.getElem?_eq_some_iff.1 h
  unfold endP
  rw [List.drop_eq_getElem_cons hi, h]
  simp [endPL, hm]
theorem endP_bad {l : List Int} {i : Nat} {m : Int} {c : Int} (h : l[i]? = some c) (hm : m ≠ 0) (hk : kidsP c < 0) : endP l i m = -1 := by rw [endP_at h hm, if_pos hk]
theorem endP_step {l : List Int} {i : Nat} {m : Int} {c : Int} (h : l[i]? = some c) (hm : m ≠ 0) (hk : 0 ≤ kidsP c) : endP l i m = endP l (i + 1) (m - 1 + kidsP c) := by rw [endP_at h hm, if_neg (by omega)]
theorem endPL_eq (l : List Int) (h : ∀ u ∈ l, u ≤ 36) (i : Nat) (m : Int) : endPL l i m = endL l i m := by
  induction l generalizing i m with
  | nil => rfl
  | cons c l ih =>
    simp only [endPL, endL]
    rw [kidsP_in (h c (by simp)), ih (fun u hu => h u (by simp [hu]))]
theorem endP_eq {l : List Int} (h : ∀ u ∈ l, u ≤ 36) (i : Nat) (m : Int) : endP l i m = endOf l i m := endPL_eq _ (fun u hu => h u (List.mem_of_mem_drop hu)) i m
theorem endL_codes (l : List Int) (i : Nat) (m : Int) (h : endL l i m = ((i + l.length : Nat) : Int)) : ∀ u ∈ l, 0 ≤ kidsOf u := by
  induction l generalizing i m with
  | nil => simp
  | cons c l ih =>
    simp only [endL] at h
    split at h
    · simp at h; omega
    · split at h
      · simp at h; omega
      · intro u hu
        rcases List.mem_cons.1 hu with rfl | hu
        · omega
        · exact ih (i + 1) _ (by rw [h]; simp; omega) u hu
theorem kidsOf_in {c : Int} (h : 0 ≤ kidsOf c) : 0 ≤ c ∧ c ≤ 36 := by
  by_cases h36 : 36 < c
  · rw [kidsOf_out h36] at h; omega
  · by_cases h0 : c < 0
    · rw [kidsOf_no (by omega) (by unfold Arr; omega) (by unfold Bx; omega)] at h; omega
    · omega
theorem WT.codes {l : List Int} (h : WT l) : ∀ u ∈ l, 0 ≤ u ∧ u ≤ 36 := fun u hu => kidsOf_in (endL_codes l 0 1 (by have := h.2; unfold endOf at this; rw [List.drop_zero] at this; rw [this]; simp) u hu)
theorem WT.codes36 {l : List Int} (h : WT l) : ∀ u ∈ l, u ≤ 36 := fun u hu => (h.codes u hu).2
/-- No code is greater than a number can be. -/
def CodesB (l : List Int) : Prop := ∀ u ∈ l, u ≤ maxI
theorem WT.codesB {l : List Int} (h : WT l) : CodesB l := fun u hu => by have := (h.codes u hu).2; unfold maxI; omega
theorem CodesB.of36 {l : List Int} (h : ∀ u ∈ l, u ≤ 36) : CodesB l := fun u hu => by have := h u hu; unfold maxI; omega
end Go.Proofs.Ytkokmpdmmfghhaa

/- What the rows' arguments read as: a system, a slice of numbers. -/
set_option linter.unusedVariables false
namespace Go.Proofs.Ytkokmpdmmfghhaa
open Go.RowKit Go.ChangeShapes Go.WideShapes Go.ChangeAt

open Go.ChangeShapes Go.WideShapes Go.ChangeAt
theorem laidOut : laidOutB Try.prog = true := by kernel_rfl
theorem own : ownKnob Try.prog.godebug = none := by kernel_rfl

section
variable {H : Type} {enc : TypeId × Value → H} {w : World}
theorem row_of_cells {α : Type} {mk : α → Value} {a : Addr} {l : List α} {len : Nat} {f : Nat → α} (hl : l.length = len) (hf : ∀ i (h : i < l.length), l[i] = f i) (h : ∀ i, i < len → w.cell? (a.add i) = some (mk (f i))) : Row w mk (some a) l := by
  by_cases h0 : len = 0
  · exact .inl (List.eq_nil_of_length_eq_zero (by omega))
  · have hc := h 0 (by omega)
    obtain ⟨b, o, spot⟩ := a
    have hspot : spot = none := by simpa [Addr.add] using World.cell?_spot hc
    subst hspot
    refine .inr ⟨b, o, rfl, fun i x hx => ?_⟩
    obtain ⟨hi, hx⟩ := List.getElem?_eq_some_iff.1 hx
    rw [← add_plain, h i (by omega), ← hx, hf i hi]

theorem open_row_ints {fuel : Nat} {c : Value} {x : DataW H × List MemPlace} (h : DataW.trod enc Try.prog w 0 (fun _ => true) true fuel 24 [c] = some x) :
    ∃ (a : Option Addr) (cap : Nat) (l : List Int), c = .slice a l.length cap ∧ Row w (Value.int .i64) a l ∧ l.length ≤ 9223372036854775807 ∧ (∀ n ∈ l, (Lit.int .i64 n).wf = true) := by
  rcases open_ints Try.underlying24 Try.underlying3 (by kernel_rfl) h with ⟨hcs, _⟩ | ⟨a, len, cap, zs, hcs, _, hl, hm, hz, _, hcell, hwz⟩
  · simp at hcs
    exact ⟨none, 0, [], hcs, .inl rfl, by simp, by simp⟩
  · simp at hcs hz
    unfold maxLen at hm
    have e : (zs.take len).length = len := by simp; omega
    refine ⟨some a, cap, zs.take len, by rw [e]; exact hcs, row_of_cells e (f := fun i => zs.getD i 0) (fun i hi => ?_) (fun i hi => hcell i (by omega)), by omega, fun n hn => hwz n (List.mem_of_mem_take hn)⟩
    rw [List.getElem_take]; simp [List.getD_eq_getElem?_getD, List.getElem?_eq_getElem (show i < zs.length by omega)]

theorem open_row_bools {fuel : Nat} {c : Value} {x : DataW H × List MemPlace} (h : DataW.trod enc Try.prog w 0 (fun _ => true) true fuel 25 [c] = some x) :
    ∃ (a : Option Addr) (cap : Nat) (l : List Bool), c = .slice a l.length cap ∧ Row w Value.bool a l ∧ l.length ≤ 9223372036854775807 := by
  rcases Deep.open_bools Try.underlying25 Try.underlying4 (by kernel_rfl) h with ⟨hcs, _⟩ | ⟨a, len, cap, B, hcs, _, hl, hm, _, hcell⟩
  · simp at hcs
    exact ⟨none, 0, [], hcs, .inl rfl, by simp⟩
  · simp at hcs
    unfold maxLen at hm
    have e : ((List.range len).map B).length = len := by simp
    refine ⟨some a, cap, (List.range len).map B, by rw [e]; exact hcs, row_of_cells e (f := B) (fun i hi => ?_) (fun i hi => hcell i (by omega)), by omega⟩
    simp

theorem wf_le {u : Int} (h : (Lit.int .i64 u).wf = true) : u ≤ 9223372036854775807 := by
  have h2 : u ≤ IntKind.i64.max := by simp [Lit.wf] at h; exact h.2
  exact Int.le_trans h2 (by decide)
theorem codesB_wf {l : List Int} (h : ∀ u ∈ l, (Lit.int .i64 u).wf = true) : CodesB l := fun u hu => by have := wf_le (h u hu); unfold maxI; omega
set_option maxRecDepth 100000 in
theorem open_sys {r0 : Reach} {b0 : Nat} {v : Value} {d : DataW H} {p : List MemPlace} (hv : Value.okWide Try.prog w r0 b0 51 v) (h : DataW.Trod enc Try.prog w 0 (fun _ => true) true 51 v d p) :
    ∃ (r : Ref) (s : Sys), v = r.val s ∧ SysIn w r s := by
  obtain ⟨c0, c1, c2, c3, y0, y1, y2, y3, m, rfl, _, _, t0, t1, t2, t3⟩ := Joins.open_agg4 Try.underlying51 (by kernel_rfl) (by kernel_rfl) hv h
  obtain ⟨n, e0, _, _⟩ := DataW.trod_int Try.underlying3 t0
  simp at e0
  obtain ⟨a1, p1, l1, rfl, r1, b1, _⟩ := open_row_ints t1
  obtain ⟨a2, p2, l2, rfl, r2, b2, _⟩ := open_row_ints t2
  obtain ⟨a3, p3, l3, rfl, r3, b3⟩ := open_row_bools t3
  subst e0
  exact ⟨⟨a1, a2, a3, p1, p2, p3⟩, ⟨n, l1, l2, l3⟩, rfl, r1, r2, r3, b1, b2, b3⟩
end

end Go.Proofs.Ytkokmpdmmfghhaa

/- Worlds, blocks and owned rows, plainly; two facts of the program's table of types. -/
namespace Go.Proofs.Ytkokmpdmmfghhaa
open Go.RowKit

theorem info_int : (Try.prog.info? 3).map (fun i => (i.zero, i.size, i.bytes)) = some (some (.int .i64 0), 1, 8) := by kernel_rfl
theorem info_bool : (Try.prog.info? 4).map (fun i => (i.zero, i.size, i.bytes)) = some (some (.bool false), 1, 1) := by kernel_rfl

theorem owns_lower {w : World} {base base' : Nat} {e : TypeId} {size : Nat} {v : Value} {n : Nat} {xs : List Value} (h : w.ownsRow base e size v n xs) (hb : base' ≤ base) : w.ownsRow base' e size v n xs := by
  obtain ⟨h1, h2⟩ := h
  refine ⟨h1, ?_⟩
  rcases h2 with h2 | ⟨g, cap, cur, hv, hg, r⟩
  · exact .inl h2
  · exact .inr ⟨g, cap, cur, hv, by omega, r⟩

/-- A call hands back a new slice, of its own memory, that reads as l; all that W has is as it was. -/
def NewRow {α : Type} (W : World) (_T E : TypeId) (mk : α → Value) (l : List α) : Ending → World → Prop :=
  fun e w' => ∃ (v : Value) (y : Ext W), e = .returned v ∧ w' = y.w ∧ y.w.ownsRow W.heap.size E 1 v l.length (l.map mk)

/-- What is owned reads as a row. -/
theorem owned_row {α : Type} {w : World} {base : Nat} {E : TypeId} {mk : α → Value} {v : Value} {l : List α} (h : w.ownsRow base E 1 v l.length (l.map mk)) :
    ∃ a c, v = .slice a l.length c ∧ Row w mk a l ∧ ∀ p, a = some p → base ≤ p.block ∧ p.block < w.heap.size := by
  rcases h.2 with ⟨rfl, hn⟩ | ⟨g, cap, cur, rfl, hg, hh, r1, r2, r3, r4⟩
  · refine ⟨none, 0, by rw [hn], .inl (List.eq_nil_of_length_eq_zero hn), fun p hp => by cases hp⟩
  · refine ⟨_, cap, rfl, .inr ⟨g, 0, rfl, fun i x hx => ?_⟩, fun p hp => by cases hp; exact ⟨hg, by have := Array.getElem?_eq_some_iff.1 hh; exact this.1⟩⟩
    have hi : i < l.length := by
      by_cases hi : i < l.length
      · exact hi
      · rw [List.getElem?_eq_none (by omega)] at hx; cases hx
    rw [Nat.zero_add, h.cellAt i (by omega), List.getElem?_map, hx]; rfl

theorem blocks3 {w w3 : World} {o1 o2 o3 : Obj} {B : Nat} (hB : w.heap.size = B) (h : ((w.alloc o1).alloc o2).alloc o3 = w3) :
    w3.heap[B]? = some o1 ∧ w3.heap[B + 1]? = some o2 ∧ w3.heap[B + 1 + 1]? = some o3 ∧ w3.heap.size = B + 3 ∧ Below w.heap.size w w3 := by
  subst h; subst hB
  refine ⟨?_, ?_, ?_, by simp, ?_⟩
  · show (((w.heap.push o1).push o2).push o3)[w.heap.size]? = _
    rw [Array.getElem?_push, if_neg (by simp; omega), Array.getElem?_push, if_neg (by simp), Array.getElem?_push, if_pos rfl]
  · show (((w.heap.push o1).push o2).push o3)[w.heap.size + 1]? = _
    rw [Array.getElem?_push, if_neg (by simp), Array.getElem?_push, if_pos (by simp)]
  · show (((w.heap.push o1).push o2).push o3)[w.heap.size + 1 + 1]? = _
    rw [Array.getElem?_push, if_pos (by simp)]
  · exact (((Below.refl _ _).alloc (Nat.le_refl _) _).alloc (by simp) _).alloc (by simp; omega) _

theorem blk_cell {w : World} {g : Nat} {cur : Array Value} {e : TypeId} (h : w.heap[g]? = some (.cells cur e (0, 0))) (j : Nat) : w.cell? ⟨g, j, none⟩ = cur[j]? := cell_of_row w g j cur e (0, 0) h
theorem blk_free {w : World} {g : Nat} {cur : Array Value} {e : TypeId} (h : w.heap[g]? = some (.cells cur e (0, 0))) (j : Nat) : w.frozen? ⟨g, j, none⟩ = false := frozen_of_row w g j cur e h
theorem Ext.blk {W : World} (y : Ext W) {k : Nat} {o : Obj} (h : W.heap[k]? = some o) : y.w.heap[k]? = some o := by
  have hk : k < W.heap.size := (Array.getElem?_eq_some_iff.1 h).1
  rw [y.below.block k hk]; exact h
theorem set_blk {w w' : World} {g : Nat} {cur : Array Value} {e : TypeId} (h : w.heap[g]? = some (.cells cur e (0, 0))) (j : Nat) (u : Value) (hw : w.setCell ⟨g, j, none⟩ u = w') :
    w'.heap[g]? = some (.cells (cur.setIfInBounds j u) e (0, 0)) := by subst hw; exact heap_setCell_same w g j cur e u h
theorem set_other {w w' : World} {g j : Nat} {u : Value} (hw : w.setCell ⟨g, j, none⟩ u = w') {k : Nat} (hk : k ≠ g) : w'.heap[k]? = w.heap[k]? := by
  subst hw; exact Below.heap_setCell _ _ _ _ hk
theorem set_size {w w' : World} {a : Addr} {u : Value} (hw : w.setCell a u = w') : w'.heap.size = w.heap.size := by subst hw; simp

/-- A new system, of its own memory, that reads as s. -/
def NewSys (W : World) (s : Sys) : Ending → World → Prop :=
  fun e w' => ∃ (r : Ref) (y : Ext W), e = .returned (r.val s) ∧ w' = y.w ∧ SysIn y.w r s

/-- A row that lies below a block number stays where nothing below it turns. -/
theorem row_keep {α : Type} {w w' : World} {mk : α → Value} {a : Option Addr} {l : List α} (h : Row w mk a l) (hk : ∀ p, a = some p → w'.heap[p.block]? = w.heap[p.block]?) : Row w' mk a l := by
  rcases h with h | ⟨b, o, ha, hc⟩
  · exact .inl h
  · refine .inr ⟨b, o, ha, fun i x hx => ?_⟩
    rw [World.cell?_of_block (w := w) (a := ⟨b, o + i, none⟩) (show w'.heap[b]? = w.heap[b]? from hk ⟨b, o, none⟩ ha)]
    exact hc i x hx

theorem boxed2 {W W1 : World} {r r' : Ref} {s s' : Sys} (h : SysIn W r s) (h' : SysIn W r' s') (x : Ext W) {T T' : TypeId} {B : Nat} (hB : x.w.heap.size = B)
    (hW : (x.w.alloc (.cells #[.int .i64 s.n, .slice r.pa s.plus.length r.pc, .slice r.ta s.times.length r.tc, .slice r.ba s.below.length r.bc] T)).alloc
      (.cells #[.int .i64 s'.n, .slice r'.pa s'.plus.length r'.pc, .slice r'.ta s'.times.length r'.tc, .slice r'.ba s'.below.length r'.bc] T') = W1) :
    (∀ y : Ext W1, y.w.cell? ⟨B, 0, none⟩ = some (.int .i64 s.n)) ∧ (∀ y : Ext W1, y.w.cell? ⟨B, 1, none⟩ = some (.slice r.pa s.plus.length r.pc)) ∧
    (∀ y : Ext W1, y.w.cell? ⟨B, 2, none⟩ = some (.slice r.ta s.times.length r.tc)) ∧ (∀ y : Ext W1, y.w.cell? ⟨B, 3, none⟩ = some (.slice r.ba s.below.length r.bc)) ∧
    (∀ y : Ext W1, y.w.cell? ⟨B + 1, 0, none⟩ = some (.int .i64 s'.n)) ∧ (∀ y : Ext W1, y.w.cell? ⟨B + 1, 1, none⟩ = some (.slice r'.pa s'.plus.length r'.pc)) ∧
    (∀ y : Ext W1, y.w.cell? ⟨B + 1, 2, none⟩ = some (.slice r'.ta s'.times.length r'.tc)) ∧ (∀ y : Ext W1, y.w.cell? ⟨B + 1, 3, none⟩ = some (.slice r'.ba s'.below.length r'.bc)) ∧
    SysIn W1 r s ∧ SysIn W1 r' s' ∧ (∀ y : Ext W1, ∃ z : Ext W, y.w = z.w) ∧ ∃ y0 : Ext W1, y0.w = W1 := by
  obtain ⟨a0, a1, a2, a3, g1, gb, y0, hy0⟩ := boxed h x (W1 := x.w.alloc _) hB rfl
  obtain ⟨b0, b1, b2, b3, g2, gb2, y1, hy1⟩ := boxed (h'.ext (x.alloc _)) (Ext.self (x.w.alloc _)) (T := T') (B := B + 1) (by rw [← hB]; simp) hW
  have hf : ∀ y : Ext W1, ∃ z : Ext (x.w.alloc (.cells #[.int .i64 s.n, .slice r.pa s.plus.length r.pc, .slice r.ta s.times.length r.tc, .slice r.ba s.below.length r.bc] T)), y.w = z.w := gb2
  refine ⟨?_, ?_, ?_, ?_, b0, b1, b2, b3, ?_, g2, ?_, y1, hy1⟩
  · intro y; obtain ⟨z, hz⟩ := hf y; rw [hz]; exact a0 z
  · intro y; obtain ⟨z, hz⟩ := hf y; rw [hz]; exact a1 z
  · intro y; obtain ⟨z, hz⟩ := hf y; rw [hz]; exact a2 z
  · intro y; obtain ⟨z, hz⟩ := hf y; rw [hz]; exact a3 z
  · obtain ⟨z, hz⟩ := hf y1; rw [← hy1, hz]; exact g1.ext z
  · intro y; obtain ⟨z, hz⟩ := hf y; obtain ⟨u, hu⟩ := gb z; exact ⟨u, by rw [hz, hu]⟩

theorem blocks2 {w w2 : World} {o1 o2 : Obj} {B : Nat} (hB : w.heap.size = B) (h : (w.alloc o1).alloc o2 = w2) :
    w2.heap[B]? = some o1 ∧ w2.heap[B + 1]? = some o2 ∧ w2.heap.size = B + 2 ∧ Below w.heap.size w w2 := by
  subst h; subst hB
  refine ⟨?_, ?_, by simp, ?_⟩
  · show ((w.heap.push o1).push o2)[w.heap.size]? = _
    rw [Array.getElem?_push, if_neg (by simp), Array.getElem?_push, if_pos rfl]
  · show ((w.heap.push o1).push o2)[w.heap.size + 1]? = _
    rw [Array.getElem?_push, if_pos (by simp)]
  · exact ((Below.refl _ _).alloc (Nat.le_refl _) _).alloc (by simp) _

/-- A system and the two numbers that are handed on as a list. -/
theorem boxedRow {W W1 : World} {r : Ref} {s : Sys} (h : SysIn W r s) (x : Ext W) {T T' : TypeId} {B : Nat} {a b : Int} (hB : x.w.heap.size = B)
    (hW : (x.w.alloc (.cells #[.int .i64 s.n, .slice r.pa s.plus.length r.pc, .slice r.ta s.times.length r.tc, .slice r.ba s.below.length r.bc] T)).alloc (.cells #[.int .i64 a, .int .i64 b] T') = W1) :
    (∀ y : Ext W1, y.w.cell? ⟨B, 0, none⟩ = some (.int .i64 s.n)) ∧ (∀ y : Ext W1, y.w.cell? ⟨B, 1, none⟩ = some (.slice r.pa s.plus.length r.pc)) ∧
    (∀ y : Ext W1, y.w.cell? ⟨B, 2, none⟩ = some (.slice r.ta s.times.length r.tc)) ∧ (∀ y : Ext W1, y.w.cell? ⟨B, 3, none⟩ = some (.slice r.ba s.below.length r.bc)) ∧
    SysIn W1 r s ∧ Row W1 (Value.int .i64) (some ⟨B + 1, 0, none⟩) [a, b] ∧ (∀ y : Ext W1, ∃ z : Ext W, y.w = z.w) ∧ ∃ y0 : Ext W1, y0.w = W1 := by
  obtain ⟨b1, b2, _, bel⟩ := blocks2 hB hW
  have f : ∀ j, W1.cell? ⟨B, j, none⟩ = _ := fun j => cell_of_row _ _ j _ _ _ b1
  have g : ∀ j, W1.cell? ⟨B + 1, j, none⟩ = _ := fun j => cell_of_row _ _ j _ _ _ b2
  refine ⟨fun y => y.cell (by rw [f]; rfl), fun y => y.cell (by rw [f]; rfl), fun y => y.cell (by rw [f]; rfl), fun y => y.cell (by rw [f]; rfl), h.ext (x.on bel), .inr ⟨B + 1, 0, rfl, fun i u hu => ?_⟩, fun y => ⟨x.on (bel.trans (y.below.mono bel.size)), rfl⟩, Ext.self _, rfl⟩
  rw [Nat.zero_add, g]
  match i, hu with
  | 0, hu => simp at hu; subst hu; rfl
  | 1, hu => simp at hu; subst hu; rfl

theorem owns_ext {w : World} {base : Nat} {e : TypeId} {size : Nat} {v : Value} {n : Nat} {xs : List Value} (h : w.ownsRow base e size v n xs) (z : Ext w) : z.w.ownsRow base e size v n xs := by
  obtain ⟨h1, h2⟩ := h
  refine ⟨h1, ?_⟩
  rcases h2 with h2 | ⟨g, cap, cur, hv, hb, hg, r⟩
  · exact .inl h2
  · exact .inr ⟨g, cap, cur, hv, hb, z.blk hg, r⟩

end Go.Proofs.Ytkokmpdmmfghhaa

/- The laws' own helpers: copies of slices. -/
namespace Go.Proofs.Ytkokmpdmmfghhaa
open Go.RowKit


set_option maxHeartbeats 4000000 in
theorem toIntS_ans {W : World} {a : Option Addr} {c : Nat} {l : List Int} (h : Row W (Value.int .i64) a l) (hl : l.length ≤ 1099511627776) (x : Ext W) :
    Calls Try.prog 117 #[.slice a l.length c] x.w (NewRow W 24 3 (Value.int .i64) l) := by
  obtain ⟨i0, hi, hz0, hz1, hz2⟩ := info_parts info_int
  have HN : Hid (∀ e w', NewRow W 24 3 (Value.int .i64) l e w' ↔ NewRow W 24 3 (Value.int .i64) l e w') := fun _ _ => Iff.rfl
  go_enter Try.func117, Try.ntmps117
  go_wp2_with (at_make; refine wpList_make_full _ rfl _ _ 24 rfl x.w.heap.size 3 i0 (.int .i64 0) 1 Try.underlying24 hi hz0 hz1 .i64 .i64 _ _ l.length rfl rfl rfl rfl (by rw [hz2]; omega) (by unfold maxLen; omega) (Nat.le_refl _) ?_; intro w0 hown0 hgrow0)
  have hb0 : Below W.heap.size W w0 := x.below.grown hgrow0 x.size (fun k hk => by cases hk)
  have hsz := x.size
  generalize x.w.heap.size = g at *
  generalize (madeCells _ _).toList = xs0 at hown0
  clear hgrow0 hi hz0 hz1 hz2
  go_loopw [4] (fun i wr => ∃ (k : Nat) (xs : List Value), i = .int .i64 k ∧ k ≤ l.length ∧ wr.ownsRow g 3 1 (.slice (some ⟨g, 0, none⟩) l.length l.length) l.length xs ∧ Below W.heap.size W wr ∧ Hid (∀ i, i < k → xs[i]? = (l[i]?).map (Value.int .i64))) (fun i _ => l.length - (intOf i).toNat)
  case atStart => exact ⟨0, xs0, rfl, by omega, hown0, hb0, fun i hi => by omega⟩
  case round =>
    obtain ⟨k, xs, rfl, hk, hown, hb, hX⟩ := hrel
    by_cases hlt : k < l.length
    · obtain ⟨b, o, rfl, hc⟩ := h.at hlt
      have hcell := (Ext.mk wr hb).cell (hc k l[k] (List.getElem?_eq_getElem hlt))
      have HG : Hid (l[k]? = some l[k]) := List.getElem?_eq_getElem hlt
      clear hc
      generalize l[k] = u at *
      have hlx : xs.length = l.length := by have := hown.1; omega
      obtain ⟨v0, hv0⟩ : ∃ v0, xs[k]? = some v0 := ⟨_, List.getElem?_eq_getElem (by omega)⟩
      have hold : wr.cell? ⟨g, k, none⟩ = some v0 := by rw [hown.cellAt k (by omega)]; exact hv0
      have hfz : wr.frozen? ⟨g, k, none⟩ = false := hown.frozenAt k
      obtain ⟨hst, hgs⟩ := hown.stored k ((Value.int .i64) u)
      have HS := Lib.hid hst
      have HL := Lib.hid hlx
      have hb2 := hb.setCell (p := ⟨g, k, none⟩) (by exact hsz) ((Value.int .i64) u)
      clear hst hgs hv0 hlx hown
      go_wp2
      go_roundw
      case rel =>
        refine ⟨k + 1, _, by go_num, by omega, HS.out, hb2, fun i hi => ?_⟩
        have hlx := HL.out
        rw [List.getElem?_set]
        by_cases e : k = i
        · subst e
          rw [if_pos rfl, if_pos (by omega), HG.out]; rfl
        · rw [if_neg e]; exact hX.out i (by omega)
      case measure => simp [intOf]; omega
    · have hke : k = l.length := by omega
      have HK := Lib.hid hke
      clear hke
      go_wp2
      go_ret
      refine ⟨_, ⟨wr, hb⟩, rfl, rfl, ?_⟩
      have e : xs = l.map (Value.int .i64) := by
        apply List.ext_getElem?
        intro i
        rw [List.getElem?_map]
        by_cases hi : i < l.length
        · exact hX.out i (by rw [HK.out]; exact hi)
        · have := hown.1
          rw [List.getElem?_eq_none (by omega), List.getElem?_eq_none (by omega)]; rfl
      rw [← e]
      exact owns_lower hown hsz

set_option maxHeartbeats 4000000 in
theorem toBoolS_ans {W : World} {a : Option Addr} {c : Nat} {l : List Bool} (h : Row W Value.bool a l) (hl : l.length ≤ 1099511627776) (x : Ext W) :
    Calls Try.prog 118 #[.slice a l.length c] x.w (NewRow W 25 4 Value.bool l) := by
  obtain ⟨i0, hi, hz0, hz1, hz2⟩ := info_parts info_bool
  have HN : Hid (∀ e w', NewRow W 25 4 Value.bool l e w' ↔ NewRow W 25 4 Value.bool l e w') := fun _ _ => Iff.rfl
  go_enter Try.func118, Try.ntmps118
  go_wp2_with (at_make; refine wpList_make_full _ rfl _ _ 25 rfl x.w.heap.size 4 i0 (.bool false) 1 Try.underlying25 hi hz0 hz1 .i64 .i64 _ _ l.length rfl rfl rfl rfl (by rw [hz2]; omega) (by unfold maxLen; omega) (Nat.le_refl _) ?_; intro w0 hown0 hgrow0)
  have hb0 : Below W.heap.size W w0 := x.below.grown hgrow0 x.size (fun k hk => by cases hk)
  have hsz := x.size
  generalize x.w.heap.size = g at *
  generalize (madeCells _ _).toList = xs0 at hown0
  clear hgrow0 hi hz0 hz1 hz2
  go_loopw [4] (fun i wr => ∃ (k : Nat) (xs : List Value), i = .int .i64 k ∧ k ≤ l.length ∧ wr.ownsRow g 4 1 (.slice (some ⟨g, 0, none⟩) l.length l.length) l.length xs ∧ Below W.heap.size W wr ∧ Hid (∀ i, i < k → xs[i]? = (l[i]?).map Value.bool)) (fun i _ => l.length - (intOf i).toNat)
  case atStart => exact ⟨0, xs0, rfl, by omega, hown0, hb0, fun i hi => by omega⟩
  case round =>
    obtain ⟨k, xs, rfl, hk, hown, hb, hX⟩ := hrel
    by_cases hlt : k < l.length
    · obtain ⟨b, o, rfl, hc⟩ := h.at hlt
      have hcell := (Ext.mk wr hb).cell (hc k l[k] (List.getElem?_eq_getElem hlt))
      have HG : Hid (l[k]? = some l[k]) := List.getElem?_eq_getElem hlt
      clear hc
      generalize l[k] = u at *
      have hlx : xs.length = l.length := by have := hown.1; omega
      obtain ⟨v0, hv0⟩ : ∃ v0, xs[k]? = some v0 := ⟨_, List.getElem?_eq_getElem (by omega)⟩
      have hold : wr.cell? ⟨g, k, none⟩ = some v0 := by rw [hown.cellAt k (by omega)]; exact hv0
      have hfz : wr.frozen? ⟨g, k, none⟩ = false := hown.frozenAt k
      obtain ⟨hst, hgs⟩ := hown.stored k (Value.bool u)
      have HS := Lib.hid hst
      have HL := Lib.hid hlx
      have hb2 := hb.setCell (p := ⟨g, k, none⟩) (by exact hsz) (Value.bool u)
      clear hst hgs hv0 hlx hown
      go_wp2
      go_roundw
      case rel =>
        refine ⟨k + 1, _, by go_num, by omega, HS.out, hb2, fun i hi => ?_⟩
        have hlx := HL.out
        rw [List.getElem?_set]
        by_cases e : k = i
        · subst e
          rw [if_pos rfl, if_pos (by omega), HG.out]; rfl
        · rw [if_neg e]; exact hX.out i (by omega)
      case measure => simp [intOf]; omega
    · have hke : k = l.length := by omega
      have HK := Lib.hid hke
      clear hke
      go_wp2
      go_ret
      refine ⟨_, ⟨wr, hb⟩, rfl, rfl, ?_⟩
      have e : xs = l.map Value.bool := by
        apply List.ext_getElem?
        intro i
        rw [List.getElem?_map]
        by_cases hi : i < l.length
        · exact hX.out i (by rw [HK.out]; exact hi)
        · have := hown.1
          rw [List.getElem?_eq_none (by omega), List.getElem?_eq_none (by omega)]; rfl
      rw [← e]
      exact owns_lower hown hsz

end Go.Proofs.Ytkokmpdmmfghhaa

/- The laws' own helpers: a copy of a system. -/
namespace Go.Proofs.Ytkokmpdmmfghhaa
open Go.RowKit

set_option maxHeartbeats 4000000 in
theorem toSystem_ans {W : World} {r : Ref} {s : Sys} (h : SysIn W r s) (sm : Small s) (x : Ext W) :
    Calls Try.prog 42 #[r.val s] x.w (NewSys W s) := by
  unfold Ref.val
  go_enter Try.func42, Try.ntmps42
  go_wp2_with fail
  have hxs := x.size
  generalize hWa : ((x.w.alloc _).alloc _).alloc _ = Wa
  generalize hB : x.w.heap.size = B at *
  obtain ⟨bA, bB, bC, sA, bel⟩ := blocks3 hB hWa
  have belA : Below W.heap.size W Wa := x.below.trans (bel.mono (by omega))
  clear bel hWa
  -- the first copy
  refine (toIntS_ans (W := Wa) ((h.ext ⟨Wa, belA⟩).plus) sm.p (Ext.self Wa)).mono ?_
  rintro e w' ⟨v1, y, rfl, rfl, own1⟩
  have k1 := blk_cell (y.blk bA) 2
  have k2 := blk_cell (y.blk bC) 1
  have k3 := blk_free (y.blk bC) 1
  simp at k1 k2
  obtain ⟨a1, c1, rfl, row1, pl1⟩ := owned_row own1
  go_wp2_with fail
  clear k1 k2 k3
  generalize hWb : y.w.setCell _ _ = Wb
  have bA' := (set_other hWb (k := B) (by omega)).trans (y.blk bA)
  have bB' := (set_other hWb (k := B + 1) (by omega)).trans (y.blk bB)
  have bC' := set_blk (y.blk bC) 1 _ hWb
  have sB : B + 3 ≤ Wb.heap.size := by rw [set_size hWb]; have := y.size; omega
  have belB : Below W.heap.size W Wb := by subst hWb; exact (belA.trans (y.below.mono (by omega))).setCell (by simp; omega) _
  have row1' : Row Wb (.int .i64) a1 s.plus := row_keep row1 (fun p hp => by have := (pl1 p hp).1; exact set_other hWb (by omega))
  have pl1' : ∀ p, a1 = some p → p.block < Wb.heap.size ∧ B + 3 ≤ p.block := fun p hp => by rw [set_size hWb]; have := pl1 p hp; omega
  simp at bC'
  clear bA bB bC sA belA own1 row1 pl1 hWb y Wa
  -- the second copy
  refine (toIntS_ans (W := Wb) ((h.ext ⟨Wb, belB⟩).times) sm.t (Ext.self Wb)).mono ?_
  rintro e w' ⟨v2, y, rfl, rfl, own2⟩
  have k1 := blk_cell (y.blk bA') 3
  have k2 := blk_cell (y.blk bC') 2
  have k3 := blk_free (y.blk bC') 2
  simp at k1 k2
  obtain ⟨a2, c2, rfl, row2, pl2⟩ := owned_row own2
  go_wp2_with fail
  clear k1 k2 k3
  generalize hWc : y.w.setCell _ _ = Wc
  have bA'' := (set_other hWc (k := B) (by omega)).trans (y.blk bA')
  have bB'' := (set_other hWc (k := B + 1) (by omega)).trans (y.blk bB')
  have bC'' := set_blk (y.blk bC') 2 _ hWc
  have sC : B + 3 ≤ Wc.heap.size := by rw [set_size hWc]; have := y.size; omega
  have belC : Below W.heap.size W Wc := by subst hWc; exact (belB.trans (y.below.mono (by omega))).setCell (by simp; omega) _
  have row1'' : Row Wc (.int .i64) a1 s.plus := row_keep row1' (fun p hp => by have := (pl1' p hp); rw [set_other hWc (by omega)]; exact y.below.block _ this.1)
  have row2' : Row Wc (.int .i64) a2 s.times := row_keep row2 (fun p hp => by have := (pl2 p hp).1; exact set_other hWc (by omega))
  have pl1'' : ∀ p, a1 = some p → p.block < Wc.heap.size ∧ B + 3 ≤ p.block := fun p hp => by rw [set_size hWc]; have := pl1' p hp; have := y.size; omega
  have pl2' : ∀ p, a2 = some p → p.block < Wc.heap.size ∧ B + 3 ≤ p.block := fun p hp => by rw [set_size hWc]; have := pl2 p hp; omega
  simp at bC''
  clear bA' bB' bC' sB belB own2 row1' pl1' row2 pl2 hWc y Wb
  -- the third copy
  refine (toBoolS_ans (W := Wc) ((h.ext ⟨Wc, belC⟩).below) sm.b (Ext.self Wc)).mono ?_
  rintro e w' ⟨v3, y, rfl, rfl, own3⟩
  have k2 := blk_cell (y.blk bC'') 3
  have k3 := blk_free (y.blk bC'') 3
  have m0 := blk_cell (y.blk bC'') 0
  have m1 := blk_cell (y.blk bC'') 1
  have m2 := blk_cell (y.blk bC'') 2
  have n0 := blk_cell (y.blk bB'') 0
  have n1 := blk_cell (y.blk bB'') 1
  have n2 := blk_cell (y.blk bB'') 2
  have n3 := blk_cell (y.blk bB'') 3
  have p0 := blk_free (y.blk bB'') 0
  have p1 := blk_free (y.blk bB'') 1
  have p2 := blk_free (y.blk bB'') 2
  have p3 := blk_free (y.blk bB'') 3
  simp at k2 m0 m1 m2 n0 n1 n2 n3
  obtain ⟨a3, c3, rfl, row3, pl3⟩ := owned_row own3
  go_wp2
  clear k2 k3 m0 m1 m2 n0 n1 n2 n3 p0 p1 p2 p3
  generalize hY1 : y.w.setCell _ _ = Y1
  generalize hY2 : Y1.setCell _ _ = Y2
  generalize hY3 : Y2.setCell _ _ = Y3
  generalize hY4 : Y3.setCell _ _ = Y4
  generalize hY5 : Y4.setCell _ _ = Y5
  have q1 := (set_other hY1 (k := B + 1) (by omega)).trans (y.blk bB'')
  have q5 := set_blk (set_blk (set_blk (set_blk q1 0 _ hY2) 1 _ hY3) 2 _ hY4) 3 _ hY5
  simp at q5
  have r0 := blk_cell q5 0
  have r1 := blk_cell q5 1
  have r2 := blk_cell q5 2
  have r3 := blk_cell q5 3
  simp at r0 r1 r2 r3
  have hsame : ∀ k, B + 3 ≤ k → Y5.heap[k]? = y.w.heap[k]? := fun k hk => by
    rw [set_other hY5 (by omega), set_other hY4 (by omega), set_other hY3 (by omega), set_other hY2 (by omega), set_other hY1 (by omega)]
  have belD : Below W.heap.size W Y5 := by
    subst hY5; subst hY4; subst hY3; subst hY2; subst hY1
    exact (((((belC.trans (y.below.mono (by omega))).setCell (by simp; omega) _).setCell (by simp; omega) _).setCell (by simp; omega) _).setCell (by simp; omega) _).setCell (by simp; omega) _
  have hyc : Wc.heap.size ≤ y.w.heap.size := y.size
  have f1 : Row Y5 (.int .i64) a1 s.plus := row_keep row1'' (fun p hp => by have := pl1'' p hp; rw [hsame _ this.2]; exact y.below.block _ this.1)
  have f2 : Row Y5 (.int .i64) a2 s.times := row_keep row2' (fun p hp => by have := pl2' p hp; rw [hsame _ this.2]; exact y.below.block _ this.1)
  have f3 : Row Y5 .bool a3 s.below := row_keep row3 (fun p hp => by have := (pl3 p hp).1; exact hsame _ (by omega))
  refine bodyPost_ret (v := .agg #[.int .i64 s.n, .slice a1 s.plus.length c1, .slice a2 s.times.length c2, .slice a3 s.below.length c3]) (by simp [results, Try.results42, go_sem, r0, r1, r2, r3]) rfl ?_
  exact ⟨⟨a1, a2, a3, c1, c2, c3⟩, ⟨Y5, belD⟩, rfl, rfl, f1, f2, f3, h.lp, h.lt, h.lb⟩

theorem szIntS_ans {W : World} (a : Option Addr) (c : Nat) (l : List Int) (left : Int) (h0 : 0 ≤ left) (h1 : left ≤ 1048576) (hl : l.length ≤ 9223372036854775807) (v : Int) (hv : v = if left < l.length then -1 else left - l.length) (x : Ext W) :
    Calls Try.prog 111 #[.slice a l.length c, .int .i64 left] x.w (Ans W (.int .i64 v)) := by
  have HV := Lib.hid hv
  clear hv
  by_cases e : left < (l.length : Int)
  · have e2 : left - (l.length : Int) < 0 := by omega
    go_enter Try.func111, Try.ntmps111
    go_wp2
    go_ret
    exact fin_int (by rw [HV.out, if_pos e]) ⟨x, rfl⟩
  · have e2 : 0 ≤ left - (l.length : Int) := by omega
    go_enter Try.func111, Try.ntmps111
    go_wp2
    go_ret
    exact fin_int (by rw [HV.out, if_neg (by omega)]) ⟨x, rfl⟩

theorem szBoolS_ans {W : World} (a : Option Addr) (c : Nat) (l : List Bool) (left : Int) (h0 : 0 ≤ left) (h1 : left ≤ 1048576) (hl : l.length ≤ 9223372036854775807) (v : Int) (hv : v = if left < l.length then -1 else left - l.length) (x : Ext W) :
    Calls Try.prog 112 #[.slice a l.length c, .int .i64 left] x.w (Ans W (.int .i64 v)) := by
  have HV := Lib.hid hv
  clear hv
  by_cases e : left < (l.length : Int)
  · have e2 : left - (l.length : Int) < 0 := by omega
    go_enter Try.func112, Try.ntmps112
    go_wp2
    go_ret
    exact fin_int (by rw [HV.out, if_pos e]) ⟨x, rfl⟩
  · have e2 : 0 ≤ left - (l.length : Int) := by omega
    go_enter Try.func112, Try.ntmps112
    go_wp2
    go_ret
    exact fin_int (by rw [HV.out, if_neg (by omega)]) ⟨x, rfl⟩

set_option maxHeartbeats 4000000 in
theorem eqIntS_ans {W : World} {a b : Option Addr} {c d : Nat} {l m : List Int} (h : Row W (Value.int .i64) a l) (k : Row W (Value.int .i64) b m) (hl : l.length ≤ 1099511627776) (p : Bool) (hp : p = true ↔ l = m) (x : Ext W) :
    Calls Try.prog 119 #[.slice a l.length c, .slice b m.length d] x.w (Ans W (.bool p)) := by
  have HP := Lib.hid hp
  clear hp
  by_cases hlen : l.length = m.length
  · have fl : ((l.length : Int) != (m.length : Int)) = false := by simp; omega
    have hlm1 : l.length ≤ m.length := by omega
    have hlm2 : m.length ≤ l.length := by omega
    have HL := Lib.hid hlen
    clear hlen
    go_enter Try.func119, Try.ntmps119
    go_wp2
    clear fl
    obtain ⟨yy, hyy⟩ : ∃ y : Ext W, x = y := ⟨x, rfl⟩
    rw [hyy]
    clear hyy
    go_loopw [5] (fun i wr => ∃ j : Nat, i = .int .i64 j ∧ j ≤ l.length ∧ (∃ y : Ext W, wr = y.w) ∧ Hid (∀ i, i < j → l[i]? = m[i]?)) (fun i _ => l.length - (intOf i).toNat)
    case atStart => exact ⟨0, rfl, by omega, ⟨yy, rfl⟩, fun i hi => by omega⟩
    case round =>
      obtain ⟨j, rfl, hj, ⟨yy, rfl⟩, hU⟩ := hrel
      by_cases hlt : j < l.length
      · have hltm : j < m.length := by omega
        have hlt' : (j : Int) < (l.length : Int) := by omega
        have hltm' : (j : Int) < (m.length : Int) := by omega
        obtain ⟨b1, o1, rfl, hc⟩ := h.at hlt
        obtain ⟨b2, o2, rfl, hd⟩ := k.at hltm
        have c1 : ∀ y : Ext W, y.w.cell? ⟨b1, o1 + j, none⟩ = some ((Value.int .i64) l[j]) := fun y => y.cell (hc j _ (List.getElem?_eq_getElem hlt))
        have c2 : ∀ y : Ext W, y.w.cell? ⟨b2, o2 + j, none⟩ = some ((Value.int .i64) m[j]) := fun y => y.cell (hd j _ (List.getElem?_eq_getElem hltm))
        have E1 : Hid (l[j]? = some l[j]) := List.getElem?_eq_getElem hlt
        have E2 : Hid (m[j]? = some m[j]) := List.getElem?_eq_getElem hltm
        clear hc hd
        generalize l[j] = u at *
        generalize m[j] = v at *
        by_cases he : u = v
        · have fe : (u != v) = false := by simpa using he
          have HE := Lib.hid he
          clear he
          go_wp2
          refine region_ext yy (by kernel_rfl) (by kernel_rfl) ?_
          repeat (go_big_quiet_step (fail))
          refine wpQuiet_nil ?_
          rintro _ ⟨yy, rfl⟩
          go_wp2
          go_roundw
          case rel =>
            refine ⟨j + 1, by go_num, by omega, ⟨yy, rfl⟩, fun i hi => ?_⟩
            by_cases e : i = j
            · subst e; rw [E1.out, E2.out, HE.out]
            · exact hU.out i (by omega)
          case measure => simp [intOf]; omega
        · have fe : (u != v) = true := by simpa using he
          have HE := Lib.hid he
          clear he
          go_wp2
          refine region_ext yy (by kernel_rfl) (by kernel_rfl) ?_
          repeat (go_big_quiet_step (fail))
          refine wpQuiet_nil ?_
          rintro _ ⟨yy, rfl⟩
          go_wp2
          go_ret
          refine fin_false HP (fun q => HE.out ?_) ⟨yy, rfl⟩
          have e1 := E1.out
          rw [q, E2.out] at e1
          cases e1
          rfl
      · go_wp2
        go_ret
        refine fin_true HP (List.ext_getElem? fun i => ?_) ⟨yy, rfl⟩
        by_cases hi : i < l.length
        · exact hU.out i (by omega)
        · rw [List.getElem?_eq_none (by omega), List.getElem?_eq_none (by omega)]
  · have fl : ((l.length : Int) != (m.length : Int)) = true := by simp; omega
    have HL := Lib.hid hlen
    clear hlen
    go_enter Try.func119, Try.ntmps119
    go_wp2
    go_ret
    exact fin_false HP (fun q => HL.out (by rw [q])) ⟨x, rfl⟩

set_option maxHeartbeats 4000000 in
theorem eqBoolS_ans {W : World} {a b : Option Addr} {c d : Nat} {l m : List Bool} (h : Row W Value.bool a l) (k : Row W Value.bool b m) (hl : l.length ≤ 1099511627776) (p : Bool) (hp : p = true ↔ l = m) (x : Ext W) :
    Calls Try.prog 120 #[.slice a l.length c, .slice b m.length d] x.w (Ans W (.bool p)) := by
  have HP := Lib.hid hp
  clear hp
  by_cases hlen : l.length = m.length
  · have fl : ((l.length : Int) != (m.length : Int)) = false := by simp; omega
    have hlm1 : l.length ≤ m.length := by omega
    have hlm2 : m.length ≤ l.length := by omega
    have HL := Lib.hid hlen
    clear hlen
    go_enter Try.func120, Try.ntmps120
    go_wp2
    clear fl
    obtain ⟨yy, hyy⟩ : ∃ y : Ext W, x = y := ⟨x, rfl⟩
    rw [hyy]
    clear hyy
    go_loopw [5] (fun i wr => ∃ j : Nat, i = .int .i64 j ∧ j ≤ l.length ∧ (∃ y : Ext W, wr = y.w) ∧ Hid (∀ i, i < j → l[i]? = m[i]?)) (fun i _ => l.length - (intOf i).toNat)
    case atStart => exact ⟨0, rfl, by omega, ⟨yy, rfl⟩, fun i hi => by omega⟩
    case round =>
      obtain ⟨j, rfl, hj, ⟨yy, rfl⟩, hU⟩ := hrel
      by_cases hlt : j < l.length
      · have hltm : j < m.length := by omega
        have hlt' : (j : Int) < (l.length : Int) := by omega
        have hltm' : (j : Int) < (m.length : Int) := by omega
        obtain ⟨b1, o1, rfl, hc⟩ := h.at hlt
        obtain ⟨b2, o2, rfl, hd⟩ := k.at hltm
        have c1 : ∀ y : Ext W, y.w.cell? ⟨b1, o1 + j, none⟩ = some (Value.bool l[j]) := fun y => y.cell (hc j _ (List.getElem?_eq_getElem hlt))
        have c2 : ∀ y : Ext W, y.w.cell? ⟨b2, o2 + j, none⟩ = some (Value.bool m[j]) := fun y => y.cell (hd j _ (List.getElem?_eq_getElem hltm))
        have E1 : Hid (l[j]? = some l[j]) := List.getElem?_eq_getElem hlt
        have E2 : Hid (m[j]? = some m[j]) := List.getElem?_eq_getElem hltm
        clear hc hd
        generalize l[j] = u at *
        generalize m[j] = v at *
        cases u <;> cases v
        · skip
          go_wp2
          refine region_ext yy (by kernel_rfl) (by kernel_rfl) ?_
          repeat (go_big_quiet_step (fail))
          refine wpQuiet_nil ?_
          rintro _ ⟨yy, rfl⟩
          go_wp2
          go_roundw
          case rel =>
            refine ⟨j + 1, by go_num, by omega, ⟨yy, rfl⟩, fun i hi => ?_⟩
            by_cases e : i = j
            · subst e; rw [E1.out, E2.out]
            · exact hU.out i (by omega)
          case measure => simp [intOf]; omega
        · have HE : Hid (¬ (false : Bool) = true) := fun q => by cases q
          go_wp2
          refine region_ext yy (by kernel_rfl) (by kernel_rfl) ?_
          repeat (go_big_quiet_step (fail))
          refine wpQuiet_nil ?_
          rintro _ ⟨yy, rfl⟩
          go_wp2
          go_ret
          refine fin_false HP (fun q => HE.out ?_) ⟨yy, rfl⟩
          have e1 := E1.out
          rw [q, E2.out] at e1
          cases e1
        · have HE : Hid (¬ (true : Bool) = false) := fun q => by cases q
          go_wp2
          refine region_ext yy (by kernel_rfl) (by kernel_rfl) ?_
          repeat (go_big_quiet_step (fail))
          refine wpQuiet_nil ?_
          rintro _ ⟨yy, rfl⟩
          go_wp2
          go_ret
          refine fin_false HP (fun q => HE.out ?_) ⟨yy, rfl⟩
          have e1 := E1.out
          rw [q, E2.out] at e1
          cases e1
        · skip
          go_wp2
          refine region_ext yy (by kernel_rfl) (by kernel_rfl) ?_
          repeat (go_big_quiet_step (fail))
          refine wpQuiet_nil ?_
          rintro _ ⟨yy, rfl⟩
          go_wp2
          go_roundw
          case rel =>
            refine ⟨j + 1, by go_num, by omega, ⟨yy, rfl⟩, fun i hi => ?_⟩
            by_cases e : i = j
            · subst e; rw [E1.out, E2.out]
            · exact hU.out i (by omega)
          case measure => simp [intOf]; omega
      · go_wp2
        go_ret
        refine fin_true HP (List.ext_getElem? fun i => ?_) ⟨yy, rfl⟩
        by_cases hi : i < l.length
        · exact hU.out i (by omega)
        · rw [List.getElem?_eq_none (by omega), List.getElem?_eq_none (by omega)]
  · have fl : ((l.length : Int) != (m.length : Int)) = true := by simp; omega
    have HL := Lib.hid hlen
    clear hlen
    go_enter Try.func120, Try.ntmps120
    go_wp2
    go_ret
    exact fin_false HP (fun q => HL.out (by rw [q])) ⟨x, rfl⟩

theorem szSystem_ans {W : World} {r : Ref} {s : Sys} (h : SysIn W r s) (left : Int) (hl0 : 0 ≤ left) (hl1 : left ≤ 1048576) (v : Int)
    (hv : v = if left < s.plus.length + s.times.length + s.below.length then -1 else left - (s.plus.length + s.times.length + s.below.length)) (x : Ext W) :
    Calls Try.prog 40 #[r.val s, .int .i64 left] x.w (Ans W (.int .i64 v)) := by
  have HV := Lib.hid hv
  clear hv
  unfold Ref.val
  by_cases e1 : left < (s.plus.length : Int)
  · skip
    go_enter Try.func40, Try.ntmps40
    go_wp2_with fail
    generalize hW : x.w.alloc _ = W1
    generalize hB : x.w.heap.size = B
    obtain ⟨c0, c1, c2, c3, h1, hback, yy, hy0⟩ := boxed h x hB hW
    clear hW hB
    rw [← hy0]
    clear hy0
    (with_reducible refine Calls.mono (szIntS_ans _ _ s.plus (left) (by omega) (by omega) h1.lp (-1) (by split <;> omega) _) ?_)
    rintro e w' ⟨rfl, yy, rfl⟩
    go_wp2_with fail
    go_ret
    exact fin_int (by rw [HV.out, if_pos (by omega)]) (hback yy)
  · by_cases e2 : left - (s.plus.length : Int) < (s.times.length : Int)
    · skip
      go_enter Try.func40, Try.ntmps40
      go_wp2_with fail
      generalize hW : x.w.alloc _ = W1
      generalize hB : x.w.heap.size = B
      obtain ⟨c0, c1, c2, c3, h1, hback, yy, hy0⟩ := boxed h x hB hW
      clear hW hB
      rw [← hy0]
      clear hy0
      (with_reducible refine Calls.mono (szIntS_ans _ _ s.plus (left) (by omega) (by omega) h1.lp (left - s.plus.length) (by split <;> omega) _) ?_)
      rintro e w' ⟨rfl, yy, rfl⟩
      go_wp2_with fail
      (with_reducible refine Calls.mono (szIntS_ans _ _ s.times (left - s.plus.length) (by omega) (by omega) h1.lt (-1) (by split <;> omega) _) ?_)
      rintro e w' ⟨rfl, yy, rfl⟩
      go_wp2_with fail
      go_ret
      exact fin_int (by rw [HV.out, if_pos (by omega)]) (hback yy)
    · by_cases e3 : left - (s.plus.length : Int) - (s.times.length : Int) < (s.below.length : Int)
      · skip
        go_enter Try.func40, Try.ntmps40
        go_wp2_with fail
        generalize hW : x.w.alloc _ = W1
        generalize hB : x.w.heap.size = B
        obtain ⟨c0, c1, c2, c3, h1, hback, yy, hy0⟩ := boxed h x hB hW
        clear hW hB
        rw [← hy0]
        clear hy0
        (with_reducible refine Calls.mono (szIntS_ans _ _ s.plus (left) (by omega) (by omega) h1.lp (left - s.plus.length) (by split <;> omega) _) ?_)
        rintro e w' ⟨rfl, yy, rfl⟩
        go_wp2_with fail
        (with_reducible refine Calls.mono (szIntS_ans _ _ s.times (left - s.plus.length) (by omega) (by omega) h1.lt (left - s.plus.length - s.times.length) (by split <;> omega) _) ?_)
        rintro e w' ⟨rfl, yy, rfl⟩
        go_wp2_with fail
        (with_reducible refine Calls.mono (szBoolS_ans _ _ s.below (left - s.plus.length - s.times.length) (by omega) (by omega) h1.lb (-1) (by split <;> omega) _) ?_)
        rintro e w' ⟨rfl, yy, rfl⟩
        go_wp2_with fail
        go_ret
        exact fin_int (by rw [HV.out, if_pos (by omega)]) (hback yy)
      · skip
        go_enter Try.func40, Try.ntmps40
        go_wp2_with fail
        generalize hW : x.w.alloc _ = W1
        generalize hB : x.w.heap.size = B
        obtain ⟨c0, c1, c2, c3, h1, hback, yy, hy0⟩ := boxed h x hB hW
        clear hW hB
        rw [← hy0]
        clear hy0
        (with_reducible refine Calls.mono (szIntS_ans _ _ s.plus (left) (by omega) (by omega) h1.lp (left - s.plus.length) (by split <;> omega) _) ?_)
        rintro e w' ⟨rfl, yy, rfl⟩
        go_wp2_with fail
        (with_reducible refine Calls.mono (szIntS_ans _ _ s.times (left - s.plus.length) (by omega) (by omega) h1.lt (left - s.plus.length - s.times.length) (by split <;> omega) _) ?_)
        rintro e w' ⟨rfl, yy, rfl⟩
        go_wp2_with fail
        (with_reducible refine Calls.mono (szBoolS_ans _ _ s.below (left - s.plus.length - s.times.length) (by omega) (by omega) h1.lb (left - s.plus.length - s.times.length - s.below.length) (by split <;> omega) _) ?_)
        rintro e w' ⟨rfl, yy, rfl⟩
        go_wp2_with fail
        go_ret
        exact fin_int (by rw [HV.out, if_neg (by omega)]; omega) (hback yy)

set_option maxHeartbeats 4000000 in
theorem eqSystem_ans {W : World} {r r' : Ref} {s s' : Sys} (h : SysIn W r s) (k : SysIn W r' s') (sm : Small s) (p : Bool) (hp : p = true ↔ s = s') (x : Ext W) :
    Calls Try.prog 43 #[r.val s, r'.val s'] x.w (Ans W (.bool p)) := by
  have HP := Lib.hid hp
  clear hp
  unfold Ref.val
  by_cases en : s.n = s'.n
  · skip
    have EN := Lib.hid en
    clear en
    have fn : (s.n != s'.n) = false := by simpa using EN.out
    by_cases ea : s.plus = s'.plus
    · skip
      have EA := Lib.hid ea
      clear ea
      by_cases eb : s.times = s'.times
      · skip
        have EB := Lib.hid eb
        clear eb
        by_cases ec : s.below = s'.below
        · skip
          have EC := Lib.hid ec
          clear ec
          go_enter Try.func43, Try.ntmps43
          go_wp2_with fail
          generalize hW : (x.w.alloc _).alloc _ = W1
          generalize hB : x.w.heap.size = B
          obtain ⟨c0, c1, c2, c3, d0, d1, d2, d3, h1, k1, hback, yy, hy0⟩ := boxed2 h k x hB hW
          clear hW hB
          rw [← hy0]
          clear hy0
          (with_reducible refine Calls.mono (eqIntS_ans h1.plus k1.plus sm.p true (by refine iff_tf ?_; dsimp only; exact EA.out) _) ?_)
          rintro e w' ⟨rfl, yy, rfl⟩
          go_wp2_with fail
          (with_reducible refine Calls.mono (eqIntS_ans h1.times k1.times sm.t true (by refine iff_tf ?_; dsimp only; exact EB.out) _) ?_)
          rintro e w' ⟨rfl, yy, rfl⟩
          go_wp2_with fail
          (with_reducible refine Calls.mono (eqBoolS_ans h1.below k1.below sm.b true (by refine iff_tf ?_; dsimp only; exact EC.out) _) ?_)
          rintro e w' ⟨rfl, yy, rfl⟩
          go_wp2_with fail
          go_ret
          exact fin_true HP (by cases s; cases s'; have := EN.out; have := EA.out; have := EB.out; have := EC.out; simp_all) (hback yy)
        · skip
          have EC := Lib.hid ec
          clear ec
          go_enter Try.func43, Try.ntmps43
          go_wp2_with fail
          generalize hW : (x.w.alloc _).alloc _ = W1
          generalize hB : x.w.heap.size = B
          obtain ⟨c0, c1, c2, c3, d0, d1, d2, d3, h1, k1, hback, yy, hy0⟩ := boxed2 h k x hB hW
          clear hW hB
          rw [← hy0]
          clear hy0
          (with_reducible refine Calls.mono (eqIntS_ans h1.plus k1.plus sm.p true (by refine iff_tf ?_; dsimp only; exact EA.out) _) ?_)
          rintro e w' ⟨rfl, yy, rfl⟩
          go_wp2_with fail
          (with_reducible refine Calls.mono (eqIntS_ans h1.times k1.times sm.t true (by refine iff_tf ?_; dsimp only; exact EB.out) _) ?_)
          rintro e w' ⟨rfl, yy, rfl⟩
          go_wp2_with fail
          (with_reducible refine Calls.mono (eqBoolS_ans h1.below k1.below sm.b false (by refine iff_tf ?_; dsimp only; exact EC.out) _) ?_)
          rintro e w' ⟨rfl, yy, rfl⟩
          go_wp2_with fail
          go_ret
          exact fin_false HP (fun q => EC.out (by rw [q])) (hback yy)
      · skip
        have EB := Lib.hid eb
        clear eb
        go_enter Try.func43, Try.ntmps43
        go_wp2_with fail
        generalize hW : (x.w.alloc _).alloc _ = W1
        generalize hB : x.w.heap.size = B
        obtain ⟨c0, c1, c2, c3, d0, d1, d2, d3, h1, k1, hback, yy, hy0⟩ := boxed2 h k x hB hW
        clear hW hB
        rw [← hy0]
        clear hy0
        (with_reducible refine Calls.mono (eqIntS_ans h1.plus k1.plus sm.p true (by refine iff_tf ?_; dsimp only; exact EA.out) _) ?_)
        rintro e w' ⟨rfl, yy, rfl⟩
        go_wp2_with fail
        (with_reducible refine Calls.mono (eqIntS_ans h1.times k1.times sm.t false (by refine iff_tf ?_; dsimp only; exact EB.out) _) ?_)
        rintro e w' ⟨rfl, yy, rfl⟩
        go_wp2_with fail
        go_ret
        exact fin_false HP (fun q => EB.out (by rw [q])) (hback yy)
    · skip
      have EA := Lib.hid ea
      clear ea
      go_enter Try.func43, Try.ntmps43
      go_wp2_with fail
      generalize hW : (x.w.alloc _).alloc _ = W1
      generalize hB : x.w.heap.size = B
      obtain ⟨c0, c1, c2, c3, d0, d1, d2, d3, h1, k1, hback, yy, hy0⟩ := boxed2 h k x hB hW
      clear hW hB
      rw [← hy0]
      clear hy0
      (with_reducible refine Calls.mono (eqIntS_ans h1.plus k1.plus sm.p false (by refine iff_tf ?_; dsimp only; exact EA.out) _) ?_)
      rintro e w' ⟨rfl, yy, rfl⟩
      go_wp2_with fail
      go_ret
      exact fin_false HP (fun q => EA.out (by rw [q])) (hback yy)
  · skip
    have EN := Lib.hid en
    clear en
    have fn : (s.n != s'.n) = true := by simpa using EN.out
    go_enter Try.func43, Try.ntmps43
    go_wp2_with fail
    generalize hW : (x.w.alloc _).alloc _ = W1
    generalize hB : x.w.heap.size = B
    obtain ⟨c0, c1, c2, c3, d0, d1, d2, d3, h1, k1, hback, yy, hy0⟩ := boxed2 h k x hB hW
    clear hW hB
    rw [← hy0]
    clear hy0
    go_wp2
    go_ret
    exact fin_false HP (fun q => EN.out (by rw [q])) (hback yy)

end Go.Proofs.Ytkokmpdmmfghhaa

/- The laws' marks. -/
namespace Go.Proofs.Ytkokmpdmmfghhaa
open Go.RowKit

def marksI (m : Int) (n : Nat) : List Value := (List.range n).map fun (i : Nat) => Value.int .i64 (m + (i : Int))
def bit3 (k : Int) : Bool := k % 3 == 0
def marksB (m : Int) (n : Nat) : List Value := (List.range n).map fun (i : Nat) => Value.bool (bit3 (m + (i : Int)))
theorem marksI_at (m : Int) {n j : Nat} (h : j < n) : (marksI m n)[j]? = some (.int .i64 (m + j)) := by simp [marksI, h]
theorem marksB_at (m : Int) {n j : Nat} (h : j < n) : (marksB m n)[j]? = some (.bool (bit3 (m + j))) := by simp [marksB, h]

set_option maxHeartbeats 4000000 in
theorem markIntS_ans {w : World} {base : Nat} {a : Option Addr} {n c : Nat} {xs : List Value} (h : w.ownsRow base 3 1 (.slice a n c) n xs) (hn : n ≤ 1000000000) (m : Int) (h0 : 0 ≤ m) (h1 : m ≤ 1000000000) :
    Calls Try.prog 121 #[.slice a n c, .int .i64 m] w (fun e w' => e = .returned (.int .i64 (m + n)) ∧ w'.ownsRow base 3 1 (.slice a n c) n (marksI m n) ∧ w.grownBy w' (Value.slice a n c).ownBlock) := by
  rcases h.2 with ⟨e, rfl⟩ | ⟨g, cap, cur, e, hb, hg, hcap, hmax, hsz, htk⟩
  · cases e
    go_enter Try.func121, Try.ntmps121
    go_wp2
    go_loopw [5, 1] (fun i k wr => i = .int .i64 0 ∧ k = .int .i64 m ∧ wr = w) (fun _ _ _ => 0)
    case atStart => exact ⟨rfl, rfl, rfl⟩
    case round =>
      obtain ⟨rfl, rfl, rfl⟩ := hrel
      go_wp2
      go_ret
      exact ⟨by simp, (World.ownsRow_nil _ _ _ _ : World.ownsRow _ _ _ _ _ _ []), World.grownBy.refl _ _⟩
  · cases e
    clear hsz htk hmax hcap hg cur
    go_enter Try.func121, Try.ntmps121
    go_wp2
    go_loopw [5, 1] (fun i k wr => ∃ (j : Nat) (ys : List Value), i = .int .i64 j ∧ k = .int .i64 (m + j) ∧ j ≤ n ∧ wr.ownsRow base 3 1 (.slice (some ⟨g, 0, none⟩) n c) n ys ∧ w.grownBy wr (some g) ∧ Hid (∀ i, i < j → ys[i]? = (marksI m n)[i]?)) (fun i _ _ => n - (intOf i).toNat)
    case atStart => exact ⟨0, xs, rfl, by simp, by omega, h, World.grownBy.refl _ _, fun i hi => by omega⟩
    case round =>
      obtain ⟨j, ys, rfl, rfl, hj, hown, hgr, hX⟩ := hrel
      by_cases hlt : j < n
      · have hlt' : (j : Int) < (n : Int) := by omega
        have hly : ys.length = n := by have := hown.1; omega
        obtain ⟨v0, hv0⟩ : ∃ v0, ys[j]? = some v0 := ⟨_, List.getElem?_eq_getElem (by omega)⟩
        have hold : wr.cell? ⟨g, j, none⟩ = some v0 := by rw [hown.cellAt j (by omega)]; exact hv0
        have hfz : wr.frozen? ⟨g, j, none⟩ = false := hown.frozenAt j
        obtain ⟨hst, hgs⟩ := hown.stored j (Value.int .i64 (m + (j : Int)))
        have HS := Lib.hid hst
        have HG := Lib.hid (hgr.trans hgs)
        have HL := Lib.hid hly
        skip
        clear hst hgs hv0 hly hown hgr
        go_wp2
        go_roundw
        case rel =>
          refine ⟨j + 1, _, by go_num, by go_num, by omega, HS.out, HG.out, fun i hi => ?_⟩
          have hly := HL.out
          rw [List.getElem?_set]
          by_cases e : j = i
          · subst e
            rw [marksI_at _ hlt, if_pos rfl, if_pos (by omega)] <;> rfl
          · rw [if_neg e]; exact hX.out i (by omega)
        case measure => simp [intOf]; omega
      · have hlt' : ¬ (j : Int) < (n : Int) := by omega
        have hke : j = n := by omega
        have HK := Lib.hid hke
        have HO := Lib.hid hown
        have HG := Lib.hid hgr
        clear hke hown hgr
        go_wp2
        go_ret
        refine ⟨by rw [HK.out] <;> rfl, ?_, HG.out⟩
        have e : ys = marksI m n := by
          apply List.ext_getElem?
          intro i
          by_cases hi : i < n
          · exact hX.out i (by rw [HK.out]; exact hi)
          · have := HO.out.1
            rw [List.getElem?_eq_none (by omega), List.getElem?_eq_none (by simp [marksI]; omega)]
        rw [← e]
        exact HO.out

set_option maxHeartbeats 4000000 in
theorem markBoolS_ans {w : World} {base : Nat} {a : Option Addr} {n c : Nat} {xs : List Value} (h : w.ownsRow base 4 1 (.slice a n c) n xs) (hn : n ≤ 1000000000) (m : Int) (h0 : 0 ≤ m) (h1 : m ≤ 1000000000) :
    Calls Try.prog 122 #[.slice a n c, .int .i64 m] w (fun e w' => e = .returned (.int .i64 (m + n)) ∧ w'.ownsRow base 4 1 (.slice a n c) n (marksB m n) ∧ w.grownBy w' (Value.slice a n c).ownBlock) := by
  rcases h.2 with ⟨e, rfl⟩ | ⟨g, cap, cur, e, hb, hg, hcap, hmax, hsz, htk⟩
  · cases e
    go_enter Try.func122, Try.ntmps122
    go_wp2
    go_loopw [5, 1] (fun i k wr => i = .int .i64 0 ∧ k = .int .i64 m ∧ wr = w) (fun _ _ _ => 0)
    case atStart => exact ⟨rfl, rfl, rfl⟩
    case round =>
      obtain ⟨rfl, rfl, rfl⟩ := hrel
      go_wp2
      go_ret
      exact ⟨by simp, (World.ownsRow_nil _ _ _ _ : World.ownsRow _ _ _ _ _ _ []), World.grownBy.refl _ _⟩
  · cases e
    clear hsz htk hmax hcap hg cur
    go_enter Try.func122, Try.ntmps122
    go_wp2
    go_loopw [5, 1] (fun i k wr => ∃ (j : Nat) (ys : List Value), i = .int .i64 j ∧ k = .int .i64 (m + j) ∧ j ≤ n ∧ wr.ownsRow base 4 1 (.slice (some ⟨g, 0, none⟩) n c) n ys ∧ w.grownBy wr (some g) ∧ Hid (∀ i, i < j → ys[i]? = (marksB m n)[i]?)) (fun i _ _ => n - (intOf i).toNat)
    case atStart => exact ⟨0, xs, rfl, by simp, by omega, h, World.grownBy.refl _ _, fun i hi => by omega⟩
    case round =>
      obtain ⟨j, ys, rfl, rfl, hj, hown, hgr, hX⟩ := hrel
      by_cases hlt : j < n
      · have hlt' : (j : Int) < (n : Int) := by omega
        have hly : ys.length = n := by have := hown.1; omega
        obtain ⟨v0, hv0⟩ : ∃ v0, ys[j]? = some v0 := ⟨_, List.getElem?_eq_getElem (by omega)⟩
        have hold : wr.cell? ⟨g, j, none⟩ = some v0 := by rw [hown.cellAt j (by omega)]; exact hv0
        have hfz : wr.frozen? ⟨g, j, none⟩ = false := hown.frozenAt j
        obtain ⟨hst, hgs⟩ := hown.stored j (Value.bool ((m + (j : Int)) % 3 == 0))
        have HS := Lib.hid hst
        have HG := Lib.hid (hgr.trans hgs)
        have HL := Lib.hid hly
        have hb3 : (m + (j : Int)).tmod 3 = (m + (j : Int)) % 3 := Int.tmod_eq_emod_of_nonneg (by omega)
        clear hst hgs hv0 hly hown hgr
        go_wp2
        go_roundw
        case rel =>
          refine ⟨j + 1, _, by go_num, by go_num, by omega, HS.out, HG.out, fun i hi => ?_⟩
          have hly := HL.out
          rw [List.getElem?_set]
          by_cases e : j = i
          · subst e
            rw [marksB_at _ hlt, if_pos rfl, if_pos (by omega)] <;> rfl
          · rw [if_neg e]; exact hX.out i (by omega)
        case measure => simp [intOf]; omega
      · have hlt' : ¬ (j : Int) < (n : Int) := by omega
        have hke : j = n := by omega
        have HK := Lib.hid hke
        have HO := Lib.hid hown
        have HG := Lib.hid hgr
        clear hke hown hgr
        go_wp2
        go_ret
        refine ⟨by rw [HK.out] <;> rfl, ?_, HG.out⟩
        have e : ys = marksB m n := by
          apply List.ext_getElem?
          intro i
          by_cases hi : i < n
          · exact hX.out i (by rw [HK.out]; exact hi)
          · have := HO.out.1
            rw [List.getElem?_eq_none (by omega), List.getElem?_eq_none (by simp [marksB]; omega)]
        rw [← e]
        exact HO.out

end Go.Proofs.Ytkokmpdmmfghhaa

/- Blocks of slices; worlds that differ in some blocks alone. Nothing is walked here. -/
namespace Go.Proofs.Ytkokmpdmmfghhaa
open Go.RowKit

/-- The block of a slice. -/
def ob : Option Addr → Option Nat | none => none | some a => some a.block
theorem ob_eq (a : Option Addr) (n c : Nat) : (Value.slice a n c).ownBlock = ob a := by cases a <;> rfl
theorem owns_of_block {w w' : World} {base : Nat} {e : TypeId} {size : Nat} {v : Value} {n : Nat} {xs : List Value} (h : w.ownsRow base e size v n xs) (hk : ∀ g, v.ownBlock = some g → w'.heap[g]? = w.heap[g]?) : w'.ownsRow base e size v n xs := by
  obtain ⟨h1, h2⟩ := h
  refine ⟨h1, ?_⟩
  rcases h2 with h2 | ⟨g, cap, cur, hv, hb, hg, r⟩
  · exact .inl h2
  · subst hv
    exact .inr ⟨g, cap, cur, rfl, hb, (hk g rfl).trans hg, r⟩
theorem owns_len {w : World} {base : Nat} {e : TypeId} {size : Nat} {a : Option Addr} {n c : Nat} {xs : List Value} (h : w.ownsRow base e size (.slice a n c) n xs) : n ≤ 9223372036854775807 := by
  rcases h.2 with ⟨_, rfl⟩ | ⟨g, cap, cur, _, _, _, h1, h2, _⟩
  · omega
  · unfold maxLen at h2; omega
theorem owns_at {w : World} {base : Nat} {e : TypeId} {size : Nat} {a : Option Addr} {n c : Nat} {xs : List Value} (h : w.ownsRow base e size (.slice a n c) n xs) (hn : 0 < n) : ∃ g, a = some ⟨g, 0, none⟩ ∧ ob a = some g := by
  rcases h.2 with ⟨_, rfl⟩ | ⟨g, cap, cur, e, _⟩
  · omega
  · cases e; exact ⟨g, rfl, rfl⟩

/-- All blocks but those in B are as they were. -/
structure Only (w w' : World) (B : Nat → Prop) : Prop where
  os : w'.os = w.os
  tape : w'.tape = w.tape
  output : w'.output = w.output
  size : w.heap.size ≤ w'.heap.size
  block : ∀ g, g < w.heap.size → ¬ B g → w'.heap[g]? = w.heap[g]?
theorem Only.refl (w : World) (B : Nat → Prop) : Only w w B := ⟨rfl, rfl, rfl, Nat.le_refl _, fun _ _ _ => rfl⟩
theorem Only.trans {w w' w'' : World} {B : Nat → Prop} (h : Only w w' B) (k : Only w' w'' B) : Only w w'' B :=
  ⟨k.os.trans h.os, k.tape.trans h.tape, k.output.trans h.output, Nat.le_trans h.size k.size, fun g hg hn => (k.block g (Nat.lt_of_lt_of_le hg h.size) hn).trans (h.block g hg hn)⟩
theorem Only.mono {w w' : World} {B B' : Nat → Prop} (h : Only w w' B) (hb : ∀ g, g < w.heap.size → B g → B' g) : Only w w' B' :=
  ⟨h.os, h.tape, h.output, h.size, fun g hg hn => h.block g hg (fun q => hn (hb g hg q))⟩
theorem Only.grown {w w' : World} {o : Option Nat} {B : Nat → Prop} (h : w.grownBy w' o) (hb : ∀ g, o = some g → B g) : Only w w' B :=
  ⟨h.os, h.tape, h.output, h.size, fun g hg hn => h.block g hg (fun e => hn (hb g e.symm))⟩
theorem Only.alloc (w : World) (o : Obj) (B : Nat → Prop) : Only w (w.alloc o) B := ⟨rfl, rfl, rfl, by simp, fun g hg _ => by show (w.heap.push o)[g]? = _; rw [Array.getElem?_push_lt hg, Array.getElem?_eq_getElem hg]⟩
theorem Only.of {w w' : World} (h : Below w.heap.size w w') (B : Nat → Prop) : Only w w' B := ⟨h.os, h.tape, h.output, h.size, fun g hg _ => h.block g hg⟩
theorem Only.below {w w' : World} {B : Nat → Prop} {n : Nat} (h : Only w w' B) (hb : ∀ g, B g → n ≤ g) (hn : n ≤ w.heap.size) : Below n w w' :=
  ⟨h.os, h.tape, h.output, h.size, fun g hg => h.block g (by omega) (fun q => by have := hb g q; omega)⟩

end Go.Proofs.Ytkokmpdmmfghhaa

/- The laws' marks of a system. -/
namespace Go.Proofs.Ytkokmpdmmfghhaa
open Go.RowKit

set_option maxHeartbeats 4000000 in
theorem heldIntS_ans {W : World} {a : Option Addr} {c : Nat} {l : List Int} (h : Row W (Value.int .i64) a l) (hn : l.length ≤ 1000000000) (m : Int) (h0 : 0 ≤ m) (h1 : m ≤ 1000000000) (hl : ∀ (i : Nat) u, l[i]? = some u → u = m + (i : Int)) (x : Ext W) :
    Calls Try.prog 123 #[.slice a l.length c, .int .i64 m] x.w (Ans W (.int .i64 (m + l.length))) := by
  have HL := Lib.hid hl
  clear hl
  obtain ⟨yy, hyy⟩ : ∃ y : Ext W, x = y := ⟨x, rfl⟩
  rw [hyy]
  clear hyy
  go_enter Try.func123, Try.ntmps123
  go_wp2
  go_loopw [5, 1] (fun i k wr => ∃ j : Nat, i = .int .i64 j ∧ k = .int .i64 (m + j) ∧ j ≤ l.length ∧ (∃ y : Ext W, wr = y.w)) (fun i _ _ => l.length - (intOf i).toNat)
  case atStart => exact ⟨0, rfl, by simp, by omega, ⟨yy, rfl⟩⟩
  case round =>
    obtain ⟨j, rfl, rfl, hj, ⟨yy, rfl⟩⟩ := hrel
    by_cases hlt : j < l.length
    · have hlt' : (j : Int) < (l.length : Int) := by omega
      obtain ⟨b1, o1, rfl, hc⟩ := h.at hlt
      have c1 : ∀ y : Ext W, y.w.cell? ⟨b1, o1 + j, none⟩ = some ((Value.int .i64) l[j]) := fun y => y.cell (hc j _ (List.getElem?_eq_getElem hlt))
      have hu := HL.out j _ (List.getElem?_eq_getElem hlt)
      clear hc
      generalize l[j] = u at *
      subst hu
      skip
      go_wp2
      go_roundw
      case rel => exact ⟨j + 1, by go_num, by go_num, by omega, ⟨yy, rfl⟩⟩
      case measure => simp [intOf]; omega
    · have hlt' : ¬ (j : Int) < (l.length : Int) := by omega
      have hke : (j : Int) = (l.length : Int) := by omega
      have HK := Lib.hid hke
      clear hke
      go_wp2
      go_ret
      exact fin_int (by rw [HK.out]) ⟨yy, rfl⟩

set_option maxHeartbeats 4000000 in
theorem heldBoolS_ans {W : World} {a : Option Addr} {c : Nat} {l : List Bool} (h : Row W Value.bool a l) (hn : l.length ≤ 1000000000) (m : Int) (h0 : 0 ≤ m) (h1 : m ≤ 1000000000) (hl : ∀ (i : Nat) u, l[i]? = some u → u = bit3 (m + (i : Int))) (x : Ext W) :
    Calls Try.prog 124 #[.slice a l.length c, .int .i64 m] x.w (Ans W (.int .i64 (m + l.length))) := by
  have HL := Lib.hid hl
  clear hl
  obtain ⟨yy, hyy⟩ : ∃ y : Ext W, x = y := ⟨x, rfl⟩
  rw [hyy]
  clear hyy
  go_enter Try.func124, Try.ntmps124
  go_wp2
  go_loopw [5, 1] (fun i k wr => ∃ j : Nat, i = .int .i64 j ∧ k = .int .i64 (m + j) ∧ j ≤ l.length ∧ (∃ y : Ext W, wr = y.w)) (fun i _ _ => l.length - (intOf i).toNat)
  case atStart => exact ⟨0, rfl, by simp, by omega, ⟨yy, rfl⟩⟩
  case round =>
    obtain ⟨j, rfl, rfl, hj, ⟨yy, rfl⟩⟩ := hrel
    by_cases hlt : j < l.length
    · have hlt' : (j : Int) < (l.length : Int) := by omega
      obtain ⟨b1, o1, rfl, hc⟩ := h.at hlt
      have c1 : ∀ y : Ext W, y.w.cell? ⟨b1, o1 + j, none⟩ = some (Value.bool l[j]) := fun y => y.cell (hc j _ (List.getElem?_eq_getElem hlt))
      have hu := HL.out j _ (List.getElem?_eq_getElem hlt)
      clear hc
      generalize l[j] = u at *
      subst hu
      unfold bit3 at c1
      have hb3 : (m + (j : Int)).tmod 3 = (m + (j : Int)) % 3 := Int.tmod_eq_emod_of_nonneg (by omega)
      go_wp2
      go_roundw
      case rel => exact ⟨j + 1, by go_num, by go_num, by omega, ⟨yy, rfl⟩⟩
      case measure => simp [intOf]; omega
    · have hlt' : ¬ (j : Int) < (l.length : Int) := by omega
      have hke : (j : Int) = (l.length : Int) := by omega
      have HK := Lib.hid hke
      clear hke
      go_wp2
      go_ret
      exact fin_int (by rw [HK.out]) ⟨yy, rfl⟩

def Apart (v u : Value) : Prop := v.ownBlock = none ∨ v.ownBlock ≠ u.ownBlock
theorem Apart.symm {v u : Value} (h : Apart v u) : Apart u v := by
  unfold Apart at *
  cases hv : v.ownBlock <;> cases hu : u.ownBlock <;> simp_all
  exact fun e => h e.symm
/-- A system whose three tables lie in blocks of their own, from base on. -/
structure Own3 (w : World) (base : Nat) (r : Ref) (n1 n2 n3 : Nat) (x1 x2 x3 : List Value) : Prop where
  o1 : w.ownsRow base 3 1 (.slice r.pa n1 r.pc) n1 x1
  o2 : w.ownsRow base 3 1 (.slice r.ta n2 r.tc) n2 x2
  o3 : w.ownsRow base 4 1 (.slice r.ba n3 r.bc) n3 x3
  d12 : Apart (.slice r.pa n1 r.pc) (.slice r.ta n2 r.tc)
  d13 : Apart (.slice r.pa n1 r.pc) (.slice r.ba n3 r.bc)
  d23 : Apart (.slice r.ta n2 r.tc) (.slice r.ba n3 r.bc)
theorem Own3.ext {W : World} {base : Nat} {r : Ref} {n1 n2 n3 : Nat} {x1 x2 x3 : List Value} (h : Own3 W base r n1 n2 n3 x1 x2 x3) (y : Ext W) : Own3 y.w base r n1 n2 n3 x1 x2 x3 :=
  ⟨owns_ext h.o1 y, owns_ext h.o2 y, owns_ext h.o3 y, h.d12, h.d13, h.d23⟩
theorem Own3.lower {W : World} {base base' : Nat} {r : Ref} {n1 n2 n3 : Nat} {x1 x2 x3 : List Value} (h : Own3 W base r n1 n2 n3 x1 x2 x3) (hb : base' ≤ base) : Own3 W base' r n1 n2 n3 x1 x2 x3 :=
  ⟨owns_lower h.o1 hb, owns_lower h.o2 hb, owns_lower h.o3 hb, h.d12, h.d13, h.d23⟩
theorem own_row {α : Type} {w : World} {base : Nat} {E : TypeId} {mk : α → Value} {a : Option Addr} {c : Nat} {l : List α} (h : w.ownsRow base E 1 (.slice a l.length c) l.length (l.map mk)) : Row w mk a l := by
  obtain ⟨a', c', e, hr, _⟩ := owned_row h
  cases e
  exact hr
/-- A new system whose tables lie in blocks of their own. -/
def NewOwn (W : World) (s : Sys) : Ending → World → Prop := fun e w' => ∃ (r : Ref) (y : Ext W), e = .returned (r.val s) ∧ w' = y.w ∧
  Own3 y.w W.heap.size r s.plus.length s.times.length s.below.length (s.plus.map (Value.int .i64)) (s.times.map (Value.int .i64)) (s.below.map Value.bool)
theorem Own3.sys {w : World} {base : Nat} {r : Ref} {s : Sys} (h : Own3 w base r s.plus.length s.times.length s.below.length (s.plus.map (Value.int .i64)) (s.times.map (Value.int .i64)) (s.below.map Value.bool)) (sm : Small s) : SysIn w r s :=
  ⟨own_row h.o1, own_row h.o2, own_row h.o3, by have := sm.p; omega, by have := sm.t; omega, by have := sm.b; omega⟩

set_option maxHeartbeats 4000000 in
theorem markSystem_ans {w : World} {base : Nat} {r : Ref} {n1 n2 n3 : Nat} {x1 x2 x3 : List Value} (h : Own3 w base r n1 n2 n3 x1 x2 x3) (hbase : base ≤ w.heap.size) (z : Int) (hn1 : n1 ≤ 100000000) (hn2 : n2 ≤ 100000000) (hn3 : n3 ≤ 100000000) (m : Int) (hm0 : 0 ≤ m) (hm1 : m ≤ 100000000) :
    Calls Try.prog 44 #[.agg #[.int .i64 z, .slice r.pa n1 r.pc, .slice r.ta n2 r.tc, .slice r.ba n3 r.bc], .int .i64 m] w (fun e w' => e = .returned (.int .i64 (m + n1 + n2 + n3)) ∧
      Own3 w' base r n1 n2 n3 (marksI m n1) (marksI (m + n1) n2) (marksB (m + n1 + n2) n3) ∧ Below base w w' ∧ Only w w' (fun g => ob r.pa = some g ∨ ob r.ta = some g ∨ ob r.ba = some g)) := by
  go_enter Try.func44, Try.ntmps44
  go_wp2_with fail
  have l1 := h.o1.lt
  have l2 := h.o2.lt
  have l3 := h.o3.lt
  generalize hWb : w.alloc _ = Wb
  generalize hB : w.heap.size = B at *
  have bB : Wb.heap[B]? = some (.cells #[.int .i64 z, .slice r.pa n1 r.pc, .slice r.ta n2 r.tc, .slice r.ba n3 r.bc] 27 (0, 0)) := by
    subst hWb; subst hB
    show (w.heap.push _)[w.heap.size]? = _
    rw [Array.getElem?_push, if_pos rfl]
  have o1 : Wb.ownsRow base 3 1 (.slice r.pa n1 r.pc) n1 x1 := by subst hWb; exact h.o1.alloc _
  have o2 : Wb.ownsRow base 3 1 (.slice r.ta n2 r.tc) n2 x2 := by subst hWb; exact h.o2.alloc _
  have o3 : Wb.ownsRow base 4 1 (.slice r.ba n3 r.bc) n3 x3 := by subst hWb; exact h.o3.alloc _
  have bel : Below base w Wb := by subst hWb; exact (Below.refl _ _).alloc (by omega) _
  have hBs : B < Wb.heap.size := (Array.getElem?_eq_some_iff.1 bB).1
  have only0 : Only w Wb (fun g => ob r.pa = some g ∨ ob r.ta = some g ∨ ob r.ba = some g) := by subst hWb; exact Only.alloc _ _ _
  clear hWb
  refine Calls.mono (markIntS_ans o1 (by omega) m (by omega) (by omega)) ?_
  rintro e wa ⟨rfl, p1, g1⟩
  have bBa : wa.heap[B]? = _ := (g1.block B hBs (fun e => by have := (l1 B e.symm).2; omega)).trans bB
  have o2 := o2.kept g1 h.d12.symm
  have o3 := o3.kept g1 h.d13.symm
  have bel := bel.grown g1 (by omega) (fun k hk => (l1 k hk).1)
  have hBs : B < wa.heap.size := (Array.getElem?_eq_some_iff.1 bBa).1
  have k2 := blk_cell bBa 2
  have z2 : wa.cell? ⟨B, 2, none⟩ = some (.slice r.ta n2 r.tc) := k2
  have only1 := only0.trans (Only.grown (B := fun g => ob r.pa = some g ∨ ob r.ta = some g ∨ ob r.ba = some g) g1 (fun g e => .inl (by rw [← e, ob_eq])))
  clear k2 o1 bB
  go_wp2_with fail
  refine Calls.mono (markIntS_ans o2 (by omega) (m + n1) (by omega) (by omega)) ?_
  rintro e wb ⟨rfl, p2, g2⟩
  have bBb : wb.heap[B]? = _ := (g2.block B hBs (fun e => by have := (l2 B e.symm).2; omega)).trans bBa
  have p1 := p1.kept g2 h.d12
  have o3 := o3.kept g2 h.d23.symm
  have bel := bel.grown g2 (by omega) (fun k hk => (l2 k hk).1)
  have hBs : B < wb.heap.size := (Array.getElem?_eq_some_iff.1 bBb).1
  have k3 := blk_cell bBb 3
  have z3 : wb.cell? ⟨B, 3, none⟩ = some (.slice r.ba n3 r.bc) := k3
  have only2 := only1.trans (Only.grown (B := fun g => ob r.pa = some g ∨ ob r.ta = some g ∨ ob r.ba = some g) g2 (fun g e => .inr (.inl (by rw [← e, ob_eq]))))
  clear k3 o2 bBa z2
  go_wp2_with fail
  refine Calls.mono (markBoolS_ans o3 (by omega) (m + n1 + n2) (by omega) (by omega)) ?_
  rintro e wc ⟨rfl, p3, g3⟩
  have p1 := p1.kept g3 h.d13
  have p2 := p2.kept g3 h.d23
  have bel := bel.grown g3 (by omega) (fun k hk => (l3 k hk).1)
  have only3 := only2.trans (Only.grown (B := fun g => ob r.pa = some g ∨ ob r.ta = some g ∨ ob r.ba = some g) g3 (fun g e => .inr (.inr (by rw [← e, ob_eq]))))
  clear bBb z3
  go_wp2_with fail
  go_ret
  exact ⟨rfl, ⟨p1, p2, p3, h.d12, h.d13, h.d23⟩, bel, only3⟩

set_option maxHeartbeats 4000000 in
theorem heldSystem_ans {W : World} {r : Ref} {s : Sys} (h : SysIn W r s) (hn1 : s.plus.length ≤ 100000000) (hn2 : s.times.length ≤ 100000000) (hn3 : s.below.length ≤ 100000000) (m : Int) (hm0 : 0 ≤ m) (hm1 : m ≤ 100000000)
    (m1 : ∀ (i : Nat) u, s.plus[i]? = some u → u = m + (i : Int)) (m2 : ∀ (i : Nat) u, s.times[i]? = some u → u = m + (s.plus.length : Int) + (i : Int)) (m3 : ∀ (i : Nat) u, s.below[i]? = some u → u = bit3 (m + (s.plus.length : Int) + (s.times.length : Int) + (i : Int))) (x : Ext W) :
    Calls Try.prog 45 #[r.val s, .int .i64 m] x.w (Ans W (.int .i64 (m + s.plus.length + s.times.length + s.below.length))) := by
  have M1 := Lib.hid m1
  have M2 := Lib.hid m2
  have M3 := Lib.hid m3
  clear m1 m2 m3
  unfold Ref.val
  go_enter Try.func45, Try.ntmps45
  go_wp2_with fail
  generalize hW : x.w.alloc _ = W1
  generalize hB : x.w.heap.size = B
  obtain ⟨c0, c1, c2, c3, h1, hback, yy, hy0⟩ := boxed h x hB hW
  clear hW hB
  rw [← hy0]
  clear hy0
  (with_reducible refine Calls.mono (heldIntS_ans h1.plus (by omega) (m) (by omega) (by omega) M1.out _) ?_)
  rintro e w' ⟨rfl, yy, rfl⟩
  go_wp2_with fail
  (with_reducible refine Calls.mono (heldIntS_ans h1.times (by omega) (m + s.plus.length) (by omega) (by omega) M2.out _) ?_)
  rintro e w' ⟨rfl, yy, rfl⟩
  go_wp2_with fail
  (with_reducible refine Calls.mono (heldBoolS_ans h1.below (by omega) (m + s.plus.length + s.times.length) (by omega) (by omega) M3.out _) ?_)
  rintro e w' ⟨rfl, yy, rfl⟩
  go_wp2_with fail
  go_ret
  exact ⟨rfl, hback yy⟩

def uptoI (m : Int) (n : Nat) : List Int := (List.range n).map fun (i : Nat) => m + (i : Int)
def bitsB (m : Int) (n : Nat) : List Bool := (List.range n).map fun (i : Nat) => bit3 (m + (i : Int))
theorem marksI_eq (m : Int) (n : Nat) : marksI m n = (uptoI m n).map (Value.int .i64) := by simp [marksI, uptoI, List.map_map]
theorem marksB_eq (m : Int) (n : Nat) : marksB m n = (bitsB m n).map Value.bool := by simp [marksB, bitsB, List.map_map]
theorem uptoI_len (m : Int) (n : Nat) : (uptoI m n).length = n := by simp [uptoI]
theorem bitsB_len (m : Int) (n : Nat) : (bitsB m n).length = n := by simp [bitsB]
theorem uptoI_at {m : Int} {n i : Nat} {u : Int} (h : (uptoI m n)[i]? = some u) : u = m + (i : Int) := by
  obtain ⟨hi, h⟩ := List.getElem?_eq_some_iff.1 h
  rw [← h]; simp [uptoI]
theorem bitsB_at {m : Int} {n i : Nat} {u : Bool} (h : (bitsB m n)[i]? = some u) : u = bit3 (m + (i : Int)) := by
  obtain ⟨hi, h⟩ := List.getElem?_eq_some_iff.1 h
  rw [← h]; simp [bitsB]
/-- A system whose tables are marked. -/
def mkdS (s : Sys) (m : Int) : Sys := ⟨s.n, uptoI m s.plus.length, uptoI (m + s.plus.length) s.times.length, bitsB (m + s.plus.length + s.times.length) s.below.length⟩
theorem mkdS_val (r : Ref) (s : Sys) (m : Int) : r.val (mkdS s m) = r.val s := by simp [Ref.val, mkdS, uptoI_len, bitsB_len]
theorem Own3.marked {w : World} {base : Nat} {r : Ref} {s : Sys} {m : Int} (h : Own3 w base r s.plus.length s.times.length s.below.length (marksI m s.plus.length) (marksI (m + s.plus.length) s.times.length) (marksB (m + s.plus.length + s.times.length) s.below.length)) (sm : Small s) : SysIn w r (mkdS s m) := by
  have o1 := h.o1
  have o2 := h.o2
  have o3 := h.o3
  rw [marksI_eq] at o1 o2
  rw [marksB_eq] at o3
  refine ⟨own_row (c := r.pc) (l := uptoI m s.plus.length) (by rw [uptoI_len]; exact o1), own_row (c := r.tc) (l := uptoI (m + s.plus.length) s.times.length) (by rw [uptoI_len]; exact o2), own_row (c := r.bc) (l := bitsB (m + s.plus.length + s.times.length) s.below.length) (by rw [bitsB_len]; exact o3), ?_, ?_, ?_⟩
  · have := sm.p; simp [mkdS, uptoI_len]; omega
  · have := sm.t; simp [mkdS, uptoI_len]; omega
  · have := sm.b; simp [mkdS, bitsB_len]; omega
theorem heldMarked_ans {W : World} {r : Ref} {s : Sys} {m : Int} (h : SysIn W r (mkdS s m)) (hn1 : s.plus.length ≤ 100000000) (hn2 : s.times.length ≤ 100000000) (hn3 : s.below.length ≤ 100000000) (hm0 : 0 ≤ m) (hm1 : m ≤ 100000000) (x : Ext W) :
    Calls Try.prog 45 #[r.val s, .int .i64 m] x.w (Ans W (.int .i64 (m + s.plus.length + s.times.length + s.below.length))) := by
  have e1 : (mkdS s m).plus.length = s.plus.length := uptoI_len _ _
  have e2 : (mkdS s m).times.length = s.times.length := uptoI_len _ _
  have e3 : (mkdS s m).below.length = s.below.length := bitsB_len _ _
  have := heldSystem_ans h (by omega) (by omega) (by omega) m hm0 hm1 (fun i u hu => uptoI_at hu) (fun i u hu => by rw [e1]; exact uptoI_at hu) (fun i u hu => by rw [e1, e2]; exact bitsB_at hu) x
  rw [mkdS_val, e1, e2, e3] at this
  exact this

end Go.Proofs.Ytkokmpdmmfghhaa

/- What the laws' walks end in. -/
namespace Go.Proofs.Ytkokmpdmmfghhaa
open Go.RowKit

theorem lift_fact {W1 W3 : World} (yy : Ext W1) (hb : ∀ z : Ext W3, ∃ u : Ext yy.w, z.w = u.w) {a : Addr} {v : Value} (c : ∀ y : Ext W1, y.w.cell? a = some v) : ∀ z : Ext W3, z.w.cell? a = some v := fun z => by
  obtain ⟨u, hu⟩ := hb z
  rw [hu]
  exact c (yy.trans u)
theorem lift_sys {W1 W3 : World} (yy : Ext W1) (hb : ∀ z : Ext W3, ∃ u : Ext yy.w, z.w = u.w) (y0 : ∃ y0 : Ext W3, y0.w = W3) {r : Ref} {s : Sys} (h : SysIn W1 r s) : SysIn W3 r s := by
  obtain ⟨y0, hy⟩ := y0
  obtain ⟨u, hu⟩ := hb y0
  rw [← hy, hu]
  exact h.ext (yy.trans u)
theorem lift_back {W W1 W3 : World} (yy : Ext W1) (hb : ∀ z : Ext W3, ∃ u : Ext yy.w, z.w = u.w) (hback : ∀ y : Ext W1, ∃ z : Ext W, y.w = z.w) : ∀ y : Ext W3, ∃ z : Ext W, y.w = z.w := fun y => by
  obtain ⟨u, hu⟩ := hb y
  obtain ⟨z, hz⟩ := hback (yy.trans u)
  exact ⟨z, by rw [hu]; exact hz⟩
/-- A law's walk ends: true; nothing that was there has changed. -/
def LawEnd (W : World) : Ending → World → Prop := fun e w' => e = .returned (.bool true) ∧ Below W.heap.size W w'
theorem law_end {W : World} {w : World} (hz : ∃ z : Ext W, w = z.w) : LawEnd W (.returned (.bool true)) w := by
  obtain ⟨z, rfl⟩ := hz
  exact ⟨rfl, z.below⟩

end Go.Proofs.Ytkokmpdmmfghhaa

/- A struct of four cells that is handed back through its cell. -/
namespace Go.Proofs.Ytkokmpdmmfghhaa
open Go.RowKit

theorem ret4 {W y Y4 : World} {B : Nat} {T : TypeId} {z0 z1 z2 z3 a0 a1 a2 a3 : Value} (hb : Below W.heap.size W y) (hB : W.heap.size ≤ B) (bA : y.heap[B]? = some (.cells #[z0, z1, z2, z3] T (0, 0)))
    (hY : (((y.setCell ⟨B, 0, none⟩ a0).setCell ⟨B, 1, none⟩ a1).setCell ⟨B, 2, none⟩ a2).setCell ⟨B, 3, none⟩ a3 = Y4) :
    Below W.heap.size W Y4 ∧ (∀ k, k ≠ B → Y4.heap[k]? = y.heap[k]?) ∧ y.grownBy Y4 (some B) ∧ Y4.cell? ⟨B, 0, none⟩ = some a0 ∧ Y4.cell? ⟨B, 1, none⟩ = some a1 ∧ Y4.cell? ⟨B, 2, none⟩ = some a2 ∧ Y4.cell? ⟨B, 3, none⟩ = some a3 := by
  have hsame : ∀ k, k ≠ B → Y4.heap[k]? = y.heap[k]? := fun k hk => by
    subst hY
    rw [set_other rfl hk, set_other rfl hk, set_other rfl hk, set_other rfl hk]
  have q5 := set_blk (set_blk (set_blk (set_blk bA 0 a0 rfl) 1 a1 rfl) 2 a2 rfl) 3 a3 hY
  simp at q5
  refine ⟨?_, hsame, ⟨?_, ?_, ?_, ?_, fun k _ hk => hsame k (fun e => hk (by rw [e]))⟩, blk_cell q5 0, blk_cell q5 1, blk_cell q5 2, blk_cell q5 3⟩
  · subst hY
    exact (((hb.setCell hB _).setCell hB _).setCell hB _).setCell hB _
  · subst hY; rfl
  · subst hY; rfl
  · subst hY; rfl
  · subst hY; simp
theorem new_blk {w Y : World} {o : Obj} (h : w.alloc o = Y) : Y.heap[w.heap.size]? = some o := by
  subst h
  show (w.heap.push _)[w.heap.size]? = _
  rw [Array.getElem?_push, if_pos rfl]

/-- A block of plain cells. -/
def PlainB (w : World) (g : Nat) : Prop := ∃ (cur : Array Value) (T : TypeId), w.heap[g]? = some (.cells cur T (0, 0))
theorem PlainB.free {w : World} {g : Nat} (h : PlainB w g) (j : Nat) : w.frozen? ⟨g, j, none⟩ = false := by
  obtain ⟨cur, T, h⟩ := h
  exact blk_free h j
theorem PlainB.same {w w' : World} {g : Nat} (h : PlainB w g) (hk : w'.heap[g]? = w.heap[g]?) : PlainB w' g := by
  obtain ⟨cur, T, h⟩ := h
  exact ⟨cur, T, hk.trans h⟩
theorem PlainB.lt {w : World} {g : Nat} (h : PlainB w g) : g < w.heap.size := by
  obtain ⟨cur, T, h⟩ := h
  exact (Array.getElem?_eq_some_iff.1 h).1
theorem own_plain {w : World} {base : Nat} {e : TypeId} {size n c : Nat} {p : Addr} {xs : List Value} (h : w.ownsRow base e size (.slice (some p) n c) n xs) : PlainB w p.block := by
  rcases h.2 with ⟨q, _⟩ | ⟨g, cap, cur, q, _, hg, _⟩
  · cases q
  · cases q
    exact ⟨cur, e, hg⟩
/-- A new system, in new blocks. -/
def NewSysA (W : World) (s : Sys) : Ending → World → Prop := fun e w' => ∃ (r : Ref) (y : Ext W), e = .returned (r.val s) ∧ w' = y.w ∧ (∀ p, r.pa = some p ∨ r.ta = some p ∨ r.ba = some p → W.heap.size ≤ p.block ∧ PlainB y.w p.block) ∧ SysIn y.w r s
theorem SysIn.keep {w w' : World} {r : Ref} {s : Sys} {B : Nat} (h : SysIn w r s) (hk : ∀ k, k ≠ B → w'.heap[k]? = w.heap[k]?) (hp : ∀ p, r.pa = some p ∨ r.ta = some p ∨ r.ba = some p → p.block ≠ B) : SysIn w' r s :=
  ⟨row_keep h.plus (fun p q => hk _ (hp p (.inl q))), row_keep h.times (fun p q => hk _ (hp p (.inr (.inl q)))), row_keep h.below (fun p q => hk _ (hp p (.inr (.inr q)))), h.lp, h.lt, h.lb⟩

end Go.Proofs.Ytkokmpdmmfghhaa

/- What a system is, plainly: the laws of grades, as the program's own checks part them and as the model's do. -/
namespace Go.Proofs.Ytkokmpdmmfghhaa

/-- v is the first number below n of which P holds; -1 if there is none. -/
def IsFirst (n : Int) (P : Int → Prop) (v : Int) : Prop :=
  (0 ≤ v ∧ v < n ∧ P v ∧ ∀ i, 0 ≤ i → i < v → ¬ P i) ∨ (v = -1 ∧ ∀ i, 0 ≤ i → i < n → ¬ P i)

theorem isFirst_ex (n : Int) (P : Int → Prop) : ∃ v, IsFirst n P v := by
  by_cases h : ∃ i : Nat, (i : Int) < n ∧ P i
  · obtain ⟨i, hi⟩ := h
    induction i using Nat.strongRecOn with
    | _ i ih =>
      by_cases h2 : ∃ j : Nat, j < i ∧ P j
      · obtain ⟨j, hj, hp⟩ := h2
        exact ih j hj ⟨by omega, hp⟩
      · refine ⟨i, .inl ⟨by omega, hi.1, hi.2, fun k hk0 hk hp => h2 ⟨k.toNat, by omega, ?_⟩⟩⟩
        rw [show ((k.toNat : Nat) : Int) = k by omega]; exact hp
  · refine ⟨-1, .inr ⟨rfl, fun i h0 hi hp => h ⟨i.toNat, by omega, ?_⟩⟩⟩
    rw [show ((i.toNat : Nat) : Int) = i by omega]; exact hp

theorem isFirst_one {n : Int} {P : Int → Prop} {v u : Int} (h : IsFirst n P v) (k : IsFirst n P u) : v = u := by
  rcases h with ⟨h0, h1, h2, h3⟩ | ⟨h1, h2⟩ <;> rcases k with ⟨k0, k1, k2, k3⟩ | ⟨k1, k2⟩
  · rcases Int.lt_trichotomy v u with h | h | h
    · exact absurd h2 (k3 v h0 h)
    · exact h
    · exact absurd k2 (h3 u k0 h)
  · exact absurd h2 (k2 v h0 h1)
  · exact absurd k2 (h2 u k0 k1)
  · omega

noncomputable def firstI (n : Int) (P : Int → Prop) : Int := Classical.choose (isFirst_ex n P)
theorem firstI_is (n : Int) (P : Int → Prop) : IsFirst n P (firstI n P) := Classical.choose_spec (isFirst_ex n P)
theorem firstI_eq {n : Int} {P : Int → Prop} {v : Int} (h : IsFirst n P v) : v = firstI n P := isFirst_one h (firstI_is n P)
theorem firstI_congr {n : Int} {P Q : Int → Prop} (h : ∀ i, 0 ≤ i → i < n → (P i ↔ Q i)) : firstI n P = firstI n Q := by
  apply firstI_eq
  rcases firstI_is n P with ⟨h0, h1, h2, h3⟩ | ⟨h1, h2⟩
  · exact .inl ⟨h0, h1, (h _ h0 h1).1 h2, fun i hi0 hi hq => h3 i hi0 hi ((h i hi0 (by omega)).2 hq)⟩
  · exact .inr ⟨h1, fun i hi0 hi hq => h2 i hi0 hi ((h i hi0 hi).2 hq)⟩

variable (s : Sys)

def JoinAt (a b g : Int) : Prop := s.le a g = true ∧ s.le b g = true ∧ ∀ h, G s h → s.le a h = true → s.le b h = true → s.le g h = true
def MeetAt (a b g : Int) : Prop := s.le g a = true ∧ s.le g b = true ∧ ∀ h, G s h → s.le h a = true → s.le h b = true → s.le h g = true
def LeastAt (g : Int) : Prop := ∀ h, G s h → s.le g h = true
noncomputable def Sys.join (a b : Int) : Int := firstI s.n (JoinAt s a b)
noncomputable def Sys.meet (a b : Int) : Int := firstI s.n (MeetAt s a b)
noncomputable def Sys.least : Int := firstI s.n (LeastAt s)

structure One (a : Int) : Prop where
  z : s.add 0 a = a
  o1 : s.mul 1 a = a
  o2 : s.mul a 1 = a
  z1 : s.mul 0 a = 0
  z2 : s.mul a 0 = 0
  rf : s.le a a = true

structure Two (a b : Int) : Prop where
  comm : s.add a b = s.add b a
  anti : a = b ∨ s.le a b = false ∨ s.le b a = false
  join : 0 ≤ s.join a b

structure Three (a b c : Int) : Prop where
  aa : s.add (s.add a b) c = s.add a (s.add b c)
  mm : s.mul (s.mul a b) c = s.mul a (s.mul b c)
  dl : s.mul a (s.add b c) = s.add (s.mul a b) (s.mul a c)
  dr : s.mul (s.add a b) c = s.add (s.mul a c) (s.mul b c)
  tr : s.le a b = true → s.le b c = true → s.le a c = true
  ka : s.le a b = true → s.le (s.add a c) (s.add b c) = true
  k1 : s.le a b = true → s.le (s.mul a c) (s.mul b c) = true
  k2 : s.le a b = true → s.le (s.mul c a) (s.mul c b) = true

structure IsSys : Prop where
  tab : Tables s
  one : ∀ a, G s a → One s a
  two : ∀ a b, G s a → G s b → Two s a b
  three : ∀ a b c, G s a → G s b → G s c → Three s a b c

/-- The program's own checks. -/
def SumAt2 (a b c : Int) : Prop := s.add (s.add a b) c = s.add a (s.add b c)
def SumAt1 (a b : Int) : Prop := s.add a b = s.add b a ∧ ∀ c, G s c → SumAt2 s a b c
def SumAt (a : Int) : Prop := s.add 0 a = a ∧ ∀ b, G s b → SumAt1 s a b
def Sums : Prop := ∀ a, G s a → SumAt s a
def ProdAt2 (a b c : Int) : Prop := s.mul (s.mul a b) c = s.mul a (s.mul b c)
def ProdAt1 (a b : Int) : Prop := ∀ c, G s c → ProdAt2 s a b c
def ProdAt (a : Int) : Prop := s.mul 1 a = a ∧ s.mul a 1 = a ∧ s.mul 0 a = 0 ∧ s.mul a 0 = 0 ∧ ∀ b, G s b → ProdAt1 s a b
def Prods : Prop := ∀ a, G s a → ProdAt s a
def DistAt2 (a b c : Int) : Prop := s.mul a (s.add b c) = s.add (s.mul a b) (s.mul a c) ∧ s.mul (s.add a b) c = s.add (s.mul a c) (s.mul b c)
def DistAt1 (a b : Int) : Prop := ∀ c, G s c → DistAt2 s a b c
def DistAt (a : Int) : Prop := ∀ b, G s b → DistAt1 s a b
def Dists : Prop := ∀ a, G s a → DistAt s a
def OrdAt1 (a b : Int) : Prop := s.le a b = true → (a = b ∨ s.le b a = false) ∧ ∀ c, G s c → s.le b c = true → s.le a c = true
def OrdAt (a : Int) : Prop := s.le a a = true ∧ ∀ b, G s b → OrdAt1 s a b
def Ords : Prop := ∀ a, G s a → OrdAt s a
def KeptAt2 (a b c : Int) : Prop := s.le (s.add a c) (s.add b c) = true ∧ s.le (s.mul a c) (s.mul b c) = true ∧ s.le (s.mul c a) (s.mul c b) = true
def KeptAt1 (a b : Int) : Prop := s.le a b = true → ∀ c, G s c → KeptAt2 s a b c
def KeptAt (a : Int) : Prop := ∀ b, G s b → KeptAt1 s a b
def Kepts : Prop := ∀ a, G s a → KeptAt s a
def JoinsAt (a : Int) : Prop := ∀ b, G s b → 0 ≤ s.join a b
def Joins : Prop := ∀ a, G s a → JoinsAt s a

theorem isSys_parts : IsSys s ↔ Tables s ∧ Sums s ∧ Prods s ∧ Dists s ∧ Ords s ∧ Kepts s ∧ Joins s := by
  constructor
  · rintro ⟨t, h1, h2, h3⟩
    refine ⟨t, ?_, ?_, ?_, ?_, ?_, ?_⟩
    · exact fun a ha => ⟨(h1 a ha).z, fun b hb => ⟨(h2 a b ha hb).comm, fun c hc => (h3 a b c ha hb hc).aa⟩⟩
    · exact fun a ha => ⟨(h1 a ha).o1, (h1 a ha).o2, (h1 a ha).z1, (h1 a ha).z2, fun b hb c hc => (h3 a b c ha hb hc).mm⟩
    · exact fun a ha b hb c hc => ⟨(h3 a b c ha hb hc).dl, (h3 a b c ha hb hc).dr⟩
    · refine fun a ha => ⟨(h1 a ha).rf, fun b hb hl => ⟨?_, fun c hc => (h3 a b c ha hb hc).tr hl⟩⟩
      rcases (h2 a b ha hb).anti with h | h | h
      · exact .inl h
      · rw [h] at hl; cases hl
      · exact .inr h
    · exact fun a ha b hb hl c hc => ⟨(h3 a b c ha hb hc).ka hl, (h3 a b c ha hb hc).k1 hl, (h3 a b c ha hb hc).k2 hl⟩
    · exact fun a ha b hb => (h2 a b ha hb).join
  · rintro ⟨t, h1, h2, h3, h4, h5, h6⟩
    refine ⟨t, fun a ha => ?_, fun a b ha hb => ?_, fun a b c ha hb hc => ?_⟩
    · obtain ⟨p1, p2, p3, p4, _⟩ := h2 a ha
      exact ⟨(h1 a ha).1, p1, p2, p3, p4, (h4 a ha).1⟩
    · refine ⟨((h1 a ha).2 b hb).1, ?_, h6 a ha b hb⟩
      cases hl : s.le a b
      · exact .inr (.inl rfl)
      · rcases ((h4 a ha).2 b hb hl).1 with h | h
        · exact .inl h
        · exact .inr (.inr h)
    · exact ⟨((h1 a ha).2 b hb).2 c hc, (h2 a ha).2.2.2.2 b hb c hc, (h3 a ha b hb c hc).1, (h3 a ha b hb c hc).2,
        fun hl hm => ((h4 a ha).2 b hb hl).2 c hc hm, fun hl => (h5 a ha b hb hl c hc).1, fun hl => (h5 a ha b hb hl c hc).2.1, fun hl => (h5 a ha b hb hl c hc).2.2⟩

/-- Upwards over the grades: 'all below k', as a loop holds it. -/
def Upto (k : Nat) (P : Int → Prop) : Prop := ∀ i, 0 ≤ i → i < (k : Int) → P i
theorem Upto.zero (P : Int → Prop) : Upto 0 P := fun i h0 h1 => by omega
theorem Upto.succ {k : Nat} {P : Int → Prop} (h : Upto k P) (hk : P k) : Upto (k + 1) P := fun i h0 h1 => by
  by_cases e : i = k
  · rw [e]; exact hk
  · exact h i h0 (by omega)
theorem Upto.all {k : Nat} {P : Int → Prop} (h : Upto k P) (hk : s.n ≤ k) : ∀ a, G s a → P a := fun a ha => h a ha.1 (by have := ha.2; omega)

end Go.Proofs.Ytkokmpdmmfghhaa

/- Pairs of grades, plainly. -/
namespace Go.Proofs.Ytkokmpdmmfghhaa
open Go.RowKit

/-- The place of a pair among the pairs in lexicographic order, and its number. -/
def placeN (n g : Int) : Int := if g = 1 then n + 1 else if 1 < g ∧ g ≤ n + 1 then g - 1 else g
def pairN (n x y : Int) : Int := if x * n + y = n + 1 then 1 else if 0 < x * n + y ∧ x * n + y < n + 1 then x * n + y + 1 else x * n + y
def firstN (n g : Int) : Int := placeN n g / n
def secondN (n g : Int) : Int := placeN n g % n
theorem mul_bounds {x n : Int} (hx0 : 0 ≤ x) (hx : x < 16) (hn0 : 0 ≤ n) (hn : n ≤ 16) : 0 ≤ x * n ∧ x * n ≤ 240 := by
  have h1 : 0 ≤ x * n := Int.mul_nonneg hx0 hn0
  have h2 : x * n ≤ 15 * n := Int.mul_le_mul_of_nonneg_right (by omega) hn0
  omega
def HasProduct (A B : Sys) : Prop := IsSys A ∧ IsSys B ∧ A.n * B.n ≤ 16

end Go.Proofs.Ytkokmpdmmfghhaa

/- The accessors of the tables of a system: sum, product, below, of the program and of its model. -/
namespace Go.Proofs.Ytkokmpdmmfghhaa
open Go.RowKit

theorem wrap_in {x : Int} (h1 : 0 ≤ x) (h2 : x ≤ 100000) : IntKind.i64.wrap x = x := IntWalk.i64_in _ (by omega)

set_option maxHeartbeats 800000 in
theorem sumIn_ans {W : World} {r : Ref} {s : Sys} (h : SysIn W r s) (t : Tables s) {a b : Int} (ha : G s a) (hb : G s b) (x : Ext W) :
    Calls Try.prog 60 #[r.val s, .int .i64 a, .int .i64 b] x.w (Ans W (.int .i64 (s.add a b))) := by
  have hi := Sys.idx_lt t.lo t.hi ha hb t.lp
  obtain ⟨bp, op, hpa, hc⟩ := (h.ext x).plus.at hi
  obtain ⟨g1, g2, g3, g4, g5⟩ := idx_facts t.lo t.hi ha hb
  have hcell := hc (s.idx a b) (s.add a b) (by unfold Sys.add; rw [List.getD_eq_getElem?_getD, List.getElem?_eq_getElem hi]; rfl)
  have hlen : a * s.n + b < (s.plus.length : Int) := by rw [t.lp]; exact g4
  have hbk := cell_lt hcell
  unfold Sys.idx at hcell
  simp only at hbk
  have g6 : a * s.n + b ≤ 255 := by omega
  clear hc hi h t g4 g5 ha hb
  generalize s.add a b = v at *
  unfold Ref.val
  rw [hpa]
  go_enter Try.func60, Try.ntmps60
  go_wp2
  go_ret
  exact ⟨rfl, x.alloc _, rfl⟩

set_option maxHeartbeats 800000 in
theorem productIn_ans {W : World} {r : Ref} {s : Sys} (h : SysIn W r s) (t : Tables s) {a b : Int} (ha : G s a) (hb : G s b) (x : Ext W) :
    Calls Try.prog 62 #[r.val s, .int .i64 a, .int .i64 b] x.w (Ans W (.int .i64 (s.mul a b))) := by
  have hi := Sys.idx_lt t.lo t.hi ha hb t.lt
  obtain ⟨bp, op, hta, hc⟩ := (h.ext x).times.at hi
  obtain ⟨g1, g2, g3, g4, g5⟩ := idx_facts t.lo t.hi ha hb
  have hcell := hc (s.idx a b) (s.mul a b) (by unfold Sys.mul; rw [List.getD_eq_getElem?_getD, List.getElem?_eq_getElem hi]; rfl)
  have hlen : a * s.n + b < (s.times.length : Int) := by rw [t.lt]; exact g4
  have hbk := cell_lt hcell
  unfold Sys.idx at hcell
  simp only at hbk
  have g6 : a * s.n + b ≤ 255 := by omega
  clear hc hi h t g4 g5 ha hb
  generalize s.mul a b = v at *
  unfold Ref.val
  rw [hta]
  go_enter Try.func62, Try.ntmps62
  go_wp2
  go_ret
  exact ⟨rfl, x.alloc _, rfl⟩

set_option maxHeartbeats 800000 in
theorem belowIn_ans {W : World} {r : Ref} {s : Sys} (h : SysIn W r s) (t : Tables s) {a b : Int} (ha : G s a) (hb : G s b) (x : Ext W) :
    Calls Try.prog 63 #[r.val s, .int .i64 a, .int .i64 b] x.w (Ans W (.bool (s.le a b))) := by
  have hi := Sys.idx_lt t.lo t.hi ha hb t.lb
  obtain ⟨bp, op, hpa, hc⟩ := (h.ext x).below.at hi
  obtain ⟨g1, g2, g3, g4, g5⟩ := idx_facts t.lo t.hi ha hb
  have hcell := hc (s.idx a b) (s.le a b) (by unfold Sys.le; rw [List.getD_eq_getElem?_getD, List.getElem?_eq_getElem hi]; rfl)
  have hlen : a * s.n + b < (s.below.length : Int) := by rw [t.lb]; exact g4
  have hbk := cell_lt hcell
  unfold Sys.idx at hcell
  simp only at hbk
  have g6 : a * s.n + b ≤ 255 := by omega
  clear hc hi h t g4 g5 ha hb
  generalize s.le a b = v at *
  unfold Ref.val
  rw [hpa]
  go_enter Try.func63, Try.ntmps63
  go_wp2
  go_ret
  exact ⟨rfl, x.alloc _, rfl⟩

set_option maxHeartbeats 800000 in
theorem l1Add_ans {W : World} {r : Ref} {s : Sys} (h : SysIn W r s) (t : Tables s) {a b : Int} (ha : G s a) (hb : G s b) (x : Ext W) :
    Calls Try.prog 92 #[r.val s, .int .i64 a, .int .i64 b] x.w (Ans W (.int .i64 (s.add a b))) := by
  have hi := Sys.idx_lt t.lo t.hi ha hb t.lp
  obtain ⟨bp, op, hpa, hc⟩ := (h.ext x).plus.at hi
  obtain ⟨g1, g2, g3, g4, g5⟩ := idx_facts t.lo t.hi ha hb
  have hcell := hc (s.idx a b) (s.add a b) (by unfold Sys.add; rw [List.getD_eq_getElem?_getD, List.getElem?_eq_getElem hi]; rfl)
  have hlen : a * s.n + b < (s.plus.length : Int) := by rw [t.lp]; exact g4
  have hbk := cell_lt hcell
  unfold Sys.idx at hcell
  simp only at hbk
  have g6 : a * s.n + b ≤ 255 := by omega
  clear hc hi h t g4 g5 ha hb
  generalize s.add a b = v at *
  unfold Ref.val
  rw [hpa]
  go_enter Try.func92, Try.ntmps92
  go_wp2
  go_ret
  exact ⟨rfl, x.alloc _, rfl⟩

set_option maxHeartbeats 800000 in
theorem l1Mul_ans {W : World} {r : Ref} {s : Sys} (h : SysIn W r s) (t : Tables s) {a b : Int} (ha : G s a) (hb : G s b) (x : Ext W) :
    Calls Try.prog 93 #[r.val s, .int .i64 a, .int .i64 b] x.w (Ans W (.int .i64 (s.mul a b))) := by
  have hi := Sys.idx_lt t.lo t.hi ha hb t.lt
  obtain ⟨bp, op, hta, hc⟩ := (h.ext x).times.at hi
  obtain ⟨g1, g2, g3, g4, g5⟩ := idx_facts t.lo t.hi ha hb
  have hcell := hc (s.idx a b) (s.mul a b) (by unfold Sys.mul; rw [List.getD_eq_getElem?_getD, List.getElem?_eq_getElem hi]; rfl)
  have hlen : a * s.n + b < (s.times.length : Int) := by rw [t.lt]; exact g4
  have hbk := cell_lt hcell
  unfold Sys.idx at hcell
  simp only at hbk
  have g6 : a * s.n + b ≤ 255 := by omega
  clear hc hi h t g4 g5 ha hb
  generalize s.mul a b = v at *
  unfold Ref.val
  rw [hta]
  go_enter Try.func93, Try.ntmps93
  go_wp2
  go_ret
  exact ⟨rfl, x.alloc _, rfl⟩

set_option maxHeartbeats 800000 in
theorem l1Le_ans {W : World} {r : Ref} {s : Sys} (h : SysIn W r s) (t : Tables s) {a b : Int} (ha : G s a) (hb : G s b) (x : Ext W) :
    Calls Try.prog 94 #[r.val s, .int .i64 a, .int .i64 b] x.w (Ans W (.bool (s.le a b))) := by
  have hi := Sys.idx_lt t.lo t.hi ha hb t.lb
  obtain ⟨bp, op, hpa, hc⟩ := (h.ext x).below.at hi
  obtain ⟨g1, g2, g3, g4, g5⟩ := idx_facts t.lo t.hi ha hb
  have hcell := hc (s.idx a b) (s.le a b) (by unfold Sys.le; rw [List.getD_eq_getElem?_getD, List.getElem?_eq_getElem hi]; rfl)
  have hlen : a * s.n + b < (s.below.length : Int) := by rw [t.lb]; exact g4
  have hbk := cell_lt hcell
  unfold Sys.idx at hcell
  simp only at hbk
  have g6 : a * s.n + b ≤ 255 := by omega
  clear hc hi h t g4 g5 ha hb
  generalize s.le a b = v at *
  unfold Ref.val
  rw [hpa]
  go_enter Try.func94, Try.ntmps94
  go_wp2
  go_ret
  exact ⟨rfl, x.alloc _, rfl⟩

theorem belowIn_is {W : World} {r : Ref} {s : Sys} (h : SysIn W r s) (t : Tables s) {a b : Int} {v : Bool} (ha : G s a) (hb : G s b) (hv : s.le a b = v) (x : Ext W) :
    Calls Try.prog 63 #[r.val s, .int .i64 a, .int .i64 b] x.w (Ans W (.bool v)) := by
  subst hv
  exact belowIn_ans h t ha hb x

theorem l1Le_is {W : World} {r : Ref} {s : Sys} (h : SysIn W r s) (t : Tables s) {a b : Int} {v : Bool} (ha : G s a) (hb : G s b) (hv : s.le a b = v) (x : Ext W) :
    Calls Try.prog 94 #[r.val s, .int .i64 a, .int .i64 b] x.w (Ans W (.bool v)) := by
  subst hv
  exact l1Le_ans h t ha hb x

end Go.Proofs.Ytkokmpdmmfghhaa

/- append of what a list of cells holds, nil or not, onto a row of the call's own. -/
namespace Go.Proofs.Ytkokmpdmmfghhaa
open Go.RowKit

/-- A slice that reads as these cells: nothing at all, or cells from an address on. -/
def Src (w : World) (A : Option Addr) (m size : Nat) (news : List Value) : Prop :=
  news.length = m * size ∧ (∀ u ∈ news, u.oneCell' = true) ∧ ((A = none ∧ m = 0) ∨ ∃ ad, A = some ad ∧ ∀ j u, news[j]? = some u → w.cell? (ad.add j) = some u)
theorem src_ints {w : World} {a : Option Addr} {l : List Int} (h : Row w (Value.int .i64) a l) : Src w a l.length 1 (l.map (Value.int .i64)) := by
  refine ⟨by simp, fun u hu => ?_, ?_⟩
  · obtain ⟨x, _, rfl⟩ := List.mem_map.1 hu
    rfl
  · rcases h with rfl | ⟨b, o, rfl, hc⟩
    · cases a with
      | none => exact .inl ⟨rfl, rfl⟩
      | some ad => exact .inr ⟨ad, rfl, fun j u hu => by simp at hu⟩
    · refine .inr ⟨_, rfl, fun j u hu => ?_⟩
      rw [List.getElem?_map] at hu
      cases e : l[j]? with
      | none => rw [e] at hu; cases hu
      | some x =>
        rw [e] at hu
        cases hu
        have := hc j x e
        rw [show (⟨b, o, none⟩ : Addr).add j = ⟨b, o + j, none⟩ by unfold Addr.add; split <;> simp_all]
        exact this

section
variable {P : Program} {w : World}
theorem run_app_src (base : Nat) (t ty e : TypeId) (i : TypeInfo) (z : Value) (size bytes : Nat) (ht : P.underlying t = some (.slice e)) (hi : P.info? e = some i) (hz : i.zero = some z)
    (hsize : i.size = size) (hby : i.bytes = bytes) (hzs : z.cells.size = size) (hsz : 0 < size) (v : Value) (n : Nat) (xs : List Value) (hown : w.ownsRow base e size v n xs)
    (A : Option Addr) (m c : Nat) (news : List Value) (hs : Src w A m size news) (h63 : n + m ≤ maxLen) (hbytes : (n + m) * bytes ≤ 140737488355328) (hbase : base ≤ w.heap.size) :
    ∃ v' w', (Builtin.append_ #[t, t] ty #[v, .slice A m c]).run P w = .ok v' w' ∧ w'.ownsRow base e size v' (n + m) (xs ++ news) ∧ w.grownBy w' v.ownBlock ∧ (v'.ownBlock = v.ownBlock ∨ v'.ownBlock = some w.heap.size) := by
  obtain ⟨hl, h1, hA⟩ := hs
  rcases hA with ⟨rfl, rfl⟩ | ⟨ad, rfl, hc⟩
  · have hn : news = [] := List.eq_nil_of_length_eq_zero (by simpa using hl)
    subst hn
    refine ⟨v, w, ?_, by simpa using hown, World.grownBy.refl w _, .inl rfl⟩
    rcases hown.2 with ⟨rfl, rfl⟩ | ⟨g, cap, cur, rfl, _, _, hnc, _⟩
    · simp [Builtin.append_, run_underlying ht, sizeOf, typeInfo, hi, Builtin.lenOf, Builtin.firstCells]
    · simp [Builtin.append_, run_underlying ht, sizeOf, typeInfo, hi, Builtin.lenOf, Builtin.firstCells, hnc, storeCells]
  · obtain ⟨v', w', hr, h2, h3, _, h5⟩ := run_append_own_at (P := P) w base t ty e i z size bytes ht hi hz hsize hby hzs hsz v n xs hown ad m c news hl hc h1 h63 hbytes hbase
    exact ⟨v', w', hr, h2, h3, h5⟩

theorem wp_app_src {o : Oper} {a : Act} {K : Act → World → Prop} {Q : Exit → Act → World → Prop} (s x : Operand) (t : TypeId)
    (ho : o.op = .call { callee := .builtin .append, args := #[s, x], argTypes := #[t, t] })
    (base : Nat) (e : TypeId) (i : TypeInfo) (z : Value) (size bytes : Nat) (ht : P.underlying t = some (.slice e)) (hi : P.info? e = some i) (hz : i.zero = some z)
    (hsize : i.size = size) (hby : i.bytes = bytes) (hzs : z.cells.size = size) (hsz : 0 < size) (v : Value) (n : Nat) (xs : List Value) (hv : a.eval s = v) (hown : w.ownsRow base e size v n xs)
    (A : Option Addr) (m c : Nat) (news : List Value) (hx : a.eval x = .slice A m c) (hs : Src w A m size news) (h63 : n + m ≤ maxLen) (hbytes : (n + m) * bytes ≤ 140737488355328) (hbase : base ≤ w.heap.size)
    (h : ∀ A' c' w', w'.ownsRow base e size (.slice A' (n + m) c') (n + m) (xs ++ news) → w.grownBy w' v.ownBlock → ((Value.slice A' (n + m) c').ownBlock = v.ownBlock ∨ (Value.slice A' (n + m) c').ownBlock = some w.heap.size) → K (a.put o.dst (.slice A' (n + m) c')) w') : o.wp P a w K Q := by
  obtain ⟨v', w', hr, h2, h3, h4⟩ := run_app_src (P := P) base t o.type e i z size bytes ht hi hz hsize hby hzs hsz v n xs hown A m c news hs h63 hbytes hbase
  obtain ⟨A', c', rfl⟩ : ∃ A' c', v' = .slice A' (n + m) c' := by
    rcases h2.2 with ⟨rfl, e⟩ | ⟨g, cap, cur, rfl, _⟩
    · exact ⟨none, 0, by rw [e]⟩
    · exact ⟨_, _, rfl⟩
  unfold Oper.wp execOp
  simp only [ho, resolve, invoke, builtin, Sem.run_bind, Sem.run_pure, Result.andThen_ok, List.map_toArray, List.map_cons, List.map_nil, hv, hx, hr]
  exact h A' c' w' h2 h3 h4
theorem wpList_app_src {ops : Array Oper} {rest : List Oper} {o : Oper} {a : Act} {Q : Exit → Act → World → Prop} (hgd : o.guard = none) (s x : Operand) (t : TypeId)
    (ho : o.op = .call { callee := .builtin .append, args := #[s, x], argTypes := #[t, t] })
    (base : Nat) (e : TypeId) (i : TypeInfo) (z : Value) (size bytes : Nat) (ht : P.underlying t = some (.slice e)) (hi : P.info? e = some i) (hz : i.zero = some z)
    (hsize : i.size = size) (hby : i.bytes = bytes) (hzs : z.cells.size = size) (hsz : 0 < size) (v : Value) (n : Nat) (xs : List Value) (hv : a.eval s = v) (hown : w.ownsRow base e size v n xs)
    (A : Option Addr) (m c : Nat) (news : List Value) (hx : a.eval x = .slice A m c) (hs : Src w A m size news) (h63 : n + m ≤ maxLen) (hbytes : (n + m) * bytes ≤ 140737488355328) (hbase : base ≤ w.heap.size)
    (h : ∀ A' c' w', w'.ownsRow base e size (.slice A' (n + m) c') (n + m) (xs ++ news) → w.grownBy w' v.ownBlock → ((Value.slice A' (n + m) c').ownBlock = v.ownBlock ∨ (Value.slice A' (n + m) c').ownBlock = some w.heap.size) → wpList P ops Q rest (a.put o.dst (.slice A' (n + m) c')) w') : wpList P ops Q (o :: rest) a w :=
  wpList_plain hgd fun _ hK => wp_app_src s x t ho base e i z size bytes ht hi hz hsize hby hzs hsz v n xs hv hown A m c news hx hs h63 hbytes hbase fun A' c' w' h2 h3 h4 => hK _ _ (h A' c' w' h2 h3 h4)
theorem step_app_src {ops : Array Oper} {o : Oper} {a : Act} {K : Act → World → Prop} {Q : Exit → Act → World → Prop} {E : Prop} (hgd : o.guard = none) (s x : Operand) (t : TypeId)
    (ho : o.op = .call { callee := .builtin .append, args := #[s, x], argTypes := #[t, t] })
    (base : Nat) (e : TypeId) (i : TypeInfo) (z : Value) (size bytes : Nat) (ht : P.underlying t = some (.slice e)) (hi : P.info? e = some i) (hz : i.zero = some z)
    (hsize : i.size = size) (hby : i.bytes = bytes) (hzs : z.cells.size = size) (hsz : 0 < size) (v : Value) (n : Nat) (xs : List Value) (hv : a.eval s = v) (hown : w.ownsRow base e size v n xs)
    (A : Option Addr) (m c : Nat) (news : List Value) (hx : a.eval x = .slice A m c) (hs : Src w A m size news) (h63 : n + m ≤ maxLen) (hbytes : (n + m) * bytes ≤ 140737488355328) (hbase : base ≤ w.heap.size)
    (h : ∀ A' c' w', w'.ownsRow base e size (.slice A' (n + m) c') (n + m) (xs ++ news) → w.grownBy w' v.ownBlock → ((Value.slice A' (n + m) c').ownBlock = v.ownBlock ∨ (Value.slice A' (n + m) c').ownBlock = some w.heap.size) → K (a.put o.dst (.slice A' (n + m) c')) w') :
    if Region.wanted o (yielded ops a.tmps) = true then Oper.wp P o a w K Q else E := by
  have hw : Region.wanted o (yielded ops a.tmps) = true := by simp [Region.wanted, hgd]
  rw [if_pos hw]
  exact wp_app_src s x t ho base e i z size bytes ht hi hz hsize hby hzs hsz v n xs hv hown A m c news hx hs h63 hbytes hbase h
end

end Go.Proofs.Ytkokmpdmmfghhaa

/- A code that comes in: bytes in a row. -/
namespace Go.Proofs.Ytkokmpdmmfghhaa
open Go.RowKit Go.ChangeShapes Go.WideShapes Go.ChangeAt

variable {H : Type} {enc : TypeId × Value → H} {w : World}
theorem open_code {b0 : Nat} {v : Value} {d : DataW H} {p : List MemPlace} (hv : Value.okWide Try.prog w .any b0 22 v) (h : DataW.Trod enc Try.prog w 0 (fun _ => true) true 22 v d p) :
    ∃ (a : Option Addr) (cap : Nat) (l : List Int), v = .slice a l.length cap ∧ Row w (Value.int .u8) a l ∧ (∀ u ∈ l, 0 ≤ u ∧ u ≤ 255) ∧ (∀ q, a = some q → q.block < w.heap.size) := by
  obtain ⟨a0, len0, cap0, rfl⟩ := okWide_slice Try.underlying22 hv
  have hlt : ∀ q, a0 = some q → q.block < w.heap.size := fun q hq => by
    subst hq
    simp only [Value.okWide, Try.underlying22, Cell.okWide, Cell.ok] at hv
    obtain ⟨_, _, _, _, row, cells, hs, _⟩ := hv
    unfold World.shape? at hs
    cases e : w.heap[q.block]? with
    | none => rw [e] at hs; cases hs
    | some o => exact (Array.getElem?_eq_some_iff.1 e).1
  obtain ⟨fuel, h⟩ := h
  rcases open_ints Try.underlying22 Try.underlying5 (by kernel_rfl) h with ⟨hcs, _⟩ | ⟨a, len, cap, zs, hcs, _, hl, hm, hz, _, hcell, hwz⟩
  · simp [Value.cells] at hcs
    obtain ⟨rfl, rfl, rfl⟩ := hcs
    exact ⟨none, 0, [], rfl, .inl rfl, by simp, by simp⟩
  · simp [Value.cells] at hcs hz
    obtain ⟨rfl, rfl, rfl⟩ := hcs
    have e : (zs.take len0).length = len0 := by simp; omega
    refine ⟨some a, cap0, zs.take len0, by rw [e], row_of_cells e (f := fun i => zs.getD i 0) (fun i hi => ?_) (fun i hi => hcell i (by omega)), fun u hu => ?_, hlt⟩
    · rw [List.getElem_take]; simp [List.getD_eq_getElem?_getD, List.getElem?_eq_getElem (show i < zs.length by omega)]
    · have := hwz u (List.mem_of_mem_take hu)
      simp [Lit.wf] at this
      exact ⟨Int.le_trans (by decide) this.1, Int.le_trans this.2 (by decide)⟩

end Go.Proofs.Ytkokmpdmmfghhaa

/- What the laws take from a code: whether it is big, a byte of it. -/
namespace Go.Proofs.Ytkokmpdmmfghhaa
open Go.RowKit

theorem big_ans {W : World} {a : Option Addr} {c n : Nat} (b : Bool) (hb : decide ((n : Int) > 1048576) = b) (x : Ext W) : Calls Try.prog 11 #[.slice a n c] x.w (Ans W (.bool b)) := by
  subst hb
  go_enter Try.func11, Try.ntmps11
  go_wp2
  go_ret
  exact ⟨rfl, x, rfl⟩
/-- A byte of a code. -/
def ByteV (W : World) : Ending → World → Prop := fun e w' => ∃ (v : Int) (y : Ext W), e = .returned (.int .i64 v) ∧ w' = y.w ∧ 0 ≤ v ∧ v ≤ 255
set_option maxHeartbeats 4000000 in
theorem at0_ans {W : World} {a : Option Addr} {c : Nat} {l : List Int} (row : Row W (Value.int .u8) a l) (byte : ∀ u ∈ l, 0 ≤ u ∧ u ≤ 255) (hl : (l.length : Int) ≤ 1048576) (i : Nat) (hi : i ≤ 8) (x : Ext W) :
    Calls Try.prog 16 #[.slice a l.length c, .int .i64 i] x.w (ByteV W) := by
  by_cases h : i < l.length
  · have hb := byte _ (List.getElem_mem h)
    obtain ⟨b, o, rfl, hc⟩ := row.at h
    have hcell := hc i _ (List.getElem?_eq_getElem h)
    have hd : ∀ y : Ext W, y.w.cell? ⟨b, o + i, none⟩ = some (.int .u8 l[i]) := fun y => y.cell hcell
    generalize l[i] = u at *
    have hw : IntKind.i64.wrap u = u := IntWalk.i64_in _ (by omega)
    have hlt : (i : Int) < (l.length : Int) := by omega
    go_enter Try.func16, Try.ntmps16
    go_wp2
    go_ret
    exact ⟨u, x, rfl, rfl, hb⟩
  · have hlt : ¬ (i : Int) < (l.length : Int) := by omega
    have hw1 : IntKind.i64.wrap ((i : Int) * 7) = (i : Int) * 7 := IntWalk.i64_in _ (by omega)
    have hw2 : IntKind.i64.wrap ((i : Int) * 7 + l.length) = (i : Int) * 7 + l.length := IntWalk.i64_in _ (by omega)
    have hm : ((i : Int) * 7 + l.length).tmod 256 = ((i : Int) * 7 + l.length) % 256 := Int.tmod_eq_emod_of_nonneg (by omega)
    have hw3 : IntKind.i64.wrap (((i : Int) * 7 + l.length).tmod 256) = ((i : Int) * 7 + l.length) % 256 := by rw [hm]; exact IntWalk.i64_in _ (by omega)
    go_enter Try.func16, Try.ntmps16
    go_wp2
    go_ret
    exact ⟨_, x, rfl, rfl, by omega⟩

end Go.Proofs.Ytkokmpdmmfghhaa
