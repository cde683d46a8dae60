/- Texts of one claim, laid together: Base, TypeSpec, Open, Acc, World, TermSpec, Spec, TermOk, Only, NumRet, RvSpec, AppRow, ShiftSpec, RedSpec. -/
import Derived.WalkKit
import Derived.ProofKit
import Derived.Below
import Derived.Lib.Hide
import Derived.BigQuiet
import Derived.Handy
import Derived.Test.YtncfbljablbglaaDoorRows
import Derived.OpenShut
import Derived.ShutString
import Derived.ChangeOld
import Derived.Lib.SmallJoins
import Derived.Deep.Grids
import Derived.Test.YtncfbljablbglaaDoorProg
import Derived.Maps.AppendAt
import Derived.Laws.OwnMore
import Derived.Deep.AppendLies
set_option linter.unusedVariables false
set_option linter.unusedSimpArgs false
/- Plain notions for all proofs of this seat: a world that extends another one, rows of cells, the value of a grade system. Nothing of a program stands here. -/
namespace Go.Proofs.YtncfbljablbglaaDoor
open Go.RowKit

/-- A world in which all that W has is as it was in W. -/
structure Ext (W : World) where
  w : World
  below : Below W.heap.size W w

theorem cell_lt {w : World} {a : Addr} {v : Value} (h : w.cell? a = some v) : a.block < w.heap.size := by
  unfold World.cell? at h
  by_cases hb : a.block < w.heap.size
  · exact hb
  · rw [Array.getElem?_eq_none (by omega)] at h; simp at h

namespace Ext
variable {W : World}
abbrev self (W : World) : Ext W := ⟨W, Below.refl _ _⟩
instance : Nonempty (Ext W) := ⟨self W⟩
theorem size (x : Ext W) : W.heap.size ≤ x.w.heap.size := x.below.size
theorem cell (x : Ext W) {a : Addr} {v : Value} (h : W.cell? a = some v) : x.w.cell? a = some v := by
  rw [x.below.cell (cell_lt h)]; exact h
abbrev alloc (x : Ext W) (o : Obj) : Ext W := ⟨x.w.alloc o, x.below.alloc x.size o⟩
abbrev drew (x : Ext W) : Ext W := ⟨x.w.drew, x.below.drew⟩
abbrev trans (x : Ext W) (y : Ext x.w) : Ext W := ⟨y.w, x.below.trans (y.below.mono x.size)⟩
/-- An extension of a world that extends W. -/
def on (x : Ext W) {w : World} (h : Below x.w.heap.size x.w w) : Ext W := ⟨w, x.below.trans (h.mono x.size)⟩
/-- Behind a new block. -/
def behind {o : Obj} (y : Ext (W.alloc o)) : Ext W := ⟨y.w, ((Below.refl _ _).alloc (Nat.le_refl _) o).trans (y.below.mono (by simp))⟩
end Ext

/-- A call hands back v, and leaves all that W has. -/
abbrev Ans (W : World) (v : Value) : Ending → World → Prop := fun e w' => e = .returned v ∧ ∃ y : Ext W, w' = y.w

/-- A region that draws its order, whose operations read and call alone, every call leaving what W has: one walk in the text's order. -/
theorem region_ext {W : World} {P : Program} {id : Nat} {Q : Exit → Act → World → Prop} {a : Act} {l : List Oper} (y : Ext W) (hm : P.follows .mixedOrders = true) (hB : Region.lexB .any l.toArray = true)
    (h : wpQuiet P l.toArray (fun w' => ∃ y : Ext W, w' = y.w) (fun a' => ∀ w', (∃ y : Ext W, w' = y.w) → Q .normal a' w') l a) : (Code.region id l.toArray true).wp P Q a y.w :=
  wp_region_quiet (C := fun w' => ∃ y : Ext W, w' = y.w) hm hB ⟨y.drew, rfl⟩ (by simpa using h)

/-- The end of a walk that answers a Bool. -/
theorem fin_true {W : World} {p : Bool} {Q : Prop} (HP : Hid (p = true ↔ Q)) (hq : Q) {w : World} (hz : ∃ z : Ext W, w = z.w) : Ans W (.bool p) (.returned (.bool true)) w := by
  have : p = true := HP.out.2 hq
  subst this
  exact ⟨rfl, hz⟩
theorem fin_false {W : World} {p : Bool} {Q : Prop} (HP : Hid (p = true ↔ Q)) (hq : ¬ Q) {w : World} (hz : ∃ z : Ext W, w = z.w) : Ans W (.bool p) (.returned (.bool false)) w := by
  have : p = false := by cases p; rfl; exact absurd (HP.out.1 rfl) hq
  subst this
  exact ⟨rfl, hz⟩

theorem fin_int {W : World} {k : IntKind} {a v : Int} (h : a = v) {w : World} (hz : ∃ z : Ext W, w = z.w) : Ans W (.int k v) (.returned (.int k a)) w := by
  subst h
  exact ⟨rfl, hz⟩

theorem iff_tf {b : Bool} {P : Prop} (h : match b with | true => P | false => ¬ P) : b = true ↔ P := by
  cases b
  · exact ⟨fun q => (by cases q), fun q => absurd q h⟩
  · exact ⟨fun _ => h, fun _ => rfl⟩
theorem bool_of (P : Prop) : ∃ p : Bool, p = true ↔ P := by
  by_cases h : P
  · exact ⟨true, by simp [h]⟩
  · exact ⟨false, by simp [h]⟩

/-- Cells in a row that read as a list. -/
def Row {α : Type} (w : World) (mk : α → Value) (a : Option Addr) (l : List α) : Prop :=
  l = [] ∨ ∃ b o, a = some ⟨b, o, none⟩ ∧ ∀ i x, l[i]? = some x → w.cell? ⟨b, o + i, none⟩ = some (mk x)

theorem Row.ext {α : Type} {W : World} {mk : α → Value} {a : Option Addr} {l : List α} (h : Row W mk a l) (x : Ext W) : Row x.w mk a l := by
  rcases h with h | ⟨b, o, ha, hc⟩
  · exact .inl h
  · exact .inr ⟨b, o, ha, fun i y hy => x.cell (hc i y hy)⟩

theorem Row.at {α : Type} {w : World} {mk : α → Value} {a : Option Addr} {l : List α} (h : Row w mk a l) {i : Nat} (hi : i < l.length) :
    ∃ b o, a = some ⟨b, o, none⟩ ∧ ∀ i x, l[i]? = some x → w.cell? ⟨b, o + i, none⟩ = some (mk x) := by
  rcases h with rfl | h
  · simp at hi
  · exact h

/-- A grade system, plainly. -/
structure Sys where
  n : Int
  plus : List Int
  times : List Int
  below : List Bool

/-- Where the tables of a system lie. -/
structure Ref where
  pa : Option Addr
  ta : Option Addr
  ba : Option Addr
  pc : Nat
  tc : Nat
  bc : Nat

abbrev Ref.val (r : Ref) (s : Sys) : Value :=
  .agg #[.int .i64 s.n, .slice r.pa s.plus.length r.pc, .slice r.ta s.times.length r.tc, .slice r.ba s.below.length r.bc]

structure SysIn (w : World) (r : Ref) (s : Sys) : Prop where
  plus : Row w (Value.int .i64) r.pa s.plus
  times : Row w (Value.int .i64) r.ta s.times
  below : Row w Value.bool r.ba s.below
  lp : s.plus.length ≤ 9223372036854775807
  lt : s.times.length ≤ 9223372036854775807
  lb : s.below.length ≤ 9223372036854775807

/-- Tables that are not too long to be copied. -/
structure Small (s : Sys) : Prop where
  p : s.plus.length ≤ 1099511627776
  t : s.times.length ≤ 1099511627776
  b : s.below.length ≤ 1099511627776

theorem SysIn.ext {W : World} {r : Ref} {s : Sys} (h : SysIn W r s) (x : Ext W) : SysIn x.w r s :=
  ⟨h.plus.ext x, h.times.ext x, h.below.ext x, h.lp, h.lt, h.lb⟩

/-- The entry of a table at a pair of grades. -/
def Sys.idx (s : Sys) (a b : Int) : Nat := (a * s.n + b).toNat
def Sys.add (s : Sys) (a b : Int) : Int := s.plus.getD (s.idx a b) 0
def Sys.mul (s : Sys) (a b : Int) : Int := s.times.getD (s.idx a b) 0
def Sys.le (s : Sys) (a b : Int) : Bool := s.below.getD (s.idx a b) false

/-- A grade of s. -/
def G (s : Sys) (a : Int) : Prop := 0 ≤ a ∧ a < s.n

/-- The tables have their form. -/
structure Tables (s : Sys) : Prop where
  lo : 2 ≤ s.n
  hi : s.n ≤ 16
  lp : (s.plus.length : Int) = s.n * s.n
  lt : (s.times.length : Int) = s.n * s.n
  lb : (s.below.length : Int) = s.n * s.n
  rp : ∀ g ∈ s.plus, 0 ≤ g ∧ g < s.n
  rt : ∀ g ∈ s.times, 0 ≤ g ∧ g < s.n

end Go.Proofs.YtncfbljablbglaaDoor
/- Types, plainly: codes, how many types stand behind a code, where a type ends. Nothing of a program stands here. -/
namespace Go.Proofs.YtncfbljablbglaaDoor
open Go.RowKit

def Arr (c : Int) : Prop := (3 ≤ c ∧ c ≤ 18) ∨ c = 35
def Bx (c : Int) : Prop := (19 ≤ c ∧ c ≤ 34) ∨ c = 36
instance (c : Int) : Decidable (Arr c) := by unfold Arr; infer_instance
instance (c : Int) : Decidable (Bx c) := by unfold Bx; infer_instance
/-- How many types stand behind a code; -1: it is no code. -/
def kidsOf (c : Int) : Int := if c = 0 then 0 else if c = 1 ∨ c = 2 ∨ Arr c then 2 else if Bx c then 1 else -1
/-- The grade of a code of an arrow or a box; -1: it is open. -/
def gradeOf (c : Int) : Int := if 35 ≤ c then -1 else if 19 ≤ c then c - 19 else c - 3
def Graded (c : Int) : Prop := Arr c ∨ Bx c
instance (c : Int) : Decidable (Graded c) := by unfold Graded; infer_instance

def endL : List Int → Nat → Int → Int
  | [], i, m => if m = 0 then i else -1
  | c :: l, i, m => if m = 0 then i else if kidsOf c < 0 then -1 else endL l (i + 1) (m - 1 + kidsOf c)
/-- Where what begins at i ends, when so many types are missing; -1: nowhere. -/
def endOf (l : List Int) (i : Nat) (m : Int) : Int := endL (l.drop i) i m

theorem endOf_zero (l : List Int) (i : Nat) : endOf l i 0 = i := by
  unfold endOf
  cases l.drop i <;> simp [endL]
theorem endOf_out {l : List Int} {i : Nat} {m : Int} (h : l.length ≤ i) (hm : m ≠ 0) : endOf l i m = -1 := by
  unfold endOf
  rw [List.drop_eq_nil_of_le h]
  simp [endL, hm]
theorem endOf_at {l : List Int} {i : Nat} {m : Int} {c : Int} (h : l[i]? = some c) (hm : m ≠ 0) : endOf l i m = if kidsOf c < 0 then -1 else endOf l (i + 1) (m - 1 + kidsOf c) := by
  obtain ⟨hi, h⟩ := List.getElem?_eq_some_iff.1 h
  unfold endOf
  rw [List.drop_eq_getElem_cons hi, h]
  simp [endL, hm]
theorem endOf_bad {l : List Int} {i : Nat} {m : Int} {c : Int} (h : l[i]? = some c) (hm : m ≠ 0) (hk : kidsOf c < 0) : endOf l i m = -1 := by rw [endOf_at h hm, if_pos hk]
theorem endOf_step {l : List Int} {i : Nat} {m : Int} {c : Int} (h : l[i]? = some c) (hm : m ≠ 0) (hk : 0 ≤ kidsOf c) : endOf l i m = endOf l (i + 1) (m - 1 + kidsOf c) := by rw [endOf_at h hm, if_neg (by omega)]

theorem kidsOf_le (c : Int) : kidsOf c ≤ 2 := by unfold kidsOf; split; omega; split; omega; split <;> omega
theorem kidsOf_ge (c : Int) : -1 ≤ kidsOf c := by unfold kidsOf; split; omega; split; omega; split <;> omega

/-- A written type. -/
def WT (l : List Int) : Prop := l.length ≤ 40 ∧ endOf l 0 1 = l.length
theorem WT.pos {l : List Int} (h : WT l) : 0 < l.length := by
  cases l with
  | nil => have := h.2; rw [endOf_out (by simp) (by omega)] at this; simp at this
  | cons a l => simp
/-- Grades below a number, and, if closed, nothing open. -/
def GOk (size : Int) (closed : Bool) (c : Int) : Prop := Graded c → gradeOf c < size ∧ (closed = true → 0 ≤ gradeOf c)
def Grs (size : Int) (closed : Bool) (l : List Int) : Prop := ∀ c ∈ l, GOk size closed c

theorem gradeOf_ge {c : Int} (_h : Graded c) : -1 ≤ gradeOf c := by
  unfold Graded Arr Bx at _h
  unfold gradeOf
  split
  · omega
  · split <;> omega
theorem kidsOf_0 : kidsOf 0 = 0 := by decide
theorem kidsOf_2 {c : Int} (h : c = 1 ∨ c = 2 ∨ Arr c) : kidsOf c = 2 := by
  have h0 : c ≠ 0 := by unfold Arr at h; omega
  simp [kidsOf, h0, h]
theorem kidsOf_1 {c : Int} (h : Bx c) : kidsOf c = 1 := by
  have h0 : c ≠ 0 := by unfold Bx at h; omega
  have h1 : ¬ (c = 1 ∨ c = 2 ∨ Arr c) := by unfold Bx at h; unfold Arr; omega
  simp [kidsOf, h0, h1, h]
theorem kidsOf_no {c : Int} (h0 : c ≠ 0) (h1 : ¬ (c = 1 ∨ c = 2 ∨ Arr c)) (h2 : ¬ Bx c) : kidsOf c = -1 := by
  simp [kidsOf, h0, h1, h2]
theorem graded_iff (c : Int) : (0 < kidsOf c ∧ 2 < c) ↔ Graded c := by
  by_cases a0 : c = 0
  · subst a0; simp [kidsOf_0, Graded, Arr, Bx]
  · by_cases a1 : c = 1 ∨ c = 2 ∨ Arr c
    · rw [kidsOf_2 a1]
      unfold Graded
      unfold Arr at a1 ⊢
      unfold Bx
      omega
    · by_cases a2 : Bx c
      · rw [kidsOf_1 a2]
        unfold Graded
        unfold Bx at a2 ⊢
        omega
      · rw [kidsOf_no a0 a1 a2]
        unfold Graded
        constructor
        · rintro ⟨h, _⟩; omega
        · rintro (h | h)
          · exact absurd (.inr (.inr h)) a1
          · exact absurd h a2

/-- The greatest number. -/
def maxI : Int := 9223372036854775807
theorem maxI_eq : maxI = 9223372036854775807 := rfl
/-- How many types the program lets stand behind a code: those behind the written ones count as arrows and boxes with grades from 16 on. -/
def kidsP (c : Int) : Int := if 36 < c then (if c % 2 = 1 then 2 else 1) else kidsOf c
def gradeP (c : Int) : Int := if 36 < c then 15 + (c - 35) / 2 else gradeOf c
theorem kidsP_in {c : Int} (h : c ≤ 36) : kidsP c = kidsOf c := by unfold kidsP; rw [if_neg (by omega)]
theorem kidsP_le (c : Int) : kidsP c ≤ 2 := by unfold kidsP; have := kidsOf_le c; split <;> (try split) <;> omega
theorem kidsP_far {c : Int} (h : 36 < c) : 1 ≤ kidsP c := by unfold kidsP; rw [if_pos h]; split <;> omega
theorem gradeP_far {c : Int} (h : 36 < c) : 16 ≤ gradeP c := by unfold gradeP; rw [if_pos h]; omega
theorem kidsOf_out {c : Int} (h : 36 < c) : kidsOf c = -1 := kidsOf_no (by omega) (by unfold Arr; omega) (by unfold Bx; omega)
def endPL : List Int → Nat → Int → Int
  | [], i, m => if m = 0 then i else -1
  | c :: l, i, m => if m = 0 then i else if kidsP c < 0 then -1 else endPL l (i + 1) (m - 1 + kidsP c)
/-- As endOf, by the program. -/
def endP (l : List Int) (i : Nat) (m : Int) : Int := endPL (l.drop i) i m
theorem endP_zero (l : List Int) (i : Nat) : endP l i 0 = i := by
  unfold endP
  cases l.drop i <;> simp [endPL]
theorem endP_out {l : List Int} {i : Nat} {m : Int} (h : l.length ≤ i) (hm : m ≠ 0) : endP l i m = -1 := by
  unfold endP
  rw [List.drop_eq_nil_of_le h]
  simp [endPL, hm]
theorem endP_at {l : List Int} {i : Nat} {m : Int} {c : Int} (h : l[i]? = some c) (hm : m ≠ 0) : endP l i m = if kidsP c < 0 then -1 else endP l (i + 1) (m - 1 + kidsP c) := by
  obtain ⟨hi, h⟩ := List.getElem?_eq_some_iff.1 h
  unfold endP
  rw [List.drop_eq_getElem_cons hi, h]
  simp [endPL, hm]
theorem endP_bad {l : List Int} {i : Nat} {m : Int} {c : Int} (h : l[i]? = some c) (hm : m ≠ 0) (hk : kidsP c < 0) : endP l i m = -1 := by rw [endP_at h hm, if_pos hk]
theorem endP_step {l : List Int} {i : Nat} {m : Int} {c : Int} (h : l[i]? = some c) (hm : m ≠ 0) (hk : 0 ≤ kidsP c) : endP l i m = endP l (i + 1) (m - 1 + kidsP c) := by rw [endP_at h hm, if_neg (by omega)]
theorem endPL_eq (l : List Int) (h : ∀ u ∈ l, u ≤ 36) (i : Nat) (m : Int) : endPL l i m = endL l i m := by
  induction l generalizing i m with
  | nil => rfl
  | cons c l ih =>
    simp only [endPL, endL]
    rw [kidsP_in (h c (by simp)), ih (fun u hu => h u (by simp [hu]))]
theorem endP_eq {l : List Int} (h : ∀ u ∈ l, u ≤ 36) (i : Nat) (m : Int) : endP l i m = endOf l i m := endPL_eq _ (fun u hu => h u (List.mem_of_mem_drop hu)) i m
theorem endL_codes (l : List Int) (i : Nat) (m : Int) (h : endL l i m = ((i + l.length : Nat) : Int)) : ∀ u ∈ l, 0 ≤ kidsOf u := by
  induction l generalizing i m with
  | nil => simp
  | cons c l ih =>
    simp only [endL] at h
    split at h
    · simp at h; omega
    · split at h
      · simp at h; omega
      · intro u hu
        rcases List.mem_cons.1 hu with rfl | hu
        · omega
        · exact ih (i + 1) _ (by rw [h]; simp; omega) u hu
theorem kidsOf_in {c : Int} (h : 0 ≤ kidsOf c) : 0 ≤ c ∧ c ≤ 36 := by
  by_cases h36 : 36 < c
  · rw [kidsOf_out h36] at h; omega
  · by_cases h0 : c < 0
    · rw [kidsOf_no (by omega) (by unfold Arr; omega) (by unfold Bx; omega)] at h; omega
    · omega
theorem WT.codes {l : List Int} (h : WT l) : ∀ u ∈ l, 0 ≤ u ∧ u ≤ 36 := fun u hu => kidsOf_in (endL_codes l 0 1 (by have := h.2; unfold endOf at this; rw [List.drop_zero] at this; rw [this]; simp) u hu)
theorem WT.codes36 {l : List Int} (h : WT l) : ∀ u ∈ l, u ≤ 36 := fun u hu => (h.codes u hu).2
/-- No code is greater than a number can be. -/
def CodesB (l : List Int) : Prop := ∀ u ∈ l, u ≤ maxI
theorem WT.codesB {l : List Int} (h : WT l) : CodesB l := fun u hu => by have := (h.codes u hu).2; unfold maxI; omega
end Go.Proofs.YtncfbljablbglaaDoor
/- What the rows' arguments read as: a system, a slice of numbers. -/
set_option linter.unusedVariables false
namespace Go.Proofs.YtncfbljablbglaaDoor
open Go.RowKit Go.ChangeShapes Go.WideShapes Go.ChangeAt

open Go.ChangeShapes Go.WideShapes Go.ChangeAt
theorem laidOut : laidOutB Tryd.prog = true := by kernel_rfl
theorem own : ownKnob Tryd.prog.godebug = none := by kernel_rfl

section
variable {H : Type} {enc : TypeId × Value → H} {w : World}
theorem row_of_cells {α : Type} {mk : α → Value} {a : Addr} {l : List α} {len : Nat} {f : Nat → α} (hl : l.length = len) (hf : ∀ i (h : i < l.length), l[i] = f i) (h : ∀ i, i < len → w.cell? (a.add i) = some (mk (f i))) : Row w mk (some a) l := by
  by_cases h0 : len = 0
  · exact .inl (List.eq_nil_of_length_eq_zero (by omega))
  · have hc := h 0 (by omega)
    obtain ⟨b, o, spot⟩ := a
    have hspot : spot = none := by simpa [Addr.add] using World.cell?_spot hc
    subst hspot
    refine .inr ⟨b, o, rfl, fun i x hx => ?_⟩
    obtain ⟨hi, hx⟩ := List.getElem?_eq_some_iff.1 hx
    rw [← add_plain, h i (by omega), ← hx, hf i hi]

theorem open_row_ints {fuel : Nat} {c : Value} {x : DataW H × List MemPlace} (h : DataW.trod enc Tryd.prog w 0 (fun _ => true) true fuel 22 [c] = some x) :
    ∃ (a : Option Addr) (cap : Nat) (l : List Int), c = .slice a l.length cap ∧ Row w (Value.int .i64) a l ∧ l.length ≤ 9223372036854775807 ∧ (∀ n ∈ l, (Lit.int .i64 n).wf = true) := by
  rcases open_ints Tryd.underlying22 Tryd.underlying3 (by kernel_rfl) h with ⟨hcs, _⟩ | ⟨a, len, cap, zs, hcs, _, hl, hm, hz, _, hcell, hwz⟩
  · simp at hcs
    exact ⟨none, 0, [], hcs, .inl rfl, by simp, by simp⟩
  · simp at hcs hz
    unfold maxLen at hm
    have e : (zs.take len).length = len := by simp; omega
    refine ⟨some a, cap, zs.take len, by rw [e]; exact hcs, row_of_cells e (f := fun i => zs.getD i 0) (fun i hi => ?_) (fun i hi => hcell i (by omega)), by omega, fun n hn => hwz n (List.mem_of_mem_take hn)⟩
    rw [List.getElem_take]; simp [List.getD_eq_getElem?_getD, List.getElem?_eq_getElem (show i < zs.length by omega)]

theorem wf_le {u : Int} (h : (Lit.int .i64 u).wf = true) : u ≤ 9223372036854775807 := by
  have h2 : u ≤ IntKind.i64.max := by simp [Lit.wf] at h; exact h.2
  exact Int.le_trans h2 (by decide)
theorem codesB_wf {l : List Int} (h : ∀ u ∈ l, (Lit.int .i64 u).wf = true) : CodesB l := fun u hu => by have := wf_le (h u hu); unfold maxI; omega
end

end Go.Proofs.YtncfbljablbglaaDoor
/- The accessors of the tables of a system: sum, product, below, of the program and of its model. -/
namespace Go.Proofs.YtncfbljablbglaaDoor
open Go.RowKit

theorem wrap_in {x : Int} (h1 : 0 ≤ x) (h2 : x ≤ 100000) : IntKind.i64.wrap x = x := IntWalk.i64_in _ (by omega)

end Go.Proofs.YtncfbljablbglaaDoor
/- Worlds, blocks and owned rows, plainly; two facts of the program's table of types. -/
namespace Go.Proofs.YtncfbljablbglaaDoor
open Go.RowKit

theorem info_int : (Tryd.prog.info? 3).map (fun i => (i.zero, i.size, i.bytes)) = some (some (.int .i64 0), 1, 8) := by kernel_rfl

theorem owns_lower {w : World} {base base' : Nat} {e : TypeId} {size : Nat} {v : Value} {n : Nat} {xs : List Value} (h : w.ownsRow base e size v n xs) (hb : base' ≤ base) : w.ownsRow base' e size v n xs := by
  obtain ⟨h1, h2⟩ := h
  refine ⟨h1, ?_⟩
  rcases h2 with h2 | ⟨g, cap, cur, hv, hg, r⟩
  · exact .inl h2
  · exact .inr ⟨g, cap, cur, hv, by omega, r⟩

/-- A call hands back a new slice, of its own memory, that reads as l; all that W has is as it was. -/
def NewRow {α : Type} (W : World) (_T E : TypeId) (mk : α → Value) (l : List α) : Ending → World → Prop :=
  fun e w' => ∃ (v : Value) (y : Ext W), e = .returned v ∧ w' = y.w ∧ y.w.ownsRow W.heap.size E 1 v l.length (l.map mk)

/-- What is owned reads as a row. -/
theorem owned_row {α : Type} {w : World} {base : Nat} {E : TypeId} {mk : α → Value} {v : Value} {l : List α} (h : w.ownsRow base E 1 v l.length (l.map mk)) :
    ∃ a c, v = .slice a l.length c ∧ Row w mk a l ∧ ∀ p, a = some p → base ≤ p.block ∧ p.block < w.heap.size := by
  rcases h.2 with ⟨rfl, hn⟩ | ⟨g, cap, cur, rfl, hg, hh, r1, r2, r3, r4⟩
  · refine ⟨none, 0, by rw [hn], .inl (List.eq_nil_of_length_eq_zero hn), fun p hp => by cases hp⟩
  · refine ⟨_, cap, rfl, .inr ⟨g, 0, rfl, fun i x hx => ?_⟩, fun p hp => by cases hp; exact ⟨hg, by have := Array.getElem?_eq_some_iff.1 hh; exact this.1⟩⟩
    have hi : i < l.length := by
      by_cases hi : i < l.length
      · exact hi
      · rw [List.getElem?_eq_none (by omega)] at hx; cases hx
    rw [Nat.zero_add, h.cellAt i (by omega), List.getElem?_map, hx]; rfl

theorem blocks3 {w w3 : World} {o1 o2 o3 : Obj} {B : Nat} (hB : w.heap.size = B) (h : ((w.alloc o1).alloc o2).alloc o3 = w3) :
    w3.heap[B]? = some o1 ∧ w3.heap[B + 1]? = some o2 ∧ w3.heap[B + 1 + 1]? = some o3 ∧ w3.heap.size = B + 3 ∧ Below w.heap.size w w3 := by
  subst h; subst hB
  refine ⟨?_, ?_, ?_, by simp, ?_⟩
  · show (((w.heap.push o1).push o2).push o3)[w.heap.size]? = _
    rw [Array.getElem?_push, if_neg (by simp; omega), Array.getElem?_push, if_neg (by simp), Array.getElem?_push, if_pos rfl]
  · show (((w.heap.push o1).push o2).push o3)[w.heap.size + 1]? = _
    rw [Array.getElem?_push, if_neg (by simp), Array.getElem?_push, if_pos (by simp)]
  · show (((w.heap.push o1).push o2).push o3)[w.heap.size + 1 + 1]? = _
    rw [Array.getElem?_push, if_pos (by simp)]
  · exact (((Below.refl _ _).alloc (Nat.le_refl _) _).alloc (by simp) _).alloc (by simp; omega) _

theorem blk_cell {w : World} {g : Nat} {cur : Array Value} {e : TypeId} (h : w.heap[g]? = some (.cells cur e (0, 0))) (j : Nat) : w.cell? ⟨g, j, none⟩ = cur[j]? := cell_of_row w g j cur e (0, 0) h
theorem blk_free {w : World} {g : Nat} {cur : Array Value} {e : TypeId} (h : w.heap[g]? = some (.cells cur e (0, 0))) (j : Nat) : w.frozen? ⟨g, j, none⟩ = false := frozen_of_row w g j cur e h
theorem Ext.blk {W : World} (y : Ext W) {k : Nat} {o : Obj} (h : W.heap[k]? = some o) : y.w.heap[k]? = some o := by
  have hk : k < W.heap.size := (Array.getElem?_eq_some_iff.1 h).1
  rw [y.below.block k hk]; exact h
theorem set_blk {w w' : World} {g : Nat} {cur : Array Value} {e : TypeId} (h : w.heap[g]? = some (.cells cur e (0, 0))) (j : Nat) (u : Value) (hw : w.setCell ⟨g, j, none⟩ u = w') :
    w'.heap[g]? = some (.cells (cur.setIfInBounds j u) e (0, 0)) := by subst hw; exact heap_setCell_same w g j cur e u h
theorem set_other {w w' : World} {g j : Nat} {u : Value} (hw : w.setCell ⟨g, j, none⟩ u = w') {k : Nat} (hk : k ≠ g) : w'.heap[k]? = w.heap[k]? := by
  subst hw; exact Below.heap_setCell _ _ _ _ hk
theorem set_size {w w' : World} {a : Addr} {u : Value} (hw : w.setCell a u = w') : w'.heap.size = w.heap.size := by subst hw; simp

/-- A row that lies below a block number stays where nothing below it turns. -/
theorem row_keep {α : Type} {w w' : World} {mk : α → Value} {a : Option Addr} {l : List α} (h : Row w mk a l) (hk : ∀ p, a = some p → w'.heap[p.block]? = w.heap[p.block]?) : Row w' mk a l := by
  rcases h with h | ⟨b, o, ha, hc⟩
  · exact .inl h
  · refine .inr ⟨b, o, ha, fun i x hx => ?_⟩
    rw [World.cell?_of_block (w := w) (a := ⟨b, o + i, none⟩) (show w'.heap[b]? = w.heap[b]? from hk ⟨b, o, none⟩ ha)]
    exact hc i x hx

theorem blocks2 {w w2 : World} {o1 o2 : Obj} {B : Nat} (hB : w.heap.size = B) (h : (w.alloc o1).alloc o2 = w2) :
    w2.heap[B]? = some o1 ∧ w2.heap[B + 1]? = some o2 ∧ w2.heap.size = B + 2 ∧ Below w.heap.size w w2 := by
  subst h; subst hB
  refine ⟨?_, ?_, by simp, ?_⟩
  · show ((w.heap.push o1).push o2)[w.heap.size]? = _
    rw [Array.getElem?_push, if_neg (by simp), Array.getElem?_push, if_pos rfl]
  · show ((w.heap.push o1).push o2)[w.heap.size + 1]? = _
    rw [Array.getElem?_push, if_pos (by simp)]
  · exact ((Below.refl _ _).alloc (Nat.le_refl _) _).alloc (by simp) _

theorem owns_ext {w : World} {base : Nat} {e : TypeId} {size : Nat} {v : Value} {n : Nat} {xs : List Value} (h : w.ownsRow base e size v n xs) (z : Ext w) : z.w.ownsRow base e size v n xs := by
  obtain ⟨h1, h2⟩ := h
  refine ⟨h1, ?_⟩
  rcases h2 with h2 | ⟨g, cap, cur, hv, hb, hg, r⟩
  · exact .inl h2
  · exact .inr ⟨g, cap, cur, hv, hb, z.blk hg, r⟩

end Go.Proofs.YtncfbljablbglaaDoor
/- Terms, plainly: trees, where they lie, how many nodes and cells they have. Nothing of a program stands here. -/
namespace Go.Proofs.YtncfbljablbglaaDoor
open Go.RowKit

inductive Tm where
  | mk (op n : Int) (ty : List Int) (kids : List Tm)
namespace Tm
def op : Tm → Int | .mk o _ _ _ => o
def n : Tm → Int | .mk _ n _ _ => n
def ty : Tm → List Int | .mk _ _ l _ => l
def kids : Tm → List Tm | .mk _ _ _ l => l
theorem sizeOf_kid {t k : Tm} (h : k ∈ t.kids) : SizeOf.sizeOf k < SizeOf.sizeOf t := by
  cases t with
  | mk o m l ks =>
    have := List.sizeOf_lt_of_mem h
    simp [kids] at this ⊢
    omega
theorem ind {P : Tm → Prop} (h : ∀ t, (∀ k ∈ t.kids, P k) → P t) (t : Tm) : P t :=
  h t (fun k _hk => ind h k)
  termination_by SizeOf.sizeOf t
  decreasing_by exact sizeOf_kid _hk
mutual
/-- How many nodes. -/
def sz : Tm → Nat | .mk _ _ _ ks => 1 + szL ks
def szL : List Tm → Nat | [] => 0 | t :: l => t.sz + szL l
end
mutual
/-- How many codes and kids in all. -/
def wt : Tm → Nat | .mk _ _ l ks => l.length + (ks.length + wtL ks)
def wtL : List Tm → Nat | [] => 0 | t :: l => t.wt + wtL l
end
theorem sz_eq (t : Tm) : t.sz = 1 + szL t.kids := by cases t; rfl
theorem wt_eq (t : Tm) : t.wt = t.ty.length + (t.kids.length + wtL t.kids) := by cases t; rfl
theorem sz_pos (t : Tm) : 0 < t.sz := by rw [sz_eq]; omega
theorem szL_mem {l : List Tm} {k : Tm} (h : k ∈ l) : k.sz ≤ szL l := by
  induction l with
  | nil => cases h
  | cons a l ih =>
    simp only [szL]
    rcases List.mem_cons.1 h with rfl | h
    · omega
    · have := ih h; omega
theorem sz_kid {t k : Tm} (h : k ∈ t.kids) : k.sz < t.sz := by have := szL_mem h; rw [sz_eq t]; omega
theorem szL_take_succ {l : List Tm} {i : Nat} {k : Tm} (h : l[i]? = some k) : szL (l.take (i + 1)) = szL (l.take i) + k.sz := by
  induction l generalizing i with
  | nil => simp at h
  | cons a l ih =>
    cases i with
    | zero => simp at h; subst h; simp [szL]
    | succ i => simp at h; simp [szL, ih h]; omega
theorem szL_take_le (l : List Tm) (i : Nat) : szL (l.take i) ≤ szL l := by
  induction l generalizing i with
  | nil => simp
  | cons a l ih =>
    cases i with
    | zero => simp [szL]
    | succ i => have := ih i; simp [szL]; omega
theorem wtL_take_succ {l : List Tm} {i : Nat} {k : Tm} (h : l[i]? = some k) : wtL (l.take (i + 1)) = wtL (l.take i) + k.wt := by
  induction l generalizing i with
  | nil => simp at h
  | cons a l ih =>
    cases i with
    | zero => simp at h; subst h; simp [wtL]
    | succ i => simp at h; simp [wtL, ih h]; omega
theorem wtL_take_le (l : List Tm) (i : Nat) : wtL (l.take i) ≤ wtL l := by
  induction l generalizing i with
  | nil => simp
  | cons a l ih =>
    cases i with
    | zero => simp [wtL]
    | succ i => have := ih i; simp [wtL]; omega
theorem wtL_mem {l : List Tm} {k : Tm} (h : k ∈ l) : k.wt ≤ wtL l := by
  induction l with
  | nil => cases h
  | cons a l ih =>
    simp only [wtL]
    rcases List.mem_cons.1 h with rfl | h
    · omega
    · have := ih h; omega
theorem wt_kid {t k : Tm} (h : k ∈ t.kids) : k.wt ≤ t.wt := by have := wtL_mem h; rw [wt_eq t]; omega
theorem ext' {s t : Tm} (h1 : s.op = t.op) (h2 : s.n = t.n) (h3 : s.ty = t.ty) (h4 : s.kids = t.kids) : s = t := by
  cases s; cases t
  simp only [op, n, ty, kids] at h1 h2 h3 h4
  subst h1; subst h2; subst h3; subst h4
  rfl
end Tm

/-- Where the parts of a term lie. -/
structure TV where
  a : Option Addr
  c : Nat
  b : Option Addr
  d : Nat
abbrev TV.val (r : TV) (t : Tm) : Value := .agg #[.int .i64 t.op, .int .i64 t.n, .slice r.a t.ty.length r.c, .slice r.b t.kids.length r.d]

/-- The four cells of a kid. -/
structure Kid4 (w : World) (b o : Nat) (r : TV) (k : Tm) : Prop where
  c0 : w.cell? ⟨b, o, none⟩ = some (.int .i64 k.op)
  c1 : w.cell? ⟨b, o + 1, none⟩ = some (.int .i64 k.n)
  c2 : w.cell? ⟨b, o + 2, none⟩ = some (.slice r.a k.ty.length r.c)
  c3 : w.cell? ⟨b, o + 3, none⟩ = some (.slice r.b k.kids.length r.d)

/-- A term lies in blocks from lo on. -/
inductive TmIn (w : World) (lo : Nat) : Tm → TV → Prop
  | mk (t : Tm) (r : TV) (kr : Nat → TV) (row : Row w (Value.int .i64) r.a t.ty) (alo : ∀ p, r.a = some p → lo ≤ p.block) (lt : t.ty.length ≤ 9223372036854775807) (lk : t.kids.length ≤ 9223372036854775807)
      (at_ : t.kids = [] ∨ ∃ b o, r.b = some ⟨b, o, none⟩ ∧ lo ≤ b ∧ ∀ i k, t.kids[i]? = some k → Kid4 w b (o + i * 4) (kr i) k)
      (sub : ∀ i k, t.kids[i]? = some k → TmIn w lo k (kr i)) : TmIn w lo t r

theorem Kid4.keep {w w' : World} {b o : Nat} {r : TV} {k : Tm} (h : Kid4 w b o r k) (hb : w'.heap[b]? = w.heap[b]?) : Kid4 w' b o r k := by
  refine ⟨?_, ?_, ?_, ?_⟩
  · rw [World.cell?_of_block (w := w) (a := ⟨b, o, none⟩) hb]; exact h.c0
  · rw [World.cell?_of_block (w := w) (a := ⟨b, o + 1, none⟩) hb]; exact h.c1
  · rw [World.cell?_of_block (w := w) (a := ⟨b, o + 2, none⟩) hb]; exact h.c2
  · rw [World.cell?_of_block (w := w) (a := ⟨b, o + 3, none⟩) hb]; exact h.c3

theorem TmIn.keep {w w' : World} {lo : Nat} (hk : ∀ k, lo ≤ k → k < w.heap.size → w'.heap[k]? = w.heap[k]?) {t : Tm} {r : TV} (h : TmIn w lo t r) : TmIn w' lo t r := by
  induction h with
  | mk t r kr row alo lt lk at_ sub ih =>
    refine .mk t r kr ?_ alo lt lk ?_ ih
    · rcases row with h | ⟨b, o, ha, hc⟩
      · exact .inl h
      · refine .inr ⟨b, o, ha, fun i x hx => ?_⟩
        have h1 := hc i x hx
        rw [World.cell?_of_block (w := w) (a := ⟨b, o + i, none⟩) (hk b (alo _ ha) (cell_lt h1))]
        exact h1
    · rcases at_ with h | ⟨b, o, hb, hlo, hc⟩
      · exact .inl h
      · exact .inr ⟨b, o, hb, hlo, fun i k hi => (hc i k hi).keep (hk b hlo (cell_lt (hc i k hi).c0))⟩
theorem TmIn.lower {w : World} {lo lo' : Nat} (hl : lo' ≤ lo) {t : Tm} {r : TV} (h : TmIn w lo t r) : TmIn w lo' t r := by
  induction h with
  | mk t r kr row alo lt lk at_ sub ih =>
    refine .mk t r kr row (fun p hp => Nat.le_trans hl (alo p hp)) lt lk ?_ ih
    rcases at_ with h | ⟨b, o, hb, hlo, hc⟩
    · exact .inl h
    · exact .inr ⟨b, o, hb, by omega, hc⟩
theorem TmIn.ext {W : World} {lo : Nat} {t : Tm} {r : TV} (h : TmIn W lo t r) (x : Ext W) : TmIn x.w lo t r := h.keep fun k _ hk => x.below.block k hk

/-- A term's own parts, plainly. -/
structure TmAt (w : World) (lo : Nat) (t : Tm) (r : TV) (kr : Nat → TV) : Prop where
  row : Row w (Value.int .i64) r.a t.ty
  lt : t.ty.length ≤ 9223372036854775807
  lk : t.kids.length ≤ 9223372036854775807
  kid : ∀ i k, t.kids[i]? = some k → ∃ b o, r.b = some ⟨b, o, none⟩ ∧ Kid4 w b (o + i * 4) (kr i) k
  sub : ∀ i k, t.kids[i]? = some k → TmIn w lo k (kr i)
theorem TmIn.out {w : World} {lo : Nat} {t : Tm} {r : TV} (h : TmIn w lo t r) : ∃ kr, TmAt w lo t r kr := by
  cases h with
  | mk t r kr row alo lt lk at_ sub =>
    refine ⟨kr, row, lt, lk, fun i k hi => ?_, sub⟩
    rcases at_ with h | ⟨b, o, hb, _, hc⟩
    · rw [h] at hi; simp at hi
    · exact ⟨b, o, hb, hc i k hi⟩

/-- A term that a function has been handed lies in a new block of its own. -/
theorem boxedT {W W1 : World} {lo : Nat} {t : Tm} {r : TV} (h : TmIn W lo t r) (x : Ext W) {T : TypeId} {B : Nat} (hB : x.w.heap.size = B)
    (hW : x.w.alloc (.cells #[.int .i64 t.op, .int .i64 t.n, .slice r.a t.ty.length r.c, .slice r.b t.kids.length r.d] T) = W1) :
    (∀ y : Ext W1, y.w.cell? ⟨B, 0, none⟩ = some (.int .i64 t.op)) ∧ (∀ y : Ext W1, y.w.cell? ⟨B, 1, none⟩ = some (.int .i64 t.n)) ∧
    (∀ y : Ext W1, y.w.cell? ⟨B, 2, none⟩ = some (.slice r.a t.ty.length r.c)) ∧ (∀ y : Ext W1, y.w.cell? ⟨B, 3, none⟩ = some (.slice r.b t.kids.length r.d)) ∧
    TmIn W1 lo t r ∧ (∀ y : Ext W1, ∃ z : Ext W, y.w = z.w) ∧ ∃ y0 : Ext W1, y0.w = W1 := by
  subst hW; subst hB
  refine ⟨fun y => ?_, fun y => ?_, fun y => ?_, fun y => ?_, ?_, fun y => ⟨x.on y.behind.below, rfl⟩, Ext.self _, rfl⟩
  · exact y.cell (by rw [World.cell?_alloc_at _ _ _ _ rfl]; rfl)
  · exact y.cell (by rw [World.cell?_alloc_at _ _ _ _ rfl]; rfl)
  · exact y.cell (by rw [World.cell?_alloc_at _ _ _ _ rfl]; rfl)
  · exact y.cell (by rw [World.cell?_alloc_at _ _ _ _ rfl]; rfl)
  · exact h.ext (x.alloc _)

end Go.Proofs.YtncfbljablbglaaDoor
/- What a system is, plainly: the laws of grades, as the program's own checks part them and as the model's do. -/
namespace Go.Proofs.YtncfbljablbglaaDoor

/-- v is the first number below n of which P holds; -1 if there is none. -/
def IsFirst (n : Int) (P : Int → Prop) (v : Int) : Prop :=
  (0 ≤ v ∧ v < n ∧ P v ∧ ∀ i, 0 ≤ i → i < v → ¬ P i) ∨ (v = -1 ∧ ∀ i, 0 ≤ i → i < n → ¬ P i)

theorem isFirst_ex (n : Int) (P : Int → Prop) : ∃ v, IsFirst n P v := by
  by_cases h : ∃ i : Nat, (i : Int) < n ∧ P i
  · obtain ⟨i, hi⟩ := h
    induction i using Nat.strongRecOn with
    | _ i ih =>
      by_cases h2 : ∃ j : Nat, j < i ∧ P j
      · obtain ⟨j, hj, hp⟩ := h2
        exact ih j hj ⟨by omega, hp⟩
      · refine ⟨i, .inl ⟨by omega, hi.1, hi.2, fun k hk0 hk hp => h2 ⟨k.toNat, by omega, ?_⟩⟩⟩
        rw [show ((k.toNat : Nat) : Int) = k by omega]; exact hp
  · refine ⟨-1, .inr ⟨rfl, fun i h0 hi hp => h ⟨i.toNat, by omega, ?_⟩⟩⟩
    rw [show ((i.toNat : Nat) : Int) = i by omega]; exact hp

noncomputable def firstI (n : Int) (P : Int → Prop) : Int := Classical.choose (isFirst_ex n P)

variable (s : Sys)

def JoinAt (a b g : Int) : Prop := s.le a g = true ∧ s.le b g = true ∧ ∀ h, G s h → s.le a h = true → s.le b h = true → s.le g h = true
noncomputable def Sys.join (a b : Int) : Int := firstI s.n (JoinAt s a b)

structure One (a : Int) : Prop where
  z : s.add 0 a = a
  o1 : s.mul 1 a = a
  o2 : s.mul a 1 = a
  z1 : s.mul 0 a = 0
  z2 : s.mul a 0 = 0
  rf : s.le a a = true

structure Two (a b : Int) : Prop where
  comm : s.add a b = s.add b a
  anti : a = b ∨ s.le a b = false ∨ s.le b a = false
  join : 0 ≤ s.join a b

structure Three (a b c : Int) : Prop where
  aa : s.add (s.add a b) c = s.add a (s.add b c)
  mm : s.mul (s.mul a b) c = s.mul a (s.mul b c)
  dl : s.mul a (s.add b c) = s.add (s.mul a b) (s.mul a c)
  dr : s.mul (s.add a b) c = s.add (s.mul a c) (s.mul b c)
  tr : s.le a b = true → s.le b c = true → s.le a c = true
  ka : s.le a b = true → s.le (s.add a c) (s.add b c) = true
  k1 : s.le a b = true → s.le (s.mul a c) (s.mul b c) = true
  k2 : s.le a b = true → s.le (s.mul c a) (s.mul c b) = true

structure IsSys : Prop where
  tab : Tables s
  one : ∀ a, G s a → One s a
  two : ∀ a b, G s a → G s b → Two s a b
  three : ∀ a b c, G s a → G s b → G s c → Three s a b c

/-- Upwards over the grades: 'all below k', as a loop holds it. -/
def Upto (k : Nat) (P : Int → Prop) : Prop := ∀ i, 0 ≤ i → i < (k : Int) → P i
theorem Upto.zero (P : Int → Prop) : Upto 0 P := fun i h0 h1 => by omega
theorem Upto.succ {k : Nat} {P : Int → Prop} (h : Upto k P) (hk : P k) : Upto (k + 1) P := fun i h0 h1 => by
  by_cases e : i = k
  · rw [e]; exact hk
  · exact h i h0 (by omega)
theorem Upto.all {k : Nat} {P : Int → Prop} (h : Upto k P) (hk : s.n ≤ k) : ∀ a, G s a → P a := fun a ha => h a ha.1 (by have := ha.2; omega)

end Go.Proofs.YtncfbljablbglaaDoor
/- Which terms are terms, plainly. Nothing of a program stands here. -/
namespace Go.Proofs.YtncfbljablbglaaDoor
open Go.RowKit

/-- How many kids a term of an op has; -1: there is no such op. -/
def manyO (op : Int) : Int := if 0 ≤ op ∧ op ≤ 12 then [0, 0, 2, 3, 2, 2, 1, 1, 3, 1, 2, 1, 2].getD op.toNat 0 else -1
def HasG (op : Int) : Prop := op = 5 ∨ op = 8 ∨ op = 9 ∨ op = 11 ∨ op = 12
def TypedO (op : Int) : Prop := op = 6 ∨ op = 7 ∨ op = 9
instance (c : Int) : Decidable (HasG c) := by unfold HasG; infer_instance
instance (c : Int) : Decidable (TypedO c) := by unfold TypedO; infer_instance
/-- How many variables a term of an op adds for a kid. -/
def addsO (op : Int) (k : Nat) : Int := if op = 5 ∧ k = 1 then 2 else if (op = 8 ∧ 0 < k) ∨ op = 9 ∨ (op = 12 ∧ k = 1) then 1 else 0
theorem addsO_ge (op : Int) (k : Nat) : 0 ≤ addsO op k := by unfold addsO; split; omega; split <;> omega
theorem addsO_le (op : Int) (k : Nat) : addsO op k ≤ 2 := by unfold addsO; split; omega; split <;> omega
theorem ops13 {op : Int} (h : 0 ≤ op ∧ op ≤ 12) : op = 0 ∨ op = 1 ∨ op = 2 ∨ op = 3 ∨ op = 4 ∨ op = 5 ∨ op = 6 ∨ op = 7 ∨ op = 8 ∨ op = 9 ∨ op = 10 ∨ op = 11 ∨ op = 12 := by omega
theorem manyO_le (op : Int) : manyO op ≤ 3 := by
  unfold manyO
  split
  · rename_i h
    rcases ops13 h with rfl | rfl | rfl | rfl | rfl | rfl | rfl | rfl | rfl | rfl | rfl | rfl | rfl <;> decide
  · omega
theorem manyO_in {op : Int} (h : 0 ≤ manyO op) : 0 ≤ op ∧ op ≤ 12 := by
  unfold manyO at h
  split at h
  · assumption
  · omega
/-- Whether N is as the op asks, with so many variables and grades. -/
def NOk (size : Int) (closed : Bool) (vars : Int) (op N : Int) : Prop :=
  if op = 0 then 0 ≤ N ∧ N < vars else if op = 1 then 0 ≤ N ∧ N < 3 else if HasG op then N < size ∧ -1 ≤ N ∧ (closed = true → 0 ≤ N) else N = 0
def TyOk (size : Int) (closed : Bool) (op : Int) (ty : List Int) : Prop := if TypedO op then WT ty ∧ Grs size closed ty else ty = []
structure NodeOk (size : Int) (closed : Bool) (vars : Int) (t : Tm) : Prop where
  many : (t.kids.length : Int) = manyO t.op
  nok : NOk size closed vars t.op t.n
  tok : TyOk size closed t.op t.ty
/-- A term with so many variables, and grades. -/
inductive OkT (size : Int) (closed : Bool) : Int → Tm → Prop
  | mk (vars : Int) (t : Tm) (node : NodeOk size closed vars t) (kid : ∀ (i : Nat) k, t.kids[i]? = some k → OkT size closed (vars + addsO t.op i) k) : OkT size closed vars t
theorem OkT.node {size : Int} {closed : Bool} {vars : Int} {t : Tm} (h : OkT size closed vars t) : NodeOk size closed vars t := by
  cases h with
  | mk _ _ node kid => exact node
theorem OkT.kid {size : Int} {closed : Bool} {vars : Int} {t : Tm} (h : OkT size closed vars t) {i : Nat} {k : Tm} (hk : t.kids[i]? = some k) : OkT size closed (vars + addsO t.op i) k := by
  cases h with
  | mk _ _ node kid => exact kid i k hk
/-- A written term. -/
def Written (t : Tm) : Prop := t.sz ≤ 400 ∧ OkT 16 false 8 t
/-- All codes of all types of a term are numbers. -/
inductive TmB : Tm → Prop
  | mk (t : Tm) (ty : CodesB t.ty) (kid : ∀ k ∈ t.kids, TmB k) : TmB t
theorem TmB.ty {t : Tm} (h : TmB t) : CodesB t.ty := by cases h with | mk _ ty _ => exact ty
theorem TmB.kid {t k : Tm} (h : TmB t) (hk : k ∈ t.kids) : TmB k := by cases h with | mk _ _ kid => exact kid k hk
theorem TyOk.codesB {size : Int} {closed : Bool} {op : Int} {ty : List Int} (h : TyOk size closed op ty) : CodesB ty := by
  unfold TyOk at h
  split at h
  · exact h.1.codesB
  · subst h; intro u hu; cases hu
theorem OkT.tmB {size : Int} {closed : Bool} (t : Tm) : ∀ {vars : Int}, OkT size closed vars t → TmB t := by
  induction t using Tm.ind with
  | h t ih =>
    intro vars h
    refine .mk t h.node.tok.codesB fun k hk => ?_
    obtain ⟨i, hi, e⟩ := List.getElem_of_mem hk
    exact ih k hk (h.kid (i := i) (by rw [List.getElem?_eq_getElem hi, e]))
theorem Written.tmB {t : Tm} (h : Written t) : TmB t := h.2.tmB
end Go.Proofs.YtncfbljablbglaaDoor
/- Blocks of slices; worlds that differ in some blocks alone. Nothing is walked here. -/
namespace Go.Proofs.YtncfbljablbglaaDoor
open Go.RowKit

/-- The block of a slice. -/
def ob : Option Addr → Option Nat | none => none | some a => some a.block
theorem ob_eq (a : Option Addr) (n c : Nat) : (Value.slice a n c).ownBlock = ob a := by cases a <;> rfl
theorem owns_of_block {w w' : World} {base : Nat} {e : TypeId} {size : Nat} {v : Value} {n : Nat} {xs : List Value} (h : w.ownsRow base e size v n xs) (hk : ∀ g, v.ownBlock = some g → w'.heap[g]? = w.heap[g]?) : w'.ownsRow base e size v n xs := by
  obtain ⟨h1, h2⟩ := h
  refine ⟨h1, ?_⟩
  rcases h2 with h2 | ⟨g, cap, cur, hv, hb, hg, r⟩
  · exact .inl h2
  · subst hv
    exact .inr ⟨g, cap, cur, rfl, hb, (hk g rfl).trans hg, r⟩
theorem owns_len {w : World} {base : Nat} {e : TypeId} {size : Nat} {a : Option Addr} {n c : Nat} {xs : List Value} (h : w.ownsRow base e size (.slice a n c) n xs) : n ≤ 9223372036854775807 := by
  rcases h.2 with ⟨_, rfl⟩ | ⟨g, cap, cur, _, _, _, h1, h2, _⟩
  · omega
  · unfold maxLen at h2; omega
theorem owns_at {w : World} {base : Nat} {e : TypeId} {size : Nat} {a : Option Addr} {n c : Nat} {xs : List Value} (h : w.ownsRow base e size (.slice a n c) n xs) (hn : 0 < n) : ∃ g, a = some ⟨g, 0, none⟩ ∧ ob a = some g := by
  rcases h.2 with ⟨_, rfl⟩ | ⟨g, cap, cur, e, _⟩
  · omega
  · cases e; exact ⟨g, rfl, rfl⟩

/-- All blocks but those in B are as they were. -/
structure Only (w w' : World) (B : Nat → Prop) : Prop where
  os : w'.os = w.os
  tape : w'.tape = w.tape
  output : w'.output = w.output
  size : w.heap.size ≤ w'.heap.size
  block : ∀ g, g < w.heap.size → ¬ B g → w'.heap[g]? = w.heap[g]?
theorem Only.refl (w : World) (B : Nat → Prop) : Only w w B := ⟨rfl, rfl, rfl, Nat.le_refl _, fun _ _ _ => rfl⟩
theorem Only.trans {w w' w'' : World} {B : Nat → Prop} (h : Only w w' B) (k : Only w' w'' B) : Only w w'' B :=
  ⟨k.os.trans h.os, k.tape.trans h.tape, k.output.trans h.output, Nat.le_trans h.size k.size, fun g hg hn => (k.block g (Nat.lt_of_lt_of_le hg h.size) hn).trans (h.block g hg hn)⟩
theorem Only.mono {w w' : World} {B B' : Nat → Prop} (h : Only w w' B) (hb : ∀ g, g < w.heap.size → B g → B' g) : Only w w' B' :=
  ⟨h.os, h.tape, h.output, h.size, fun g hg hn => h.block g hg (fun q => hn (hb g hg q))⟩
theorem Only.grown {w w' : World} {o : Option Nat} {B : Nat → Prop} (h : w.grownBy w' o) (hb : ∀ g, o = some g → B g) : Only w w' B :=
  ⟨h.os, h.tape, h.output, h.size, fun g hg hn => h.block g hg (fun e => hn (hb g e.symm))⟩
theorem Only.alloc (w : World) (o : Obj) (B : Nat → Prop) : Only w (w.alloc o) B := ⟨rfl, rfl, rfl, by simp, fun g hg _ => by show (w.heap.push o)[g]? = _; rw [Array.getElem?_push_lt hg, Array.getElem?_eq_getElem hg]⟩
theorem Only.of {w w' : World} (h : Below w.heap.size w w') (B : Nat → Prop) : Only w w' B := ⟨h.os, h.tape, h.output, h.size, fun g hg _ => h.block g hg⟩
theorem Only.below {w w' : World} {B : Nat → Prop} {n : Nat} (h : Only w w' B) (hb : ∀ g, B g → n ≤ g) (hn : n ≤ w.heap.size) : Below n w w' :=
  ⟨h.os, h.tape, h.output, h.size, fun g hg => h.block g (by omega) (fun q => by have := hb g q; omega)⟩

end Go.Proofs.YtncfbljablbglaaDoor
/- A struct of four cells that is handed back through its cell. -/
namespace Go.Proofs.YtncfbljablbglaaDoor
open Go.RowKit

theorem ret4 {W y Y4 : World} {B : Nat} {T : TypeId} {z0 z1 z2 z3 a0 a1 a2 a3 : Value} (hb : Below W.heap.size W y) (hB : W.heap.size ≤ B) (bA : y.heap[B]? = some (.cells #[z0, z1, z2, z3] T (0, 0)))
    (hY : (((y.setCell ⟨B, 0, none⟩ a0).setCell ⟨B, 1, none⟩ a1).setCell ⟨B, 2, none⟩ a2).setCell ⟨B, 3, none⟩ a3 = Y4) :
    Below W.heap.size W Y4 ∧ (∀ k, k ≠ B → Y4.heap[k]? = y.heap[k]?) ∧ y.grownBy Y4 (some B) ∧ Y4.cell? ⟨B, 0, none⟩ = some a0 ∧ Y4.cell? ⟨B, 1, none⟩ = some a1 ∧ Y4.cell? ⟨B, 2, none⟩ = some a2 ∧ Y4.cell? ⟨B, 3, none⟩ = some a3 := by
  have hsame : ∀ k, k ≠ B → Y4.heap[k]? = y.heap[k]? := fun k hk => by
    subst hY
    rw [set_other rfl hk, set_other rfl hk, set_other rfl hk, set_other rfl hk]
  have q5 := set_blk (set_blk (set_blk (set_blk bA 0 a0 rfl) 1 a1 rfl) 2 a2 rfl) 3 a3 hY
  simp at q5
  refine ⟨?_, hsame, ⟨?_, ?_, ?_, ?_, fun k _ hk => hsame k (fun e => hk (by rw [e]))⟩, blk_cell q5 0, blk_cell q5 1, blk_cell q5 2, blk_cell q5 3⟩
  · subst hY
    exact (((hb.setCell hB _).setCell hB _).setCell hB _).setCell hB _
  · subst hY; rfl
  · subst hY; rfl
  · subst hY; rfl
  · subst hY; simp
theorem new_blk {w Y : World} {o : Obj} (h : w.alloc o = Y) : Y.heap[w.heap.size]? = some o := by
  subst h
  show (w.heap.push _)[w.heap.size]? = _
  rw [Array.getElem?_push, if_pos rfl]

/-- A block of plain cells. -/
def PlainB (w : World) (g : Nat) : Prop := ∃ (cur : Array Value) (T : TypeId), w.heap[g]? = some (.cells cur T (0, 0))
theorem PlainB.same {w w' : World} {g : Nat} (h : PlainB w g) (hk : w'.heap[g]? = w.heap[g]?) : PlainB w' g := by
  obtain ⟨cur, T, h⟩ := h
  exact ⟨cur, T, hk.trans h⟩
theorem PlainB.lt {w : World} {g : Nat} (h : PlainB w g) : g < w.heap.size := by
  obtain ⟨cur, T, h⟩ := h
  exact (Array.getElem?_eq_some_iff.1 h).1
theorem SysIn.keep {w w' : World} {r : Ref} {s : Sys} {B : Nat} (h : SysIn w r s) (hk : ∀ k, k ≠ B → w'.heap[k]? = w.heap[k]?) (hp : ∀ p, r.pa = some p ∨ r.ta = some p ∨ r.ba = some p → p.block ≠ B) : SysIn w' r s :=
  ⟨row_keep h.plus (fun p q => hk _ (hp p (.inl q))), row_keep h.times (fun p q => hk _ (hp p (.inr (.inl q)))), row_keep h.below (fun p q => hk _ (hp p (.inr (.inr q)))), h.lp, h.lt, h.lb⟩

end Go.Proofs.YtncfbljablbglaaDoor
/- Other terms in place of the root's variables, plainly. Nothing of a program stands here. -/
namespace Go.Proofs.YtncfbljablbglaaDoor
open Go.RowKit
/-- The zero term. -/
abbrev zeroT : Tm := .mk 0 0 [] []
namespace Tm
mutual
/-- What f gives in place of each variable of the root, a of which are added. -/
def rv (f : Int → Int → Tm) : Tm → Int → Tm | .mk op n l ks, a => if op = 0 ∧ a ≤ n then f (n - a) a else .mk op n l (rvL f op a 0 ks)
def rvL (f : Int → Int → Tm) (op a : Int) (j : Nat) : List Tm → List Tm | [] => [] | t :: l => t.rv f (a + addsO op j) :: rvL f op a (j + 1) l
end
theorem rv_var {f : Int → Int → Tm} {t : Tm} {a : Int} (h : t.op = 0) (hn : a ≤ t.n) : t.rv f a = f (t.n - a) a := by
  cases t with
  | mk o m l ks => simp only [op, n] at h hn; unfold rv; rw [if_pos ⟨h, hn⟩]; rfl
theorem rv_node {f : Int → Int → Tm} {t : Tm} {a : Int} (h : ¬ (t.op = 0 ∧ a ≤ t.n)) : t.rv f a = .mk t.op t.n t.ty (rvL f t.op a 0 t.kids) := by
  cases t with
  | mk o m l ks => simp only [op, n] at h; unfold rv; rw [if_neg h]; rfl
theorem rvL_len (f : Int → Int → Tm) (op a : Int) : ∀ (l : List Tm) (j : Nat), (rvL f op a j l).length = l.length
  | [], _ => by simp [rvL]
  | _ :: l, j => by simp [rvL, rvL_len f op a l (j + 1)]
theorem rvL_take_succ (f : Int → Int → Tm) (op a : Int) : ∀ {l : List Tm} {j k : Nat} {u : Tm}, l[k]? = some u → rvL f op a j (l.take (k + 1)) = rvL f op a j (l.take k) ++ [u.rv f (a + addsO op (j + k))]
  | [], j, k, u, h => by simp at h
  | b :: l, j, 0, u, h => by simp at h; subst h; simp [rvL]
  | b :: l, j, k + 1, u, h => by
    simp at h
    have := rvL_take_succ f op a (l := l) (j := j + 1) h
    simp only [List.take_succ_cons, rvL, this, List.cons_append]
    rw [show j + 1 + k = j + (k + 1) by omega]
end Tm
end Go.Proofs.YtncfbljablbglaaDoor
/- append of what a list of cells holds, nil or not, onto a row of the call's own. -/
namespace Go.Proofs.YtncfbljablbglaaDoor
open Go.RowKit

/-- A slice that reads as these cells: nothing at all, or cells from an address on. -/
def Src (w : World) (A : Option Addr) (m size : Nat) (news : List Value) : Prop :=
  news.length = m * size ∧ (∀ u ∈ news, u.oneCell' = true) ∧ ((A = none ∧ m = 0) ∨ ∃ ad, A = some ad ∧ ∀ j u, news[j]? = some u → w.cell? (ad.add j) = some u)
theorem src_ints {w : World} {a : Option Addr} {l : List Int} (h : Row w (Value.int .i64) a l) : Src w a l.length 1 (l.map (Value.int .i64)) := by
  refine ⟨by simp, fun u hu => ?_, ?_⟩
  · obtain ⟨x, _, rfl⟩ := List.mem_map.1 hu
    rfl
  · rcases h with rfl | ⟨b, o, rfl, hc⟩
    · cases a with
      | none => exact .inl ⟨rfl, rfl⟩
      | some ad => exact .inr ⟨ad, rfl, fun j u hu => by simp at hu⟩
    · refine .inr ⟨_, rfl, fun j u hu => ?_⟩
      rw [List.getElem?_map] at hu
      cases e : l[j]? with
      | none => rw [e] at hu; cases hu
      | some x =>
        rw [e] at hu
        cases hu
        have := hc j x e
        rw [show (⟨b, o, none⟩ : Addr).add j = ⟨b, o + j, none⟩ by unfold Addr.add; split <;> simp_all]
        exact this

section
variable {P : Program} {w : World}
theorem run_app_src (base : Nat) (t ty e : TypeId) (i : TypeInfo) (z : Value) (size bytes : Nat) (ht : P.underlying t = some (.slice e)) (hi : P.info? e = some i) (hz : i.zero = some z)
    (hsize : i.size = size) (hby : i.bytes = bytes) (hzs : z.cells.size = size) (hsz : 0 < size) (v : Value) (n : Nat) (xs : List Value) (hown : w.ownsRow base e size v n xs)
    (A : Option Addr) (m c : Nat) (news : List Value) (hs : Src w A m size news) (h63 : n + m ≤ maxLen) (hbytes : (n + m) * bytes ≤ 140737488355328) (hbase : base ≤ w.heap.size) :
    ∃ v' w', (Builtin.append_ #[t, t] ty #[v, .slice A m c]).run P w = .ok v' w' ∧ w'.ownsRow base e size v' (n + m) (xs ++ news) ∧ w.grownBy w' v.ownBlock ∧ (v'.ownBlock = v.ownBlock ∨ v'.ownBlock = some w.heap.size) := by
  obtain ⟨hl, h1, hA⟩ := hs
  rcases hA with ⟨rfl, rfl⟩ | ⟨ad, rfl, hc⟩
  · have hn : news = [] := List.eq_nil_of_length_eq_zero (by simpa using hl)
    subst hn
    refine ⟨v, w, ?_, by simpa using hown, World.grownBy.refl w _, .inl rfl⟩
    rcases hown.2 with ⟨rfl, rfl⟩ | ⟨g, cap, cur, rfl, _, _, hnc, _⟩
    · simp [Builtin.append_, run_underlying ht, sizeOf, typeInfo, hi, Builtin.lenOf, Builtin.firstCells]
    · simp [Builtin.append_, run_underlying ht, sizeOf, typeInfo, hi, Builtin.lenOf, Builtin.firstCells, hnc, storeCells]
  · obtain ⟨v', w', hr, h2, h3, _, h5⟩ := run_append_own_at (P := P) w base t ty e i z size bytes ht hi hz hsize hby hzs hsz v n xs hown ad m c news hl hc h1 h63 hbytes hbase
    exact ⟨v', w', hr, h2, h3, h5⟩

theorem wp_app_src {o : Oper} {a : Act} {K : Act → World → Prop} {Q : Exit → Act → World → Prop} (s x : Operand) (t : TypeId)
    (ho : o.op = .call { callee := .builtin .append, args := #[s, x], argTypes := #[t, t] })
    (base : Nat) (e : TypeId) (i : TypeInfo) (z : Value) (size bytes : Nat) (ht : P.underlying t = some (.slice e)) (hi : P.info? e = some i) (hz : i.zero = some z)
    (hsize : i.size = size) (hby : i.bytes = bytes) (hzs : z.cells.size = size) (hsz : 0 < size) (v : Value) (n : Nat) (xs : List Value) (hv : a.eval s = v) (hown : w.ownsRow base e size v n xs)
    (A : Option Addr) (m c : Nat) (news : List Value) (hx : a.eval x = .slice A m c) (hs : Src w A m size news) (h63 : n + m ≤ maxLen) (hbytes : (n + m) * bytes ≤ 140737488355328) (hbase : base ≤ w.heap.size)
    (h : ∀ A' c' w', w'.ownsRow base e size (.slice A' (n + m) c') (n + m) (xs ++ news) → w.grownBy w' v.ownBlock → ((Value.slice A' (n + m) c').ownBlock = v.ownBlock ∨ (Value.slice A' (n + m) c').ownBlock = some w.heap.size) → K (a.put o.dst (.slice A' (n + m) c')) w') : o.wp P a w K Q := by
  obtain ⟨v', w', hr, h2, h3, h4⟩ := run_app_src (P := P) base t o.type e i z size bytes ht hi hz hsize hby hzs hsz v n xs hown A m c news hs h63 hbytes hbase
  obtain ⟨A', c', rfl⟩ : ∃ A' c', v' = .slice A' (n + m) c' := by
    rcases h2.2 with ⟨rfl, e⟩ | ⟨g, cap, cur, rfl, _⟩
    · exact ⟨none, 0, by rw [e]⟩
    · exact ⟨_, _, rfl⟩
  unfold Oper.wp execOp
  simp only [ho, resolve, invoke, builtin, Sem.run_bind, Sem.run_pure, Result.andThen_ok, List.map_toArray, List.map_cons, List.map_nil, hv, hx, hr]
  exact h A' c' w' h2 h3 h4
theorem wpList_app_src {ops : Array Oper} {rest : List Oper} {o : Oper} {a : Act} {Q : Exit → Act → World → Prop} (hgd : o.guard = none) (s x : Operand) (t : TypeId)
    (ho : o.op = .call { callee := .builtin .append, args := #[s, x], argTypes := #[t, t] })
    (base : Nat) (e : TypeId) (i : TypeInfo) (z : Value) (size bytes : Nat) (ht : P.underlying t = some (.slice e)) (hi : P.info? e = some i) (hz : i.zero = some z)
    (hsize : i.size = size) (hby : i.bytes = bytes) (hzs : z.cells.size = size) (hsz : 0 < size) (v : Value) (n : Nat) (xs : List Value) (hv : a.eval s = v) (hown : w.ownsRow base e size v n xs)
    (A : Option Addr) (m c : Nat) (news : List Value) (hx : a.eval x = .slice A m c) (hs : Src w A m size news) (h63 : n + m ≤ maxLen) (hbytes : (n + m) * bytes ≤ 140737488355328) (hbase : base ≤ w.heap.size)
    (h : ∀ A' c' w', w'.ownsRow base e size (.slice A' (n + m) c') (n + m) (xs ++ news) → w.grownBy w' v.ownBlock → ((Value.slice A' (n + m) c').ownBlock = v.ownBlock ∨ (Value.slice A' (n + m) c').ownBlock = some w.heap.size) → wpList P ops Q rest (a.put o.dst (.slice A' (n + m) c')) w') : wpList P ops Q (o :: rest) a w :=
  wpList_plain hgd fun _ hK => wp_app_src s x t ho base e i z size bytes ht hi hz hsize hby hzs hsz v n xs hv hown A m c news hx hs h63 hbytes hbase fun A' c' w' h2 h3 h4 => hK _ _ (h A' c' w' h2 h3 h4)
theorem step_app_src {ops : Array Oper} {o : Oper} {a : Act} {K : Act → World → Prop} {Q : Exit → Act → World → Prop} {E : Prop} (hgd : o.guard = none) (s x : Operand) (t : TypeId)
    (ho : o.op = .call { callee := .builtin .append, args := #[s, x], argTypes := #[t, t] })
    (base : Nat) (e : TypeId) (i : TypeInfo) (z : Value) (size bytes : Nat) (ht : P.underlying t = some (.slice e)) (hi : P.info? e = some i) (hz : i.zero = some z)
    (hsize : i.size = size) (hby : i.bytes = bytes) (hzs : z.cells.size = size) (hsz : 0 < size) (v : Value) (n : Nat) (xs : List Value) (hv : a.eval s = v) (hown : w.ownsRow base e size v n xs)
    (A : Option Addr) (m c : Nat) (news : List Value) (hx : a.eval x = .slice A m c) (hs : Src w A m size news) (h63 : n + m ≤ maxLen) (hbytes : (n + m) * bytes ≤ 140737488355328) (hbase : base ≤ w.heap.size)
    (h : ∀ A' c' w', w'.ownsRow base e size (.slice A' (n + m) c') (n + m) (xs ++ news) → w.grownBy w' v.ownBlock → ((Value.slice A' (n + m) c').ownBlock = v.ownBlock ∨ (Value.slice A' (n + m) c').ownBlock = some w.heap.size) → K (a.put o.dst (.slice A' (n + m) c')) w') :
    if Region.wanted o (yielded ops a.tmps) = true then Oper.wp P o a w K Q else E := by
  have hw : Region.wanted o (yielded ops a.tmps) = true := by simp [Region.wanted, hgd]
  rw [if_pos hw]
  exact wp_app_src s x t ho base e i z size bytes ht hi hz hsize hby hzs hsz v n xs hv hown A m c news hx hs h63 hbytes hbase h
end

end Go.Proofs.YtncfbljablbglaaDoor
/- Shifts and puts of terms, plainly. Nothing of a program stands here. -/
namespace Go.Proofs.YtncfbljablbglaaDoor
open Go.RowKit

/-- The variable of an index. -/
def varT (i : Int) : Tm := .mk 0 i [] []
/-- What a shift makes of a variable of the root. -/
def shf (by' from' : Int) (i a : Int) : Tm := varT ((if from' ≤ i then i + by' else i) + a)
/-- What a move below other variables makes of it. -/
def mvf (m : Int) (i a : Int) : Tm := varT (i + m + a)
/-- What a put makes of it. -/
def putf (k : Int) (u : Tm) (i a : Int) : Tm := if i = k then u.rv (mvf a) 0 else if k < i then varT (i - 1 + a) else varT (i + a)

namespace Tm
theorem rvL_congr {f g : Int → Int → Tm} {op op' a : Int} : ∀ {l : List Tm} {j : Nat}, op = op' → (∀ (i : Nat) (k : Tm), l[i]? = some k → k.rv f (a + addsO op (j + i)) = k.rv g (a + addsO op (j + i))) → rvL f op a j l = rvL g op' a j l
  | [], _, _, _ => by simp [rvL]
  | b :: l, j, e, h => by
    subst e
    simp only [rvL]
    have h0 := h 0 b rfl
    rw [Nat.add_zero] at h0
    rw [h0, rvL_congr (f := f) (g := g) (l := l) (j := j + 1) rfl (fun i k hk => by have := h (i + 1) k hk; rw [show j + 1 + i = j + (i + 1) by omega]; exact this)]
/-- Of a term with so many variables only those in range are asked. -/
theorem rv_congr {f g : Int → Int → Tm} {size : Int} {closed : Bool} {V : Int} (hfg : ∀ i a, 0 ≤ i → i < V → 0 ≤ a → f i a = g i a) (t : Tm) : ∀ {vars a : Int}, OkT size closed vars t → 0 ≤ a → vars = V + a → t.rv f a = t.rv g a := by
  induction t using ind with
  | h t ih =>
    intro vars a ok ha hv
    by_cases h : t.op = 0 ∧ a ≤ t.n
    · rw [rv_var h.1 h.2, rv_var h.1 h.2]
      have := ok.node.nok
      unfold NOk at this
      rw [if_pos h.1] at this
      exact hfg _ _ (by omega) (by omega) ha
    · rw [rv_node h, rv_node h]
      congr 1
      refine rvL_congr rfl fun i k hk => ?_
      have := addsO_ge t.op (0 + i)
      have h2 := ok.kid hk
      rw [Nat.zero_add] at *
      exact ih k (List.mem_of_getElem? hk) h2 (by omega) (by omega)
theorem rvL_id {f : Int → Int → Tm} {op a : Int} : ∀ {l : List Tm} {j : Nat}, (∀ (i : Nat) (k : Tm), l[i]? = some k → k.rv f (a + addsO op (j + i)) = k) → rvL f op a j l = l
  | [], _, _ => by simp [rvL]
  | b :: l, j, h => by
    simp only [rvL]
    have h0 := h 0 b rfl
    rw [Nat.add_zero] at h0
    rw [h0, rvL_id (l := l) (j := j + 1) (fun i k hk => by have := h (i + 1) k hk; rw [show j + 1 + i = j + (i + 1) by omega]; exact this)]
theorem rvL_at {f : Int → Int → Tm} {op a : Int} : ∀ {l : List Tm} {j i : Nat}, (rvL f op a j l)[i]? = (l[i]?).map fun k => k.rv f (a + addsO op (j + i))
  | [], _, _ => by simp [rvL]
  | b :: l, j, 0 => by simp [rvL]
  | b :: l, j, i + 1 => by
    simp only [rvL, List.getElem?_cons_succ]
    rw [rvL_at (l := l) (j := j + 1)]
    rw [show j + 1 + i = j + (i + 1) by omega]
/-- The node of a variable that is well made. -/
theorem var_eq {size vars : Int} {closed : Bool} {t : Tm} (ok : OkT size closed vars t) (h0 : t.op = 0) : t = varT t.n := by
  have h1 := ok.node.many
  have h2 := ok.node.tok
  unfold TyOk at h2
  rw [if_neg (by unfold TypedO; omega)] at h2
  have hm : manyO 0 = 0 := by decide
  rw [h0, hm] at h1
  exact ext' h0 rfl h2 (List.eq_nil_of_length_eq_zero (by omega))
theorem shf_mvf (m : Int) {i a : Int} (h : 0 ≤ i) : shf m 0 i a = mvf m i a := by unfold shf mvf; rw [if_pos h]
end Tm
namespace Tm
theorem wtL_bound {size : Int} {closed : Bool} : ∀ (l : List Tm) (vars : Nat → Int) (j : Nat), (∀ k ∈ l, ∀ v, OkT size closed v k → k.wt + 1 ≤ 41 * k.sz) → (∀ i k, l[i]? = some k → OkT size closed (vars (j + i)) k) → l.length + wtL l ≤ 41 * szL l
  | [], _, _, _, _ => by simp [wtL, szL]
  | a :: l, vars, j, h, hok => by
    have h1 := h a (by simp) _ (hok 0 a rfl)
    have h2 := wtL_bound l vars (j + 1) (fun k hk => h k (by simp [hk])) (fun i k hk => by have := hok (i + 1) k hk; rw [show j + 1 + i = j + (i + 1) by omega]; exact this)
    simp only [wtL, szL, List.length_cons]
    omega
/-- The weight of a term that is well made. -/
theorem wt_bound {size : Int} {closed : Bool} (t : Tm) : ∀ {v : Int}, OkT size closed v t → t.wt + 1 ≤ 41 * t.sz := by
  induction t using ind with
  | h t ih =>
    intro v ok
    have h1 := wtL_bound t.kids (fun i => v + addsO t.op i) 0 (fun k hk v q => ih k hk q) (fun i k hk => by rw [Nat.zero_add]; exact ok.kid hk)
    have h2 : t.ty.length ≤ 40 := by
      have := ok.node.tok
      unfold TyOk at this
      split at this
      · exact this.1.1
      · rw [this]; simp
    rw [wt_eq, sz_eq]
    omega
end Tm
theorem Written.wt {t : Tm} (h : Written t) : t.wt ≤ 16400 := by
  have := Tm.wt_bound t h.2
  have := h.1
  omega
end Go.Proofs.YtncfbljablbglaaDoor
/- Redexes and what stands behind their arrow, plainly. Nothing of a program stands here. -/
namespace Go.Proofs.YtncfbljablbglaaDoor
open Go.RowKit

/-- What a redex leads to: a body, and what is put in place of its first variables. -/
inductive Cof : Tm → Tm → List Tm → Prop
  | add (t a b : Tm) (h : t.op = 2) (hk : t.kids = [a, b]) (ha : a.op = 1) (hb : b.op = 1) : Cof t (.mk 1 ((a.n + b.n).tmod 3) [] []) []
  | if0 (t a b c : Tm) (h : t.op = 3) (hk : t.kids = [a, b, c]) (ha : a.op = 1) (hn : a.n = 0) : Cof t b []
  | if1 (t a b c : Tm) (h : t.op = 3) (hk : t.kids = [a, b, c]) (ha : a.op = 1) (hn : a.n ≠ 0) : Cof t c []
  | app (t a b u : Tm) (h : t.op = 10) (hk : t.kids = [a, b]) (ha : a.op = 9) (hu : a.kids = [u]) : Cof t u [b]
  | split (t a b u v : Tm) (h : t.op = 5) (hk : t.kids = [a, b]) (ha : a.op = 4) (hu : a.kids = [u, v]) : Cof t b [v, u]
  | left (t a b c u : Tm) (h : t.op = 8) (hk : t.kids = [a, b, c]) (ha : a.op = 6) (hu : a.kids = [u]) : Cof t b [u]
  | right (t a b c u : Tm) (h : t.op = 8) (hk : t.kids = [a, b, c]) (ha : a.op = 7) (hu : a.kids = [u]) : Cof t c [u]
  | opn (t a b u : Tm) (h : t.op = 12) (hk : t.kids = [a, b]) (ha : a.op = 11) (hu : a.kids = [u]) : Cof t b [u]
/-- A redex. -/
def Red (t : Tm) : Prop := ∃ b p, Cof t b p
theorem Cof.red {t b : Tm} {p : List Tm} (h : Cof t b p) : Red t := ⟨b, p, h⟩
/-- A term whose kids are as many as its op asks, and those of its kids likewise. -/
structure Shape (t : Tm) : Prop where
  many : (t.kids.length : Int) = manyO t.op
  kid : ∀ k ∈ t.kids, (k.kids.length : Int) = manyO k.op
theorem OkT.shape {size : Int} {closed : Bool} {vars : Int} {t : Tm} (h : OkT size closed vars t) : Shape t := by
  refine ⟨h.node.many, fun k hk => ?_⟩
  obtain ⟨i, hi⟩ := List.getElem?_of_mem hk
  exact (h.kid hi).node.many
theorem len1 {α : Type} {l : List α} (h : (l.length : Int) = 1) : ∃ a, l = [a] := List.length_eq_one_iff.1 (by omega)
theorem len2 {α : Type} {l : List α} (h : (l.length : Int) = 2) : ∃ a b, l = [a, b] := by
  match l, h with
  | [a, b], _ => exact ⟨a, b, rfl⟩
  | [], h => simp at h
  | [a], h => simp at h
  | a :: b :: c :: l, h => simp at h; omega
theorem len3 {α : Type} {l : List α} (h : (l.length : Int) = 3) : ∃ a b c, l = [a, b, c] := by
  match l, h with
  | [a, b, c], _ => exact ⟨a, b, c, rfl⟩
  | [], h => simp at h
  | [a], h => simp at h
  | [a, b], h => simp at h
  | a :: b :: c :: d :: l, h => simp at h; omega
section
variable {t a b c : Tm}
/-- What is no redex, by its op. -/
theorem no_red_op (h2 : t.op ≠ 2) (h3 : t.op ≠ 3) (h5 : t.op ≠ 5) (h8 : t.op ≠ 8) (h10 : t.op ≠ 10) (h12 : t.op ≠ 12) : ¬ Red t := by
  rintro ⟨u, p, h⟩
  cases h <;> contradiction
theorem no_red_kids (h : t.kids = []) : ¬ Red t := by
  rintro ⟨u, p, h'⟩
  cases h' <;> simp_all
theorem no_red2 (h : t.op = 2) (hk : t.kids = [a, b]) (hn : ¬ (a.op = 1 ∧ b.op = 1)) : ¬ Red t := by
  rintro ⟨u, p, h'⟩
  cases h' <;> simp_all
theorem no_red3 (h : t.op = 3) (hk : t.kids = [a, b, c]) (hn : a.op ≠ 1) : ¬ Red t := by
  rintro ⟨u, p, h'⟩
  cases h' <;> simp_all
theorem no_red10 (h : t.op = 10) (hk : t.kids = [a, b]) (hn : a.op ≠ 9) : ¬ Red t := by
  rintro ⟨u, p, h'⟩
  cases h' <;> simp_all
theorem no_red5 (h : t.op = 5) (hk : t.kids = [a, b]) (hn : a.op ≠ 4) : ¬ Red t := by
  rintro ⟨u, p, h'⟩
  cases h' <;> simp_all
theorem no_red8 (h : t.op = 8) (hk : t.kids = [a, b, c]) (hn : a.op ≠ 6) (hn' : a.op ≠ 7) : ¬ Red t := by
  rintro ⟨u, p, h'⟩
  cases h' <;> simp_all
theorem no_red12 (h : t.op = 12) (hk : t.kids = [a, b]) (hn : a.op ≠ 11) : ¬ Red t := by
  rintro ⟨u, p, h'⟩
  cases h' <;> simp_all
end
theorem Cof.uniq {t b b' : Tm} {p p' : List Tm} (h : Cof t b p) (h' : Cof t b' p') : b = b' ∧ p = p' := by
  cases h <;> cases h' <;> simp_all
end Go.Proofs.YtncfbljablbglaaDoor
