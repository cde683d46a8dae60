
/- Terms, plainly: trees, where they lie, how many nodes and cells they have. Nothing of a program stands here. -/
import Derived.Test.YtmifnhblhggflaaDoorTypeSpec
import Derived.Test.YtmifnhblhggflaaDoorWorld
namespace Go.Proofs.YtmifnhblhggflaaDoor
open Go.RowKit

inductive Tm where
  | mk (op n : Int) (ty : List Int) (kids : List Tm)
namespace Tm
def op : Tm → Int | .mk o _ _ _ => o
def n : Tm → Int | .mk _ n _ _ => n
def ty : Tm → List Int | .mk _ _ l _ => l
def kids : Tm → List Tm | .mk _ _ _ l => l
theorem sizeOf_kid {t k : Tm} (h : k ∈ t.kids) : SizeOf.sizeOf k < SizeOf.sizeOf t := by
  cases t with
  | mk o m l ks =>
    have := List.sizeOf_lt_of_mem h
    simp [kids] at this ⊢
    omega
theorem ind {P : Tm → Prop} (h : ∀ t, (∀ k ∈ t.kids, P k) → P t) (t : Tm) : P t :=
  h t (fun k _hk => ind h k)
  termination_by SizeOf.sizeOf t
  decreasing_by exact sizeOf_kid _hk
mutual
/-- How many nodes. -/
def sz : Tm → Nat | .mk _ _ _ ks => 1 + szL ks
def szL : List Tm → Nat | [] => 0 | t :: l => t.sz + szL l
end
mutual
/-- How many codes and kids in all. -/
def wt : Tm → Nat | .mk _ _ l ks => l.length + (ks.length + wtL ks)
def wtL : List Tm → Nat | [] => 0 | t :: l => t.wt + wtL l
end
theorem sz_eq (t : Tm) : t.sz = 1 + szL t.kids := by cases t; rfl
theorem wt_eq (t : Tm) : t.wt = t.ty.length + (t.kids.length + wtL t.kids) := by cases t; rfl
theorem sz_pos (t : Tm) : 0 < t.sz := by rw [sz_eq]; omega
theorem szL_mem {l : List Tm} {k : Tm} (h : k ∈ l) : k.sz ≤ szL l := by
  induction l with
  | nil => cases h
  | cons a l ih =>
    simp only [szL]
    rcases List.mem_cons.1 h with rfl | h
    · omega
    · have := ih h; omega
theorem sz_kid {t k : Tm} (h : k ∈ t.kids) : k.sz < t.sz := by have := szL_mem h; rw [sz_eq t]; omega
theorem szL_take_succ {l : List Tm} {i : Nat} {k : Tm} (h : l[i]? = some k) : szL (l.take (i + 1)) = szL (l.take i) + k.sz := by
  induction l generalizing i with
  | nil => simp at h
  | cons a l ih =>
    cases i with
    | zero => simp at h; subst h; simp [szL]
    | succ i => simp at h; simp [szL, ih h]; omega
theorem szL_take_le (l : List Tm) (i : Nat) : szL (l.take i) ≤ szL l := by
  induction l generalizing i with
  | nil => simp
  | cons a l ih =>
    cases i with
    | zero => simp [szL]
    | succ i => have := ih i; simp [szL]; omega
theorem wtL_take_succ {l : List Tm} {i : Nat} {k : Tm} (h : l[i]? = some k) : wtL (l.take (i + 1)) = wtL (l.take i) + k.wt := by
  induction l generalizing i with
  | nil => simp at h
  | cons a l ih =>
    cases i with
    | zero => simp at h; subst h; simp [wtL]
    | succ i => simp at h; simp [wtL, ih h]; omega
theorem wtL_take_le (l : List Tm) (i : Nat) : wtL (l.take i) ≤ wtL l := by
  induction l generalizing i with
  | nil => simp
  | cons a l ih =>
    cases i with
    | zero => simp [wtL]
    | succ i => have := ih i; simp [wtL]; omega
theorem szL_le_wtL (l : List Tm) (h : ∀ k ∈ l, k.sz ≤ 1 + k.wt) : szL l ≤ l.length + wtL l := by
  induction l with
  | nil => simp [szL]
  | cons a l ih =>
    have h1 := h a (by simp)
    have h2 := ih (fun k hk => h k (by simp [hk]))
    simp [szL, wtL]
    omega
theorem sz_le_wt (t : Tm) : t.sz ≤ 1 + t.wt := by
  induction t using ind with
  | h t ih =>
    have := szL_le_wtL t.kids ih
    rw [sz_eq, wt_eq]
    omega
theorem wtL_mem {l : List Tm} {k : Tm} (h : k ∈ l) : k.wt ≤ wtL l := by
  induction l with
  | nil => cases h
  | cons a l ih =>
    simp only [wtL]
    rcases List.mem_cons.1 h with rfl | h
    · omega
    · have := ih h; omega
theorem wt_kid {t k : Tm} (h : k ∈ t.kids) : k.wt ≤ t.wt := by have := wtL_mem h; rw [wt_eq t]; omega
theorem ext' {s t : Tm} (h1 : s.op = t.op) (h2 : s.n = t.n) (h3 : s.ty = t.ty) (h4 : s.kids = t.kids) : s = t := by
  cases s; cases t
  simp only [op, n, ty, kids] at h1 h2 h3 h4
  subst h1; subst h2; subst h3; subst h4
  rfl
end Tm

/-- Where the parts of a term lie. -/
structure TV where
  a : Option Addr
  c : Nat
  b : Option Addr
  d : Nat
abbrev TV.val (r : TV) (t : Tm) : Value := .agg #[.int .i64 t.op, .int .i64 t.n, .slice r.a t.ty.length r.c, .slice r.b t.kids.length r.d]

/-- The four cells of a kid. -/
structure Kid4 (w : World) (b o : Nat) (r : TV) (k : Tm) : Prop where
  c0 : w.cell? ⟨b, o, none⟩ = some (.int .i64 k.op)
  c1 : w.cell? ⟨b, o + 1, none⟩ = some (.int .i64 k.n)
  c2 : w.cell? ⟨b, o + 2, none⟩ = some (.slice r.a k.ty.length r.c)
  c3 : w.cell? ⟨b, o + 3, none⟩ = some (.slice r.b k.kids.length r.d)

/-- A term lies in blocks from lo on. -/
inductive TmIn (w : World) (lo : Nat) : Tm → TV → Prop
  | mk (t : Tm) (r : TV) (kr : Nat → TV) (row : Row w (Value.int .i64) r.a t.ty) (alo : ∀ p, r.a = some p → lo ≤ p.block) (lt : t.ty.length ≤ 9223372036854775807) (lk : t.kids.length ≤ 9223372036854775807)
      (at_ : t.kids = [] ∨ ∃ b o, r.b = some ⟨b, o, none⟩ ∧ lo ≤ b ∧ ∀ i k, t.kids[i]? = some k → Kid4 w b (o + i * 4) (kr i) k)
      (sub : ∀ i k, t.kids[i]? = some k → TmIn w lo k (kr i)) : TmIn w lo t r

theorem Kid4.keep {w w' : World} {b o : Nat} {r : TV} {k : Tm} (h : Kid4 w b o r k) (hb : w'.heap[b]? = w.heap[b]?) : Kid4 w' b o r k := by
  refine ⟨?_, ?_, ?_, ?_⟩
  · rw [World.cell?_of_block (w := w) (a := ⟨b, o, none⟩) hb]; exact h.c0
  · rw [World.cell?_of_block (w := w) (a := ⟨b, o + 1, none⟩) hb]; exact h.c1
  · rw [World.cell?_of_block (w := w) (a := ⟨b, o + 2, none⟩) hb]; exact h.c2
  · rw [World.cell?_of_block (w := w) (a := ⟨b, o + 3, none⟩) hb]; exact h.c3

theorem TmIn.keep {w w' : World} {lo : Nat} (hk : ∀ k, lo ≤ k → k < w.heap.size → w'.heap[k]? = w.heap[k]?) {t : Tm} {r : TV} (h : TmIn w lo t r) : TmIn w' lo t r := by
  induction h with
  | mk t r kr row alo lt lk at_ sub ih =>
    refine .mk t r kr ?_ alo lt lk ?_ ih
    · rcases row with h | ⟨b, o, ha, hc⟩
      · exact .inl h
      · refine .inr ⟨b, o, ha, fun i x hx => ?_⟩
        have h1 := hc i x hx
        rw [World.cell?_of_block (w := w) (a := ⟨b, o + i, none⟩) (hk b (alo _ ha) (cell_lt h1))]
        exact h1
    · rcases at_ with h | ⟨b, o, hb, hlo, hc⟩
      · exact .inl h
      · exact .inr ⟨b, o, hb, hlo, fun i k hi => (hc i k hi).keep (hk b hlo (cell_lt (hc i k hi).c0))⟩
theorem TmIn.lower {w : World} {lo lo' : Nat} (hl : lo' ≤ lo) {t : Tm} {r : TV} (h : TmIn w lo t r) : TmIn w lo' t r := by
  induction h with
  | mk t r kr row alo lt lk at_ sub ih =>
    refine .mk t r kr row (fun p hp => Nat.le_trans hl (alo p hp)) lt lk ?_ ih
    rcases at_ with h | ⟨b, o, hb, hlo, hc⟩
    · exact .inl h
    · exact .inr ⟨b, o, hb, by omega, hc⟩
theorem TmIn.ext {W : World} {lo : Nat} {t : Tm} {r : TV} (h : TmIn W lo t r) (x : Ext W) : TmIn x.w lo t r := h.keep fun k _ hk => x.below.block k hk
theorem Row.extb {α : Type} {W : World} {mk : α → Value} {a : Option Addr} {l : List α} (h : Row W mk a l) (x : Ext W) : Row x.w mk a l := h.ext x

/-- A term's own parts, plainly. -/
structure TmAt (w : World) (lo : Nat) (t : Tm) (r : TV) (kr : Nat → TV) : Prop where
  row : Row w (Value.int .i64) r.a t.ty
  lt : t.ty.length ≤ 9223372036854775807
  lk : t.kids.length ≤ 9223372036854775807
  kid : ∀ i k, t.kids[i]? = some k → ∃ b o, r.b = some ⟨b, o, none⟩ ∧ Kid4 w b (o + i * 4) (kr i) k
  sub : ∀ i k, t.kids[i]? = some k → TmIn w lo k (kr i)
theorem TmIn.out {w : World} {lo : Nat} {t : Tm} {r : TV} (h : TmIn w lo t r) : ∃ kr, TmAt w lo t r kr := by
  cases h with
  | mk t r kr row alo lt lk at_ sub =>
    refine ⟨kr, row, lt, lk, fun i k hi => ?_, sub⟩
    rcases at_ with h | ⟨b, o, hb, _, hc⟩
    · rw [h] at hi; simp at hi
    · exact ⟨b, o, hb, hc i k hi⟩

/-- A term that a function has been handed lies in a new block of its own. -/
theorem boxedT {W W1 : World} {lo : Nat} {t : Tm} {r : TV} (h : TmIn W lo t r) (x : Ext W) {T : TypeId} {B : Nat} (hB : x.w.heap.size = B)
    (hW : x.w.alloc (.cells #[.int .i64 t.op, .int .i64 t.n, .slice r.a t.ty.length r.c, .slice r.b t.kids.length r.d] T) = W1) :
    (∀ y : Ext W1, y.w.cell? ⟨B, 0, none⟩ = some (.int .i64 t.op)) ∧ (∀ y : Ext W1, y.w.cell? ⟨B, 1, none⟩ = some (.int .i64 t.n)) ∧
    (∀ y : Ext W1, y.w.cell? ⟨B, 2, none⟩ = some (.slice r.a t.ty.length r.c)) ∧ (∀ y : Ext W1, y.w.cell? ⟨B, 3, none⟩ = some (.slice r.b t.kids.length r.d)) ∧
    TmIn W1 lo t r ∧ (∀ y : Ext W1, ∃ z : Ext W, y.w = z.w) ∧ ∃ y0 : Ext W1, y0.w = W1 := by
  subst hW; subst hB
  refine ⟨fun y => ?_, fun y => ?_, fun y => ?_, fun y => ?_, ?_, fun y => ⟨x.on y.behind.below, rfl⟩, Ext.self _, rfl⟩
  · exact y.cell (by rw [World.cell?_alloc_at _ _ _ _ rfl]; rfl)
  · exact y.cell (by rw [World.cell?_alloc_at _ _ _ _ rfl]; rfl)
  · exact y.cell (by rw [World.cell?_alloc_at _ _ _ _ rfl]; rfl)
  · exact y.cell (by rw [World.cell?_alloc_at _ _ _ _ rfl]; rfl)
  · exact h.ext (x.alloc _)

end Go.Proofs.YtmifnhblhggflaaDoor
