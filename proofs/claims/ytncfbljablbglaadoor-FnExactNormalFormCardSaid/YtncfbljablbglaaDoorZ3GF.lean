/- Texts of one claim, laid together: TermOwn, TermBld, TermA, LawTo, ToOwn, TmB. -/
import Derived.Test.YtncfbljablbglaaDoorZ3GA
import Derived.Test.YtncfbljablbglaaDoorZ3GD
import Derived.Test.YtncfbljablbglaaDoorZ3GE
import Derived.Maps.AppendAt
set_option linter.unusedVariables false
set_option linter.unusedSimpArgs false
/- Terms that lie in blocks of their own; what the laws' marks make of them. Nothing is walked here. -/
namespace Go.Proofs.YtncfbljablbglaaDoor
open Go.RowKit

/-- The four values of a kid in a list of cells. -/
def L4 (xs : List Value) (i : Nat) (r : TV) (k : Tm) : Prop :=
  xs[i * 4]? = some (.int .i64 k.op) ∧ xs[i * 4 + 1]? = some (.int .i64 k.n) ∧ xs[i * 4 + 2]? = some (.slice r.a k.ty.length r.c) ∧ xs[i * 4 + 3]? = some (.slice r.b k.kids.length r.d)

/-- A term whose slices lie in blocks of their own, no two in one; B: these blocks. -/
inductive TmOwn (w : World) : Tm → TV → (Nat → Prop) → Prop
  | mk (t : Tm) (r : TV) (kr : Nat → TV) (xs : List Value) (KB : Nat → Nat → Prop) (B : Nat → Prop)
      (ty : w.ownsRow 0 3 1 (.slice r.a t.ty.length r.c) t.ty.length (t.ty.map (Value.int .i64)))
      (row : w.ownsRow 0 29 4 (.slice r.b t.kids.length r.d) t.kids.length xs)
      (cell : ∀ i k, t.kids[i]? = some k → L4 xs i (kr i) k)
      (sub : ∀ i k, t.kids[i]? = some k → TmOwn w k (kr i) (KB i))
      (dj : ∀ i j g, i < t.kids.length → j < t.kids.length → i ≠ j → KB i g → KB j g → False)
      (da : ∀ i g, i < t.kids.length → KB i g → ob r.a ≠ some g ∧ ob r.b ≠ some g)
      (db : ∀ g, ob r.a = some g → ob r.b ≠ some g)
      (hB : ∀ g, B g ↔ ob r.a = some g ∨ ob r.b = some g ∨ ∃ i, i < t.kids.length ∧ KB i g) : TmOwn w t r B

/-- The kids of such a term. -/
structure KidsOwn (w : World) (ks : List Tm) (b : Option Addr) (d : Nat) (kr : Nat → TV) (xs : List Value) (KB : Nat → Nat → Prop) : Prop where
  row : w.ownsRow 0 29 4 (.slice b ks.length d) ks.length xs
  cell : ∀ i k, ks[i]? = some k → L4 xs i (kr i) k
  sub : ∀ i k, ks[i]? = some k → TmOwn w k (kr i) (KB i)
  dj : ∀ i j g, i < ks.length → j < ks.length → i ≠ j → KB i g → KB j g → False
  dk : ∀ i g, i < ks.length → KB i g → ob b ≠ some g
def KBlocks (n : Nat) (b : Option Addr) (KB : Nat → Nat → Prop) (g : Nat) : Prop := ob b = some g ∨ ∃ i, i < n ∧ KB i g

theorem TmOwn.out {w : World} {t : Tm} {r : TV} {B : Nat → Prop} (h : TmOwn w t r B) : ∃ kr xs KB,
    w.ownsRow 0 3 1 (.slice r.a t.ty.length r.c) t.ty.length (t.ty.map (Value.int .i64)) ∧ KidsOwn w t.kids r.b r.d kr xs KB ∧
    (∀ g, KBlocks t.kids.length r.b KB g → ob r.a ≠ some g) ∧ (∀ g, B g ↔ ob r.a = some g ∨ KBlocks t.kids.length r.b KB g) := by
  cases h with
  | mk t r kr xs KB B ty row cell sub dj da db hB =>
    refine ⟨kr, xs, KB, ty, ⟨row, cell, sub, dj, fun i g hi hg => (da i g hi hg).2⟩, fun g hg e => ?_, hB⟩
    rcases hg with hg | ⟨i, hi, hg⟩
    · exact db g e hg
    · exact (da i g hi hg).1 e
theorem TmOwn.of {w : World} {t : Tm} {r : TV} {B : Nat → Prop} {kr : Nat → TV} {xs : List Value} {KB : Nat → Nat → Prop}
    (ty : w.ownsRow 0 3 1 (.slice r.a t.ty.length r.c) t.ty.length (t.ty.map (Value.int .i64))) (k : KidsOwn w t.kids r.b r.d kr xs KB)
    (da : ∀ g, KBlocks t.kids.length r.b KB g → ob r.a ≠ some g) (hB : ∀ g, B g ↔ ob r.a = some g ∨ KBlocks t.kids.length r.b KB g) : TmOwn w t r B :=
  .mk t r kr xs KB B ty k.row k.cell k.sub k.dj (fun i g hi hg => ⟨da g (.inr ⟨i, hi, hg⟩), k.dk i g hi hg⟩) (fun g e hg => da g (.inl hg) e) hB

theorem TmOwn.keep {w w' : World} {t : Tm} {r : TV} {B : Nat → Prop} (h : TmOwn w t r B) (hk : ∀ g, B g → w'.heap[g]? = w.heap[g]?) : TmOwn w' t r B := by
  induction h with
  | mk t r kr xs KB B ty row cell sub dj da db hB ih =>
    refine .mk t r kr xs KB B ?_ ?_ cell ?_ dj da db hB
    · exact owns_of_block ty fun g hg => hk g ((hB g).2 (.inl (by rw [← ob_eq]; exact hg)))
    · exact owns_of_block row fun g hg => hk g ((hB g).2 (.inr (.inl (by rw [← ob_eq]; exact hg))))
    · intro i k hi
      exact ih i k hi fun g hg => hk g ((hB g).2 (.inr (.inr ⟨i, (List.getElem?_eq_some_iff.1 hi).1, hg⟩)))
theorem TmOwn.lt {w : World} {t : Tm} {r : TV} {B : Nat → Prop} (h : TmOwn w t r B) : ∀ g, B g → g < w.heap.size := by
  induction h with
  | mk t r kr xs KB B ty row cell sub dj da db hB ih =>
    intro g hg
    rcases (hB g).1 hg with e | e | ⟨i, hi, e⟩
    · exact (ty.lt g (by rw [ob_eq]; exact e)).2
    · exact (row.lt g (by rw [ob_eq]; exact e)).2
    · exact ih i _ (List.getElem?_eq_getElem hi) g e
theorem TmOwn.ext {W : World} {t : Tm} {r : TV} {B : Nat → Prop} (h : TmOwn W t r B) (x : Ext W) : TmOwn x.w t r B := h.keep fun g hg => x.below.block g (h.lt g hg)
theorem TmOwn.only {w w' : World} {t : Tm} {r : TV} {B C : Nat → Prop} (h : TmOwn w t r B) (ho : Only w w' C) (hd : ∀ g, B g → ¬ C g) : TmOwn w' t r B := h.keep fun g hg => ho.block g (h.lt g hg) (hd g hg)
theorem KidsOwn.keep {w w' : World} {ks : List Tm} {b : Option Addr} {d : Nat} {kr : Nat → TV} {xs : List Value} {KB : Nat → Nat → Prop} (h : KidsOwn w ks b d kr xs KB) (hk : ∀ g, KBlocks ks.length b KB g → w'.heap[g]? = w.heap[g]?) : KidsOwn w' ks b d kr xs KB :=
  ⟨owns_of_block h.row fun g hg => hk g (.inl (by rw [← ob_eq]; exact hg)), h.cell, fun i k hi => (h.sub i k hi).keep fun g hg => hk g (.inr ⟨i, (List.getElem?_eq_some_iff.1 hi).1, hg⟩), h.dj, h.dk⟩
theorem KidsOwn.lt {w : World} {ks : List Tm} {b : Option Addr} {d : Nat} {kr : Nat → TV} {xs : List Value} {KB : Nat → Nat → Prop} (h : KidsOwn w ks b d kr xs KB) : ∀ g, KBlocks ks.length b KB g → g < w.heap.size := by
  rintro g (e | ⟨i, hi, e⟩)
  · exact (h.row.lt g (by rw [ob_eq]; exact e)).2
  · exact (h.sub i _ (List.getElem?_eq_getElem hi)).lt g e

theorem L4.kid {w : World} {b : Option Addr} {d n : Nat} {xs : List Value} (row : w.ownsRow 0 29 4 (.slice b n d) n xs) {i : Nat} (hi : i < n) {r : TV} {k : Tm} (h : L4 xs i r k) : ∃ g, b = some ⟨g, 0, none⟩ ∧ Kid4 w g (0 + i * 4) r k := by
  obtain ⟨g, rfl, _⟩ := owns_at row (by omega)
  obtain ⟨a0, a1, a2, a3⟩ := h
  refine ⟨g, rfl, ?_⟩
  rw [Nat.zero_add]
  refine ⟨?_, ?_, ?_, ?_⟩
  · rw [row.cellAt _ (by omega)]; exact a0
  · rw [row.cellAt _ (by omega)]; exact a1
  · rw [row.cellAt _ (by omega)]; exact a2
  · rw [row.cellAt _ (by omega)]; exact a3
theorem own_row0 {α : Type} {w : World} {base : Nat} {E : TypeId} {mk : α → Value} {a : Option Addr} {c : Nat} {l : List α} (h : w.ownsRow base E 1 (.slice a l.length c) l.length (l.map mk)) : Row w mk a l := by
  obtain ⟨a', c', e, hr, _⟩ := owned_row h
  cases e
  exact hr
/-- It reads as the term. -/
theorem TmOwn.tm {w : World} {t : Tm} {r : TV} {B : Nat → Prop} (h : TmOwn w t r B) {lo : Nat} (hlo : ∀ g, B g → lo ≤ g) : TmIn w lo t r := by
  induction h with
  | mk t r kr xs KB B ty row cell sub dj da db hB ih =>
    refine .mk t r kr (own_row0 ty) (fun p hp => hlo _ ((hB _).2 (.inl (by rw [hp]; rfl)))) (owns_len ty) (owns_len row) ?_ ?_
    · by_cases hk : t.kids.length = 0
      · exact .inl (List.eq_nil_of_length_eq_zero hk)
      · obtain ⟨g, e, hob⟩ := owns_at row (by omega)
        refine .inr ⟨g, 0, e, hlo g ((hB g).2 (.inr (.inl hob))), fun i k hi => ?_⟩
        obtain ⟨g', e', hk4⟩ := (cell i k hi).kid row (List.getElem?_eq_some_iff.1 hi).1
        rw [e] at e'
        cases e'
        exact hk4
    · exact fun i k hi => ih i k hi fun g hg => hlo g ((hB g).2 (.inr (.inr ⟨i, (List.getElem?_eq_some_iff.1 hi).1, hg⟩)))

namespace Tm
mutual
/-- How many cells the marks turn. -/
def cnt : Tm → Nat | .mk _ _ l ks => l.length + cntL ks
def cntL : List Tm → Nat | [] => 0 | t :: l => 2 + t.cnt + cntL l
end
theorem cnt_eq (t : Tm) : t.cnt = t.ty.length + cntL t.kids := by cases t; rfl
theorem cntL_take_succ {l : List Tm} {i : Nat} {k : Tm} (h : l[i]? = some k) : cntL (l.take (i + 1)) = cntL (l.take i) + (2 + k.cnt) := by
  induction l generalizing i with
  | nil => simp at h
  | cons a l ih =>
    cases i with
    | zero => simp at h; subst h; simp [cntL]
    | succ i => simp at h; simp [cntL, ih h]; omega
theorem cntL_take_le (l : List Tm) (i : Nat) : cntL (l.take i) ≤ cntL l := by
  induction l generalizing i with
  | nil => simp
  | cons a l ih =>
    cases i with
    | zero => simp [cntL]
    | succ i => have := ih i; simp [cntL]; omega
theorem cntL_le (l : List Tm) (h : ∀ k ∈ l, k.cnt ≤ 2 * k.wt) : cntL l ≤ 2 * (l.length + wtL l) := by
  induction l with
  | nil => simp [cntL]
  | cons a l ih =>
    have h1 := h a (by simp)
    have h2 := ih (fun k hk => h k (by simp [hk]))
    simp [cntL, wtL]
    omega
theorem cnt_le (t : Tm) : t.cnt ≤ 2 * t.wt := by
  induction t using ind with
  | h t ih =>
    have := cntL_le t.kids ih
    rw [cnt_eq, wt_eq]
    omega
def upto (m : Int) (n : Nat) : List Int := (List.range n).map fun (i : Nat) => m + (i : Int)
theorem upto_len (m : Int) (n : Nat) : (upto m n).length = n := by simp [upto]
theorem upto_at {m : Int} {n i : Nat} {u : Int} (h : (upto m n)[i]? = some u) : u = m + (i : Int) := by
  obtain ⟨hi, h⟩ := List.getElem?_eq_some_iff.1 h
  rw [← h]
  simp [upto]
mutual
/-- What marks from m on make of a term, and of kids. -/
def mkd : Tm → Int → Tm | .mk o n l ks, m => .mk o n (upto m l.length) (mkdL ks (m + l.length))
def mkdL : List Tm → Int → List Tm | [], _ => [] | .mk _ _ l ks :: r, m => .mk m (m + 1) (upto (m + 2) l.length) (mkdL ks (m + 2 + l.length)) :: mkdL r (m + 2 + (l.length + cntL ks : Nat))
end
/-- A kid that is marked. -/
def mk1 (k : Tm) (m : Int) : Tm := .mk m (m + 1) (upto (m + 2) k.ty.length) (mkdL k.kids (m + 2 + k.ty.length))
theorem mkd_eq (t : Tm) (m : Int) : t.mkd m = .mk t.op t.n (upto m t.ty.length) (mkdL t.kids (m + t.ty.length)) := by cases t; rfl
theorem mkdL_cons (k : Tm) (l : List Tm) (m : Int) : mkdL (k :: l) m = mk1 k m :: mkdL l (m + (2 + k.cnt : Nat)) := by
  cases k with
  | mk o n l' ks =>
    simp only [mkdL, mk1, ty, kids, cnt]
    congr 2
    omega
theorem mkdL_len (l : List Tm) (m : Int) : (mkdL l m).length = l.length := by
  induction l generalizing m with
  | nil => simp [mkdL]
  | cons a l ih => rw [mkdL_cons]; simp [ih]
theorem mkdL_at {l : List Tm} {i : Nat} {k : Tm} (h : l[i]? = some k) (m : Int) : (mkdL l m)[i]? = some (mk1 k (m + cntL (l.take i))) := by
  induction l generalizing i m with
  | nil => simp at h
  | cons a l ih =>
    rw [mkdL_cons]
    cases i with
    | zero => simp at h; subst h; simp [cntL]
    | succ i =>
      simp at h
      rw [List.getElem?_cons_succ, ih h]
      simp only [List.take_succ_cons, cntL]
      congr 2
      omega
end Tm

section
variable {w w1 w2 w' : World} {ks : List Tm} {b : Option Addr} {d : Nat} {kr : Nat → TV} {xs : List Value} {KB : Nat → Nat → Prop}
theorem KidsOwn.only {C : Nat → Prop} (h : KidsOwn w ks b d kr xs KB) (ho : Only w w' C) (hd : ∀ g, KBlocks ks.length b KB g → ¬ C g) : KidsOwn w' ks b d kr xs KB := h.keep fun g hg => ho.block g (h.lt g hg) (hd g hg)
/-- A kid's first two cells are turned. -/
theorem KidsOwn.head (h : KidsOwn w ks b d kr xs KB) {j g : Nat} {k : Tm} (hk : ks[j]? = some k) (hb : b = some ⟨g, 0, none⟩) (o n : Int) (h1 : w.setCell ⟨g, j * 4, none⟩ (.int .i64 o) = w1) (h2 : w1.setCell ⟨g, j * 4 + 1, none⟩ (.int .i64 n) = w2) :
    KidsOwn w2 (ks.set j (.mk o n k.ty k.kids)) b d kr ((xs.set (j * 4) (.int .i64 o)).set (j * 4 + 1) (.int .i64 n)) KB ∧ w.grownBy w2 (some g) := by
  subst hb
  have hj : j < ks.length := (List.getElem?_eq_some_iff.1 hk).1
  have hlen : xs.length = ks.length * 4 := h.row.1
  obtain ⟨o1, g1⟩ := h.row.stored (j * 4) (.int .i64 o)
  rw [h1] at o1 g1
  obtain ⟨o2, g2⟩ := o1.stored (j * 4 + 1) (.int .i64 n)
  rw [h2] at o2 g2
  have gg := g1.trans g2
  refine ⟨⟨by simpa using o2, ?_, ?_, by simpa using h.dj, by simpa using h.dk⟩, gg⟩
  · intro i u hi
    by_cases e : i = j
    · subst e
      rw [List.getElem?_set_self hj] at hi
      cases hi
      obtain ⟨a0, a1, a2, a3⟩ := h.cell i k hk
      refine ⟨?_, ?_, ?_, ?_⟩
      · rw [List.getElem?_set_ne (by omega), List.getElem?_set_self (by omega)]; rfl
      · rw [List.getElem?_set_self (by simp; omega)]; rfl
      · rw [List.getElem?_set_ne (by omega), List.getElem?_set_ne (by omega)]; exact a2
      · rw [List.getElem?_set_ne (by omega), List.getElem?_set_ne (by omega)]; exact a3
    · rw [List.getElem?_set_ne (fun q => e q.symm)] at hi
      obtain ⟨a0, a1, a2, a3⟩ := h.cell i u hi
      refine ⟨?_, ?_, ?_, ?_⟩
      · rw [List.getElem?_set_ne (by omega), List.getElem?_set_ne (by omega)]; exact a0
      · rw [List.getElem?_set_ne (by omega), List.getElem?_set_ne (by omega)]; exact a1
      · rw [List.getElem?_set_ne (by omega), List.getElem?_set_ne (by omega)]; exact a2
      · rw [List.getElem?_set_ne (by omega), List.getElem?_set_ne (by omega)]; exact a3
  · intro i u hi
    have hkeep : ∀ i u, ks[i]? = some u → TmOwn w2 u (kr i) (KB i) := fun i u hu =>
      (h.sub i u hu).keep fun q hq => gg.block q ((h.sub i u hu).lt q hq) (fun e => h.dk i q (List.getElem?_eq_some_iff.1 hu).1 hq e.symm)
    by_cases e : i = j
    · subst e
      rw [List.getElem?_set_self hj] at hi
      cases hi
      cases hkeep i k hk with
      | mk _ _ kr' xs' KB' B' ty' row' cell' sub' dj' da' db' hB' => exact .mk _ _ kr' xs' KB' _ ty' row' cell' sub' dj' da' db' hB'
    · rw [List.getElem?_set_ne (fun q => e q.symm)] at hi
      exact hkeep i u hi
/-- A kid is another one, of the same outer cells. -/
theorem KidsOwn.kid (h : KidsOwn w ks b d kr xs KB) {j : Nat} {k k' : Tm} (hk : ks[j]? = some k) (ho : k'.op = k.op) (hn : k'.n = k.n) (ht : k'.ty.length = k.ty.length) (hl : k'.kids.length = k.kids.length)
    (hs : TmOwn w' k' (kr j) (KB j)) (hw : Only w w' (KB j)) : KidsOwn w' (ks.set j k') b d kr xs KB := by
  have hj : j < ks.length := (List.getElem?_eq_some_iff.1 hk).1
  refine ⟨?_, ?_, ?_, by simpa using h.dj, by simpa using h.dk⟩
  · have := owns_of_block (w' := w') h.row fun g hg => hw.block g (h.row.lt g hg).2 (fun q => h.dk j g hj q (by rw [← ob_eq]; exact hg))
    simpa using this
  · intro i u hi
    by_cases e : i = j
    · subst e
      rw [List.getElem?_set_self hj] at hi
      cases hi
      have := h.cell i k hk
      unfold L4 at this ⊢
      rw [ho, hn, ht, hl]
      exact this
    · rw [List.getElem?_set_ne (fun q => e q.symm)] at hi
      exact h.cell i u hi
  · intro i u hi
    by_cases e : i = j
    · subst e
      rw [List.getElem?_set_self hj] at hi
      cases hi
      exact hs
    · rw [List.getElem?_set_ne (fun q => e q.symm)] at hi
      have hil : i < ks.length := (List.getElem?_eq_some_iff.1 hi).1
      exact (h.sub i u hi).keep fun g hg => hw.block g ((h.sub i u hi).lt g hg) (fun q => h.dj i j g hil hj e hg q)
end
section
variable {w w' : World} {t : Tm} {r : TV} {B : Nat → Prop}
/-- Its type's cells are turned. -/
theorem TmOwn.setTy (h : TmOwn w t r B) {l : List Int} (hl : l.length = t.ty.length) (ho : w'.ownsRow 0 3 1 (.slice r.a t.ty.length r.c) t.ty.length (l.map (Value.int .i64))) (hw : w.grownBy w' (ob r.a)) :
    TmOwn w' (.mk t.op t.n l t.kids) r B ∧ Only w w' B := by
  obtain ⟨kr, xs, KB, ty, K, da, hB⟩ := h.out
  refine ⟨.of (kr := kr) (xs := xs) (KB := KB) ?_ ?_ da hB, .grown hw fun g e => (hB g).2 (.inl e)⟩
  · show w'.ownsRow 0 _ 1 (.slice r.a l.length r.c) l.length _
    rw [hl]
    exact ho
  · exact K.keep fun g hg => hw.block g (K.lt g hg) (fun e => da g hg e.symm)
/-- Its kids are turned. -/
theorem TmOwn.setKids {kr : Nat → TV} {xs' : List Value} {KB : Nat → Nat → Prop} {ks : List Tm} (hk : ks.length = t.kids.length)
    (ty : w.ownsRow 0 3 1 (.slice r.a t.ty.length r.c) t.ty.length (t.ty.map (Value.int .i64))) (da : ∀ g, KBlocks t.kids.length r.b KB g → ob r.a ≠ some g) (hB : ∀ g, B g ↔ ob r.a = some g ∨ KBlocks t.kids.length r.b KB g)
    (K : KidsOwn w' ks r.b r.d kr xs' KB) (hw : Only w w' (KBlocks t.kids.length r.b KB)) : TmOwn w' (.mk t.op t.n t.ty ks) r B ∧ Only w w' B := by
  refine ⟨.of (t := .mk t.op t.n t.ty ks) (kr := kr) (xs := xs') (KB := KB) ?_ K ?_ ?_, hw.mono fun g _ q => (hB g).2 (.inr q)⟩
  · exact owns_of_block ty fun g hg => hw.block g (ty.lt g hg).2 (fun q => da g q (by rw [← ob_eq]; exact hg))
  · show ∀ g, KBlocks ks.length r.b KB g → _
    rw [hk]; exact da
  · show ∀ g, B g ↔ _ ∨ KBlocks ks.length r.b KB g
    rw [hk]; exact hB
end

end Go.Proofs.YtncfbljablbglaaDoor
/- A term that is built: its kids come one by one. Nothing is walked here. -/
namespace Go.Proofs.YtncfbljablbglaaDoor
open Go.RowKit

abbrev boxT (op n : Int) (a : Option Addr) (tl c : Nat) (b : Option Addr) (kl d : Nat) : Obj := .cells #[.int .i64 op, .int .i64 n, .slice a tl c, .slice b kl d] 29 (0, 0)
theorem no_int_term : (3 : TypeId) ≠ 29 := by decide
theorem own_ne' {w : World} {base : Nat} {e t : TypeId} {size n : Nat} {v : Value} {xs : List Value} {cs : Array Value} {g : Nat} (h : w.ownsRow base e size v n xs) (hg : w.heap[g]? = some (.cells cs t (0, 0))) (hne : e ≠ t) : v.ownBlock ≠ some g := by
  rcases h.2 with ⟨rfl, _⟩ | ⟨g', cap, cur, rfl, _, hh, _⟩
  · simp [Value.ownBlock]
  · intro he
    have : g' = g := by simpa [Value.ownBlock] using he
    subst this
    rw [hh] at hg
    injection hg with hg
    injection hg with _ ht
    exact hne ht
/-- A term in the midst of being built, in the box C. -/
structure TB (Y w : World) (C : Nat) (op n : Int) (l : List Int) (a : Option Addr) (c : Nat) (ks : List Tm) (b : Option Addr) (d : Nat) (kr : Nat → TV) (xs : List Value) (KB : Nat → Nat → Prop) : Prop where
  box : w.heap[C]? = some (boxT op n a l.length c b ks.length d)
  ty : w.ownsRow Y.heap.size 3 1 (.slice a l.length c) l.length (l.map (Value.int .i64))
  kids : KidsOwn w ks b d kr xs KB
  da : ∀ g, KBlocks ks.length b KB g → ob a ≠ some g
  lk : ∀ g, KBlocks ks.length b KB g → Y.heap.size ≤ g ∧ g ≠ C
  lo : Y.heap.size ≤ C
  bel : Below Y.heap.size Y w

section
variable {Y w : World} {C : Nat} {op n : Int} {l : List Int} {a : Option Addr} {c : Nat} {ks : List Tm} {b : Option Addr} {d : Nat} {kr : Nat → TV} {xs : List Value} {KB : Nat → Nat → Prop}
theorem TB.cLt (h : TB Y w C op n l a c ks b d kr xs KB) : C < w.heap.size := (Array.getElem?_eq_some_iff.1 h.box).1
theorem TB.aC (h : TB Y w C op n l a c ks b d kr xs KB) : ob a ≠ some C := fun e => own_ne' h.ty h.box no_int_term (by rw [ob_eq]; exact e)
theorem TB.cells (h : TB Y w C op n l a c ks b d kr xs KB) : (∀ y : Ext w, y.w.cell? ⟨C, 0, none⟩ = some (.int .i64 op)) ∧ (∀ y : Ext w, y.w.cell? ⟨C, 1, none⟩ = some (.int .i64 n)) ∧ (∀ y : Ext w, y.w.cell? ⟨C, 2, none⟩ = some (.slice a l.length c)) ∧ (∀ y : Ext w, y.w.cell? ⟨C, 3, none⟩ = some (.slice b ks.length d)) :=
  ⟨fun y => blk_cell (y.blk h.box) 0, fun y => blk_cell (y.blk h.box) 1, fun y => blk_cell (y.blk h.box) 2, fun y => blk_cell (y.blk h.box) 3⟩
theorem TB.ext (h : TB Y w C op n l a c ks b d kr xs KB) (z : Ext w) : TB Y z.w C op n l a c ks b d kr xs KB :=
  ⟨z.blk h.box, owns_ext h.ty z, h.kids.keep (fun g hg => z.below.block g (h.kids.lt g hg)), h.da, h.lk, h.lo, h.bel.trans (z.below.mono h.bel.size)⟩
/-- A kid more. -/
theorem TB.snoc (h : TB Y w C op n l a c ks b d kr xs KB) {k : Tm} {r : TV} {NB : Nat → Prop} (z : Ext w) (hk : TmOwn z.w k r NB) (hlo : ∀ g, NB g → w.heap.size ≤ g) {v' : Value} {w1 w2 : World}
    (hown : w1.ownsRow 0 29 4 v' (ks.length + 1) (xs ++ [.int .i64 k.op, .int .i64 k.n, .slice r.a k.ty.length r.c, .slice r.b k.kids.length r.d]))
    (hgr : z.w.grownBy w1 (ob b)) (hat : v'.ownBlock = ob b ∨ v'.ownBlock = some z.w.heap.size) (hs : w1.setCell ⟨C, 3, none⟩ v' = w2) :
    ∃ b' d' kr' xs' KB', v' = .slice b' (ks ++ [k]).length d' ∧ TB Y w2 C op n l a c (ks ++ [k]) b' d' kr' xs' KB' := by
  have hz := h.ext z
  have hzl := z.size
  have hCl := h.cLt
  have hxl : xs.length = ks.length * 4 := h.kids.row.1
  -- old blocks other than the row of kids are kept
  have keep1 : ∀ g, g < z.w.heap.size → ob b ≠ some g → g ≠ C → w2.heap[g]? = z.w.heap[g]? := fun g hg h1 h2 => by
    rw [set_other hs h2, hgr.block g hg (fun e => h1 e.symm)]
  obtain ⟨b', d', rfl⟩ : ∃ b' d', v' = .slice b' (ks.length + 1) d' := by
    rcases hown.2 with ⟨rfl, e⟩ | ⟨g, cap, cur, rfl, _⟩
    · omega
    · exact ⟨_, _, rfl⟩
  rw [ob_eq] at hat
  have hbC : ob b ≠ some C := fun e => (h.lk C (.inl e)).2 rfl
  have hb'C : ob b' ≠ some C := by
    rcases hat with e | e
    · rw [e]; exact hbC
    · rw [e]; intro q; injection q; omega
  have hb'lo : ∀ g, ob b' = some g → Y.heap.size ≤ g := fun g e => by
    rcases hat with q | q
    · exact (h.lk g (.inl (by rw [← q]; exact e))).1
    · rw [q] at e
      injection e
      have := h.bel.size
      omega
  have hKB : ∀ i g, i < ks.length → KB i g → g < w.heap.size ∧ ob b ≠ some g ∧ g ≠ C := fun i g hi hg => ⟨h.kids.lt g (.inr ⟨i, hi, hg⟩), h.kids.dk i g hi hg, (h.lk g (.inr ⟨i, hi, hg⟩)).2⟩
  have hNB : ∀ g, NB g → w.heap.size ≤ g ∧ g < z.w.heap.size := fun g hg => ⟨hlo g hg, hk.lt g hg⟩
  have hbw : ∀ g, ob b = some g → g < w.heap.size := fun g e => h.kids.lt g (.inl e)
  have hb'n : ∀ g, g < z.w.heap.size → ob b ≠ some g → ob b' ≠ some g := fun g hg h1 e => by
    rcases hat with q | q
    · exact h1 (q ▸ e)
    · rw [q] at e; injection e; omega
  have hnb : ∀ g, NB g → ob b ≠ some g ∧ g ≠ C := fun g hg => ⟨fun e => by have := hbw g e; have := hNB g hg; omega, fun e => by have := hNB g hg; omega⟩
  refine ⟨b', d', fun i => if i = ks.length then r else kr i, xs ++ [.int .i64 k.op, .int .i64 k.n, .slice r.a k.ty.length r.c, .slice r.b k.kids.length r.d], fun i => if i = ks.length then NB else KB i, by simp, ⟨?_, ?_, ⟨?_, ?_, ?_, ?_, ?_⟩, ?_, ?_, h.lo, ?_⟩⟩
  · -- the box
    have hmid : w1.heap[C]? = some (boxT op n a l.length c b ks.length d) := by
      rw [hgr.block C (by omega) (fun e => hbC e.symm)]
      exact hz.box
    have := set_blk hmid 3 _ hs
    rw [this]
    simp
  · refine owns_of_block hz.ty fun g hg => ?_
    rw [ob_eq] at hg
    have hgl := (hz.ty.lt g (by rw [ob_eq]; exact hg)).2
    exact keep1 g hgl (fun e => h.da g (.inl e) hg) (fun e => h.aC (by rw [← e]; exact hg))
  · -- the row of kids
    have := owns_of_block (w' := w2) hown fun g hg => set_other hs (fun e => hb'C (by rw [← ob_eq b' (ks.length + 1) d', hg, e]))
    simpa using this
  · intro i u hi
    by_cases e : i = ks.length
    · subst e
      simp at hi
      subst hi
      rw [if_pos rfl]
      refine ⟨?_, ?_, ?_, ?_⟩
      · rw [List.getElem?_append_right (by omega)]; simp [hxl]
      · rw [List.getElem?_append_right (by omega)]; simp [hxl]
      · rw [List.getElem?_append_right (by omega)]; simp [hxl]
      · rw [List.getElem?_append_right (by omega)]; simp [hxl]
    · have hil : i < ks.length := by have := (List.getElem?_eq_some_iff.1 hi).1; simp at this; omega
      rw [List.getElem?_append_left hil] at hi
      rw [if_neg e]
      obtain ⟨a0, a1, a2, a3⟩ := h.kids.cell i u hi
      refine ⟨?_, ?_, ?_, ?_⟩
      · rw [List.getElem?_append_left (by omega)]; exact a0
      · rw [List.getElem?_append_left (by omega)]; exact a1
      · rw [List.getElem?_append_left (by omega)]; exact a2
      · rw [List.getElem?_append_left (by omega)]; exact a3
  · intro i u hi
    by_cases e : i = ks.length
    · subst e
      simp at hi
      subst hi
      rw [if_pos rfl, if_pos rfl]
      exact hk.keep fun g hg => keep1 g (hNB g hg).2 (hnb g hg).1 (hnb g hg).2
    · have hil : i < ks.length := by have := (List.getElem?_eq_some_iff.1 hi).1; simp at this; omega
      rw [List.getElem?_append_left hil] at hi
      rw [if_neg e, if_neg e]
      exact (hz.kids.sub i u hi).keep fun g hg => by
        obtain ⟨q1, q2, q3⟩ := hKB i g hil hg
        exact keep1 g (by omega) q2 q3
  · intro i j g hi hj hne h1 h2
    simp at hi hj
    by_cases e1 : i = ks.length <;> by_cases e2 : j = ks.length
    · omega
    · simp only [e1, e2, if_true, if_false] at h1 h2
      have := hNB g h1
      have := (hKB j g (by omega) h2).1
      omega
    · simp only [e1, e2, if_true, if_false] at h1 h2
      have := hNB g h2
      have := (hKB i g (by omega) h1).1
      omega
    · simp only [e1, e2, if_false] at h1 h2
      exact h.kids.dj i j g (by omega) (by omega) hne h1 h2
  · intro i g hi hg
    simp at hi
    by_cases e : i = ks.length
    · simp only [e, if_true] at hg
      exact hb'n g (hNB g hg).2 (hnb g hg).1
    · simp only [e, if_false] at hg
      obtain ⟨q1, q2, _⟩ := hKB i g (by omega) hg
      exact hb'n g (by omega) q2
  · intro g hg e
    have hgl := (hz.ty.lt g (by rw [ob_eq]; exact e)).2
    have hgl' := (h.ty.lt g (by rw [ob_eq]; exact e)).2
    rcases hg with q | ⟨i, hi, hg⟩
    · exact hb'n g hgl (fun q => h.da g (.inl q) e) q
    · simp at hi
      by_cases e2 : i = ks.length
      · simp only [e2, if_true] at hg
        have := hNB g hg
        omega
      · simp only [e2, if_false] at hg
        exact h.da g (.inr ⟨i, by omega, hg⟩) e
  · intro g hg
    rcases hg with q | ⟨i, hi, hg⟩
    · exact ⟨hb'lo g q, fun e => hb'C (by rw [← e]; exact q)⟩
    · simp at hi
      by_cases e2 : i = ks.length
      · simp only [e2, if_true] at hg
        have := hNB g hg
        have := h.bel.size
        exact ⟨by omega, (hnb g hg).2⟩
      · simp only [e2, if_false] at hg
        exact h.lk g (.inr ⟨i, by omega, hg⟩)
  · have hb1 : Below Y.heap.size Y w1 := (hz.bel.grown hgr hz.bel.size (fun g hg => (h.lk g (.inl hg)).1))
    subst hs
    exact hb1.setCell h.lo _
/-- The beginning: no kids yet. -/
theorem TB.start {Y w : World} {C : Nat} {op n : Int} {l : List Int} {a : Option Addr} {c : Nat} (hbox : w.heap[C]? = some (boxT op n a l.length c none 0 0)) (hty : w.ownsRow Y.heap.size 3 1 (.slice a l.length c) l.length (l.map (Value.int .i64))) (hlo : Y.heap.size ≤ C) (hb : Below Y.heap.size Y w) :
    TB Y w C op n l a c [] none 0 (fun _ => ⟨none, 0, none, 0⟩) [] (fun _ _ => False) :=
  ⟨hbox, hty, ⟨World.ownsRow_nil _ _ _ _, fun i k h => by simp at h, fun i k h => by simp at h, fun i j g hi => by simp at hi, fun i g hi => by simp at hi⟩,
    fun g hg => by rcases hg with q | ⟨i, hi, _⟩; cases q; simp at hi, fun g hg => by rcases hg with q | ⟨i, hi, _⟩; cases q; simp at hi, hlo, hb⟩
/-- The end: what is built, read anywhere where its blocks are as they were. -/
theorem TB.done (h : TB Y w C op n l a c ks b d kr xs KB) {w' : World} {R : Nat} (hk : ∀ g, g ≠ R → w'.heap[g]? = w.heap[g]?) (hR : R < Y.heap.size ∨ R = C) :
    TmOwn w' (.mk op n l ks) ⟨a, c, b, d⟩ (fun g => ob a = some g ∨ KBlocks ks.length b KB g) ∧ ∀ g, (ob a = some g ∨ KBlocks ks.length b KB g) → Y.heap.size ≤ g := by
  have ha : ∀ g, ob a = some g → Y.heap.size ≤ g ∧ g ≠ C := fun g e => ⟨(h.ty.lt g (by rw [ob_eq]; exact e)).1, fun q => h.aC (by rw [← q]; exact e)⟩
  have hne : ∀ g, Y.heap.size ≤ g ∧ g ≠ C → g ≠ R := fun g q e => by have := h.lo; rcases hR with r | r <;> omega
  refine ⟨.of (t := .mk op n l ks) (kr := kr) (xs := xs) (KB := KB) (owns_lower (owns_of_block h.ty fun g hg => hk g (hne g (ha g (by rw [← ob_eq]; exact hg)))) (Nat.zero_le _)) (h.kids.keep fun g hg => hk g (hne g (h.lk g hg))) h.da (fun g => Iff.rfl), fun g hg => ?_⟩
  rcases hg with e | hg
  · exact (ha g e).1
  · exact (h.lk g hg).1
end

end Go.Proofs.YtncfbljablbglaaDoor
/- Walks over terms. -/
namespace Go.Proofs.YtncfbljablbglaaDoor
open Go.RowKit

/-- What is left of a number of nodes. -/
def LeftV (t : Tm) (left v : Int) : Prop := ((t.sz : Int) ≤ left ∧ v = left - t.sz) ∨ (left < (t.sz : Int) ∧ v = -1)
theorem leftV_ex (t : Tm) (left : Int) : ∃ v, LeftV t left v := by
  by_cases h : (t.sz : Int) ≤ left
  · exact ⟨_, .inl ⟨h, rfl⟩⟩
  · exact ⟨_, .inr ⟨by omega, rfl⟩⟩
set_option maxHeartbeats 1600000 in
theorem l2Left_ans (t : Tm) : ∀ {W : World} {lo : Nat} {r : TV} (_ : TmIn W lo t r) (left : Int) (_ : 0 ≤ left) (_ : left ≤ 100000) (v : Int) (_ : LeftV t left v) (x : Ext W),
    Calls Tryd.prog 62 #[r.val t, .int .i64 left] x.w (Ans W (.int .i64 v)) := by
  induction t using Tm.ind with
  | h t ih =>
    intro W lo r h left hl0 hl1 v hv x
    have HV := Lib.hid hv
    have HI := Lib.hid ih
    clear hv ih
    obtain ⟨ra, rc, rb, rd⟩ := r
    unfold TV.val
    go_enter Tryd.func62, Tryd.ntmps62
    go_wp2_with fail
    generalize hW : x.w.alloc _ = W1
    generalize hB : x.w.heap.size = B
    obtain ⟨c0, c1, c2, c3, h1, hback, yy, hy0⟩ := boxedT h x hB hW
    clear hW hB
    rw [← hy0]
    clear hy0
    obtain ⟨kr, A⟩ := h1.out
    have hlk := A.lk
    go_loopw [5, 1] (fun i q wr => ∃ k : Nat, ∃ u : Int, i = .int .i64 k ∧ q = .int .i64 u ∧ k ≤ t.kids.length ∧ -1 ≤ u ∧ u ≤ left ∧ (∃ y : Ext W1, wr = y.w) ∧ Hid ((1 + Tm.szL (t.kids.take k) ≤ left ∧ u = left - 1 - Tm.szL (t.kids.take k)) ∨ (left < (t.sz : Int) ∧ u = -1))) (fun i _ _ => t.kids.length - (intOf i).toNat)
    case atStart =>
      refine ⟨0, left - 1, rfl, rfl, by omega, by omega, by omega, ⟨yy, rfl⟩, ?_⟩
      have := t.sz_pos
      by_cases e : 1 ≤ left
      · exact .inl ⟨by simp [Tm.szL]; omega, by simp [Tm.szL]⟩
      · exact .inr ⟨by omega, by omega⟩
    case round =>
      obtain ⟨k, u, rfl, rfl, hk, hu1, hu2, ⟨yy, rfl⟩, HU⟩ := hrel
      by_cases hlt : k < t.kids.length
      · have hlt' : (k : Int) < (t.kids.length : Int) := by omega
        by_cases hu : 0 ≤ u
        · skip
          obtain ⟨kid, hkid⟩ : ∃ kid, t.kids[k]? = some kid := ⟨_, List.getElem?_eq_getElem hlt⟩
          have hmem : kid ∈ t.kids := List.mem_of_getElem? hkid
          have HKID := Lib.hid hkid
          obtain ⟨b0, o0, hrb, K⟩ := A.kid k kid hkid
          have hsub := A.sub k kid hkid
          dsimp only at hrb
          subst hrb
          have d0 : ∀ y : Ext W1, y.w.cell? ⟨b0, o0 + k * 4, none⟩ = some (.int .i64 kid.op) := fun y => y.cell K.c0
          have d1 : ∀ y : Ext W1, y.w.cell? ⟨b0, o0 + k * 4 + 1, none⟩ = some (.int .i64 kid.n) := fun y => y.cell K.c1
          have d2 : ∀ y : Ext W1, y.w.cell? ⟨b0, o0 + k * 4 + 2, none⟩ = some (.slice (kr k).a kid.ty.length (kr k).c) := fun y => y.cell K.c2
          have d3 : ∀ y : Ext W1, y.w.cell? ⟨b0, o0 + k * 4 + 3, none⟩ = some (.slice (kr k).b kid.kids.length (kr k).d) := fun y => y.cell K.c3
          clear K hkid
          obtain ⟨m, hm⟩ := leftV_ex kid u
          have HM := Lib.hid hm
          clear hm
          have hm1 : -1 ≤ m := by rcases HM.out with h | h <;> omega
          have hm2 : m ≤ u := by rcases HM.out with h | h <;> omega
          have C : ∀ y : Ext W1, Calls Tryd.prog 62 #[(kr k).val kid, .int .i64 u] y.w (Ans W1 (.int .i64 m)) := fun y => HI.out kid hmem hsub u hu (by omega) m HM.out y
          unfold TV.val at C
          have HMEM := Lib.hid hmem
          clear hmem hsub
          go_wp2_with (go_at_call 62; with_reducible refine Calls.mono (C _) ?_; rintro e w' ⟨rfl, yy, rfl⟩)
          go_roundw
          case rel =>
            refine ⟨k + 1, m, by go_num, rfl, by omega, hm1, by omega, ⟨yy, rfl⟩, ?_⟩
            have h1 := Tm.szL_take_succ HKID.out
            have h2 := Tm.szL_take_le t.kids (k + 1)
            have h3 := t.sz_eq
            show _ ∨ _
            rcases HU.out with ⟨a1, a2⟩ | ⟨a1, a2⟩
            · rcases HM.out with ⟨b1, b2⟩ | ⟨b1, b2⟩
              · left; omega
              · right; omega
            · omega
          case measure => simp [intOf]; omega
        · go_wp2
          go_ret
          refine fin_int ?_ (hback yy)
          have h3 := t.sz_eq
          have h2 := Tm.szL_take_le t.kids k
          rcases HU.out with ⟨a1, a2⟩ | ⟨a1, a2⟩
          · omega
          · rcases HV.out with ⟨b1, b2⟩ | ⟨b1, b2⟩ <;> omega
      · go_wp2
        go_ret
        refine fin_int ?_ (hback yy)
        have h3 := t.sz_eq
        have h4 : t.kids.take k = t.kids := List.take_of_length_le (by omega)
        have hu := HU.out
        rw [h4] at hu
        rcases hu with ⟨a1, a2⟩ | ⟨a1, a2⟩
        · rcases HV.out with ⟨b1, b2⟩ | ⟨b1, b2⟩ <;> omega
        · rcases HV.out with ⟨b1, b2⟩ | ⟨b1, b2⟩ <;> omega

end Go.Proofs.YtncfbljablbglaaDoor
/- The laws' copies of terms. -/
namespace Go.Proofs.YtncfbljablbglaaDoor
open Go.RowKit

theorem info_term : (Tryd.prog.info? 29).map (fun i => (i.zero, i.size, i.bytes)) = some (some (.agg #[.int .i64 0, .int .i64 0, .slice none 0 0, .slice none 0 0]), 4, 64) := by kernel_rfl
/-- Kids that lie in blocks from lo on. -/
def KidsIn (w : World) (lo : Nat) (ks : List Tm) (b : Option Addr) (kr : Nat → TV) : Prop :=
  (ks = [] ∨ ∃ bb o, b = some ⟨bb, o, none⟩ ∧ lo ≤ bb ∧ ∀ i k, ks[i]? = some k → Kid4 w bb (o + i * 4) (kr i) k) ∧ (∀ i k, ks[i]? = some k → TmIn w lo k (kr i))
theorem KidsIn.keep {w w' : World} {lo : Nat} {ks : List Tm} {b : Option Addr} {kr : Nat → TV} (h : KidsIn w lo ks b kr) (hk : ∀ k, lo ≤ k → k < w.heap.size → w'.heap[k]? = w.heap[k]?) : KidsIn w' lo ks b kr := by
  refine ⟨?_, fun i k hi => (h.2 i k hi).keep hk⟩
  rcases h.1 with e | ⟨bb, o, e, hlo, hc⟩
  · exact .inl e
  · exact .inr ⟨bb, o, e, hlo, fun i k hi => (hc i k hi).keep (hk bb hlo (cell_lt (hc i k hi).c0))⟩
/-- The cells of the kid at a place of an array. -/
def Cur4 (cur : Array Value) (j : Nat) (r : TV) (k : Tm) : Prop :=
  cur[j * 4]? = some (.int .i64 k.op) ∧ cur[j * 4 + 1]? = some (.int .i64 k.n) ∧ cur[j * 4 + 2]? = some (.slice r.a k.ty.length r.c) ∧ cur[j * 4 + 3]? = some (.slice r.b k.kids.length r.d)

end Go.Proofs.YtncfbljablbglaaDoor
/- The laws' copies of terms, in blocks of their own. -/
namespace Go.Proofs.YtncfbljablbglaaDoor
open Go.RowKit

/-- A call hands back a new term, in blocks of its own. -/
def NewTmO (W : World) (t : Tm) : Ending → World → Prop := fun e w' => ∃ (r : TV) (B : Nat → Prop) (y : Ext W), e = .returned (r.val t) ∧ w' = y.w ∧ TmOwn y.w t r B ∧ ∀ q, B q → W.heap.size ≤ q
def NewKidsO (W : World) (t : Tm) : Ending → World → Prop := fun e w' => ∃ (b : Option Addr) (d : Nat) (kr : Nat → TV) (xs : List Value) (KB : Nat → Nat → Prop) (y : Ext W), e = .returned (.slice b t.kids.length d) ∧ w' = y.w ∧ KidsOwn y.w t.kids b d kr xs KB ∧ ∀ q, KBlocks t.kids.length b KB q → W.heap.size ≤ q

set_option maxHeartbeats 8000000 in
theorem toTermSO_ans {W : World} {lo : Nat} {t : Tm} {r : TV} {kr : Nat → TV} (A : TmAt W lo t r kr)
    (HI : Hid (∀ kid ∈ t.kids, ∀ {W : World} {lo : Nat} {r : TV} (_ : TmIn W lo kid r) (_ : kid.wt ≤ 1048576) (x : Ext W), Calls Tryd.prog 10 #[r.val kid] x.w (NewTmO W kid)))
    (hwt : t.wt ≤ 1048576) (x : Ext W) :
    Calls Tryd.prog 34 #[.slice r.b t.kids.length r.d] x.w (NewKidsO W t) := by
  have hl : t.kids.length ≤ 1048576 := by rw [t.wt_eq] at hwt; omega
  obtain ⟨ra, rc, rb, rd⟩ := r
  dsimp only
  have HWT := Lib.hid hwt
  clear hwt
  obtain ⟨i0, hi, hz0, hz1, hz2⟩ := info_parts info_term
  have HN : Hid (∀ e w', NewKidsO W t e w' ↔ NewKidsO W t e w') := fun _ _ => Iff.rfl
  go_enter Tryd.func34, Tryd.ntmps34
  go_wp2_with (at_make; refine wpList_make_full _ rfl _ _ 27 rfl x.w.heap.size 29 i0 (.agg #[.int .i64 0, .int .i64 0, .slice none 0 0, .slice none 0 0]) 4 Tryd.underlying27 hi hz0 hz1 .i64 .i64 _ _ t.kids.length rfl rfl rfl rfl (by rw [hz2]; omega) (by unfold maxLen; omega) (Nat.le_refl _) ?_; intro w0 hown0 hgrow0)
  have hb0 : Below W.heap.size W w0 := x.below.grown hgrow0 x.size (fun k hk => by cases hk)
  have hsz := x.size
  generalize x.w.heap.size = g at *
  obtain ⟨cur0, hg0, hc0⟩ : ∃ cur : Array Value, w0.heap[g]? = some (.cells cur 29 (0, 0)) ∧ cur.size = t.kids.length * 4 := by
    rcases hown0.2 with ⟨e, _⟩ | ⟨g', cap, cur, e, _, hg, _, _, hs, _⟩
    · cases e
    · cases e
      exact ⟨cur, hg, hs⟩
  clear hgrow0 hi hz0 hz1 hz2 hown0
  go_loopw [4] (fun i wr => ∃ (k : Nat) (cur : Array Value) (ks : Nat → TV) (KB : Nat → Nat → Prop), i = .int .i64 k ∧ k ≤ t.kids.length ∧ wr.heap[g]? = some (.cells cur 29 (0, 0)) ∧ cur.size = t.kids.length * 4 ∧ Below W.heap.size W wr ∧ Hid (∀ (j : Nat) u, j < k → t.kids[j]? = some u → Cur4 cur j (ks j) u ∧ TmOwn wr u (ks j) (KB j) ∧ ∀ q, KB j q → g < q) ∧ Hid (∀ (j j' q : Nat), j < k → j' < k → j ≠ j' → KB j q → KB j' q → False)) (fun i _ => t.kids.length - (intOf i).toNat)
  case atStart => exact ⟨0, cur0, fun _ => ⟨none, 0, none, 0⟩, fun _ _ => False, rfl, by omega, hg0, hc0, hb0, fun j u hj => by omega, fun j j' q hj => by omega⟩
  case round =>
    obtain ⟨k, cur, ks, KB, rfl, hk, hg, hcs, hb, HU, HD⟩ := hrel
    by_cases hlt : k < t.kids.length
    · have hlt' : (k : Int) < (t.kids.length : Int) := by omega
      obtain ⟨kid, hkid⟩ : ∃ kid, t.kids[k]? = some kid := ⟨_, List.getElem?_eq_getElem hlt⟩
      have hmem : kid ∈ t.kids := List.mem_of_getElem? hkid
      have HKID := Lib.hid hkid
      obtain ⟨b0, o0, hrb, K⟩ := A.kid k kid hkid
      have hsub := A.sub k kid hkid
      dsimp only at hrb
      subst hrb
      have d0 : ∀ y : Ext W, y.w.cell? ⟨b0, o0 + k * 4, none⟩ = some (.int .i64 kid.op) := fun y => y.cell K.c0
      have d1 : ∀ y : Ext W, y.w.cell? ⟨b0, o0 + k * 4 + 1, none⟩ = some (.int .i64 kid.n) := fun y => y.cell K.c1
      have d2 : ∀ y : Ext W, y.w.cell? ⟨b0, o0 + k * 4 + 2, none⟩ = some (.slice (kr k).a kid.ty.length (kr k).c) := fun y => y.cell K.c2
      have d3 : ∀ y : Ext W, y.w.cell? ⟨b0, o0 + k * 4 + 3, none⟩ = some (.slice (kr k).b kid.kids.length (kr k).d) := fun y => y.cell K.c3
      clear K hkid
      have hmw := Tm.wt_kid hmem
      have C : Calls Tryd.prog 10 #[(kr k).val kid] wr (NewTmO wr kid) := HI.out kid hmem (hsub.ext ⟨wr, hb⟩) (by have := HWT.out; omega) (Ext.self wr)
      unfold TV.val at C
      have d0 : wr.cell? _ = _ := d0 ⟨wr, hb⟩
      have d1 : wr.cell? _ = _ := d1 ⟨wr, hb⟩
      have d2 : wr.cell? _ = _ := d2 ⟨wr, hb⟩
      have d3 : wr.cell? _ = _ := d3 ⟨wr, hb⟩
      clear hmem hsub hmw
      go_wp2_with fail
      with_reducible refine Calls.mono C ?_
      rintro e w' ⟨nr, NB, zz, rfl, rfl, hnew, hnlo⟩
      have bz := zz.blk hg
      have hgw : g < wr.heap.size := (Array.getElem?_eq_some_iff.1 hg).1
      obtain ⟨v0, hv0⟩ : ∃ v, cur[k * 4]? = some v := ⟨_, Array.getElem?_eq_getElem (by omega)⟩
      obtain ⟨v1, hv1⟩ : ∃ v, cur[k * 4 + 1]? = some v := ⟨_, Array.getElem?_eq_getElem (by omega)⟩
      obtain ⟨v2, hv2⟩ : ∃ v, cur[k * 4 + 2]? = some v := ⟨_, Array.getElem?_eq_getElem (by omega)⟩
      obtain ⟨v3, hv3⟩ : ∃ v, cur[k * 4 + 3]? = some v := ⟨_, Array.getElem?_eq_getElem (by omega)⟩
      have k0 : zz.w.cell? ⟨g, k * 4, none⟩ = some v0 := (blk_cell bz _).trans hv0
      have k1 : zz.w.cell? ⟨g, k * 4 + 1, none⟩ = some v1 := (blk_cell bz _).trans hv1
      have k2 : zz.w.cell? ⟨g, k * 4 + 2, none⟩ = some v2 := (blk_cell bz _).trans hv2
      have k3 : zz.w.cell? ⟨g, k * 4 + 3, none⟩ = some v3 := (blk_cell bz _).trans hv3
      have z0 := blk_free bz (k * 4)
      have z1 := blk_free bz (k * 4 + 1)
      have z2 := blk_free bz (k * 4 + 2)
      have z3 := blk_free bz (k * 4 + 3)
      have HV : Hid (cur[k * 4]? = some v0 ∧ cur[k * 4 + 1]? = some v1 ∧ cur[k * 4 + 2]? = some v2 ∧ cur[k * 4 + 3]? = some v3) := ⟨hv0, hv1, hv2, hv3⟩
      have HB := Lib.hid bz
      have HBW := Lib.hid hb
      clear hv0 hv1 hv2 hv3 bz hb d0 d1 d2 d3 hg C
      go_wp2
      generalize hY1 : zz.w.setCell _ _ = Y1
      generalize hY2 : Y1.setCell _ _ = Y2
      generalize hY3 : Y2.setCell _ _ = Y3
      generalize hY4 : Y3.setCell _ _ = Y4
      have q4 := set_blk (set_blk (set_blk (set_blk HB.out (k * 4) _ hY1) (k * 4 + 1) _ hY2) (k * 4 + 2) _ hY3) (k * 4 + 3) _ hY4
      have hsame : ∀ j, j ≠ g → Y4.heap[j]? = zz.w.heap[j]? := fun j hj => by rw [set_other hY4 hj, set_other hY3 hj, set_other hY2 hj, set_other hY1 hj]
      have hb4 : Below W.heap.size W Y4 := by
        subst hY4; subst hY3; subst hY2; subst hY1
        exact ((((HBW.out.trans (zz.below.mono HBW.out.size)).setCell (by simpa using hsz) _).setCell (by simpa using hsz) _).setCell (by simpa using hsz) _).setCell (by simpa using hsz) _
      clear hY1 hY2 hY3 hY4 k0 k1 k2 k3 z0 z1 z2 z3
      have Q4 := Lib.hid q4
      have HS := Lib.hid hsame
      clear q4 hsame
      go_roundw
      case rel =>
        have hkeep : ∀ i, i ≠ g → Y4.heap[i]? = zz.w.heap[i]? := fun i h1 => HS.out i h1
        refine ⟨k + 1, _, fun j => if j = k then nr else ks j, fun j => if j = k then NB else KB j, by go_num, by omega, Q4.out, by simp; exact hcs, hb4, fun j u hj hu => ?_, fun j j' q hj hj' hne h1 h2 => ?_⟩
        rotate_left
        · dsimp only at h1 h2
          have hold : ∀ i, i < k → KB i q → q < wr.heap.size := fun i hi hq => by
            have hil : i < t.kids.length := by omega
            exact ((HU.out i _ hi (List.getElem?_eq_getElem hil)).2.1).lt q hq
          by_cases e1 : j = k
          · by_cases e2 : j' = k
            · omega
            · rw [if_pos e1] at h1
              rw [if_neg e2] at h2
              have := hnlo q h1
              have := hold j' (by omega) h2
              omega
          · by_cases e2 : j' = k
            · rw [if_neg e1] at h1
              rw [if_pos e2] at h2
              have := hnlo q h2
              have := hold j (by omega) h1
              omega
            · rw [if_neg e1] at h1
              rw [if_neg e2] at h2
              exact HD.out j j' q (by omega) (by omega) hne h1 h2
        by_cases e : j = k
        · subst e
          obtain rfl := Option.some.inj (hu.symm.trans HKID.out)
          dsimp only
          rw [if_pos rfl, if_pos rfl]
          refine ⟨?_, hnew.keep (fun q hq => hkeep q (by have := hnlo q hq; omega)), fun q hq => by have := hnlo q hq; omega⟩
          unfold Cur4
          have := hcs
          simp [Array.getElem?_setIfInBounds]
          omega
        · dsimp only
          rw [if_neg e, if_neg e]
          obtain ⟨h1, h2, h3⟩ := HU.out j u (by omega) hu
          refine ⟨?_, (h2.ext zz).keep (fun q hq => hkeep q (by have := h3 q hq; omega)), h3⟩
          unfold Cur4 at h1 ⊢
          obtain ⟨a0, a1, a2, a3⟩ := h1
          have n0 : ∀ p q : Nat, p < 4 → q < 4 → k * 4 + p ≠ j * 4 + q := fun p q _ _ => by omega
          refine ⟨?_, ?_, ?_, ?_⟩
          · have h0 := n0 0 0 (by omega) (by omega); have h1 := n0 1 0 (by omega) (by omega); have h2 := n0 2 0 (by omega) (by omega); have h3 := n0 3 0 (by omega) (by omega)
            simp only [Nat.add_zero] at h0 h1 h2 h3
            rw [Array.getElem?_setIfInBounds_ne h3, Array.getElem?_setIfInBounds_ne h2, Array.getElem?_setIfInBounds_ne h1, Array.getElem?_setIfInBounds_ne h0]; exact a0
          · have h0 := n0 0 1 (by omega) (by omega); have h1 := n0 1 1 (by omega) (by omega); have h2 := n0 2 1 (by omega) (by omega); have h3 := n0 3 1 (by omega) (by omega)
            simp only [Nat.add_zero] at h0
            rw [Array.getElem?_setIfInBounds_ne h3, Array.getElem?_setIfInBounds_ne h2, Array.getElem?_setIfInBounds_ne h1, Array.getElem?_setIfInBounds_ne h0]; exact a1
          · have h0 := n0 0 2 (by omega) (by omega); have h1 := n0 1 2 (by omega) (by omega); have h2 := n0 2 2 (by omega) (by omega); have h3 := n0 3 2 (by omega) (by omega)
            simp only [Nat.add_zero] at h0
            rw [Array.getElem?_setIfInBounds_ne h3, Array.getElem?_setIfInBounds_ne h2, Array.getElem?_setIfInBounds_ne h1, Array.getElem?_setIfInBounds_ne h0]; exact a2
          · have h0 := n0 0 3 (by omega) (by omega); have h1 := n0 1 3 (by omega) (by omega); have h2 := n0 2 3 (by omega) (by omega); have h3 := n0 3 3 (by omega) (by omega)
            simp only [Nat.add_zero] at h0
            rw [Array.getElem?_setIfInBounds_ne h3, Array.getElem?_setIfInBounds_ne h2, Array.getElem?_setIfInBounds_ne h1, Array.getElem?_setIfInBounds_ne h0]; exact a3
      case measure => simp [intOf]; omega
    · go_wp2
      go_ret
      have hkk : k = t.kids.length := by omega
      refine ⟨_, _, ks, cur.toList, KB, ⟨wr, hb⟩, rfl, rfl, ⟨⟨by simp [hcs], .inr ⟨g, t.kids.length, cur, rfl, by omega, hg, Nat.le_refl _, by unfold maxLen; omega, hcs, by rw [List.take_of_length_le (by simp [hcs])]⟩⟩, fun i u hi => ?_, fun i u hi => ?_, fun i j q hi hj => HD.out i j q (by omega) (by omega), fun i q hi hq => ?_⟩, fun q hq => ?_⟩
      · have hi2 : i < k := by have := (List.getElem?_eq_some_iff.1 hi).1; omega
        obtain ⟨⟨a0, a1, a2, a3⟩, _⟩ := HU.out i u hi2 hi
        refine ⟨?_, ?_, ?_, ?_⟩ <;> rw [Array.getElem?_toList] <;> assumption
      · have hi2 : i < k := by have := (List.getElem?_eq_some_iff.1 hi).1; omega
        exact (HU.out i u hi2 hi).2.1
      · have := (HU.out i _ (by omega) (List.getElem?_eq_getElem hi)).2.2 q hq
        simp [ob]
        omega
      · rcases hq with e | ⟨i, hi, hq⟩
        · simp [ob] at e; omega
        · have := (HU.out i _ (by omega) (List.getElem?_eq_getElem hi)).2.2 q hq
          omega

set_option maxHeartbeats 8000000 in
theorem toTermO_ans (t : Tm) : ∀ {W : World} {lo : Nat} {r : TV} (_ : TmIn W lo t r) (_ : t.wt ≤ 1048576) (x : Ext W), Calls Tryd.prog 10 #[r.val t] x.w (NewTmO W t) := by
  induction t using Tm.ind with
  | h t ih =>
    intro W lo r h hwt x
    have HI := Lib.hid ih
    clear ih
    have hl40 : t.ty.length ≤ 1099511627776 := by rw [t.wt_eq] at hwt; omega
    obtain ⟨ra, rc, rb, rd⟩ := r
    unfold TV.val
    go_enter Tryd.func10, Tryd.ntmps10
    go_wp2_with fail
    have hxs := x.size
    generalize hWa : ((x.w.alloc _).alloc _).alloc _ = Wa
    generalize hB : x.w.heap.size = B at *
    obtain ⟨bA, bB, bC, sA, bel⟩ := blocks3 hB hWa
    have belA : Below W.heap.size W Wa := x.below.trans (bel.mono (by omega))
    clear bel hWa
    obtain ⟨kr, A⟩ := h.out
    have hlt1 := A.lt
    have hlk1 := A.lk
    -- the type
    refine (toIntS_ans (W := Wa) (A.row.ext ⟨Wa, belA⟩) hl40 (Ext.self Wa)).mono ?_
    rintro e w' ⟨v1, y, rfl, rfl, own1⟩
    have k1 := blk_cell (y.blk bA) 3
    have k2 := blk_cell (y.blk bC) 2
    have k3 := blk_free (y.blk bC) 2
    simp at k1 k2
    obtain ⟨a1, c1, rfl, row1, pl1⟩ := owned_row own1
    go_wp2_with fail
    clear k1 k2 k3
    generalize hWb : y.w.setCell _ _ = Wb
    have bB' := (set_other hWb (k := B + 1) (by omega)).trans (y.blk bB)
    have bC' := set_blk (y.blk bC) 2 _ hWb
    have sB : B + 3 ≤ Wb.heap.size := by rw [set_size hWb]; have := y.size; omega
    have belB : Below W.heap.size W Wb := by subst hWb; exact (belA.trans (y.below.mono (by omega))).setCell (by simp; omega) _
    have row1' : Row Wb (.int .i64) a1 t.ty := row_keep row1 (fun p hp => by have := (pl1 p hp).1; exact set_other hWb (by omega))
    have pl1' : ∀ p, a1 = some p → p.block < Wb.heap.size ∧ B + 3 ≤ p.block := fun p hp => by rw [set_size hWb]; have := pl1 p hp; omega
    simp at bC'
    have own1' : Wb.ownsRow (B + 3) 3 1 (.slice a1 t.ty.length c1) t.ty.length (t.ty.map (Value.int .i64)) := owns_lower (owns_of_block own1 (fun g hg => set_other hWb (by have := (own1.lt g hg).1; omega))) (by omega)
    clear bA bB bC sA belA own1 row1 pl1 row1' hWb y Wa A
    -- the kids
    obtain ⟨kr2, A2⟩ := (h.ext ⟨Wb, belB⟩).out
    refine (toTermSO_ans (W := Wb) A2 HI hwt (Ext.self Wb)).mono ?_
    rintro e w' ⟨b2, d2, ks, xs2, KB, y, rfl, rfl, new2, new2lo⟩
    have k2 := blk_cell (y.blk bC') 3
    have k3 := blk_free (y.blk bC') 3
    have m0 := blk_cell (y.blk bC') 0
    have m1 := blk_cell (y.blk bC') 1
    have m2 := blk_cell (y.blk bC') 2
    have n0 := blk_cell (y.blk bB') 0
    have n1 := blk_cell (y.blk bB') 1
    have n2 := blk_cell (y.blk bB') 2
    have n3 := blk_cell (y.blk bB') 3
    have p0 := blk_free (y.blk bB') 0
    have p1 := blk_free (y.blk bB') 1
    have p2 := blk_free (y.blk bB') 2
    have p3 := blk_free (y.blk bB') 3
    simp at k2 m0 m1 m2 n0 n1 n2 n3
    go_wp2
    clear k2 k3 m0 m1 m2 n0 n1 n2 n3 p0 p1 p2 p3
    generalize hY1 : y.w.setCell _ _ = Y1
    generalize hY2 : Y1.setCell _ _ = Y2
    generalize hY3 : Y2.setCell _ _ = Y3
    generalize hY4 : Y3.setCell _ _ = Y4
    generalize hY5 : Y4.setCell _ _ = Y5
    have q1 := (set_other hY1 (k := B + 1) (by omega)).trans (y.blk bB')
    have q5 := set_blk (set_blk (set_blk (set_blk q1 0 _ hY2) 1 _ hY3) 2 _ hY4) 3 _ hY5
    simp at q5
    have r0 := blk_cell q5 0
    have r1 := blk_cell q5 1
    have r2 := blk_cell q5 2
    have r3 := blk_cell q5 3
    simp at r0 r1 r2 r3
    have hsame : ∀ k, B + 3 ≤ k → Y5.heap[k]? = y.w.heap[k]? := fun k hk => by
      rw [set_other hY5 (by omega), set_other hY4 (by omega), set_other hY3 (by omega), set_other hY2 (by omega), set_other hY1 (by omega)]
    have belD : Below W.heap.size W Y5 := by
      subst hY5; subst hY4; subst hY3; subst hY2; subst hY1
      exact (((((belB.trans (y.below.mono (by omega))).setCell (by simp; omega) _).setCell (by simp; omega) _).setCell (by simp; omega) _).setCell (by simp; omega) _).setCell (by simp; omega) _
    have hyc : Wb.heap.size ≤ y.w.heap.size := y.size
    have new3 : KidsOwn Y5 t.kids b2 d2 ks xs2 KB := new2.keep (fun k hk => hsame k (by have := new2lo k hk; omega))
    have own5 : Y5.ownsRow (B + 3) 3 1 (.slice a1 t.ty.length c1) t.ty.length (t.ty.map (Value.int .i64)) := owns_of_block (owns_ext own1' y) (fun g hg => hsame g (by have := (own1'.lt g hg).1; omega))
    refine bodyPost_ret (v := .agg #[.int .i64 t.op, .int .i64 t.n, .slice a1 t.ty.length c1, .slice b2 t.kids.length d2]) (by simp [results, Tryd.results10, go_sem, r0, r1, r2, r3]) rfl ?_
    have hlo : W.heap.size ≤ Wb.heap.size := belB.size
    have ht : ∀ g, ob a1 = some g → B + 3 ≤ g ∧ g < Wb.heap.size := fun g hg => own1'.lt g (by rw [ob_eq]; exact hg)
    refine ⟨⟨a1, c1, b2, d2⟩, fun q => ob a1 = some q ∨ KBlocks t.kids.length b2 KB q, ⟨Y5, belD⟩, rfl, rfl, .of (kr := ks) (xs := xs2) (KB := KB) (owns_lower own5 (by omega)) new3 (fun g hg e => by have := (ht g e).2; have := new2lo g hg; omega) (fun g => Iff.rfl), fun q hq => ?_⟩
    rcases hq with e | hq
    · have := (ht q e).1; omega
    · have := new2lo q hq; omega

end Go.Proofs.YtncfbljablbglaaDoor
/- Terms that are answered; small steps of walks that build them. Nothing is walked here. -/
namespace Go.Proofs.YtncfbljablbglaaDoor
open Go.RowKit

/-- Two results, the first a new term in blocks of its own. -/
def NewTmB (W : World) (o : Tm) (b : Bool) : Ending → World → Prop := fun e w' => ∃ (r : TV) (B : Nat → Prop) (y : Ext W), e = .returned (.tuple #[r.val o, .bool b]) ∧ w' = y.w ∧ TmOwn y.w o r B ∧ ∀ q, B q → W.heap.size ≤ q
theorem zero_own (w : World) : TmOwn w zeroT ⟨none, 0, none, 0⟩ (fun _ => False) :=
  .of (kr := fun _ => ⟨none, 0, none, 0⟩) (xs := []) (KB := fun _ _ => False) (World.ownsRow_nil _ _ _ _) ⟨World.ownsRow_nil _ _ _ _, fun i k h => by simp [Tm.kids] at h, fun i k h => by simp [Tm.kids] at h, fun i j g hi => by simp [Tm.kids] at hi, fun i g hi => by simp [Tm.kids] at hi⟩
    (fun g hg e => by cases e) (fun g => ⟨fun h => h.elim, fun h => by rcases h with e | e | ⟨i, hi, _⟩; cases e; cases e; simp [Tm.kids] at hi⟩)
theorem cell_four_at (w : World) (v0 v1 v2 v3 : Value) (t : TypeId) (n : Nat) (hn : n = w.heap.size) : ∀ j u, [v0, v1, v2, v3][j]? = some u → (w.alloc (.cells #[v0, v1, v2, v3] t)).cell? ((⟨n, 0, none⟩ : Addr).add j) = some u := by
  subst hn
  intro j u h
  have e : ((⟨w.heap.size, 0, none⟩ : Addr).add j) = ⟨w.heap.size, j, none⟩ := by unfold Addr.add; split <;> simp_all
  rw [e, World.cell?_alloc_at _ _ _ _ rfl]
  match j, h with
  | 0, h => simpa using h
  | 1, h => simpa using h
  | 2, h => simpa using h
  | 3, h => simpa using h
  | j + 4, h => simp at h
theorem four_one (v0 v1 v2 v3 : Value) (h0 : v0.oneCell' = true) (h1 : v1.oneCell' = true) (h2 : v2.oneCell' = true) (h3 : v3.oneCell' = true) : ∀ u ∈ [v0, v1, v2, v3], u.oneCell' = true := by
  intro u hu
  simp only [List.mem_cons, List.not_mem_nil, or_false] at hu
  rcases hu with rfl | rfl | rfl | rfl <;> assumption


end Go.Proofs.YtncfbljablbglaaDoor
