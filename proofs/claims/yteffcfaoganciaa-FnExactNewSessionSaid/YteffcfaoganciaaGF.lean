/- Texts of one claim, laid together: TermOwn, TermBld, TermA, LawTo, LawTp, ToOwn, TmB, TermBldB. -/
import Derived.Test.YteffcfaoganciaaGA
import Derived.Test.YteffcfaoganciaaGD
import Derived.Test.YteffcfaoganciaaGE
import Derived.Maps.AppendAt
set_option linter.unusedVariables false
set_option linter.unusedSimpArgs false

/- Terms that lie in blocks of their own; what the laws' marks make of them. Nothing is walked here. -/
namespace Go.Proofs.Yteffcfaoganciaa
open Go.RowKit

/-- The four values of a kid in a list of cells. -/
def L4 (xs : List Value) (i : Nat) (r : TV) (k : Tm) : Prop :=
  xs[i * 4]? = some (.int .i64 k.op) ∧ xs[i * 4 + 1]? = some (.int .i64 k.n) ∧ xs[i * 4 + 2]? = some (.slice r.a k.ty.length r.c) ∧ xs[i * 4 + 3]? = some (.slice r.b k.kids.length r.d)

/-- A term whose slices lie in blocks of their own, no two in one; B: these blocks. -/
inductive TmOwn (w : World) : Tm → TV → (Nat → Prop) → Prop
  | mk (t : Tm) (r : TV) (kr : Nat → TV) (xs : List Value) (KB : Nat → Nat → Prop) (B : Nat → Prop)
      (ty : w.ownsRow 0 3 1 (.slice r.a t.ty.length r.c) t.ty.length (t.ty.map (Value.int .i64)))
      (row : w.ownsRow 0 40 4 (.slice r.b t.kids.length r.d) t.kids.length xs)
      (cell : ∀ i k, t.kids[i]? = some k → L4 xs i (kr i) k)
      (sub : ∀ i k, t.kids[i]? = some k → TmOwn w k (kr i) (KB i))
      (dj : ∀ i j g, i < t.kids.length → j < t.kids.length → i ≠ j → KB i g → KB j g → False)
      (da : ∀ i g, i < t.kids.length → KB i g → ob r.a ≠ some g ∧ ob r.b ≠ some g)
      (db : ∀ g, ob r.a = some g → ob r.b ≠ some g)
      (hB : ∀ g, B g ↔ ob r.a = some g ∨ ob r.b = some g ∨ ∃ i, i < t.kids.length ∧ KB i g) : TmOwn w t r B

/-- The kids of such a term. -/
structure KidsOwn (w : World) (ks : List Tm) (b : Option Addr) (d : Nat) (kr : Nat → TV) (xs : List Value) (KB : Nat → Nat → Prop) : Prop where
  row : w.ownsRow 0 40 4 (.slice b ks.length d) ks.length xs
  cell : ∀ i k, ks[i]? = some k → L4 xs i (kr i) k
  sub : ∀ i k, ks[i]? = some k → TmOwn w k (kr i) (KB i)
  dj : ∀ i j g, i < ks.length → j < ks.length → i ≠ j → KB i g → KB j g → False
  dk : ∀ i g, i < ks.length → KB i g → ob b ≠ some g
def KBlocks (n : Nat) (b : Option Addr) (KB : Nat → Nat → Prop) (g : Nat) : Prop := ob b = some g ∨ ∃ i, i < n ∧ KB i g

theorem TmOwn.out {w : World} {t : Tm} {r : TV} {B : Nat → Prop} (h : TmOwn w t r B) : ∃ kr xs KB,
    w.ownsRow 0 3 1 (.slice r.a t.ty.length r.c) t.ty.length (t.ty.map (Value.int .i64)) ∧ KidsOwn w t.kids r.b r.d kr xs KB ∧
    (∀ g, KBlocks t.kids.length r.b KB g → ob r.a ≠ some g) ∧ (∀ g, B g ↔ ob r.a = some g ∨ KBlocks t.kids.length r.b KB g) := by
  cases h with
  | mk t r kr xs KB B ty row cell sub dj da db hB =>
    refine ⟨kr, xs, KB, ty, ⟨row, cell, sub, dj, fun i g hi hg => (da i g hi hg).2⟩, fun g hg e => ?_, hB⟩
    rcases hg with hg | ⟨i, hi, hg⟩
    · exact db g e hg
    · exact (da i g hi hg).1 e
theorem TmOwn.of {w : World} {t : Tm} {r : TV} {B : Nat → Prop} {kr : Nat → TV} {xs : List Value} {KB : Nat → Nat → Prop}
    (ty : w.ownsRow 0 3 1 (.slice r.a t.ty.length r.c) t.ty.length (t.ty.map (Value.int .i64))) (k : KidsOwn w t.kids r.b r.d kr xs KB)
    (da : ∀ g, KBlocks t.kids.length r.b KB g → ob r.a ≠ some g) (hB : ∀ g, B g ↔ ob r.a = some g ∨ KBlocks t.kids.length r.b KB g) : TmOwn w t r B :=
  .mk t r kr xs KB B ty k.row k.cell k.sub k.dj (fun i g hi hg => ⟨da g (.inr ⟨i, hi, hg⟩), k.dk i g hi hg⟩) (fun g e hg => da g (.inl hg) e) hB

theorem TmOwn.keep {w w' : World} {t : Tm} {r : TV} {B : Nat → Prop} (h : TmOwn w t r B) (hk : ∀ g, B g → w'.heap[g]? = w.heap[g]?) : TmOwn w' t r B := by
  induction h with
  | mk t r kr xs KB B ty row cell sub dj da db hB ih =>
    refine .mk t r kr xs KB B ?_ ?_ cell ?_ dj da db hB
    · exact owns_of_block ty fun g hg => hk g ((hB g).2 (.inl (by rw [← ob_eq]; exact hg)))
    · exact owns_of_block row fun g hg => hk g ((hB g).2 (.inr (.inl (by rw [← ob_eq]; exact hg))))
    · intro i k hi
      exact ih i k hi fun g hg => hk g ((hB g).2 (.inr (.inr ⟨i, (List.getElem?_eq_some_iff.1 hi).1, hg⟩)))
theorem TmOwn.lt {w : World} {t : Tm} {r : TV} {B : Nat → Prop} (h : TmOwn w t r B) : ∀ g, B g → g < w.heap.size := by
  induction h with
  | mk t r kr xs KB B ty row cell sub dj da db hB ih =>
    intro g hg
    rcases (hB g).1 hg with e | e | ⟨i, hi, e⟩
    · exact (ty.lt g (by rw [ob_eq]; exact e)).2
    · exact (row.lt g (by rw [ob_eq]; exact e)).2
    · exact ih i _ (List.getElem?_eq_getElem hi) g e
theorem TmOwn.ext {W : World} {t : Tm} {r : TV} {B : Nat → Prop} (h : TmOwn W t r B) (x : Ext W) : TmOwn x.w t r B := h.keep fun g hg => x.below.block g (h.lt g hg)
theorem TmOwn.only {w w' : World} {t : Tm} {r : TV} {B C : Nat → Prop} (h : TmOwn w t r B) (ho : Only w w' C) (hd : ∀ g, B g → ¬ C g) : TmOwn w' t r B := h.keep fun g hg => ho.block g (h.lt g hg) (hd g hg)
theorem KidsOwn.keep {w w' : World} {ks : List Tm} {b : Option Addr} {d : Nat} {kr : Nat → TV} {xs : List Value} {KB : Nat → Nat → Prop} (h : KidsOwn w ks b d kr xs KB) (hk : ∀ g, KBlocks ks.length b KB g → w'.heap[g]? = w.heap[g]?) : KidsOwn w' ks b d kr xs KB :=
  ⟨owns_of_block h.row fun g hg => hk g (.inl (by rw [← ob_eq]; exact hg)), h.cell, fun i k hi => (h.sub i k hi).keep fun g hg => hk g (.inr ⟨i, (List.getElem?_eq_some_iff.1 hi).1, hg⟩), h.dj, h.dk⟩
theorem KidsOwn.lt {w : World} {ks : List Tm} {b : Option Addr} {d : Nat} {kr : Nat → TV} {xs : List Value} {KB : Nat → Nat → Prop} (h : KidsOwn w ks b d kr xs KB) : ∀ g, KBlocks ks.length b KB g → g < w.heap.size := by
  rintro g (e | ⟨i, hi, e⟩)
  · exact (h.row.lt g (by rw [ob_eq]; exact e)).2
  · exact (h.sub i _ (List.getElem?_eq_getElem hi)).lt g e

theorem L4.kid {w : World} {b : Option Addr} {d n : Nat} {xs : List Value} (row : w.ownsRow 0 40 4 (.slice b n d) n xs) {i : Nat} (hi : i < n) {r : TV} {k : Tm} (h : L4 xs i r k) : ∃ g, b = some ⟨g, 0, none⟩ ∧ Kid4 w g (0 + i * 4) r k := by
  obtain ⟨g, rfl, _⟩ := owns_at row (by omega)
  obtain ⟨a0, a1, a2, a3⟩ := h
  refine ⟨g, rfl, ?_⟩
  rw [Nat.zero_add]
  refine ⟨?_, ?_, ?_, ?_⟩
  · rw [row.cellAt _ (by omega)]; exact a0
  · rw [row.cellAt _ (by omega)]; exact a1
  · rw [row.cellAt _ (by omega)]; exact a2
  · rw [row.cellAt _ (by omega)]; exact a3
theorem own_row0 {α : Type} {w : World} {base : Nat} {E : TypeId} {mk : α → Value} {a : Option Addr} {c : Nat} {l : List α} (h : w.ownsRow base E 1 (.slice a l.length c) l.length (l.map mk)) : Row w mk a l := by
  obtain ⟨a', c', e, hr, _⟩ := owned_row h
  cases e
  exact hr
/-- It reads as the term. -/
theorem TmOwn.tm {w : World} {t : Tm} {r : TV} {B : Nat → Prop} (h : TmOwn w t r B) {lo : Nat} (hlo : ∀ g, B g → lo ≤ g) : TmIn w lo t r := by
  induction h with
  | mk t r kr xs KB B ty row cell sub dj da db hB ih =>
    refine .mk t r kr (own_row0 ty) (fun p hp => hlo _ ((hB _).2 (.inl (by rw [hp]; rfl)))) (owns_len ty) (owns_len row) ?_ ?_
    · by_cases hk : t.kids.length = 0
      · exact .inl (List.eq_nil_of_length_eq_zero hk)
      · obtain ⟨g, e, hob⟩ := owns_at row (by omega)
        refine .inr ⟨g, 0, e, hlo g ((hB g).2 (.inr (.inl hob))), fun i k hi => ?_⟩
        obtain ⟨g', e', hk4⟩ := (cell i k hi).kid row (List.getElem?_eq_some_iff.1 hi).1
        rw [e] at e'
        cases e'
        exact hk4
    · exact fun i k hi => ih i k hi fun g hg => hlo g ((hB g).2 (.inr (.inr ⟨i, (List.getElem?_eq_some_iff.1 hi).1, hg⟩)))

namespace Tm
mutual
/-- How many cells the marks turn. -/
def cnt : Tm → Nat | .mk _ _ l ks => l.length + cntL ks
def cntL : List Tm → Nat | [] => 0 | t :: l => 2 + t.cnt + cntL l
end
theorem cnt_eq (t : Tm) : t.cnt = t.ty.length + cntL t.kids := by cases t; rfl
theorem cntL_take_succ {l : List Tm} {i : Nat} {k : Tm} (h : l[i]? = some k) : cntL (l.take (i + 1)) = cntL (l.take i) + (2 + k.cnt) := by
  induction l generalizing i with
  | nil => simp at h
  | cons a l ih =>
    cases i with
    | zero => simp at h; subst h; simp [cntL]
    | succ i => simp at h; simp [cntL, ih h]; omega
theorem cntL_take_le (l : List Tm) (i : Nat) : cntL (l.take i) ≤ cntL l := by
  induction l generalizing i with
  | nil => simp
  | cons a l ih =>
    cases i with
    | zero => simp [cntL]
    | succ i => have := ih i; simp [cntL]; omega
theorem cntL_mem {l : List Tm} {k : Tm} (h : k ∈ l) : 2 + k.cnt ≤ cntL l := by
  induction l with
  | nil => cases h
  | cons a l ih =>
    simp only [cntL]
    rcases List.mem_cons.1 h with rfl | h
    · omega
    · have := ih h; omega
theorem cntL_le (l : List Tm) (h : ∀ k ∈ l, k.cnt ≤ 2 * k.wt) : cntL l ≤ 2 * (l.length + wtL l) := by
  induction l with
  | nil => simp [cntL]
  | cons a l ih =>
    have h1 := h a (by simp)
    have h2 := ih (fun k hk => h k (by simp [hk]))
    simp [cntL, wtL]
    omega
theorem cnt_le (t : Tm) : t.cnt ≤ 2 * t.wt := by
  induction t using ind with
  | h t ih =>
    have := cntL_le t.kids ih
    rw [cnt_eq, wt_eq]
    omega
def upto (m : Int) (n : Nat) : List Int := (List.range n).map fun (i : Nat) => m + (i : Int)
theorem upto_len (m : Int) (n : Nat) : (upto m n).length = n := by simp [upto]
theorem upto_at {m : Int} {n i : Nat} {u : Int} (h : (upto m n)[i]? = some u) : u = m + (i : Int) := by
  obtain ⟨hi, h⟩ := List.getElem?_eq_some_iff.1 h
  rw [← h]
  simp [upto]
mutual
/-- What marks from m on make of a term, and of kids. -/
def mkd : Tm → Int → Tm | .mk o n l ks, m => .mk o n (upto m l.length) (mkdL ks (m + l.length))
def mkdL : List Tm → Int → List Tm | [], _ => [] | .mk _ _ l ks :: r, m => .mk m (m + 1) (upto (m + 2) l.length) (mkdL ks (m + 2 + l.length)) :: mkdL r (m + 2 + (l.length + cntL ks : Nat))
end
/-- A kid that is marked. -/
def mk1 (k : Tm) (m : Int) : Tm := .mk m (m + 1) (upto (m + 2) k.ty.length) (mkdL k.kids (m + 2 + k.ty.length))
theorem mkd_eq (t : Tm) (m : Int) : t.mkd m = .mk t.op t.n (upto m t.ty.length) (mkdL t.kids (m + t.ty.length)) := by cases t; rfl
theorem mkdL_cons (k : Tm) (l : List Tm) (m : Int) : mkdL (k :: l) m = mk1 k m :: mkdL l (m + (2 + k.cnt : Nat)) := by
  cases k with
  | mk o n l' ks =>
    simp only [mkdL, mk1, ty, kids, cnt]
    congr 2
    omega
theorem mkdL_len (l : List Tm) (m : Int) : (mkdL l m).length = l.length := by
  induction l generalizing m with
  | nil => simp [mkdL]
  | cons a l ih => rw [mkdL_cons]; simp [ih]
theorem mkdL_at {l : List Tm} {i : Nat} {k : Tm} (h : l[i]? = some k) (m : Int) : (mkdL l m)[i]? = some (mk1 k (m + cntL (l.take i))) := by
  induction l generalizing i m with
  | nil => simp at h
  | cons a l ih =>
    rw [mkdL_cons]
    cases i with
    | zero => simp at h; subst h; simp [cntL]
    | succ i =>
      simp at h
      rw [List.getElem?_cons_succ, ih h]
      simp only [List.take_succ_cons, cntL]
      congr 2
      omega
end Tm

section
variable {w w1 w2 w' : World} {ks : List Tm} {b : Option Addr} {d : Nat} {kr : Nat → TV} {xs : List Value} {KB : Nat → Nat → Prop}
theorem KidsOwn.only {C : Nat → Prop} (h : KidsOwn w ks b d kr xs KB) (ho : Only w w' C) (hd : ∀ g, KBlocks ks.length b KB g → ¬ C g) : KidsOwn w' ks b d kr xs KB := h.keep fun g hg => ho.block g (h.lt g hg) (hd g hg)
/-- A kid's first two cells are turned. -/
theorem KidsOwn.head (h : KidsOwn w ks b d kr xs KB) {j g : Nat} {k : Tm} (hk : ks[j]? = some k) (hb : b = some ⟨g, 0, none⟩) (o n : Int) (h1 : w.setCell ⟨g, j * 4, none⟩ (.int .i64 o) = w1) (h2 : w1.setCell ⟨g, j * 4 + 1, none⟩ (.int .i64 n) = w2) :
    KidsOwn w2 (ks.set j (.mk o n k.ty k.kids)) b d kr ((xs.set (j * 4) (.int .i64 o)).set (j * 4 + 1) (.int .i64 n)) KB ∧ w.grownBy w2 (some g) := by
  subst hb
  have hj : j < ks.length := (List.getElem?_eq_some_iff.1 hk).1
  have hlen : xs.length = ks.length * 4 := h.row.1
  obtain ⟨o1, g1⟩ := h.row.stored (j * 4) (.int .i64 o)
  rw [h1] at o1 g1
  obtain ⟨o2, g2⟩ := o1.stored (j * 4 + 1) (.int .i64 n)
  rw [h2] at o2 g2
  have gg := g1.trans g2
  refine ⟨⟨by simpa using o2, ?_, ?_, by simpa using h.dj, by simpa using h.dk⟩, gg⟩
  · intro i u hi
    by_cases e : i = j
    · subst e
      rw [List.getElem?_set_self hj] at hi
      cases hi
      obtain ⟨a0, a1, a2, a3⟩ := h.cell i k hk
      refine ⟨?_, ?_, ?_, ?_⟩
      · rw [List.getElem?_set_ne (by omega), List.getElem?_set_self (by omega)]; rfl
      · rw [List.getElem?_set_self (by simp; omega)]; rfl
      · rw [List.getElem?_set_ne (by omega), List.getElem?_set_ne (by omega)]; exact a2
      · rw [List.getElem?_set_ne (by omega), List.getElem?_set_ne (by omega)]; exact a3
    · rw [List.getElem?_set_ne (fun q => e q.symm)] at hi
      obtain ⟨a0, a1, a2, a3⟩ := h.cell i u hi
      refine ⟨?_, ?_, ?_, ?_⟩
      · rw [List.getElem?_set_ne (by omega), List.getElem?_set_ne (by omega)]; exact a0
      · rw [List.getElem?_set_ne (by omega), List.getElem?_set_ne (by omega)]; exact a1
      · rw [List.getElem?_set_ne (by omega), List.getElem?_set_ne (by omega)]; exact a2
      · rw [List.getElem?_set_ne (by omega), List.getElem?_set_ne (by omega)]; exact a3
  · intro i u hi
    have hkeep : ∀ i u, ks[i]? = some u → TmOwn w2 u (kr i) (KB i) := fun i u hu =>
      (h.sub i u hu).keep fun q hq => gg.block q ((h.sub i u hu).lt q hq) (fun e => h.dk i q (List.getElem?_eq_some_iff.1 hu).1 hq e.symm)
    by_cases e : i = j
    · subst e
      rw [List.getElem?_set_self hj] at hi
      cases hi
      cases hkeep i k hk with
      | mk _ _ kr' xs' KB' B' ty' row' cell' sub' dj' da' db' hB' => exact .mk _ _ kr' xs' KB' _ ty' row' cell' sub' dj' da' db' hB'
    · rw [List.getElem?_set_ne (fun q => e q.symm)] at hi
      exact hkeep i u hi
/-- A kid is another one, of the same outer cells. -/
theorem KidsOwn.kid (h : KidsOwn w ks b d kr xs KB) {j : Nat} {k k' : Tm} (hk : ks[j]? = some k) (ho : k'.op = k.op) (hn : k'.n = k.n) (ht : k'.ty.length = k.ty.length) (hl : k'.kids.length = k.kids.length)
    (hs : TmOwn w' k' (kr j) (KB j)) (hw : Only w w' (KB j)) : KidsOwn w' (ks.set j k') b d kr xs KB := by
  have hj : j < ks.length := (List.getElem?_eq_some_iff.1 hk).1
  refine ⟨?_, ?_, ?_, by simpa using h.dj, by simpa using h.dk⟩
  · have := owns_of_block (w' := w') h.row fun g hg => hw.block g (h.row.lt g hg).2 (fun q => h.dk j g hj q (by rw [← ob_eq]; exact hg))
    simpa using this
  · intro i u hi
    by_cases e : i = j
    · subst e
      rw [List.getElem?_set_self hj] at hi
      cases hi
      have := h.cell i k hk
      unfold L4 at this ⊢
      rw [ho, hn, ht, hl]
      exact this
    · rw [List.getElem?_set_ne (fun q => e q.symm)] at hi
      exact h.cell i u hi
  · intro i u hi
    by_cases e : i = j
    · subst e
      rw [List.getElem?_set_self hj] at hi
      cases hi
      exact hs
    · rw [List.getElem?_set_ne (fun q => e q.symm)] at hi
      have hil : i < ks.length := (List.getElem?_eq_some_iff.1 hi).1
      exact (h.sub i u hi).keep fun g hg => hw.block g ((h.sub i u hi).lt g hg) (fun q => h.dj i j g hil hj e hg q)
end
section
variable {w w' : World} {t : Tm} {r : TV} {B : Nat → Prop}
/-- Its type's cells are turned. -/
theorem TmOwn.setTy (h : TmOwn w t r B) {l : List Int} (hl : l.length = t.ty.length) (ho : w'.ownsRow 0 3 1 (.slice r.a t.ty.length r.c) t.ty.length (l.map (Value.int .i64))) (hw : w.grownBy w' (ob r.a)) :
    TmOwn w' (.mk t.op t.n l t.kids) r B ∧ Only w w' B := by
  obtain ⟨kr, xs, KB, ty, K, da, hB⟩ := h.out
  refine ⟨.of (kr := kr) (xs := xs) (KB := KB) ?_ ?_ da hB, .grown hw fun g e => (hB g).2 (.inl e)⟩
  · show w'.ownsRow 0 _ 1 (.slice r.a l.length r.c) l.length _
    rw [hl]
    exact ho
  · exact K.keep fun g hg => hw.block g (K.lt g hg) (fun e => da g hg e.symm)
/-- Its kids are turned. -/
theorem TmOwn.setKids {kr : Nat → TV} {xs' : List Value} {KB : Nat → Nat → Prop} {ks : List Tm} (hk : ks.length = t.kids.length)
    (ty : w.ownsRow 0 3 1 (.slice r.a t.ty.length r.c) t.ty.length (t.ty.map (Value.int .i64))) (da : ∀ g, KBlocks t.kids.length r.b KB g → ob r.a ≠ some g) (hB : ∀ g, B g ↔ ob r.a = some g ∨ KBlocks t.kids.length r.b KB g)
    (K : KidsOwn w' ks r.b r.d kr xs' KB) (hw : Only w w' (KBlocks t.kids.length r.b KB)) : TmOwn w' (.mk t.op t.n t.ty ks) r B ∧ Only w w' B := by
  refine ⟨.of (t := .mk t.op t.n t.ty ks) (kr := kr) (xs := xs') (KB := KB) ?_ K ?_ ?_, hw.mono fun g _ q => (hB g).2 (.inr q)⟩
  · exact owns_of_block ty fun g hg => hw.block g (ty.lt g hg).2 (fun q => da g q (by rw [← ob_eq]; exact hg))
  · show ∀ g, KBlocks ks.length r.b KB g → _
    rw [hk]; exact da
  · show ∀ g, B g ↔ _ ∨ KBlocks ks.length r.b KB g
    rw [hk]; exact hB
end

end Go.Proofs.Yteffcfaoganciaa

/- A term that is built: its kids come one by one. Nothing is walked here. -/
namespace Go.Proofs.Yteffcfaoganciaa
open Go.RowKit

abbrev boxT (op n : Int) (a : Option Addr) (tl c : Nat) (b : Option Addr) (kl d : Nat) : Obj := .cells #[.int .i64 op, .int .i64 n, .slice a tl c, .slice b kl d] 40 (0, 0)
theorem no_int_term : (3 : TypeId) ≠ 40 := by decide
theorem own_ne' {w : World} {base : Nat} {e t : TypeId} {size n : Nat} {v : Value} {xs : List Value} {cs : Array Value} {g : Nat} (h : w.ownsRow base e size v n xs) (hg : w.heap[g]? = some (.cells cs t (0, 0))) (hne : e ≠ t) : v.ownBlock ≠ some g := by
  rcases h.2 with ⟨rfl, _⟩ | ⟨g', cap, cur, rfl, _, hh, _⟩
  · simp [Value.ownBlock]
  · intro he
    have : g' = g := by simpa [Value.ownBlock] using he
    subst this
    rw [hh] at hg
    injection hg with hg
    injection hg with _ ht
    exact hne ht
/-- A term in the midst of being built, in the box C. -/
structure TB (Y w : World) (C : Nat) (op n : Int) (l : List Int) (a : Option Addr) (c : Nat) (ks : List Tm) (b : Option Addr) (d : Nat) (kr : Nat → TV) (xs : List Value) (KB : Nat → Nat → Prop) : Prop where
  box : w.heap[C]? = some (boxT op n a l.length c b ks.length d)
  ty : w.ownsRow Y.heap.size 3 1 (.slice a l.length c) l.length (l.map (Value.int .i64))
  kids : KidsOwn w ks b d kr xs KB
  da : ∀ g, KBlocks ks.length b KB g → ob a ≠ some g
  lk : ∀ g, KBlocks ks.length b KB g → Y.heap.size ≤ g ∧ g ≠ C
  lo : Y.heap.size ≤ C
  bel : Below Y.heap.size Y w

section
variable {Y w : World} {C : Nat} {op n : Int} {l : List Int} {a : Option Addr} {c : Nat} {ks : List Tm} {b : Option Addr} {d : Nat} {kr : Nat → TV} {xs : List Value} {KB : Nat → Nat → Prop}
theorem TB.cLt (h : TB Y w C op n l a c ks b d kr xs KB) : C < w.heap.size := (Array.getElem?_eq_some_iff.1 h.box).1
theorem TB.aC (h : TB Y w C op n l a c ks b d kr xs KB) : ob a ≠ some C := fun e => own_ne' h.ty h.box no_int_term (by rw [ob_eq]; exact e)
theorem TB.cells (h : TB Y w C op n l a c ks b d kr xs KB) : (∀ y : Ext w, y.w.cell? ⟨C, 0, none⟩ = some (.int .i64 op)) ∧ (∀ y : Ext w, y.w.cell? ⟨C, 1, none⟩ = some (.int .i64 n)) ∧ (∀ y : Ext w, y.w.cell? ⟨C, 2, none⟩ = some (.slice a l.length c)) ∧ (∀ y : Ext w, y.w.cell? ⟨C, 3, none⟩ = some (.slice b ks.length d)) :=
  ⟨fun y => blk_cell (y.blk h.box) 0, fun y => blk_cell (y.blk h.box) 1, fun y => blk_cell (y.blk h.box) 2, fun y => blk_cell (y.blk h.box) 3⟩
theorem TB.ext (h : TB Y w C op n l a c ks b d kr xs KB) (z : Ext w) : TB Y z.w C op n l a c ks b d kr xs KB :=
  ⟨z.blk h.box, owns_ext h.ty z, h.kids.keep (fun g hg => z.below.block g (h.kids.lt g hg)), h.da, h.lk, h.lo, h.bel.trans (z.below.mono h.bel.size)⟩
/-- A kid more. -/
theorem TB.snoc (h : TB Y w C op n l a c ks b d kr xs KB) {k : Tm} {r : TV} {NB : Nat → Prop} (z : Ext w) (hk : TmOwn z.w k r NB) (hlo : ∀ g, NB g → w.heap.size ≤ g) {v' : Value} {w1 w2 : World}
    (hown : w1.ownsRow 0 40 4 v' (ks.length + 1) (xs ++ [.int .i64 k.op, .int .i64 k.n, .slice r.a k.ty.length r.c, .slice r.b k.kids.length r.d]))
    (hgr : z.w.grownBy w1 (ob b)) (hat : v'.ownBlock = ob b ∨ v'.ownBlock = some z.w.heap.size) (hs : w1.setCell ⟨C, 3, none⟩ v' = w2) :
    ∃ b' d' kr' xs' KB', v' = .slice b' (ks ++ [k]).length d' ∧ TB Y w2 C op n l a c (ks ++ [k]) b' d' kr' xs' KB' := by
  have hz := h.ext z
  have hzl := z.size
  have hCl := h.cLt
  have hxl : xs.length = ks.length * 4 := h.kids.row.1
  -- old blocks other than the row of kids are kept
  have keep1 : ∀ g, g < z.w.heap.size → ob b ≠ some g → g ≠ C → w2.heap[g]? = z.w.heap[g]? := fun g hg h1 h2 => by
    rw [set_other hs h2, hgr.block g hg (fun e => h1 e.symm)]
  obtain ⟨b', d', rfl⟩ : ∃ b' d', v' = .slice b' (ks.length + 1) d' := by
    rcases hown.2 with ⟨rfl, e⟩ | ⟨g, cap, cur, rfl, _⟩
    · omega
    · exact ⟨_, _, rfl⟩
  rw [ob_eq] at hat
  have hbC : ob b ≠ some C := fun e => (h.lk C (.inl e)).2 rfl
  have hb'C : ob b' ≠ some C := by
    rcases hat with e | e
    · rw [e]; exact hbC
    · rw [e]; intro q; injection q; omega
  have hb'lo : ∀ g, ob b' = some g → Y.heap.size ≤ g := fun g e => by
    rcases hat with q | q
    · exact (h.lk g (.inl (by rw [← q]; exact e))).1
    · rw [q] at e
      injection e
      have := h.bel.size
      omega
  have hKB : ∀ i g, i < ks.length → KB i g → g < w.heap.size ∧ ob b ≠ some g ∧ g ≠ C := fun i g hi hg => ⟨h.kids.lt g (.inr ⟨i, hi, hg⟩), h.kids.dk i g hi hg, (h.lk g (.inr ⟨i, hi, hg⟩)).2⟩
  have hNB : ∀ g, NB g → w.heap.size ≤ g ∧ g < z.w.heap.size := fun g hg => ⟨hlo g hg, hk.lt g hg⟩
  have hbw : ∀ g, ob b = some g → g < w.heap.size := fun g e => h.kids.lt g (.inl e)
  have hb'n : ∀ g, g < z.w.heap.size → ob b ≠ some g → ob b' ≠ some g := fun g hg h1 e => by
    rcases hat with q | q
    · exact h1 (q ▸ e)
    · rw [q] at e; injection e; omega
  have hnb : ∀ g, NB g → ob b ≠ some g ∧ g ≠ C := fun g hg => ⟨fun e => by have := hbw g e; have := hNB g hg; omega, fun e => by have := hNB g hg; omega⟩
  refine ⟨b', d', fun i => if i = ks.length then r else kr i, xs ++ [.int .i64 k.op, .int .i64 k.n, .slice r.a k.ty.length r.c, .slice r.b k.kids.length r.d], fun i => if i = ks.length then NB else KB i, by simp, ⟨?_, ?_, ⟨?_, ?_, ?_, ?_, ?_⟩, ?_, ?_, h.lo, ?_⟩⟩
  · -- the box
    have hmid : w1.heap[C]? = some (boxT op n a l.length c b ks.length d) := by
      rw [hgr.block C (by omega) (fun e => hbC e.symm)]
      exact hz.box
    have := set_blk hmid 3 _ hs
    rw [this]
    simp
  · refine owns_of_block hz.ty fun g hg => ?_
    rw [ob_eq] at hg
    have hgl := (hz.ty.lt g (by rw [ob_eq]; exact hg)).2
    exact keep1 g hgl (fun e => h.da g (.inl e) hg) (fun e => h.aC (by rw [← e]; exact hg))
  · -- the row of kids
    have := owns_of_block (w' := w2) hown fun g hg => set_other hs (fun e => hb'C (by rw [← ob_eq b' (ks.length + 1) d', hg, e]))
    simpa using this
  · intro i u hi
    by_cases e : i = ks.length
    · subst e
      simp at hi
      subst hi
      rw [if_pos rfl]
      refine ⟨?_, ?_, ?_, ?_⟩
      · rw [List.getElem?_append_right (by omega)]; simp [hxl]
      · rw [List.getElem?_append_right (by omega)]; simp [hxl]
      · rw [List.getElem?_append_right (by omega)]; simp [hxl]
      · rw [List.getElem?_append_right (by omega)]; simp [hxl]
    · have hil : i < ks.length := by have := (List.getElem?_eq_some_iff.1 hi).1; simp at this; omega
      rw [List.getElem?_append_left hil] at hi
      rw [if_neg e]
      obtain ⟨a0, a1, a2, a3⟩ := h.kids.cell i u hi
      refine ⟨?_, ?_, ?_, ?_⟩
      · rw [List.getElem?_append_left (by omega)]; exact a0
      · rw [List.getElem?_append_left (by omega)]; exact a1
      · rw [List.getElem?_append_left (by omega)]; exact a2
      · rw [List.getElem?_append_left (by omega)]; exact a3
  · intro i u hi
    by_cases e : i = ks.length
    · subst e
      simp at hi
      subst hi
      rw [if_pos rfl, if_pos rfl]
      exact hk.keep fun g hg => keep1 g (hNB g hg).2 (hnb g hg).1 (hnb g hg).2
    · have hil : i < ks.length := by have := (List.getElem?_eq_some_iff.1 hi).1; simp at this; omega
      rw [List.getElem?_append_left hil] at hi
      rw [if_neg e, if_neg e]
      exact (hz.kids.sub i u hi).keep fun g hg => by
        obtain ⟨q1, q2, q3⟩ := hKB i g hil hg
        exact keep1 g (by omega) q2 q3
  · intro i j g hi hj hne h1 h2
    simp at hi hj
    by_cases e1 : i = ks.length <;> by_cases e2 : j = ks.length
    · omega
    · simp only [e1, e2, if_true, if_false] at h1 h2
      have := hNB g h1
      have := (hKB j g (by omega) h2).1
      omega
    · simp only [e1, e2, if_true, if_false] at h1 h2
      have := hNB g h2
      have := (hKB i g (by omega) h1).1
      omega
    · simp only [e1, e2, if_false] at h1 h2
      exact h.kids.dj i j g (by omega) (by omega) hne h1 h2
  · intro i g hi hg
    simp at hi
    by_cases e : i = ks.length
    · simp only [e, if_true] at hg
      exact hb'n g (hNB g hg).2 (hnb g hg).1
    · simp only [e, if_false] at hg
      obtain ⟨q1, q2, _⟩ := hKB i g (by omega) hg
      exact hb'n g (by omega) q2
  · intro g hg e
    have hgl := (hz.ty.lt g (by rw [ob_eq]; exact e)).2
    have hgl' := (h.ty.lt g (by rw [ob_eq]; exact e)).2
    rcases hg with q | ⟨i, hi, hg⟩
    · exact hb'n g hgl (fun q => h.da g (.inl q) e) q
    · simp at hi
      by_cases e2 : i = ks.length
      · simp only [e2, if_true] at hg
        have := hNB g hg
        omega
      · simp only [e2, if_false] at hg
        exact h.da g (.inr ⟨i, by omega, hg⟩) e
  · intro g hg
    rcases hg with q | ⟨i, hi, hg⟩
    · exact ⟨hb'lo g q, fun e => hb'C (by rw [← e]; exact q)⟩
    · simp at hi
      by_cases e2 : i = ks.length
      · simp only [e2, if_true] at hg
        have := hNB g hg
        have := h.bel.size
        exact ⟨by omega, (hnb g hg).2⟩
      · simp only [e2, if_false] at hg
        exact h.lk g (.inr ⟨i, by omega, hg⟩)
  · have hb1 : Below Y.heap.size Y w1 := (hz.bel.grown hgr hz.bel.size (fun g hg => (h.lk g (.inl hg)).1))
    subst hs
    exact hb1.setCell h.lo _
/-- The beginning: no kids yet. -/
theorem TB.start {Y w : World} {C : Nat} {op n : Int} {l : List Int} {a : Option Addr} {c : Nat} (hbox : w.heap[C]? = some (boxT op n a l.length c none 0 0)) (hty : w.ownsRow Y.heap.size 3 1 (.slice a l.length c) l.length (l.map (Value.int .i64))) (hlo : Y.heap.size ≤ C) (hb : Below Y.heap.size Y w) :
    TB Y w C op n l a c [] none 0 (fun _ => ⟨none, 0, none, 0⟩) [] (fun _ _ => False) :=
  ⟨hbox, hty, ⟨World.ownsRow_nil _ _ _ _, fun i k h => by simp at h, fun i k h => by simp at h, fun i j g hi => by simp at hi, fun i g hi => by simp at hi⟩,
    fun g hg => by rcases hg with q | ⟨i, hi, _⟩; cases q; simp at hi, fun g hg => by rcases hg with q | ⟨i, hi, _⟩; cases q; simp at hi, hlo, hb⟩
/-- The end: what is built, read anywhere where its blocks are as they were. -/
theorem TB.done (h : TB Y w C op n l a c ks b d kr xs KB) {w' : World} {R : Nat} (hk : ∀ g, g ≠ R → w'.heap[g]? = w.heap[g]?) (hR : R < Y.heap.size ∨ R = C) :
    TmOwn w' (.mk op n l ks) ⟨a, c, b, d⟩ (fun g => ob a = some g ∨ KBlocks ks.length b KB g) ∧ ∀ g, (ob a = some g ∨ KBlocks ks.length b KB g) → Y.heap.size ≤ g := by
  have ha : ∀ g, ob a = some g → Y.heap.size ≤ g ∧ g ≠ C := fun g e => ⟨(h.ty.lt g (by rw [ob_eq]; exact e)).1, fun q => h.aC (by rw [← q]; exact e)⟩
  have hne : ∀ g, Y.heap.size ≤ g ∧ g ≠ C → g ≠ R := fun g q e => by have := h.lo; rcases hR with r | r <;> omega
  refine ⟨.of (t := .mk op n l ks) (kr := kr) (xs := xs) (KB := KB) (owns_lower (owns_of_block h.ty fun g hg => hk g (hne g (ha g (by rw [← ob_eq]; exact hg)))) (Nat.zero_le _)) (h.kids.keep fun g hg => hk g (hne g (h.lk g hg))) h.da (fun g => Iff.rfl), fun g hg => ?_⟩
  rcases hg with e | hg
  · exact (ha g e).1
  · exact (h.lk g hg).1
end

end Go.Proofs.Yteffcfaoganciaa

/- Walks over terms. -/
namespace Go.Proofs.Yteffcfaoganciaa
open Go.RowKit

/-- What is left of a number of nodes. -/
def LeftV (t : Tm) (left v : Int) : Prop := ((t.sz : Int) ≤ left ∧ v = left - t.sz) ∨ (left < (t.sz : Int) ∧ v = -1)
theorem leftV_ex (t : Tm) (left : Int) : ∃ v, LeftV t left v := by
  by_cases h : (t.sz : Int) ≤ left
  · exact ⟨_, .inl ⟨h, rfl⟩⟩
  · exact ⟨_, .inr ⟨by omega, rfl⟩⟩
end Go.Proofs.Yteffcfaoganciaa

/- The laws' copies of terms. -/
namespace Go.Proofs.Yteffcfaoganciaa
open Go.RowKit

theorem info_term : (Try.prog.info? 40).map (fun i => (i.zero, i.size, i.bytes)) = some (some (.agg #[.int .i64 0, .int .i64 0, .slice none 0 0, .slice none 0 0]), 4, 64) := by kernel_rfl
/-- A call hands back a new term, of its own memory. -/
def NewTm (W : World) (t : Tm) : Ending → World → Prop := fun e w' => ∃ (r : TV) (y : Ext W), e = .returned (r.val t) ∧ w' = y.w ∧ TmIn y.w W.heap.size t r
/-- Kids that lie in blocks from lo on. -/
def KidsIn (w : World) (lo : Nat) (ks : List Tm) (b : Option Addr) (kr : Nat → TV) : Prop :=
  (ks = [] ∨ ∃ bb o, b = some ⟨bb, o, none⟩ ∧ lo ≤ bb ∧ ∀ i k, ks[i]? = some k → Kid4 w bb (o + i * 4) (kr i) k) ∧ (∀ i k, ks[i]? = some k → TmIn w lo k (kr i))
theorem KidsIn.keep {w w' : World} {lo : Nat} {ks : List Tm} {b : Option Addr} {kr : Nat → TV} (h : KidsIn w lo ks b kr) (hk : ∀ k, lo ≤ k → k < w.heap.size → w'.heap[k]? = w.heap[k]?) : KidsIn w' lo ks b kr := by
  refine ⟨?_, fun i k hi => (h.2 i k hi).keep hk⟩
  rcases h.1 with e | ⟨bb, o, e, hlo, hc⟩
  · exact .inl e
  · exact .inr ⟨bb, o, e, hlo, fun i k hi => (hc i k hi).keep (hk bb hlo (cell_lt (hc i k hi).c0))⟩
def NewKids (W : World) (t : Tm) : Ending → World → Prop := fun e w' => ∃ (b : Option Addr) (d : Nat) (kr : Nat → TV) (y : Ext W), e = .returned (.slice b t.kids.length d) ∧ w' = y.w ∧ KidsIn y.w W.heap.size t.kids b kr
/-- The cells of the kid at a place of an array. -/
def Cur4 (cur : Array Value) (j : Nat) (r : TV) (k : Tm) : Prop :=
  cur[j * 4]? = some (.int .i64 k.op) ∧ cur[j * 4 + 1]? = some (.int .i64 k.n) ∧ cur[j * 4 + 2]? = some (.slice r.a k.ty.length r.c) ∧ cur[j * 4 + 3]? = some (.slice r.b k.kids.length r.d)

end Go.Proofs.Yteffcfaoganciaa

/- The laws' copy of a term. -/
namespace Go.Proofs.Yteffcfaoganciaa
open Go.RowKit

end Go.Proofs.Yteffcfaoganciaa

/- The laws' copies of terms, in blocks of their own. -/
namespace Go.Proofs.Yteffcfaoganciaa
open Go.RowKit

/-- A call hands back a new term, in blocks of its own. -/
def NewTmO (W : World) (t : Tm) : Ending → World → Prop := fun e w' => ∃ (r : TV) (B : Nat → Prop) (y : Ext W), e = .returned (r.val t) ∧ w' = y.w ∧ TmOwn y.w t r B ∧ ∀ q, B q → W.heap.size ≤ q
def NewKidsO (W : World) (t : Tm) : Ending → World → Prop := fun e w' => ∃ (b : Option Addr) (d : Nat) (kr : Nat → TV) (xs : List Value) (KB : Nat → Nat → Prop) (y : Ext W), e = .returned (.slice b t.kids.length d) ∧ w' = y.w ∧ KidsOwn y.w t.kids b d kr xs KB ∧ ∀ q, KBlocks t.kids.length b KB q → W.heap.size ≤ q

end Go.Proofs.Yteffcfaoganciaa

/- Terms that are answered; small steps of walks that build them. Nothing is walked here. -/
namespace Go.Proofs.Yteffcfaoganciaa
open Go.RowKit

/-- Two results, the first a new term in blocks of its own. -/
def NewTmB (W : World) (o : Tm) (b : Bool) : Ending → World → Prop := fun e w' => ∃ (r : TV) (B : Nat → Prop) (y : Ext W), e = .returned (.tuple #[r.val o, .bool b]) ∧ w' = y.w ∧ TmOwn y.w o r B ∧ ∀ q, B q → W.heap.size ≤ q
theorem zero_own (w : World) : TmOwn w zeroT ⟨none, 0, none, 0⟩ (fun _ => False) :=
  .of (kr := fun _ => ⟨none, 0, none, 0⟩) (xs := []) (KB := fun _ _ => False) (World.ownsRow_nil _ _ _ _) ⟨World.ownsRow_nil _ _ _ _, fun i k h => by simp [Tm.kids] at h, fun i k h => by simp [Tm.kids] at h, fun i j g hi => by simp [Tm.kids] at hi, fun i g hi => by simp [Tm.kids] at hi⟩
    (fun g hg e => by cases e) (fun g => ⟨fun h => h.elim, fun h => by rcases h with e | e | ⟨i, hi, _⟩; cases e; cases e; simp [Tm.kids] at hi⟩)
theorem cell_four_at (w : World) (v0 v1 v2 v3 : Value) (t : TypeId) (n : Nat) (hn : n = w.heap.size) : ∀ j u, [v0, v1, v2, v3][j]? = some u → (w.alloc (.cells #[v0, v1, v2, v3] t)).cell? ((⟨n, 0, none⟩ : Addr).add j) = some u := by
  subst hn
  intro j u h
  have e : ((⟨w.heap.size, 0, none⟩ : Addr).add j) = ⟨w.heap.size, j, none⟩ := by unfold Addr.add; split <;> simp_all
  rw [e, World.cell?_alloc_at _ _ _ _ rfl]
  match j, h with
  | 0, h => simpa using h
  | 1, h => simpa using h
  | 2, h => simpa using h
  | 3, h => simpa using h
  | j + 4, h => simp at h
theorem owns_slice {w : World} {base : Nat} {e : TypeId} {size n : Nat} {v : Value} {xs : List Value} (h : w.ownsRow base e size v n xs) : ∃ A c, v = .slice A n c := by
  rcases h.2 with ⟨rfl, rfl⟩ | ⟨g, cap, cur, rfl, _⟩
  · exact ⟨none, 0, rfl⟩
  · exact ⟨_, _, rfl⟩
theorem four_one (v0 v1 v2 v3 : Value) (h0 : v0.oneCell' = true) (h1 : v1.oneCell' = true) (h2 : v2.oneCell' = true) (h3 : v3.oneCell' = true) : ∀ u ∈ [v0, v1, v2, v3], u.oneCell' = true := by
  intro u hu
  simp only [List.mem_cons, List.not_mem_nil, or_false] at hu
  rcases hu with rfl | rfl | rfl | rfl <;> assumption


end Go.Proofs.Yteffcfaoganciaa

/- A term that is built, its own blocks from a base on. Nothing is walked here. -/
namespace Go.Proofs.Yteffcfaoganciaa
open Go.RowKit

/-- A term in the midst of being built, in the box C. -/
structure TC (Y V w : World) (base C : Nat) (op n : Int) (l : List Int) (a : Option Addr) (c : Nat) (ks : List Tm) (b : Option Addr) (d : Nat) (kr : Nat → TV) (xs : List Value) (KB : Nat → Nat → Prop) : Prop where
  box : w.heap[C]? = some (boxT op n a l.length c b ks.length d)
  ty : w.ownsRow base 3 1 (.slice a l.length c) l.length (l.map (Value.int .i64))
  kids : KidsOwn w ks b d kr xs KB
  da : ∀ g, KBlocks ks.length b KB g → ob a ≠ some g
  lk : ∀ g, KBlocks ks.length b KB g → base ≤ g ∧ g ≠ C
  lo : Y.heap.size ≤ C
  hy : Y.heap.size ≤ base
  hw : base ≤ w.heap.size
  low : ∀ g, g < base → g ≠ C → w.heap[g]? = V.heap[g]?
  bel : Below Y.heap.size Y w

section
variable {Y V w : World} {base C : Nat} {op n : Int} {l : List Int} {a : Option Addr} {c : Nat} {ks : List Tm} {b : Option Addr} {d : Nat} {kr : Nat → TV} {xs : List Value} {KB : Nat → Nat → Prop}
theorem TC.cLt (h : TC Y V w base C op n l a c ks b d kr xs KB) : C < w.heap.size := (Array.getElem?_eq_some_iff.1 h.box).1
theorem TC.aC (h : TC Y V w base C op n l a c ks b d kr xs KB) : ob a ≠ some C := fun e => own_ne' h.ty h.box no_int_term (by rw [ob_eq]; exact e)
theorem TC.cells (h : TC Y V w base C op n l a c ks b d kr xs KB) : (∀ y : Ext w, y.w.cell? ⟨C, 0, none⟩ = some (.int .i64 op)) ∧ (∀ y : Ext w, y.w.cell? ⟨C, 1, none⟩ = some (.int .i64 n)) ∧ (∀ y : Ext w, y.w.cell? ⟨C, 2, none⟩ = some (.slice a l.length c)) ∧ (∀ y : Ext w, y.w.cell? ⟨C, 3, none⟩ = some (.slice b ks.length d)) :=
  ⟨fun y => blk_cell (y.blk h.box) 0, fun y => blk_cell (y.blk h.box) 1, fun y => blk_cell (y.blk h.box) 2, fun y => blk_cell (y.blk h.box) 3⟩
theorem TC.ext (h : TC Y V w base C op n l a c ks b d kr xs KB) (z : Ext w) : TC Y V z.w base C op n l a c ks b d kr xs KB :=
  ⟨z.blk h.box, owns_ext h.ty z, h.kids.keep (fun g hg => z.below.block g (h.kids.lt g hg)), h.da, h.lk, h.lo, h.hy, Nat.le_trans h.hw z.size, fun g hg hc => (z.below.block g (by have := h.hw; omega)).trans (h.low g hg hc), h.bel.trans (z.below.mono h.bel.size)⟩
/-- A kid more. -/
theorem TC.snoc (h : TC Y V w base C op n l a c ks b d kr xs KB) {k : Tm} {r : TV} {NB : Nat → Prop} (z : Ext w) (hk : TmOwn z.w k r NB) (hlo : ∀ g, NB g → w.heap.size ≤ g) {v' : Value} {w1 w2 : World}
    (hown : w1.ownsRow 0 40 4 v' (ks.length + 1) (xs ++ [.int .i64 k.op, .int .i64 k.n, .slice r.a k.ty.length r.c, .slice r.b k.kids.length r.d]))
    (hgr : z.w.grownBy w1 (ob b)) (hat : v'.ownBlock = ob b ∨ v'.ownBlock = some z.w.heap.size) (hs : w1.setCell ⟨C, 3, none⟩ v' = w2) :
    ∃ b' d' kr' xs' KB', v' = .slice b' (ks ++ [k]).length d' ∧ TC Y V w2 base C op n l a c (ks ++ [k]) b' d' kr' xs' KB' := by
  have hz := h.ext z
  have hzl := z.size
  have hCl := h.cLt
  have hxl : xs.length = ks.length * 4 := h.kids.row.1
  -- old blocks other than the row of kids are kept
  have keep1 : ∀ g, g < z.w.heap.size → ob b ≠ some g → g ≠ C → w2.heap[g]? = z.w.heap[g]? := fun g hg h1 h2 => by
    rw [set_other hs h2, hgr.block g hg (fun e => h1 e.symm)]
  obtain ⟨b', d', rfl⟩ : ∃ b' d', v' = .slice b' (ks.length + 1) d' := by
    rcases hown.2 with ⟨rfl, e⟩ | ⟨g, cap, cur, rfl, _⟩
    · omega
    · exact ⟨_, _, rfl⟩
  rw [ob_eq] at hat
  have hbC : ob b ≠ some C := fun e => (h.lk C (.inl e)).2 rfl
  have hb'C : ob b' ≠ some C := by
    rcases hat with e | e
    · rw [e]; exact hbC
    · rw [e]; intro q; injection q; omega
  have hb'lo : ∀ g, ob b' = some g → base ≤ g := fun g e => by
    rcases hat with q | q
    · exact (h.lk g (.inl (by rw [← q]; exact e))).1
    · rw [q] at e
      injection e
      have := h.hw
      omega
  have hKB : ∀ i g, i < ks.length → KB i g → g < w.heap.size ∧ ob b ≠ some g ∧ g ≠ C := fun i g hi hg => ⟨h.kids.lt g (.inr ⟨i, hi, hg⟩), h.kids.dk i g hi hg, (h.lk g (.inr ⟨i, hi, hg⟩)).2⟩
  have hNB : ∀ g, NB g → w.heap.size ≤ g ∧ g < z.w.heap.size := fun g hg => ⟨hlo g hg, hk.lt g hg⟩
  have hbw : ∀ g, ob b = some g → g < w.heap.size := fun g e => h.kids.lt g (.inl e)
  have hb'n : ∀ g, g < z.w.heap.size → ob b ≠ some g → ob b' ≠ some g := fun g hg h1 e => by
    rcases hat with q | q
    · exact h1 (q ▸ e)
    · rw [q] at e; injection e; omega
  have hnb : ∀ g, NB g → ob b ≠ some g ∧ g ≠ C := fun g hg => ⟨fun e => by have := hbw g e; have := hNB g hg; omega, fun e => by have := hNB g hg; omega⟩
  refine ⟨b', d', fun i => if i = ks.length then r else kr i, xs ++ [.int .i64 k.op, .int .i64 k.n, .slice r.a k.ty.length r.c, .slice r.b k.kids.length r.d], fun i => if i = ks.length then NB else KB i, by simp, ⟨?_, ?_, ⟨?_, ?_, ?_, ?_, ?_⟩, ?_, ?_, h.lo, h.hy, ?_, ?_, ?_⟩⟩
  · -- the box
    have hmid : w1.heap[C]? = some (boxT op n a l.length c b ks.length d) := by
      rw [hgr.block C (by omega) (fun e => hbC e.symm)]
      exact hz.box
    have := set_blk hmid 3 _ hs
    rw [this]
    simp
  · refine owns_of_block hz.ty fun g hg => ?_
    rw [ob_eq] at hg
    have hgl := (hz.ty.lt g (by rw [ob_eq]; exact hg)).2
    exact keep1 g hgl (fun e => h.da g (.inl e) hg) (fun e => h.aC (by rw [← e]; exact hg))
  · -- the row of kids
    have := owns_of_block (w' := w2) hown fun g hg => set_other hs (fun e => hb'C (by rw [← ob_eq b' (ks.length + 1) d', hg, e]))
    simpa using this
  · intro i u hi
    by_cases e : i = ks.length
    · subst e
      simp at hi
      subst hi
      rw [if_pos rfl]
      refine ⟨?_, ?_, ?_, ?_⟩
      · rw [List.getElem?_append_right (by omega)]; simp [hxl]
      · rw [List.getElem?_append_right (by omega)]; simp [hxl]
      · rw [List.getElem?_append_right (by omega)]; simp [hxl]
      · rw [List.getElem?_append_right (by omega)]; simp [hxl]
    · have hil : i < ks.length := by have := (List.getElem?_eq_some_iff.1 hi).1; simp at this; omega
      rw [List.getElem?_append_left hil] at hi
      rw [if_neg e]
      obtain ⟨a0, a1, a2, a3⟩ := h.kids.cell i u hi
      refine ⟨?_, ?_, ?_, ?_⟩
      · rw [List.getElem?_append_left (by omega)]; exact a0
      · rw [List.getElem?_append_left (by omega)]; exact a1
      · rw [List.getElem?_append_left (by omega)]; exact a2
      · rw [List.getElem?_append_left (by omega)]; exact a3
  · intro i u hi
    by_cases e : i = ks.length
    · subst e
      simp at hi
      subst hi
      rw [if_pos rfl, if_pos rfl]
      exact hk.keep fun g hg => keep1 g (hNB g hg).2 (hnb g hg).1 (hnb g hg).2
    · have hil : i < ks.length := by have := (List.getElem?_eq_some_iff.1 hi).1; simp at this; omega
      rw [List.getElem?_append_left hil] at hi
      rw [if_neg e, if_neg e]
      exact (hz.kids.sub i u hi).keep fun g hg => by
        obtain ⟨q1, q2, q3⟩ := hKB i g hil hg
        exact keep1 g (by omega) q2 q3
  · intro i j g hi hj hne h1 h2
    simp at hi hj
    by_cases e1 : i = ks.length <;> by_cases e2 : j = ks.length
    · omega
    · simp only [e1, e2, if_true, if_false] at h1 h2
      have := hNB g h1
      have := (hKB j g (by omega) h2).1
      omega
    · simp only [e1, e2, if_true, if_false] at h1 h2
      have := hNB g h2
      have := (hKB i g (by omega) h1).1
      omega
    · simp only [e1, e2, if_false] at h1 h2
      exact h.kids.dj i j g (by omega) (by omega) hne h1 h2
  · intro i g hi hg
    simp at hi
    by_cases e : i = ks.length
    · simp only [e, if_true] at hg
      exact hb'n g (hNB g hg).2 (hnb g hg).1
    · simp only [e, if_false] at hg
      obtain ⟨q1, q2, _⟩ := hKB i g (by omega) hg
      exact hb'n g (by omega) q2
  · intro g hg e
    have hgl := (hz.ty.lt g (by rw [ob_eq]; exact e)).2
    have hgl' := (h.ty.lt g (by rw [ob_eq]; exact e)).2
    rcases hg with q | ⟨i, hi, hg⟩
    · exact hb'n g hgl (fun q => h.da g (.inl q) e) q
    · simp at hi
      by_cases e2 : i = ks.length
      · simp only [e2, if_true] at hg
        have := hNB g hg
        omega
      · simp only [e2, if_false] at hg
        exact h.da g (.inr ⟨i, by omega, hg⟩) e
  · intro g hg
    rcases hg with q | ⟨i, hi, hg⟩
    · exact ⟨hb'lo g q, fun e => hb'C (by rw [← e]; exact q)⟩
    · simp at hi
      by_cases e2 : i = ks.length
      · simp only [e2, if_true] at hg
        have := hNB g hg
        have := h.hw
        exact ⟨by omega, (hnb g hg).2⟩
      · simp only [e2, if_false] at hg
        exact h.lk g (.inr ⟨i, by omega, hg⟩)
  · have := hgr.size
    have := h.hw
    rw [set_size hs]
    omega
  · intro g hg hc
    have := h.hw
    rw [set_other hs hc, hgr.block g (by omega) (fun e => by have := (h.lk g (.inl e.symm)).1; omega)]
    exact hz.low g hg hc
  · have hb1 : Below Y.heap.size Y w1 := (hz.bel.grown hgr hz.bel.size (fun g hg => Nat.le_trans h.hy (h.lk g (.inl hg)).1))
    subst hs
    exact hb1.setCell h.lo _
/-- The beginning: no kids yet. -/
theorem TC.start {Y V w : World} {base C : Nat} (hy : Y.heap.size ≤ base) (hw : base ≤ w.heap.size) (low : ∀ g, g < base → g ≠ C → w.heap[g]? = V.heap[g]?) {op n : Int} {l : List Int} {a : Option Addr} {c : Nat} (hbox : w.heap[C]? = some (boxT op n a l.length c none 0 0)) (hty : w.ownsRow base 3 1 (.slice a l.length c) l.length (l.map (Value.int .i64))) (hlo : Y.heap.size ≤ C) (hb : Below Y.heap.size Y w) :
    TC Y V w base C op n l a c [] none 0 (fun _ => ⟨none, 0, none, 0⟩) [] (fun _ _ => False) :=
  ⟨hbox, hty, ⟨World.ownsRow_nil _ _ _ _, fun i k h => by simp at h, fun i k h => by simp at h, fun i j g hi => by simp at hi, fun i g hi => by simp at hi⟩,
    fun g hg => by rcases hg with q | ⟨i, hi, _⟩; cases q; simp at hi, fun g hg => by rcases hg with q | ⟨i, hi, _⟩; cases q; simp at hi, hlo, hy, hw, low, hb⟩
/-- The end: what is built, read anywhere where its blocks are as they were. -/
theorem TC.done (h : TC Y V w base C op n l a c ks b d kr xs KB) {w' : World} {R : Nat} (hk : ∀ g, g ≠ R → w'.heap[g]? = w.heap[g]?) (hR : R < base ∨ R = C) :
    TmOwn w' (.mk op n l ks) ⟨a, c, b, d⟩ (fun g => ob a = some g ∨ KBlocks ks.length b KB g) ∧ ∀ g, (ob a = some g ∨ KBlocks ks.length b KB g) → base ≤ g := by
  have ha : ∀ g, ob a = some g → base ≤ g ∧ g ≠ C := fun g e => ⟨(h.ty.lt g (by rw [ob_eq]; exact e)).1, fun q => h.aC (by rw [← q]; exact e)⟩
  have hne : ∀ g, base ≤ g ∧ g ≠ C → g ≠ R := fun g q e => by rcases hR with r | r <;> omega
  refine ⟨.of (t := .mk op n l ks) (kr := kr) (xs := xs) (KB := KB) (owns_lower (owns_of_block h.ty fun g hg => hk g (hne g (ha g (by rw [← ob_eq]; exact hg)))) (Nat.zero_le _)) (h.kids.keep fun g hg => hk g (hne g (h.lk g hg))) h.da (fun g => Iff.rfl), fun g hg => ?_⟩
  rcases hg with e | hg
  · exact (ha g e).1
  · exact (h.lk g hg).1
end

end Go.Proofs.Yteffcfaoganciaa
