/- Texts of one claim, laid together: GrowL, RedsSpec, GrowP, RedsF. -/
import Derived.Test.YtncfbljablbglaaDoorZ3KGrow
import Derived.Test.YtncfbljablbglaaDoorZ3KHoldL
import Derived.Test.YtncfbljablbglaaDoorZ3GA
import Derived.Maps.AppendAt
set_option linter.unusedVariables false
set_option linter.unusedSimpArgs false
/- Lists of numbers, each in a block of its own, that are being gathered in a row of their own. -/
namespace Go.Proofs.YtncfbljablbglaaDoor
open Go.RowKit

theorem info_intss : (Tryd.prog.info? 22).map (fun i => (i.zero, i.size, i.bytes)) = some (some (.slice none 0 0), 1, 24) := by kernel_rfl
theorem owns_cap {w : World} {base : Nat} {e : TypeId} {size : Nat} {a : Option Addr} {n c : Nat} {xs : List Value} (h : w.ownsRow base e size (.slice a n c) n xs) : n ≤ c := by
  rcases h.2 with ⟨e1, e2⟩ | ⟨g, cap, cur, e1, _, _, h1, _⟩
  · cases e1
    omega
  · cases e1
    exact h1
theorem HoldR.cap {w : World} {lo hi : Nat} {a : Option Addr} {d : Nat} {l : List Int} (h : HoldR w lo hi a d l) : l.length ≤ d := by
  obtain ⟨⟨b, h3⟩, _⟩ := h
  exact owns_cap h3
/-- One more head. -/
def upd (hd : Nat → Option Addr × Nat) (k : Nat) (p : Option Addr × Nat) : Nat → Option Addr × Nat := fun i => if i = k then p else hd i
theorem upd_eq (hd : Nat → Option Addr × Nat) (k : Nat) (p : Option Addr × Nat) : upd hd k p k = p := by simp [upd]
theorem upd_ne {hd : Nat → Option Addr × Nat} {i k : Nat} (p : Option Addr × Nat) (h : i ≠ k) : upd hd k p i = hd i := by simp [upd, h]
theorem hds_snoc (ls : List (List Int)) (l : List Int) (hd : Nat → Option Addr × Nat) (p : Option Addr × Nat) : hds (ls ++ [l]) (upd hd ls.length p) = hds ls hd ++ [.slice p.1 l.length p.2] := by
  apply List.ext_getElem?
  intro i
  by_cases h1 : i < ls.length
  · have e1 : ls[i]? = some ls[i] := List.getElem?_eq_getElem h1
    have e2 : (ls ++ [l])[i]? = some ls[i] := by rw [List.getElem?_append_left h1]; exact e1
    rw [hds_at e2, List.getElem?_append_left (by rw [hds_len]; exact h1), hds_at e1, upd_ne p (by omega)]
  · by_cases h2 : i = ls.length
    · subst h2
      have e2 : (ls ++ [l])[ls.length]? = some l := by simp
      rw [hds_at e2, upd_eq, List.getElem?_append_right (by rw [hds_len]; omega), hds_len]
      simp
    · rw [List.getElem?_eq_none (by rw [hds_len]; simp; omega), List.getElem?_eq_none (by simp [hds_len]; omega)]

theorem newLs_nil {W : World} (y : Ext W) : NewLs W [] (.returned (.slice none 0 0)) y.w :=
  ⟨none, 0, fun _ => (none, 0), fun _ => False, y, rfl, rfl, ⟨World.ownsRow_nil _ _ _ _, fun i l h => by simp at h, fun i j g h => by simp at h, fun i g h => by simp at h, fun g => by simp [ob]⟩, fun q h => h.elim⟩
/-- The row out is the call's own; of its slices these lists are: each in a block of its own, made behind Y. -/
structure GrowL (Y w : World) (a : Option Addr) (c : Nat) (out : List Value) (ls : List (List Int)) (hd : Nat → Option Addr × Nat) : Prop where
  own : w.ownsRow Y.heap.size 22 1 (.slice a out.length c) out.length out
  sub : ∀ (i : Nat) (l : List Int), ls[i]? = some l → w.ownsRow Y.heap.size 3 1 (.slice (hd i).1 l.length (hd i).2) l.length (l.map (Value.int .i64))
  dj : ∀ (i j g : Nat), i < ls.length → j < ls.length → i ≠ j → ob (hd i).1 = some g → ob (hd j).1 ≠ some g
  da : ∀ (i g : Nat), i < ls.length → ob (hd i).1 = some g → ob a ≠ some g
  bel : Below Y.heap.size Y w
section
variable {Y w : World} {a : Option Addr} {c : Nat} {out : List Value} {ls : List (List Int)} {hd : Nat → Option Addr × Nat}
theorem GrowL.start (bel : Below Y.heap.size Y w) (own : w.ownsRow Y.heap.size 22 1 (.slice a out.length c) out.length out) (hd : Nat → Option Addr × Nat) : GrowL Y w a c out [] hd :=
  ⟨own, fun i l h => by simp at h, fun i j g h => by simp at h, fun i g h => by simp at h, bel⟩
theorem GrowL.ext (h : GrowL Y w a c out ls hd) (y : Ext w) : GrowL Y y.w a c out ls hd :=
  ⟨owns_ext h.own y, fun i l hi => owns_ext (h.sub i l hi) y, h.dj, h.da, h.bel.trans (y.below.mono h.bel.size)⟩
theorem GrowL.alloc (h : GrowL Y w a c out ls hd) (o : Obj) : GrowL Y (w.alloc o) a c out ls hd := h.ext ((Ext.self w).alloc o)
theorem GrowL.lt (h : GrowL Y w a c out ls hd) {i g : Nat} (hi : i < ls.length) (e : ob (hd i).1 = some g) : Y.heap.size ≤ g ∧ g < w.heap.size :=
  (h.sub i _ (List.getElem?_eq_getElem hi)).lt g (by rw [ob_eq]; exact e)
theorem GrowL.lta (h : GrowL Y w a c out ls hd) {g : Nat} (e : ob a = some g) : Y.heap.size ≤ g ∧ g < w.heap.size := h.own.lt g (by rw [ob_eq]; exact e)
theorem GrowL.add (h : GrowL Y w a c out ls hd) (y : Ext w) {b : Option Addr} {d : Nat} {l : List Int} (own : y.w.ownsRow w.heap.size 3 1 (.slice b l.length d) l.length (l.map (Value.int .i64))) :
    GrowL Y y.w a c out (ls ++ [l]) (upd hd ls.length (b, d)) := by
  have k := h.ext y
  have hn : ∀ g, ob b = some g → w.heap.size ≤ g := fun g e => (own.lt g (by rw [ob_eq]; exact e)).1
  refine ⟨k.own, fun i u hi => ?_, fun i j g hi hj hij e1 e2 => ?_, fun i g hi e1 e2 => ?_, k.bel⟩
  · by_cases e : i = ls.length
    · subst e
      simp at hi
      subst hi
      rw [upd_eq]
      exact owns_lower own h.bel.size
    · have hi2 : i < ls.length := by have := (List.getElem?_eq_some_iff.1 hi).1; simp at this; omega
      rw [List.getElem?_append_left hi2] at hi
      rw [upd_ne _ e]
      exact k.sub i u hi
  · simp at hi hj
    by_cases ei : i = ls.length
    · subst ei
      have hj2 : j < ls.length := by omega
      rw [upd_eq] at e1
      rw [upd_ne _ (by omega)] at e2
      have := h.lt hj2 e2
      have := hn g e1
      omega
    · have hi2 : i < ls.length := by omega
      rw [upd_ne _ ei] at e1
      by_cases ej : j = ls.length
      · subst ej
        rw [upd_eq] at e2
        have := h.lt hi2 e1
        have := hn g e2
        omega
      · rw [upd_ne _ ej] at e2
        exact h.dj i j g hi2 (by omega) hij e1 e2
  · simp at hi
    by_cases ei : i = ls.length
    · subst ei
      rw [upd_eq] at e1
      have := h.lta e2
      have := hn g e1
      omega
    · rw [upd_ne _ ei] at e1
      exact h.da i g (by omega) e1 e2
theorem GrowL.put (h : GrowL Y w a c out ls hd) {w' : World} {a' : Option Addr} {c' : Nat} {out' : List Value} (own : w'.ownsRow Y.heap.size 22 1 (.slice a' out'.length c') out'.length out') (gr : w.grownBy w' (ob a)) (hat : ob a' = ob a ∨ ob a' = some w.heap.size) :
    GrowL Y w' a' c' out' ls hd := by
  refine ⟨own, fun i l hi => owns_of_block (h.sub i l hi) fun g hg => ?_, h.dj, fun i g hi e1 e2 => ?_, h.bel.grown gr h.bel.size fun g hg => (h.lta hg).1⟩
  · rw [ob_eq] at hg
    have hi2 := (List.getElem?_eq_some_iff.1 hi).1
    exact gr.block g (h.lt hi2 hg).2 (fun e => h.da i g hi2 hg e.symm)
  · have := h.lt hi e1
    rcases hat with e | e
    · rw [e] at e2
      exact h.da i g hi e1 e2
    · rw [e] at e2
      cases e2
      omega
theorem GrowL.newLs (h : GrowL Y w a c (hds ls hd) ls hd) : NewLs Y ls (.returned (.slice a ls.length c)) w := by
  refine ⟨a, c, hd, fun g => ob a = some g ∨ ∃ i : Nat, i < ls.length ∧ ob (hd i).1 = some g, ⟨w, h.bel⟩, rfl, rfl, ⟨?_, fun i l hi => owns_lower (h.sub i l hi) (Nat.zero_le _), h.dj, h.da, fun g => Iff.rfl⟩, fun g hg => ?_⟩
  · have := h.own
    rw [hds_len] at this
    exact owns_lower this (Nat.zero_le _)
  · rcases hg with e | ⟨i, hi, e⟩
    · exact (h.lta e).1
    · exact (h.lt hi e).1
end
end Go.Proofs.YtncfbljablbglaaDoor
/- The paths to all redexes, plainly. Nothing of a program stands here. -/
namespace Go.Proofs.YtncfbljablbglaaDoor
open Go.RowKit

namespace Tm
open Classical in
mutual
/-- The paths to all redexes of a term that stands at a path. -/
noncomputable def reds : Tm → List Int → List (List Int) | .mk op n l ks, p => (if Red (.mk op n l ks) then [p] else []) ++ redsL p 0 ks
noncomputable def redsL (p : List Int) (j : Nat) : List Tm → List (List Int) | [] => [] | t :: l => t.reds (p ++ [(j : Int)]) ++ redsL p (j + 1) l
end
open Classical in
theorem reds_eq (t : Tm) (p : List Int) : t.reds p = (if Red t then [p] else []) ++ redsL p 0 t.kids := by
  cases t
  rw [reds]
  rfl
theorem reds_yes {t : Tm} (h : Red t) (p : List Int) : t.reds p = [p] ++ redsL p 0 t.kids := by rw [reds_eq, if_pos h]
theorem reds_no {t : Tm} (h : ¬ Red t) (p : List Int) : t.reds p = [] ++ redsL p 0 t.kids := by rw [reds_eq, if_neg h]
theorem redsL_take_succ (p : List Int) : ∀ {l : List Tm} {j k : Nat} {u : Tm}, l[k]? = some u → redsL p j (l.take (k + 1)) = redsL p j (l.take k) ++ u.reds (p ++ [((j + k : Nat) : Int)])
  | [], _, _, _, h => by simp at h
  | t :: l, j, 0, u, h => by simp at h; subst h; simp [redsL]
  | t :: l, j, k + 1, u, h => by
    simp only [List.take_succ_cons, redsL]
    rw [redsL_take_succ p (j := j + 1) (k := k) h, List.append_assoc, show j + 1 + k = j + (k + 1) by omega]
theorem redsL_len (p : List Int) : ∀ (l : List Tm) (j : Nat), (∀ t ∈ l, ∀ q, (t.reds q).length ≤ t.sz) → (redsL p j l).length ≤ szL l
  | [], _, _ => by simp [redsL]
  | t :: l, j, h => by
    simp only [redsL, List.length_append, szL]
    have h1 := h t (by simp) (p ++ [(j : Int)])
    have h2 := redsL_len p l (j + 1) fun u hu => h u (by simp [hu])
    omega
theorem reds_len (t : Tm) : ∀ p, (t.reds p).length ≤ t.sz := by
  induction t using Tm.ind with
  | h t ih =>
    intro p
    have h1 := redsL_len p t.kids 0 ih
    have h2 := t.sz_eq
    by_cases h : Red t
    · rw [reds_yes h]; simp; omega
    · rw [reds_no h]; simp; omega
theorem redsL_path (p : List Int) {n : Nat} : ∀ (l : List Tm) (j : Nat), (∀ t ∈ l, ∀ q, ∀ u ∈ t.reds q, u.length ≤ q.length + t.sz) → (∀ t ∈ l, t.sz ≤ n) → ∀ u ∈ redsL p j l, u.length ≤ p.length + 1 + n
  | [], _, _, _, u, hu => by simp [redsL] at hu
  | t :: l, j, h, hn, u, hu => by
    simp only [redsL, List.mem_append] at hu
    rcases hu with hu | hu
    · have h1 := h t (by simp) _ u hu
      have h2 := hn t (by simp)
      simp at h1
      omega
    · exact redsL_path p l (j + 1) (fun v hv => h v (by simp [hv])) (fun v hv => hn v (by simp [hv])) u hu
theorem reds_path (t : Tm) : ∀ p, ∀ u ∈ t.reds p, u.length ≤ p.length + t.sz := by
  induction t using Tm.ind with
  | h t ih =>
    intro p u hu
    have h2 := t.sz_eq
    rw [reds_eq, List.mem_append] at hu
    rcases hu with hu | hu
    · split at hu
      · simp at hu
        subst hu
        omega
      · simp at hu
    · have := redsL_path p (n := szL t.kids) t.kids 0 ih (fun v hv => szL_mem hv) u hu
      omega
end Tm
/-- What RedexesOf answers. -/
def RedsV (t : Tm) (o : List (List Int)) : Prop := (Written t ∧ o = t.reds []) ∨ (¬ Written t ∧ o = [])
theorem redsV_ex (t : Tm) : ∃ o, RedsV t o := by
  by_cases h : Written t
  · exact ⟨_, .inl ⟨h, rfl⟩⟩
  · exact ⟨_, .inr ⟨h, rfl⟩⟩
end Go.Proofs.YtncfbljablbglaaDoor
/- A row of numbers that is appended to, in place behind its length where there is room; more lists for a row of lists. -/
namespace Go.Proofs.YtncfbljablbglaaDoor
open Go.RowKit

theorem run_append_one_at (w : World) (base : Nat) {a : Option Addr} {c n : Nat} {xs : List Value} (hown : w.ownsRow base 3 1 (.slice a n c) n xs) {ad : Addr} {d : Nat} {u : Value} (hnews : ∀ j v, [u][j]? = some v → w.cell? (ad.add j) = some v) (h1 : u.oneCell' = true) (hn : n ≤ 1000) (hb : base ≤ w.heap.size) :
    ∃ a' c' w', (Builtin.append_ #[22, 22] 22 #[.slice a n c, .slice (some ad) 1 d]).run Tryd.prog w = .ok (.slice a' (n + 1) c') w' ∧ w'.ownsRow base 3 1 (.slice a' (n + 1) c') (n + 1) (xs ++ [u]) ∧ w.grownBy w' (ob a) ∧ ((a' = a ∧ c' = c) ∨ (ob a' = some w.heap.size ∧ ∃ y : Ext w, w' = y.w)) := by
  obtain ⟨i0, hi, hz, hz1, hz2⟩ := info_parts info_int
  obtain ⟨v', w', hr, hw, hg, -, -⟩ := run_append_own_at (P := Tryd.prog) w base 22 22 3 i0 (.int .i64 0) 1 8 Tryd.underlying22 hi hz hz1 hz2 rfl (by decide) (.slice a n c) n xs hown ad 1 d [u] rfl hnews (by simpa using h1) (by unfold maxLen; omega) (by omega) hb
  have hv : ∃ a' c', v' = .slice a' (n + 1) c' := by
    rcases hw.2 with ⟨_, e⟩ | ⟨g, cap, cur, e, _⟩
    · omega
    · exact ⟨_, _, e⟩
  obtain ⟨a', c', rfl⟩ := hv
  rw [ob_eq] at hg
  refine ⟨a', c', w', hr, hw, hg, ?_⟩
  rcases hown.2 with ⟨e, rfl⟩ | ⟨g, cap, cur, e, hbg, hgc, hnc, hcm, hcs, ht⟩
  · cases e
    have hr2 := run_append_nil (P := Tryd.prog) w 22 22 3 i0 (.int .i64 0) Tryd.underlying22 hi hz ad 1 d [u] (by rw [hz1]; rfl) hnews (by omega) (by omega) (by rw [hz2]; omega)
    rw [hr] at hr2
    injection hr2 with h3 h4
    cases h3
    exact .inr ⟨rfl, (Ext.self w).drew.alloc _, h4⟩
  · cases e
    by_cases hroom : n + 1 ≤ c
    · have hr2 := run_append_room (P := Tryd.prog) w 22 22 3 i0 Tryd.underlying22 hi g n c cur hgc ad 1 d [u] (by rw [hz1]; rfl) hnews (by simpa using h1) hroom (by rw [hz1, hcs]; simpa using hroom)
      rw [hr] at hr2
      injection hr2 with h3 h4
      cases h3
      exact .inl ⟨rfl, rfl⟩
    · have holds : ∀ j v, xs[j]? = some v → w.cell? ((⟨g, 0, none⟩ : Addr).add j) = some v := hown.cells (g := g) rfl
      have hr2 := run_append_grow (P := Tryd.prog) w 22 22 3 i0 (.int .i64 0) Tryd.underlying22 hi hz ⟨g, 0, none⟩ n c xs (by rw [hz1]; exact hown.1) holds ad 1 d [u] (by rw [hz1]; rfl) hnews (by omega) (by omega) (growslice_fits (by omega) (by rw [hz2]; omega))
      rw [hr] at hr2
      injection hr2 with h3 h4
      cases h3
      exact .inr ⟨rfl, (Ext.self w).drew.alloc _, h4⟩
/-- Where the row is longer by one, the shorter row is still there. -/
theorem owns_prefix {w : World} {base : Nat} {e : TypeId} {a : Option Addr} {n c : Nat} {xs : List Value} {u : Value} (h : w.ownsRow base e 1 (.slice a (n + 1) c) (n + 1) (xs ++ [u])) : w.ownsRow base e 1 (.slice a n c) n xs := by
  obtain ⟨h1, h2⟩ := h
  have hl : xs.length = n := by simpa using h1
  refine ⟨by omega, .inr ?_⟩
  rcases h2 with ⟨_, e1⟩ | ⟨g, cap, cur, e1, hb, hg, hn, hm, hs, ht⟩
  · omega
  · cases e1
    refine ⟨g, c, cur, rfl, hb, hg, by omega, hm, hs, ?_⟩
    have : (cur.toList.take ((n + 1) * 1)).take (n * 1) = (xs ++ [u]).take (n * 1) := by rw [ht]
    rw [List.take_take] at this
    rw [show min (n * 1) ((n + 1) * 1) = n * 1 by omega] at this
    rw [this, List.take_append_of_le_length (by omega), List.take_of_length_le (by omega)]
/-- A path, as a row that the call may append to. -/
theorem wp_growp {o : Oper} {ac : Act} {K : Act → World → Prop} {Q : Exit → Act → World → Prop} {w : World} (s x : Operand)
    (ho : o.op = .call { callee := .builtin .append, args := #[s, x], argTypes := #[22, 22] }) (hty : o.type = 22)
    {base : Nat} {a : Option Addr} {c : Nat} {l : List Int} (own : w.ownsRow base 3 1 (.slice a l.length c) l.length (l.map (Value.int .i64))) (hb : base ≤ w.heap.size) (hl : l.length ≤ 1000) {n : Nat} (hn : n = l.length) (hv : ac.eval s = .slice a n c) {v : Int} {ad : Addr} {d : Nat} (hx : ac.eval x = .slice (some ad) 1 d) (hs : ∀ j u, [Value.int .i64 v][j]? = some u → w.cell? (ad.add j) = some u)
    (k : ∀ a' c' w', w'.ownsRow base 3 1 (.slice a' (l ++ [v]).length c') (l ++ [v]).length ((l ++ [v]).map (Value.int .i64)) → w.grownBy w' (ob a) → ((a' = a ∧ c' = c) ∨ (ob a' = some w.heap.size ∧ ∃ y : Ext w, w' = y.w)) → K (ac.put o.dst (.slice a' (n + 1) c')) w') : Oper.wp Tryd.prog o ac w K Q := by
  subst hn
  obtain ⟨a', c', w', hr, h2, h3, h4⟩ := run_append_one_at w base own (d := d) hs rfl hl hb
  unfold Oper.wp execOp
  rw [hty]
  simp only [ho, resolve, invoke, builtin, Sem.run_bind, Sem.run_pure, Result.andThen_ok, List.map_toArray, List.map_cons, List.map_nil, hv, hx, hr]
  refine k a' c' w' ?_ h3 h4
  simpa using h2
theorem step_growp {ops : Array Oper} {o : Oper} {ac : Act} {K : Act → World → Prop} {Q : Exit → Act → World → Prop} {E : Prop} {w : World} (hgd : o.guard = none) (s x : Operand)
    (ho : o.op = .call { callee := .builtin .append, args := #[s, x], argTypes := #[22, 22] }) (hty : o.type = 22)
    {base : Nat} {a : Option Addr} {c : Nat} {l : List Int} (own : w.ownsRow base 3 1 (.slice a l.length c) l.length (l.map (Value.int .i64))) (hb : base ≤ w.heap.size) (hl : l.length ≤ 1000) {n : Nat} (hn : n = l.length) (hv : ac.eval s = .slice a n c) {v : Int} {ad : Addr} {d : Nat} (hx : ac.eval x = .slice (some ad) 1 d) (hs : ∀ j u, [Value.int .i64 v][j]? = some u → w.cell? (ad.add j) = some u)
    (k : ∀ a' c' w', w'.ownsRow base 3 1 (.slice a' (l ++ [v]).length c') (l ++ [v]).length ((l ++ [v]).map (Value.int .i64)) → w.grownBy w' (ob a) → ((a' = a ∧ c' = c) ∨ (ob a' = some w.heap.size ∧ ∃ y : Ext w, w' = y.w)) → K (ac.put o.dst (.slice a' (n + 1) c')) w') :
    if Region.wanted o (yielded ops ac.tmps) = true then Oper.wp Tryd.prog o ac w K Q else E := by
  have hw : Region.wanted o (yielded ops ac.tmps) = true := by simp [Region.wanted, hgd]
  rw [if_pos hw]
  exact wp_growp s x ho hty own hb hl hn hv hx hs k
/-- Heads of lists, side by side. -/
def cat (hd : Nat → Option Addr × Nat) (n : Nat) (hd2 : Nat → Option Addr × Nat) : Nat → Option Addr × Nat := fun i => if i < n then hd i else hd2 (i - n)
theorem cat_lo {hd hd2 : Nat → Option Addr × Nat} {i n : Nat} (h : i < n) : cat hd n hd2 i = hd i := by simp [cat, h]
theorem cat_hi {hd hd2 : Nat → Option Addr × Nat} {i n : Nat} (h : ¬ i < n) : cat hd n hd2 i = hd2 (i - n) := by simp [cat, h]
theorem hds_cat (ls l2 : List (List Int)) (hd hd2 : Nat → Option Addr × Nat) : hds (ls ++ l2) (cat hd ls.length hd2) = hds ls hd ++ hds l2 hd2 := by
  apply List.ext_getElem?
  intro i
  by_cases h1 : i < ls.length
  · have e1 : ls[i]? = some ls[i] := List.getElem?_eq_getElem h1
    have e2 : (ls ++ l2)[i]? = some ls[i] := by rw [List.getElem?_append_left h1]; exact e1
    rw [hds_at e2, List.getElem?_append_left (by rw [hds_len]; exact h1), hds_at e1, cat_lo h1]
  · rw [List.getElem?_append_right (by rw [hds_len]; omega), hds_len]
    by_cases h2 : i - ls.length < l2.length
    · have e1 : l2[i - ls.length]? = some l2[i - ls.length] := List.getElem?_eq_getElem h2
      have e2 : (ls ++ l2)[i]? = some l2[i - ls.length] := by rw [List.getElem?_append_right (by omega)]; exact e1
      rw [hds_at e2, hds_at e1, cat_hi h1]
    · rw [List.getElem?_eq_none (by rw [hds_len]; simp; omega), List.getElem?_eq_none (by simp [hds_len]; omega)]
section
variable {Y w : World} {a : Option Addr} {c : Nat} {out : List Value} {ls : List (List Int)} {hd : Nat → Option Addr × Nat}
/-- More lists, all in blocks of their own. -/
theorem GrowL.more (h : GrowL Y w a c out ls hd) (y : Ext w) {a2 : Option Addr} {c2 : Nat} {l2 : List (List Int)} {hd2 : Nat → Option Addr × Nat} {B : Nat → Prop} (own : LsOwn y.w a2 c2 l2 hd2 B) (hlo : ∀ g, B g → w.heap.size ≤ g) :
    GrowL Y y.w a c out (ls ++ l2) (cat hd ls.length hd2) := by
  have k := h.ext y
  have hn : ∀ i g, i < l2.length → ob (hd2 i).1 = some g → w.heap.size ≤ g := fun i g hi e => hlo g ((own.bl g).2 (.inr ⟨i, hi, e⟩))
  refine ⟨k.own, fun i u hi => ?_, fun i j g hi hj hij e1 e2 => ?_, fun i g hi e1 e2 => ?_, k.bel⟩
  · by_cases e : i < ls.length
    · rw [List.getElem?_append_left e] at hi
      rw [cat_lo e]
      exact k.sub i u hi
    · rw [List.getElem?_append_right (by omega)] at hi
      rw [cat_hi e]
      have h1 := own.sub _ u hi
      have hl2 := (List.getElem?_eq_some_iff.1 hi).1
      obtain ⟨q1, q2⟩ := h1
      refine ⟨q1, ?_⟩
      rcases q2 with q2 | ⟨g, cap, cur, q3, q4, q5⟩
      · exact .inl q2
      · refine .inr ⟨g, cap, cur, q3, ?_, q5⟩
        have h3 : ob (hd2 (i - ls.length)).1 = some g := by
          have := congrArg Value.ownBlock q3
          rw [ob_eq] at this
          exact this
        have := hn _ g hl2 h3
        have := h.bel.size
        omega
  · simp at hi hj
    by_cases ei : i < ls.length
    · rw [cat_lo ei] at e1
      have h1 := h.lt ei e1
      by_cases ej : j < ls.length
      · rw [cat_lo ej] at e2
        exact h.dj i j g ei ej hij e1 e2
      · rw [cat_hi ej] at e2
        have := hn _ g (by omega) e2
        omega
    · rw [cat_hi ei] at e1
      have h1 := hn _ g (by omega) e1
      by_cases ej : j < ls.length
      · rw [cat_lo ej] at e2
        have := h.lt ej e2
        omega
      · rw [cat_hi ej] at e2
        exact own.dj _ _ g (by omega) (by omega) (by omega) e1 e2
  · simp at hi
    by_cases ei : i < ls.length
    · rw [cat_lo ei] at e1
      exact h.da i g ei e1 e2
    · rw [cat_hi ei] at e1
      have h1 := hn _ g (by omega) e1
      have := h.lta e2
      omega
theorem wpList_growLr {ops : Array Oper} {rest : List Oper} {o : Oper} {ac : Act} {Q : Exit → Act → World → Prop} (hgd : o.guard = none) (s x : Operand)
    (ho : o.op = .call { callee := .builtin .append, args := #[s, x], argTypes := #[72, 72] })
    (h : GrowL Y w a c out ls hd) (hl : out.length ≤ 1000) {n : Nat} (hn : n = out.length) (hv : ac.eval s = .slice a n c) {u : Value} (h1 : u.oneCell' = true) {ad : Addr} {d : Nat} (hx : ac.eval x = .slice (some ad) 1 d) (hs : ∀ j v, [u][j]? = some v → w.cell? (ad.add j) = some v)
    (k : ∀ a' c' w', GrowL Y w' a' c' (out ++ [u]) ls hd → w.grownBy w' (ob a) → (ob a' = ob a ∨ ob a' = some w.heap.size) → wpList Tryd.prog ops Q rest (ac.put o.dst (.slice a' (n + 1) c')) w') : wpList Tryd.prog ops Q (o :: rest) ac w := by
  subst hn
  obtain ⟨i0, hi0, hz0, hz1, hz2⟩ := info_parts info_intss
  refine wpList_append_own_at w hgd s x 72 ho Y.heap.size 22 i0 (.slice none 0 0) 1 24 Tryd.underlying72 hi0 hz0 hz1 hz2 rfl (by decide) (.slice a out.length c) out.length out hv h.own ad 1 d [u] hx rfl hs (by simpa using h1) (by unfold maxLen; omega) (by omega) h.bel.size ?_
  intro v' w' own gr _ hat
  obtain ⟨a', c', rfl⟩ : ∃ a' c', v' = .slice a' (out.length + 1) c' := by
    rcases own.2 with ⟨_, e⟩ | ⟨g, cap, cur, e, _⟩
    · omega
    · exact ⟨_, _, e⟩
  rw [ob_eq] at gr
  rw [ob_eq, ob_eq] at hat
  refine k a' c' w' (h.put ?_ gr hat) gr hat
  rw [List.length_append]
  exact own
theorem step_growLs {ops : Array Oper} {o : Oper} {ac : Act} {K : Act → World → Prop} {Q : Exit → Act → World → Prop} {E : Prop} (hgd : o.guard = none) (s x : Operand)
    (ho : o.op = .call { callee := .builtin .append, args := #[s, x], argTypes := #[72, 72] })
    (h : GrowL Y w a c out ls hd) (hl : out.length ≤ 1000) {n : Nat} (hn : n = out.length) (hv : ac.eval s = .slice a n c) {us : List Value} (h1 : ∀ u ∈ us, u.oneCell' = true) {ad : Addr} {d m : Nat} (hm : m = us.length) (hul : us.length ≤ 1000) (hx : ac.eval x = .slice (some ad) m d) (hs : ∀ j v, us[j]? = some v → w.cell? (ad.add j) = some v)
    (k : ∀ a' c' w', GrowL Y w' a' c' (out ++ us) ls hd → a' = none → a = none → K (ac.put o.dst (.slice a' (n + m) c')) w')
    (k' : ∀ a' c' w', GrowL Y w' (some a') c' (out ++ us) ls hd → w.grownBy w' (ob a) → (ob (some a') = ob a ∨ ob (some a') = some w.heap.size) → K (ac.put o.dst (.slice (some a') (n + m) c')) w') : if Region.wanted o (yielded ops ac.tmps) = true then Oper.wp Tryd.prog o ac w K Q else E := by
  subst hn
  subst hm
  obtain ⟨i0, hi0, hz0, hz1, hz2⟩ := info_parts info_intss
  have hw : Region.wanted o (yielded ops ac.tmps) = true := by simp [Region.wanted, hgd]
  rw [if_pos hw]
  obtain ⟨v', w', hr, own, gr, nil, hat⟩ := run_append_own_at (P := Tryd.prog) w Y.heap.size 72 o.type 22 i0 (.slice none 0 0) 1 24 Tryd.underlying72 hi0 hz0 hz1 hz2 rfl (by decide) (.slice a out.length c) out.length out h.own ad us.length d us (by simp) hs h1 (by unfold maxLen; omega) (by omega) h.bel.size
  unfold Oper.wp execOp
  simp only [ho, resolve, invoke, builtin, Sem.run_bind, Sem.run_pure, Result.andThen_ok, List.map_toArray, List.map_cons, List.map_nil, hv, hx, hr]
  by_cases e : v' = .slice none 0 0
  · obtain ⟨e1, h0⟩ := nil.1 e
    have h2 : out.length = 0 ∧ us.length = 0 := by
      injection e1 with q1 q2 q3
      exact ⟨by omega, h0⟩
    have h3 : a = none := by injection e1
    subst h3
    subst e
    have := k none 0 w' (h.put (by rw [List.length_append, h2.1, h2.2]; rw [h2.1, h2.2] at own; exact own) (by rw [ob_eq] at gr; exact gr) (.inl rfl)) rfl rfl
    rw [h2.1, h2.2] at this
    exact this
  · rcases own.2 with ⟨e', h0⟩ | ⟨g, cap, cur, e', _⟩
    · exact absurd e' e
    · subst e'
      rw [ob_eq] at gr
      rw [ob_eq, ob_eq] at hat
      refine k' _ cap w' (h.put ?_ gr hat) gr hat
      rw [List.length_append]
      exact own
end
theorem hds_one {ls : List (List Int)} {hd : Nat → Option Addr × Nat} : ∀ u ∈ hds ls hd, u.oneCell' = true := by
  intro u hu
  obtain ⟨i, hi⟩ := List.getElem?_of_mem hu
  by_cases h : i < ls.length
  · have e : ls[i]? = some ls[i] := List.getElem?_eq_getElem h
    rw [hds_at e] at hi
    cases hi
    rfl
  · rw [List.getElem?_eq_none (by rw [hds_len]; omega)] at hi
    cases hi
end Go.Proofs.YtncfbljablbglaaDoor
/- What the gathering of paths leaves as it was. Nothing is walked here. -/
namespace Go.Proofs.YtncfbljablbglaaDoor
open Go.RowKit

/-- A block of the lists gathered. -/
def Blk (a : Option Addr) (n : Nat) (hd : Nat → Option Addr × Nat) (g : Nat) : Prop := ob a = some g ∨ ∃ i : Nat, i < n ∧ ob (hd i).1 = some g
/-- All is as it was but the lists, and the path behind its length. -/
def Fr (w w' : World) (a : Option Addr) (n : Nat) (hd : Nat → Option Addr × Nat) (pa : Option Addr) : Prop := w.heap.size ≤ w'.heap.size ∧ ∀ g, g < w.heap.size → ¬ Blk a n hd g → ob pa ≠ some g → w'.heap[g]? = w.heap[g]?
/-- The state of the gathering: the lists, and a path that may be appended to. -/
structure RP (Y w : World) (a : Option Addr) (c : Nat) (ls : List (List Int)) (hd : Nat → Option Addr × Nat) (pa : Option Addr) (pc : Nat) (p : List Int) : Prop where
  gl : GrowL Y w a c (hds ls hd) ls hd
  own : w.ownsRow Y.heap.size 3 1 (.slice pa p.length pc) p.length (p.map (Value.int .i64))
  dj : ∀ g, ob pa = some g → ¬ Blk a ls.length hd g
section
variable {Y w : World} {a : Option Addr} {c : Nat} {ls : List (List Int)} {hd : Nat → Option Addr × Nat} {pa : Option Addr} {pc : Nat} {p : List Int}
theorem RP.start (bel : Below Y.heap.size Y w) (hd : Nat → Option Addr × Nat) : RP Y w none 0 [] hd none 0 [] :=
  ⟨GrowL.start bel (World.ownsRow_nil _ _ _ _) hd, World.ownsRow_nil _ _ _ _, fun g h => by cases h⟩
theorem RP.blt (h : RP Y w a c ls hd pa pc p) {g : Nat} (hb : Blk a ls.length hd g) : Y.heap.size ≤ g ∧ g < w.heap.size := by
  rcases hb with e | ⟨i, hi, e⟩
  · exact h.gl.lta e
  · exact h.gl.lt hi e
theorem RP.plt (h : RP Y w a c ls hd pa pc p) {g : Nat} (e : ob pa = some g) : Y.heap.size ≤ g ∧ g < w.heap.size := h.own.lt g (by rw [ob_eq]; exact e)
theorem RP.ext (h : RP Y w a c ls hd pa pc p) (y : Ext w) : RP Y y.w a c ls hd pa pc p := ⟨h.gl.ext y, owns_ext h.own y, h.dj⟩
theorem RP.bel (h : RP Y w a c ls hd pa pc p) : Below Y.heap.size Y w := h.gl.bel
theorem RP.row (h : RP Y w a c ls hd pa pc p) : Row w (Value.int .i64) pa p := own_row h.own
/-- One list more, in a new block: its head is put. -/
theorem RP.snoc (h : RP Y w a c ls hd pa pc p) (y : Ext w) {b : Option Addr} {d : Nat} {l : List Int} (own : y.w.ownsRow w.heap.size 3 1 (.slice b l.length d) l.length (l.map (Value.int .i64)))
    {w' : World} {a' : Option Addr} {c' : Nat} (g' : GrowL Y w' a' c' (hds (ls ++ [l]) (upd hd ls.length (b, d))) (ls ++ [l]) (upd hd ls.length (b, d))) (gr : y.w.grownBy w' (ob a)) (hat : ob a' = ob a ∨ ob a' = some y.w.heap.size) :
    RP Y w' a' c' (ls ++ [l]) (upd hd ls.length (b, d)) pa pc p ∧ Fr w w' a ls.length hd pa ∧ ∀ g, Blk a' (ls ++ [l]).length (upd hd ls.length (b, d)) g → Blk a ls.length hd g ∨ w.heap.size ≤ g := by
  have hys := y.size
  have hbl : ∀ g, Blk a' (ls ++ [l]).length (upd hd ls.length (b, d)) g → Blk a ls.length hd g ∨ w.heap.size ≤ g := by
    rintro g (e | ⟨i, hi, e⟩)
    · rcases hat with e2 | e2
      · exact .inl (.inl (by rw [← e2]; exact e))
      · rw [e2] at e; cases e; exact .inr hys
    · by_cases ei : i = ls.length
      · subst ei
        rw [upd_eq] at e
        exact .inr (own.lt g (by rw [ob_eq]; exact e)).1
      · rw [upd_ne _ ei] at e
        simp at hi
        exact .inl (.inr ⟨i, by omega, e⟩)
  have hfr : Fr w w' a ls.length hd pa := ⟨Nat.le_trans hys gr.size, fun g hg ha _ => (gr.block g (by omega) (fun e => ha (.inl e.symm))).trans (y.below.block g hg)⟩
  refine ⟨⟨g', owns_of_block (owns_ext h.own y) fun g hg => ?_, fun g hg hb => ?_⟩, hfr, hbl⟩
  · rw [ob_eq] at hg
    exact gr.block g (by have := (h.plt hg).2; omega) fun e => h.dj g hg (.inl e.symm)
  · rcases hbl g hb with h1 | h1
    · exact h.dj g hg h1
    · have := (h.plt hg).2
      omega
/-- The path of a kid: longer by one. -/
theorem RP.down (h : RP Y w a c ls hd pa pc p) (y : Ext w) {v : Int} {w' : World} {pa' : Option Addr} {pc' : Nat} (own : w'.ownsRow Y.heap.size 3 1 (.slice pa' (p ++ [v]).length pc') (p ++ [v]).length ((p ++ [v]).map (Value.int .i64))) (gr : y.w.grownBy w' (ob pa)) (hat : (pa' = pa ∧ pc' = pc) ∨ (ob pa' = some y.w.heap.size ∧ ∃ z : Ext y.w, w' = z.w)) :
    RP Y w' a c ls hd pa' pc' (p ++ [v]) ∧ w'.ownsRow Y.heap.size 3 1 (.slice pa p.length pc) p.length (p.map (Value.int .i64)) := by
  have hys := y.size
  have hlen : (p ++ [v]).length = p.length + 1 := by simp
  have hmap : (p ++ [v]).map (Value.int .i64) = p.map (Value.int .i64) ++ [.int .i64 v] := by simp
  have gl : GrowL Y w' a c (hds ls hd) ls hd := by
    have k := h.gl.ext y
    have hne : ∀ g, Blk a ls.length hd g → w'.heap[g]? = y.w.heap[g]? := fun g hb => gr.block g (by have := (h.blt hb).2; omega) fun e => h.dj g e.symm hb
    refine ⟨owns_of_block k.own fun g hg => hne g (.inl (by rw [← ob_eq]; exact hg)), fun i l hi => owns_of_block (k.sub i l hi) fun g hg => hne g (.inr ⟨i, (List.getElem?_eq_some_iff.1 hi).1, by rw [← ob_eq]; exact hg⟩), k.dj, k.da, ?_⟩
    exact k.bel.grown gr k.bel.size fun g hg => (h.plt hg).1
  refine ⟨⟨gl, own, fun g hg hb => ?_⟩, ?_⟩
  · rcases hat with ⟨rfl, _⟩ | ⟨e, _⟩
    · exact h.dj g hg hb
    · rw [e] at hg
      cases hg
      have := (h.blt hb).2
      omega
  · rcases hat with ⟨rfl, rfl⟩ | ⟨e, z, rfl⟩
    · rw [hlen, hmap] at own
      exact owns_prefix own
    · exact owns_ext (owns_ext h.own y) z
/-- Behind the call on a kid the path is as it was. -/
theorem RP.up (h : RP Y w a c ls hd pa pc p) (y : Ext w) {v : Int} {w1 : World} {pa' : Option Addr} {pc' : Nat} (gr : y.w.grownBy w1 (ob pa)) (hat : (pa' = pa ∧ pc' = pc) ∨ (ob pa' = some y.w.heap.size ∧ ∃ z : Ext y.w, w1 = z.w))
    {w2 : World} {a' : Option Addr} {c' : Nat} {l2 : List (List Int)} {hd' : Nat → Option Addr × Nat} (h2 : RP Y w2 a' c' l2 hd' pa' pc' (p ++ [v])) (fr : Fr w1 w2 a ls.length hd pa') (hb2 : ∀ g, Blk a' l2.length hd' g → Blk a ls.length hd g ∨ w1.heap.size ≤ g)
    (hown : w1.ownsRow Y.heap.size 3 1 (.slice pa p.length pc) p.length (p.map (Value.int .i64))) :
    RP Y w2 a' c' l2 hd' pa pc p ∧ Fr w w2 a ls.length hd pa ∧ ∀ g, Blk a' l2.length hd' g → Blk a ls.length hd g ∨ w.heap.size ≤ g := by
  have hys := y.size
  have hs1 := gr.size
  have hlen : (p ++ [v]).length = p.length + 1 := by simp
  have hmap : (p ++ [v]).map (Value.int .i64) = p.map (Value.int .i64) ++ [.int .i64 v] := by simp
  refine ⟨⟨h2.gl, ?_, fun g hg hb => ?_⟩, ⟨Nat.le_trans hys (Nat.le_trans hs1 fr.1), fun g hg ha hp => ?_⟩, fun g hb => ?_⟩
  · rcases hat with ⟨rfl, rfl⟩ | ⟨e, _⟩
    · have := h2.own
      rw [hlen, hmap] at this
      exact owns_prefix this
    · refine owns_of_block hown fun g hg => ?_
      rw [ob_eq] at hg
      have hlt := (h.plt hg).2
      refine fr.2 g (by omega) (h.dj g hg) fun e2 => ?_
      rw [e] at e2
      cases e2
      omega
  · rcases hb2 g hb with h1 | h1
    · exact h.dj g hg h1
    · have := (h.plt hg).2
      omega
  · rw [fr.2 g (by omega) ha fun e2 => ?_, gr.block g (by omega) (fun e => hp e.symm), y.below.block g hg]
    rcases hat with ⟨rfl, _⟩ | ⟨e, _⟩
    · exact hp e2
    · rw [e] at e2
      cases e2
      omega
  · rcases hb2 g hb with h1 | h1
    · exact .inl h1
    · exact .inr (by omega)
theorem Fr.trans {w1 w2 w3 : World} {n : Nat} {a2 : Option Addr} {n2 : Nat} {hd2 : Nat → Option Addr × Nat} (h : Fr w1 w2 a n hd pa) (k : Fr w2 w3 a2 n2 hd2 pa) (ha : ∀ g, Blk a2 n2 hd2 g → Blk a n hd g ∨ w1.heap.size ≤ g) : Fr w1 w3 a n hd pa :=
  ⟨Nat.le_trans h.1 k.1, fun g hg h1 h2 => (k.2 g (by have := h.1; omega) (fun e => by rcases ha g e with q | q; exact h1 q; omega) h2).trans (h.2 g hg h1 h2)⟩
theorem Fr.ext {w' : World} {n : Nat} (y : Ext w) (h : Fr y.w w' a n hd pa) : Fr w w' a n hd pa :=
  ⟨Nat.le_trans y.size h.1, fun g hg h1 h2 => (h.2 g (by have := y.size; omega) h1 h2).trans (y.below.block g hg)⟩
theorem Fr.of {n : Nat} (y : Ext w) : Fr w y.w a n hd pa := ⟨y.size, fun g hg _ _ => y.below.block g hg⟩
/-- What a call of the gathering answers. -/
def RedA (Y w : World) (a : Option Addr) (ls : List (List Int)) (hd : Nat → Option Addr × Nat) (pa : Option Addr) (pc : Nat) (p : List Int) (l2 : List (List Int)) : Ending → World → Prop := fun e w' =>
  ∃ (a' : Option Addr) (c' : Nat) (hd' : Nat → Option Addr × Nat), e = .returned (.slice a' l2.length c') ∧ RP Y w' a' c' l2 hd' pa pc p ∧ Fr w w' a ls.length hd pa ∧ ∀ g, Blk a' l2.length hd' g → Blk a ls.length hd g ∨ w.heap.size ≤ g
end
end Go.Proofs.YtncfbljablbglaaDoor
