
/- A row of numbers that is appended to, in place behind its length where there is room; more lists for a row of lists. -/
import Derived.Test.YtoefeijnnnioeaaDoorKGrowL
set_option linter.unusedVariables false
set_option linter.unusedSimpArgs false
namespace Go.Proofs.YtoefeijnnnioeaaDoor
open Go.RowKit

theorem run_append_one_at (w : World) (base : Nat) {a : Option Addr} {c n : Nat} {xs : List Value} (hown : w.ownsRow base 3 1 (.slice a n c) n xs) {ad : Addr} {d : Nat} {u : Value} (hnews : ∀ j v, [u][j]? = some v → w.cell? (ad.add j) = some v) (h1 : u.oneCell' = true) (hn : n ≤ 1000) (hb : base ≤ w.heap.size) :
    ∃ a' c' w', (Builtin.append_ #[22, 22] 22 #[.slice a n c, .slice (some ad) 1 d]).run Tryd.prog w = .ok (.slice a' (n + 1) c') w' ∧ w'.ownsRow base 3 1 (.slice a' (n + 1) c') (n + 1) (xs ++ [u]) ∧ w.grownBy w' (ob a) ∧ ((a' = a ∧ c' = c) ∨ (ob a' = some w.heap.size ∧ ∃ y : Ext w, w' = y.w)) := by
  obtain ⟨i0, hi, hz, hz1, hz2⟩ := info_parts info_int
  obtain ⟨v', w', hr, hw, hg, -, -⟩ := run_append_own_at (P := Tryd.prog) w base 22 22 3 i0 (.int .i64 0) 1 8 Tryd.underlying22 hi hz hz1 hz2 rfl (by decide) (.slice a n c) n xs hown ad 1 d [u] rfl hnews (by simpa using h1) (by unfold maxLen; omega) (by omega) hb
  have hv : ∃ a' c', v' = .slice a' (n + 1) c' := by
    rcases hw.2 with ⟨_, e⟩ | ⟨g, cap, cur, e, _⟩
    · omega
    · exact ⟨_, _, e⟩
  obtain ⟨a', c', rfl⟩ := hv
  rw [ob_eq] at hg
  refine ⟨a', c', w', hr, hw, hg, ?_⟩
  rcases hown.2 with ⟨e, rfl⟩ | ⟨g, cap, cur, e, hbg, hgc, hnc, hcm, hcs, ht⟩
  · cases e
    have hr2 := run_append_nil (P := Tryd.prog) w 22 22 3 i0 (.int .i64 0) Tryd.underlying22 hi hz ad 1 d [u] (by rw [hz1]; rfl) hnews (by omega) (by omega) (by rw [hz2]; omega)
    rw [hr] at hr2
    injection hr2 with h3 h4
    cases h3
    exact .inr ⟨rfl, (Ext.self w).drew.alloc _, h4⟩
  · cases e
    by_cases hroom : n + 1 ≤ c
    · have hr2 := run_append_room (P := Tryd.prog) w 22 22 3 i0 Tryd.underlying22 hi g n c cur hgc ad 1 d [u] (by rw [hz1]; rfl) hnews (by simpa using h1) hroom (by rw [hz1, hcs]; simpa using hroom)
      rw [hr] at hr2
      injection hr2 with h3 h4
      cases h3
      exact .inl ⟨rfl, rfl⟩
    · have holds : ∀ j v, xs[j]? = some v → w.cell? ((⟨g, 0, none⟩ : Addr).add j) = some v := hown.cells (g := g) rfl
      have hr2 := run_append_grow (P := Tryd.prog) w 22 22 3 i0 (.int .i64 0) Tryd.underlying22 hi hz ⟨g, 0, none⟩ n c xs (by rw [hz1]; exact hown.1) holds ad 1 d [u] (by rw [hz1]; rfl) hnews (by omega) (by omega) (growslice_fits (by omega) (by rw [hz2]; omega))
      rw [hr] at hr2
      injection hr2 with h3 h4
      cases h3
      exact .inr ⟨rfl, (Ext.self w).drew.alloc _, h4⟩
/-- Where the row is longer by one, the shorter row is still there. -/
theorem owns_prefix {w : World} {base : Nat} {e : TypeId} {a : Option Addr} {n c : Nat} {xs : List Value} {u : Value} (h : w.ownsRow base e 1 (.slice a (n + 1) c) (n + 1) (xs ++ [u])) : w.ownsRow base e 1 (.slice a n c) n xs := by
  obtain ⟨h1, h2⟩ := h
  have hl : xs.length = n := by simpa using h1
  refine ⟨by omega, .inr ?_⟩
  rcases h2 with ⟨_, e1⟩ | ⟨g, cap, cur, e1, hb, hg, hn, hm, hs, ht⟩
  · omega
  · cases e1
    refine ⟨g, c, cur, rfl, hb, hg, by omega, hm, hs, ?_⟩
    have : (cur.toList.take ((n + 1) * 1)).take (n * 1) = (xs ++ [u]).take (n * 1) := by rw [ht]
    rw [List.take_take] at this
    rw [show min (n * 1) ((n + 1) * 1) = n * 1 by omega] at this
    rw [this, List.take_append_of_le_length (by omega), List.take_of_length_le (by omega)]
/-- A path, as a row that the call may append to. -/
theorem wp_growp {o : Oper} {ac : Act} {K : Act → World → Prop} {Q : Exit → Act → World → Prop} {w : World} (s x : Operand)
    (ho : o.op = .call { callee := .builtin .append, args := #[s, x], argTypes := #[22, 22] }) (hty : o.type = 22)
    {base : Nat} {a : Option Addr} {c : Nat} {l : List Int} (own : w.ownsRow base 3 1 (.slice a l.length c) l.length (l.map (Value.int .i64))) (hb : base ≤ w.heap.size) (hl : l.length ≤ 1000) {n : Nat} (hn : n = l.length) (hv : ac.eval s = .slice a n c) {v : Int} {ad : Addr} {d : Nat} (hx : ac.eval x = .slice (some ad) 1 d) (hs : ∀ j u, [Value.int .i64 v][j]? = some u → w.cell? (ad.add j) = some u)
    (k : ∀ a' c' w', w'.ownsRow base 3 1 (.slice a' (l ++ [v]).length c') (l ++ [v]).length ((l ++ [v]).map (Value.int .i64)) → w.grownBy w' (ob a) → ((a' = a ∧ c' = c) ∨ (ob a' = some w.heap.size ∧ ∃ y : Ext w, w' = y.w)) → K (ac.put o.dst (.slice a' (n + 1) c')) w') : Oper.wp Tryd.prog o ac w K Q := by
  subst hn
  obtain ⟨a', c', w', hr, h2, h3, h4⟩ := run_append_one_at w base own (d := d) hs rfl hl hb
  unfold Oper.wp execOp
  rw [hty]
  simp only [ho, resolve, invoke, builtin, Sem.run_bind, Sem.run_pure, Result.andThen_ok, List.map_toArray, List.map_cons, List.map_nil, hv, hx, hr]
  refine k a' c' w' ?_ h3 h4
  simpa using h2
theorem step_growp {ops : Array Oper} {o : Oper} {ac : Act} {K : Act → World → Prop} {Q : Exit → Act → World → Prop} {E : Prop} {w : World} (hgd : o.guard = none) (s x : Operand)
    (ho : o.op = .call { callee := .builtin .append, args := #[s, x], argTypes := #[22, 22] }) (hty : o.type = 22)
    {base : Nat} {a : Option Addr} {c : Nat} {l : List Int} (own : w.ownsRow base 3 1 (.slice a l.length c) l.length (l.map (Value.int .i64))) (hb : base ≤ w.heap.size) (hl : l.length ≤ 1000) {n : Nat} (hn : n = l.length) (hv : ac.eval s = .slice a n c) {v : Int} {ad : Addr} {d : Nat} (hx : ac.eval x = .slice (some ad) 1 d) (hs : ∀ j u, [Value.int .i64 v][j]? = some u → w.cell? (ad.add j) = some u)
    (k : ∀ a' c' w', w'.ownsRow base 3 1 (.slice a' (l ++ [v]).length c') (l ++ [v]).length ((l ++ [v]).map (Value.int .i64)) → w.grownBy w' (ob a) → ((a' = a ∧ c' = c) ∨ (ob a' = some w.heap.size ∧ ∃ y : Ext w, w' = y.w)) → K (ac.put o.dst (.slice a' (n + 1) c')) w') :
    if Region.wanted o (yielded ops ac.tmps) = true then Oper.wp Tryd.prog o ac w K Q else E := by
  have hw : Region.wanted o (yielded ops ac.tmps) = true := by simp [Region.wanted, hgd]
  rw [if_pos hw]
  exact wp_growp s x ho hty own hb hl hn hv hx hs k
/-- Heads of lists, side by side. -/
def cat (hd : Nat → Option Addr × Nat) (n : Nat) (hd2 : Nat → Option Addr × Nat) : Nat → Option Addr × Nat := fun i => if i < n then hd i else hd2 (i - n)
theorem cat_lo {hd hd2 : Nat → Option Addr × Nat} {i n : Nat} (h : i < n) : cat hd n hd2 i = hd i := by simp [cat, h]
theorem cat_hi {hd hd2 : Nat → Option Addr × Nat} {i n : Nat} (h : ¬ i < n) : cat hd n hd2 i = hd2 (i - n) := by simp [cat, h]
theorem hds_cat (ls l2 : List (List Int)) (hd hd2 : Nat → Option Addr × Nat) : hds (ls ++ l2) (cat hd ls.length hd2) = hds ls hd ++ hds l2 hd2 := by
  apply List.ext_getElem?
  intro i
  by_cases h1 : i < ls.length
  · have e1 : ls[i]? = some ls[i] := List.getElem?_eq_getElem h1
    have e2 : (ls ++ l2)[i]? = some ls[i] := by rw [List.getElem?_append_left h1]; exact e1
    rw [hds_at e2, List.getElem?_append_left (by rw [hds_len]; exact h1), hds_at e1, cat_lo h1]
  · rw [List.getElem?_append_right (by rw [hds_len]; omega), hds_len]
    by_cases h2 : i - ls.length < l2.length
    · have e1 : l2[i - ls.length]? = some l2[i - ls.length] := List.getElem?_eq_getElem h2
      have e2 : (ls ++ l2)[i]? = some l2[i - ls.length] := by rw [List.getElem?_append_right (by omega)]; exact e1
      rw [hds_at e2, hds_at e1, cat_hi h1]
    · rw [List.getElem?_eq_none (by rw [hds_len]; simp; omega), List.getElem?_eq_none (by simp [hds_len]; omega)]
section
variable {Y w : World} {a : Option Addr} {c : Nat} {out : List Value} {ls : List (List Int)} {hd : Nat → Option Addr × Nat}
/-- More lists, all in blocks of their own. -/
theorem GrowL.more (h : GrowL Y w a c out ls hd) (y : Ext w) {a2 : Option Addr} {c2 : Nat} {l2 : List (List Int)} {hd2 : Nat → Option Addr × Nat} {B : Nat → Prop} (own : LsOwn y.w a2 c2 l2 hd2 B) (hlo : ∀ g, B g → w.heap.size ≤ g) :
    GrowL Y y.w a c out (ls ++ l2) (cat hd ls.length hd2) := by
  have k := h.ext y
  have hn : ∀ i g, i < l2.length → ob (hd2 i).1 = some g → w.heap.size ≤ g := fun i g hi e => hlo g ((own.bl g).2 (.inr ⟨i, hi, e⟩))
  refine ⟨k.own, fun i u hi => ?_, fun i j g hi hj hij e1 e2 => ?_, fun i g hi e1 e2 => ?_, k.bel⟩
  · by_cases e : i < ls.length
    · rw [List.getElem?_append_left e] at hi
      rw [cat_lo e]
      exact k.sub i u hi
    · rw [List.getElem?_append_right (by omega)] at hi
      rw [cat_hi e]
      have h1 := own.sub _ u hi
      have hl2 := (List.getElem?_eq_some_iff.1 hi).1
      obtain ⟨q1, q2⟩ := h1
      refine ⟨q1, ?_⟩
      rcases q2 with q2 | ⟨g, cap, cur, q3, q4, q5⟩
      · exact .inl q2
      · refine .inr ⟨g, cap, cur, q3, ?_, q5⟩
        have h3 : ob (hd2 (i - ls.length)).1 = some g := by
          have := congrArg Value.ownBlock q3
          rw [ob_eq] at this
          exact this
        have := hn _ g hl2 h3
        have := h.bel.size
        omega
  · simp at hi hj
    by_cases ei : i < ls.length
    · rw [cat_lo ei] at e1
      have h1 := h.lt ei e1
      by_cases ej : j < ls.length
      · rw [cat_lo ej] at e2
        exact h.dj i j g ei ej hij e1 e2
      · rw [cat_hi ej] at e2
        have := hn _ g (by omega) e2
        omega
    · rw [cat_hi ei] at e1
      have h1 := hn _ g (by omega) e1
      by_cases ej : j < ls.length
      · rw [cat_lo ej] at e2
        have := h.lt ej e2
        omega
      · rw [cat_hi ej] at e2
        exact own.dj _ _ g (by omega) (by omega) (by omega) e1 e2
  · simp at hi
    by_cases ei : i < ls.length
    · rw [cat_lo ei] at e1
      exact h.da i g ei e1 e2
    · rw [cat_hi ei] at e1
      have h1 := hn _ g (by omega) e1
      have := h.lta e2
      omega
theorem wpList_growLr {ops : Array Oper} {rest : List Oper} {o : Oper} {ac : Act} {Q : Exit → Act → World → Prop} (hgd : o.guard = none) (s x : Operand)
    (ho : o.op = .call { callee := .builtin .append, args := #[s, x], argTypes := #[51, 51] })
    (h : GrowL Y w a c out ls hd) (hl : out.length ≤ 1000) {n : Nat} (hn : n = out.length) (hv : ac.eval s = .slice a n c) {u : Value} (h1 : u.oneCell' = true) {ad : Addr} {d : Nat} (hx : ac.eval x = .slice (some ad) 1 d) (hs : ∀ j v, [u][j]? = some v → w.cell? (ad.add j) = some v)
    (k : ∀ a' c' w', GrowL Y w' a' c' (out ++ [u]) ls hd → w.grownBy w' (ob a) → (ob a' = ob a ∨ ob a' = some w.heap.size) → wpList Tryd.prog ops Q rest (ac.put o.dst (.slice a' (n + 1) c')) w') : wpList Tryd.prog ops Q (o :: rest) ac w := by
  subst hn
  obtain ⟨i0, hi0, hz0, hz1, hz2⟩ := info_parts info_intss
  refine wpList_append_own_at w hgd s x 51 ho Y.heap.size 22 i0 (.slice none 0 0) 1 24 Tryd.underlying51 hi0 hz0 hz1 hz2 rfl (by decide) (.slice a out.length c) out.length out hv h.own ad 1 d [u] hx rfl hs (by simpa using h1) (by unfold maxLen; omega) (by omega) h.bel.size ?_
  intro v' w' own gr _ hat
  obtain ⟨a', c', rfl⟩ : ∃ a' c', v' = .slice a' (out.length + 1) c' := by
    rcases own.2 with ⟨_, e⟩ | ⟨g, cap, cur, e, _⟩
    · omega
    · exact ⟨_, _, e⟩
  rw [ob_eq] at gr
  rw [ob_eq, ob_eq] at hat
  refine k a' c' w' (h.put ?_ gr hat) gr hat
  rw [List.length_append]
  exact own
theorem wpList_growLs {ops : Array Oper} {rest : List Oper} {o : Oper} {ac : Act} {Q : Exit → Act → World → Prop} (hgd : o.guard = none) (s x : Operand)
    (ho : o.op = .call { callee := .builtin .append, args := #[s, x], argTypes := #[51, 51] })
    (h : GrowL Y w a c out ls hd) (hl : out.length ≤ 1000) {n : Nat} (hn : n = out.length) (hv : ac.eval s = .slice a n c) {us : List Value} (h1 : ∀ u ∈ us, u.oneCell' = true) {ad : Addr} {d m : Nat} (hm : m = us.length) (hul : us.length ≤ 1000) (hx : ac.eval x = .slice (some ad) m d) (hs : ∀ j v, us[j]? = some v → w.cell? (ad.add j) = some v)
    (k : ∀ a' c' w', GrowL Y w' a' c' (out ++ us) ls hd → a' = none → a = none → wpList Tryd.prog ops Q rest (ac.put o.dst (.slice a' (n + m) c')) w')
    (k' : ∀ a' c' w', GrowL Y w' (some a') c' (out ++ us) ls hd → wpList Tryd.prog ops Q rest (ac.put o.dst (.slice (some a') (n + m) c')) w') : wpList Tryd.prog ops Q (o :: rest) ac w := by
  subst hn
  subst hm
  obtain ⟨i0, hi0, hz0, hz1, hz2⟩ := info_parts info_intss
  refine wpList_append_own_at w hgd s x 51 ho Y.heap.size 22 i0 (.slice none 0 0) 1 24 Tryd.underlying51 hi0 hz0 hz1 hz2 rfl (by decide) (.slice a out.length c) out.length out hv h.own ad us.length d us hx (by simp) hs h1 (by unfold maxLen; omega) (by omega) h.bel.size ?_
  intro v' w' own gr nil hat
  by_cases e : v' = .slice none 0 0
  · obtain ⟨e1, h0⟩ := nil.1 e
    have h2 : out.length = 0 ∧ us.length = 0 := by
      injection e1 with q1 q2 q3
      exact ⟨by omega, h0⟩
    have h3 : a = none := by injection e1
    subst h3
    subst e
    have := k none 0 w' (h.put (by rw [List.length_append, h2.1, h2.2]; rw [h2.1, h2.2] at own; exact own) (by rw [ob_eq] at gr; exact gr) (.inl rfl)) rfl rfl
    rw [h2.1, h2.2] at this
    exact this
  · rcases own.2 with ⟨e', h0⟩ | ⟨g, cap, cur, e', _⟩
    · exact absurd e' e
    · subst e'
      refine k' _ cap w' (h.put ?_ (by rw [ob_eq] at gr; exact gr) (by rw [ob_eq, ob_eq] at hat; exact hat))
      rw [List.length_append]
      exact own
theorem step_growLs {ops : Array Oper} {o : Oper} {ac : Act} {K : Act → World → Prop} {Q : Exit → Act → World → Prop} {E : Prop} (hgd : o.guard = none) (s x : Operand)
    (ho : o.op = .call { callee := .builtin .append, args := #[s, x], argTypes := #[51, 51] })
    (h : GrowL Y w a c out ls hd) (hl : out.length ≤ 1000) {n : Nat} (hn : n = out.length) (hv : ac.eval s = .slice a n c) {us : List Value} (h1 : ∀ u ∈ us, u.oneCell' = true) {ad : Addr} {d m : Nat} (hm : m = us.length) (hul : us.length ≤ 1000) (hx : ac.eval x = .slice (some ad) m d) (hs : ∀ j v, us[j]? = some v → w.cell? (ad.add j) = some v)
    (k : ∀ a' c' w', GrowL Y w' a' c' (out ++ us) ls hd → a' = none → a = none → K (ac.put o.dst (.slice a' (n + m) c')) w')
    (k' : ∀ a' c' w', GrowL Y w' (some a') c' (out ++ us) ls hd → w.grownBy w' (ob a) → (ob (some a') = ob a ∨ ob (some a') = some w.heap.size) → K (ac.put o.dst (.slice (some a') (n + m) c')) w') : if Region.wanted o (yielded ops ac.tmps) = true then Oper.wp Tryd.prog o ac w K Q else E := by
  subst hn
  subst hm
  obtain ⟨i0, hi0, hz0, hz1, hz2⟩ := info_parts info_intss
  have hw : Region.wanted o (yielded ops ac.tmps) = true := by simp [Region.wanted, hgd]
  rw [if_pos hw]
  obtain ⟨v', w', hr, own, gr, nil, hat⟩ := run_append_own_at (P := Tryd.prog) w Y.heap.size 51 o.type 22 i0 (.slice none 0 0) 1 24 Tryd.underlying51 hi0 hz0 hz1 hz2 rfl (by decide) (.slice a out.length c) out.length out h.own ad us.length d us (by simp) hs h1 (by unfold maxLen; omega) (by omega) h.bel.size
  unfold Oper.wp execOp
  simp only [ho, resolve, invoke, builtin, Sem.run_bind, Sem.run_pure, Result.andThen_ok, List.map_toArray, List.map_cons, List.map_nil, hv, hx, hr]
  by_cases e : v' = .slice none 0 0
  · obtain ⟨e1, h0⟩ := nil.1 e
    have h2 : out.length = 0 ∧ us.length = 0 := by
      injection e1 with q1 q2 q3
      exact ⟨by omega, h0⟩
    have h3 : a = none := by injection e1
    subst h3
    subst e
    have := k none 0 w' (h.put (by rw [List.length_append, h2.1, h2.2]; rw [h2.1, h2.2] at own; exact own) (by rw [ob_eq] at gr; exact gr) (.inl rfl)) rfl rfl
    rw [h2.1, h2.2] at this
    exact this
  · rcases own.2 with ⟨e', h0⟩ | ⟨g, cap, cur, e', _⟩
    · exact absurd e' e
    · subst e'
      rw [ob_eq] at gr
      rw [ob_eq, ob_eq] at hat
      refine k' _ cap w' (h.put ?_ gr hat) gr hat
      rw [List.length_append]
      exact own
end
theorem hds_one {ls : List (List Int)} {hd : Nat → Option Addr × Nat} : ∀ u ∈ hds ls hd, u.oneCell' = true := by
  intro u hu
  obtain ⟨i, hi⟩ := List.getElem?_of_mem hu
  by_cases h : i < ls.length
  · have e : ls[i]? = some ls[i] := List.getElem?_eq_getElem h
    rw [hds_at e] at hi
    cases hi
    rfl
  · rw [List.getElem?_eq_none (by rw [hds_len]; omega)] at hi
    cases hi
end Go.Proofs.YtoefeijnnnioeaaDoor
