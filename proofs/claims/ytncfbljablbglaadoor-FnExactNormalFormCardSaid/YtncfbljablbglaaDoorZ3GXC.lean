/- Texts of one claim, laid together: PutSpec, SubT. -/
import Derived.Test.YtncfbljablbglaaDoorZ3GA
import Derived.Test.YtncfbljablbglaaDoorZ3KUsesSpec
import Derived.Test.YtncfbljablbglaaDoorZ3GQ
import Derived.Test.YtncfbljablbglaaDoorZ3GH
import Derived.Test.YtncfbljablbglaaDoorZ3GI
set_option linter.unusedVariables false
set_option linter.unusedSimpArgs false
/- Terms in which something is put: well made, of which size, plainly. Nothing of a program stands here. -/
namespace Go.Proofs.YtncfbljablbglaaDoor
open Go.RowKit
namespace Tm
theorem rv_node_op {f : Int → Int → Tm} {t : Tm} {a : Int} (h : ¬ (t.op = 0 ∧ a ≤ t.n)) : (t.rv f a).op = t.op ∧ (t.rv f a).n = t.n ∧ (t.rv f a).ty = t.ty ∧ (t.rv f a).kids = rvL f t.op a 0 t.kids := by
  rw [rv_node h]; exact ⟨rfl, rfl, rfl, rfl⟩
/-- What is put together is well made. -/
theorem rv_ok {f : Int → Int → Tm} {size : Int} {closed : Bool} {V V' : Int} (hV' : 0 ≤ V') (hf : ∀ j a, 0 ≤ j → j < V → 0 ≤ a → OkT size closed (V' + a) (f j a)) (t : Tm) : ∀ {vars a : Int}, OkT size closed vars t → 0 ≤ a → vars = V + a → OkT size closed (V' + a) (t.rv f a) := by
  induction t using ind with
  | h t ih =>
    intro vars a ok ha hv
    by_cases h : t.op = 0 ∧ a ≤ t.n
    · rw [rv_var h.1 h.2]
      have := ok.node.nok
      unfold NOk at this
      rw [if_pos h.1] at this
      exact hf _ _ (by omega) (by omega) ha
    · obtain ⟨e1, e2, e3, e4⟩ := rv_node_op (f := f) h
      have hn := ok.node
      refine .mk _ _ ⟨?_, ?_, ?_⟩ ?_
      · rw [e1, e4, rvL_len]; exact hn.many
      · rw [e1, e2]
        have := hn.nok
        unfold NOk at this ⊢
        by_cases h0 : t.op = 0
        · rw [if_pos h0] at this ⊢
          have hlt : t.n < a := by
            by_cases q : a ≤ t.n
            · exact absurd ⟨h0, q⟩ h
            · omega
          omega
        · rw [if_neg h0] at this ⊢
          exact this
      · rw [e1, e3]; exact hn.tok
      · intro i k hk
        rw [e4, rvL_at] at hk
        cases hq : t.kids[i]? with
        | none => rw [hq] at hk; cases hk
        | some u =>
          rw [hq] at hk
          cases hk
          rw [e1, Nat.zero_add, Int.add_assoc]
          have := addsO_ge t.op i
          exact ih u (List.mem_of_getElem? hq) (ok.kid hq) (by omega) (by omega)
theorem var_ok {size V i : Int} {closed : Bool} (h : 0 ≤ i ∧ i < V) : OkT size closed V (varT i) := by
  refine .mk _ _ ⟨?_, ?_, ?_⟩ ?_
  · show ((0 : Nat) : Int) = manyO 0
    decide
  · show NOk size closed V 0 i
    unfold NOk
    rw [if_pos rfl]
    exact h
  · show TyOk size closed 0 []
    unfold TyOk
    rw [if_neg (by unfold TypedO; omega)]
  · intro j k hk
    simp [varT, kids] at hk
theorem mvf_ok {size : Int} {closed : Bool} {V : Int} (u : Tm) (ok : OkT size closed V u) (h0 : 0 ≤ V) (m : Int) (hm : 0 ≤ m) : OkT size closed (V + m) (u.rv (mvf m) 0) := by
  have h := rv_ok (f := mvf m) (V := V) (V' := V + m) (by omega) (fun j a h1 h2 h3 => var_ok (by omega)) u ok (Int.le_refl _) (by omega)
  rw [Int.add_zero] at h
  exact h
theorem putf_ok {size : Int} {closed : Bool} {V : Int} (h0 : 0 ≤ V) (t u : Tm) (ok : OkT size closed V t) (oku : OkT size closed V u) {i : Int} (hi : 0 ≤ i) : OkT size closed V (t.rv (putf i u) 0) := by
  have h := rv_ok (f := putf i u) (V := V) (V' := V) h0 (fun j a h1 h2 h3 => ?_) t ok (Int.le_refl _) (by omega)
  · rw [Int.add_zero] at h; exact h
  · unfold putf
    split
    · exact mvf_ok u oku h0 a h3
    · split
      · exact var_ok (by omega)
      · exact var_ok (by omega)
theorem var_sz (i : Int) : (varT i).sz = 1 := by simp [varT, sz, szL]
theorem rvL_sz {f : Int → Int → Tm} {op a : Int} : ∀ {l : List Tm} {j : Nat}, (∀ (i : Nat) (k : Tm), l[i]? = some k → (k.rv f (a + addsO op (j + i))).sz = k.sz) → szL (rvL f op a j l) = szL l
  | [], _, _ => by simp [rvL, szL]
  | b :: l, j, h => by
    simp only [rvL, szL]
    have h0 := h 0 b rfl
    rw [Nat.add_zero] at h0
    rw [h0, rvL_sz (l := l) (j := j + 1) (fun i k hk => by have := h (i + 1) k hk; rw [show j + 1 + i = j + (i + 1) by omega]; exact this)]
theorem rv_sz1 {f : Int → Int → Tm} (hf : ∀ j a, (f j a).sz = 1) (t : Tm) : ∀ {size vars : Int} {closed : Bool}, OkT size closed vars t → ∀ a, (t.rv f a).sz = t.sz := by
  induction t using ind with
  | h t ih =>
    intro size vars closed ok a
    by_cases h : t.op = 0 ∧ a ≤ t.n
    · rw [rv_var h.1 h.2, hf, var_eq ok h.1, var_sz]
    · rw [rv_node h, sz_eq t, sz_eq]
      show 1 + szL (rvL f t.op a 0 t.kids) = _
      rw [rvL_sz (fun i k hk => by have := ih k (List.mem_of_getElem? hk) (ok.kid hk) (a + addsO t.op (0 + i)); exact this)]
theorem mvf_sz (u : Tm) {size vars : Int} {closed : Bool} (ok : OkT size closed vars u) (m : Int) : (u.rv (mvf m) 0).sz = u.sz := rv_sz1 (fun j a => var_sz _) u ok 0
theorem rvL_put {i a : Int} {u : Tm} {op : Int} : ∀ {l : List Tm} {j : Nat}, (∀ (n : Nat) (k : Tm), l[n]? = some k → ((k.rv (putf i u) (a + addsO op (j + n))).sz : Int) = k.sz + (k.uses (i + a + addsO op (j + n)) : Int) * ((u.sz : Int) - 1)) →
    (szL (rvL (putf i u) op a j l) : Int) = szL l + (usesL op (i + a) j l : Int) * ((u.sz : Int) - 1)
  | [], _, _ => by simp [rvL, szL, usesL]
  | b :: l, j, h => by
    simp only [rvL, szL, usesL]
    have h0 := h 0 b rfl
    rw [Nat.add_zero] at h0
    have h1 := rvL_put (l := l) (j := j + 1) (fun n k hk => by have := h (n + 1) k hk; rw [show j + 1 + n = j + (n + 1) by omega]; exact this)
    push_cast
    rw [h0, h1, Int.add_mul]
    omega
/-- The size of a term in which something is put. -/
theorem put_sz {i : Int} (hi : 0 ≤ i) {u : Tm} {size vu : Int} {closed : Bool} (oku : OkT size closed vu u) (t : Tm) : ∀ {vars a : Int}, OkT size closed vars t → 0 ≤ a → ((t.rv (putf i u) a).sz : Int) = t.sz + (t.uses (i + a) : Int) * ((u.sz : Int) - 1) := by
  induction t using ind with
  | h t ih =>
    intro vars a ok ha
    by_cases h : t.op = 0 ∧ a ≤ t.n
    · rw [rv_var h.1 h.2, uses_var h.1]
      have e := var_eq ok h.1
      have hs : t.sz = 1 := by rw [e, var_sz]
      unfold putf
      by_cases p : t.n - a = i
      · rw [if_pos p, if_pos (by omega), hs, mvf_sz u oku]
        push_cast
        omega
      · rw [if_neg p, if_neg (show ¬ t.n = i + a by omega), hs]
        split <;> simp [var_sz]
    · have hs := sz_eq (t.rv (putf i u) a)
      rw [rv_node h] at hs ⊢
      rw [hs, sz_eq t]
      show ((1 + szL (rvL (putf i u) t.op a 0 t.kids) : Nat) : Int) = _
      by_cases h0 : t.op = 0
      · have e := var_eq ok h0
        have hk : t.kids = [] := by rw [e]; rfl
        have hlt : t.n < a := by
          by_cases q : a ≤ t.n
          · exact absurd ⟨h0, q⟩ h
          · omega
        rw [uses_var h0, if_neg (by omega), hk]
        simp [rvL, szL]
      · rw [uses_node h0]
        have h1 := rvL_put (i := i) (a := a) (u := u) (op := t.op) (l := t.kids) (j := 0) (fun n k hk => by
          have h2 := addsO_ge t.op (0 + n)
          have h3 := ih k (List.mem_of_getElem? hk) (ok.kid hk) (a := a + addsO t.op (0 + n)) (by omega)
          rw [h3]
          rw [show i + (a + addsO t.op (0 + n)) = i + a + addsO t.op (0 + n) by omega])
        push_cast
        rw [h1]
        omega
end Tm
/-- What SubstituteTerm answers. -/
def SubstG (t : Tm) (i : Int) (u : Tm) : Prop := Written t ∧ Written u ∧ 0 ≤ i ∧ (t.sz : Int) + (t.uses i : Int) * ((u.sz : Int) - 1) ≤ 400
def SubstV (t : Tm) (i : Int) (u o : Tm) (b : Bool) : Prop := (SubstG t i u ∧ o = t.rv (putf i u) 0 ∧ b = true) ∨ (¬ SubstG t i u ∧ o = zeroT ∧ b = false)
theorem SubstV.no {t u o : Tm} {i : Int} {b : Bool} (h : SubstV t i u o b) (hn : ¬ SubstG t i u) : o = zeroT ∧ b = false := by
  rcases h with ⟨g, _⟩ | ⟨_, e⟩
  · exact absurd g hn
  · exact e
theorem SubstV.yes {t u o : Tm} {i : Int} {b : Bool} (h : SubstV t i u o b) (g : SubstG t i u) : o = t.rv (putf i u) 0 ∧ b = true := by
  rcases h with ⟨_, e⟩ | ⟨hn, _⟩
  · exact e
  · exact absurd g hn
theorem SubstG.written {t u : Tm} {i : Int} (g : SubstG t i u) : Written (t.rv (putf i u) 0) := by
  obtain ⟨h1, h2, h3, h4⟩ := g
  have h5 := Tm.put_sz h3 h2.2 t h1.2 (Int.le_refl 0)
  rw [Int.add_zero] at h5
  exact ⟨by omega, Tm.putf_ok (by omega) t u h1.2 h2.2 h3⟩
theorem SubstV.wt {t u o : Tm} {i : Int} {b : Bool} (h : SubstV t i u o b) : o.wt ≤ 16400 := by
  rcases h with ⟨g, rfl, _⟩ | ⟨_, rfl, _⟩
  · exact g.written.wt
  · simp [Tm.wt, Tm.wtL]
end Go.Proofs.YtncfbljablbglaaDoor
/- The program's SubstituteTerm. -/
namespace Go.Proofs.YtncfbljablbglaaDoor
open Go.RowKit

theorem one_kid {w : World} {D : Nat} {u : Tm} {q : TV} {lo : Nat} (hD : w.heap[D]? = some (boxT u.op u.n q.a u.ty.length q.c q.b u.kids.length q.d)) (h : TmIn w lo u q) (d : Nat) : TmIn w 0 (.mk 0 0 [] [u]) ⟨none, 0, some ⟨D, 0, none⟩, d⟩ := by
  refine .mk _ _ (fun _ => q) (.inl rfl) (fun p hp => by cases hp) (by simp [Tm.ty]) (by simp [Tm.kids]) (.inr ⟨D, 0, rfl, Nat.zero_le _, fun i k hi => ?_⟩) (fun i k hi => ?_)
  · match i, hi with
    | 0, hi =>
      simp [Tm.kids] at hi
      subst hi
      exact ⟨blk_cell hD 0, blk_cell hD 1, blk_cell hD 2, blk_cell hD 3⟩
    | i + 1, hi => simp [Tm.kids] at hi
  · match i, hi with
    | 0, hi =>
      simp [Tm.kids] at hi
      subst hi
      exact h.lower (Nat.zero_le _)
    | i + 1, hi => simp [Tm.kids] at hi
theorem subf_one (i : Int) (u : Tm) : subf i [u] = putf i u := by
  funext j a
  unfold subf putf
  by_cases h1 : j - i < 0
  · rw [if_pos h1, if_neg (by omega), if_neg (by omega)]
  · by_cases h2 : j = i
    · rw [if_neg h1, if_pos (by simp; omega), if_pos h2, h2]
      simp
    · rw [if_neg h1, if_neg (by simp; omega), if_neg h2, if_pos (by omega)]
      rfl

end Go.Proofs.YtncfbljablbglaaDoor
