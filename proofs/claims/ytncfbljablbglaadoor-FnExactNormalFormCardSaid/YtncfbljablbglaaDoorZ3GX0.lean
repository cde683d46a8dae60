/- Texts of one claim, laid together: ConSpec, ReplSpec, ConSz. -/
import Derived.Test.YtncfbljablbglaaDoorZ3GQ
import Derived.Test.YtncfbljablbglaaDoorZ3GXC
import Derived.Test.YtncfbljablbglaaDoorZ3KAtSpec
import Derived.Test.YtncfbljablbglaaDoorZ3GA
import Derived.Test.YtncfbljablbglaaDoorZ3GX9
import Derived.Test.YtncfbljablbglaaDoorZ3GF
set_option linter.unusedVariables false
set_option linter.unusedSimpArgs false
/- Contraction, plainly: terms put one behind the other and at once, of which size, well made. Nothing is walked here. -/
namespace Go.Proofs.YtncfbljablbglaaDoor
open Go.RowKit

namespace Tm
theorem rvL_rvL {f g h : Int → Int → Tm} {op a a' : Int} : ∀ {l : List Tm} {j : Nat}, (∀ (i : Nat) (k : Tm), l[i]? = some k → (k.rv g (a + addsO op (j + i))).rv f (a' + addsO op (j + i)) = k.rv h (a + addsO op (j + i))) → rvL f op a' j (rvL g op a j l) = rvL h op a j l
  | [], _, _ => by simp [rvL]
  | b :: l, j, q => by
    simp only [rvL]
    have h0 := q 0 b rfl
    rw [Nat.add_zero] at h0
    rw [h0, rvL_rvL (l := l) (j := j + 1) (fun i k hk => by have := q (i + 1) k hk; rw [show j + 1 + i = j + (i + 1) by omega]; exact this)]
/-- Two replacings one behind the other. -/
theorem rv_comp {f g h : Int → Int → Tm} {d : Int} (hd : 0 ≤ d) (hv : ∀ j b, 0 ≤ j → 0 ≤ b → (g j b).rv f (d + b) = h j b) (t : Tm) : ∀ b, 0 ≤ b → (t.rv g b).rv f (d + b) = t.rv h b := by
  induction t using ind with
  | h t ih =>
    intro b hb
    by_cases q : t.op = 0 ∧ b ≤ t.n
    · rw [rv_var q.1 q.2, rv_var q.1 q.2, hv _ _ (by omega) hb]
    · obtain ⟨e1, e2, e3, e4⟩ := rv_node_op (f := g) q
      have q2 : ¬ ((t.rv g b).op = 0 ∧ d + b ≤ (t.rv g b).n) := by
        rw [e1, e2]
        rintro ⟨h1, h2⟩
        exact q ⟨h1, by omega⟩
      rw [rv_node q2, e1, e2, e3, e4, rv_node q]
      rw [rvL_rvL fun i k hk => by
        have := addsO_ge t.op (0 + i)
        have h1 := ih k (List.mem_of_getElem? hk) (b + addsO t.op (0 + i)) (by omega)
        rw [← Int.add_assoc] at h1
        exact h1]
theorem varT_rv {f : Int → Int → Tm} {i a : Int} (h : a ≤ i) : (varT i).rv f a = f (i - a) a := rv_var (t := varT i) rfl h
theorem mv_mv {m k : Int} (hm : 0 ≤ m) (v : Tm) : (v.rv (mvf m) 0).rv (mvf k) 0 = v.rv (mvf (m + k)) 0 := by
  have := rv_comp (f := mvf k) (g := mvf m) (h := mvf (m + k)) (d := 0) (Int.le_refl _) (fun j b hj hb => by
    unfold mvf
    rw [varT_rv (by omega)]
    congr 1
    omega) v 0 (Int.le_refl _)
  simpa using this
theorem mv_put {a : Int} (ha : 0 ≤ a) (w v : Tm) : (v.rv (mvf (1 + a)) 0).rv (putf 0 w) a = v.rv (mvf a) 0 := by
  have := rv_comp (f := putf 0 w) (g := mvf (1 + a)) (h := mvf a) (d := a) ha (fun j b hj hb => by
    unfold mvf
    rw [varT_rv (by omega)]
    unfold putf
    rw [if_neg (by omega), if_pos (by omega)]
    congr 1
    omega) v 0 (Int.le_refl _)
  simpa using this
/-- Two terms put one behind the other are two put at once. -/
theorem split_rv (t v u : Tm) : (t.rv (putf 0 (v.rv (mvf 1) 0)) 0).rv (putf 0 u) 0 = t.rv (subf 0 [v, u]) 0 := by
  have := rv_comp (f := putf 0 u) (g := putf 0 (v.rv (mvf 1) 0)) (h := subf 0 [v, u]) (d := 0) (Int.le_refl _) (fun j b hj hb => by
    unfold subf
    rw [if_neg (by omega)]
    by_cases h0 : j = 0
    · subst h0
      rw [if_pos (by simp)]
      rw [show putf 0 (v.rv (mvf 1) 0) 0 b = (v.rv (mvf 1) 0).rv (mvf b) 0 by unfold putf; rw [if_pos rfl]]
      rw [mv_mv (by omega), Int.zero_add, mv_put hb]
      simp
    · rw [show putf 0 (v.rv (mvf 1) 0) j b = varT (j - 1 + b) by unfold putf; rw [if_neg h0, if_pos (by omega)]]
      rw [varT_rv (by omega), show j - 1 + b - (0 + b) = j - 1 by omega]
      by_cases h1 : j = 1
      · subst h1
        rw [if_pos (by simp)]
        unfold putf
        rw [if_pos (by omega)]
        simp
      · rw [if_neg (by simp; omega)]
        unfold putf
        rw [if_neg (by omega), if_pos (by omega)]
        congr 1
        simp
        omega) t 0 (Int.le_refl _)
  simpa using this
theorem subf_nil : subf 0 [] = mvf 0 := by
  funext j a
  unfold subf mvf
  split
  · congr 1; omega
  · rw [if_neg (by simp; omega)]
    simp
/-- What is put at once is well made. -/
theorem sub_ok {size : Int} {closed : Bool} {v : Int} (h0 : 0 ≤ v) {t : Tm} {us : List Tm} (ok : OkT size closed (v + us.length) t) (oku : ∀ u ∈ us, OkT size closed v u) : OkT size closed v (t.rv (subf 0 us) 0) := by
  have h := rv_ok (f := subf 0 us) (V := v + us.length) (V' := v) h0 (fun j a h1 h2 h3 => ?_) t ok (Int.le_refl _) (by omega)
  · rw [Int.add_zero] at h; exact h
  · unfold subf
    rw [if_neg (by omega)]
    split
    · have hlt : (j - 0).toNat < us.length := by omega
      rw [List.getD_eq_getElem?_getD, List.getElem?_eq_getElem hlt]
      exact mvf_ok _ (oku _ (List.getElem_mem hlt)) h0 a h3
    · exact var_ok (by omega)
theorem rvL_two {v u : Tm} {op a : Int} : ∀ {l : List Tm} {j : Nat}, (∀ (n : Nat) (k : Tm), l[n]? = some k → ((k.rv (subf 0 [v, u]) (a + addsO op (j + n))).sz : Int) = k.sz + (k.uses (a + addsO op (j + n)) : Int) * ((v.sz : Int) - 1) + (k.uses (1 + a + addsO op (j + n)) : Int) * ((u.sz : Int) - 1)) →
    (szL (rvL (subf 0 [v, u]) op a j l) : Int) = szL l + (usesL op a j l : Int) * ((v.sz : Int) - 1) + (usesL op (1 + a) j l : Int) * ((u.sz : Int) - 1)
  | [], _, _ => by simp [rvL, szL, usesL]
  | b :: l, j, h => by
    simp only [rvL, szL, usesL]
    have h0 := h 0 b rfl
    rw [Nat.add_zero] at h0
    have h1 := rvL_two (l := l) (j := j + 1) (fun n k hk => by have := h (n + 1) k hk; rw [show j + 1 + n = j + (n + 1) by omega]; exact this)
    push_cast
    rw [h0, h1, Int.add_mul, Int.add_mul]
    omega
theorem two_sz {v u : Tm} {size vv : Int} {closed : Bool} (okv : OkT size closed vv v) (oku : OkT size closed vv u) (t : Tm) : ∀ {vars a : Int}, OkT size closed vars t → 0 ≤ a → ((t.rv (subf 0 [v, u]) a).sz : Int) = t.sz + (t.uses a : Int) * ((v.sz : Int) - 1) + (t.uses (1 + a) : Int) * ((u.sz : Int) - 1) := by
  induction t using ind with
  | h t ih =>
    intro vars a ok ha
    by_cases h : t.op = 0 ∧ a ≤ t.n
    · rw [rv_var h.1 h.2, uses_var h.1, uses_var h.1]
      have e := var_eq ok h.1
      have hs : t.sz = 1 := by rw [e, var_sz]
      unfold subf
      rw [if_neg (by omega), hs]
      by_cases p : t.n = a
      · rw [if_pos (by simp; omega), if_pos p, if_neg (by omega)]
        rw [show (t.n - a - 0).toNat = 0 by omega]
        show ((v.rv (mvf a) 0).sz : Int) = _
        rw [mvf_sz v okv]
        push_cast
        omega
      · by_cases p1 : t.n = 1 + a
        · rw [if_pos (by simp; omega), if_neg p, if_pos p1]
          rw [show (t.n - a - 0).toNat = 1 by omega]
          show ((u.rv (mvf a) 0).sz : Int) = _
          rw [mvf_sz u oku]
          push_cast
          omega
        · rw [if_neg (by simp; omega), if_neg p, if_neg p1, var_sz]
          simp
    · have hs := sz_eq (t.rv (subf 0 [v, u]) a)
      rw [rv_node h] at hs ⊢
      rw [hs, sz_eq t]
      show ((1 + szL (rvL (subf 0 [v, u]) t.op a 0 t.kids) : Nat) : Int) = _
      by_cases h0 : t.op = 0
      · have e := var_eq ok h0
        have hk : t.kids = [] := by rw [e]; rfl
        have hlt : t.n < a := by
          by_cases q : a ≤ t.n
          · exact absurd ⟨h0, q⟩ h
          · omega
        rw [uses_var h0, uses_var h0, if_neg (by omega), if_neg (by omega), hk]
        simp [rvL, szL]
      · rw [uses_node h0, uses_node h0]
        have h1 := rvL_two (a := a) (v := v) (u := u) (op := t.op) (l := t.kids) (j := 0) (fun n k hk => by
          have h2 := addsO_ge t.op (0 + n)
          have h3 := ih k (List.mem_of_getElem? hk) (ok.kid hk) (a := a + addsO t.op (0 + n)) (by omega)
          rw [h3]
          rw [show 1 + (a + addsO t.op (0 + n)) = 1 + a + addsO t.op (0 + n) by omega])
        push_cast
        rw [h1]
        omega
end Tm
end Go.Proofs.YtncfbljablbglaaDoor
/- Terms put at paths, contractions at paths, plainly. Nothing of a program stands here. -/
namespace Go.Proofs.YtncfbljablbglaaDoor
open Go.RowKit

namespace Tm
/-- The term with another one at a path. -/
def putP : List Int → Tm → Tm → Option Tm | [], _, u => some u | k :: p, t, u => (t.kidI k).bind fun c => (putP p c u).map fun c' => .mk t.op t.n t.ty (t.kids.set k.toNat c')
theorem putP_none {p : List Int} : ∀ {t u : Tm}, atP p t = none → putP p t u = none := by
  induction p with
  | nil => intro t u h; simp [atP] at h
  | cons k p ih =>
    intro t u h
    simp only [atP] at h
    simp only [putP]
    cases hk : t.kidI k with
    | none => rfl
    | some c =>
      rw [hk] at h
      have h1 : atP p c = none := h
      show (putP p c u).map _ = none
      rw [ih h1]
      rfl
theorem putP_some {p : List Int} : ∀ {t u c : Tm}, atP p t = some c → ∃ z, putP p t u = some z := by
  induction p with
  | nil => intro t u c _; exact ⟨u, rfl⟩
  | cons k p ih =>
    intro t u c h
    simp only [atP] at h
    simp only [putP]
    cases hk : t.kidI k with
    | none => rw [hk] at h; cases h
    | some d =>
      rw [hk] at h
      obtain ⟨z, hz⟩ := ih (u := u) (show atP p d = some c from h)
      exact ⟨.mk t.op t.n t.ty (t.kids.set k.toNat z), by show (putP p d u).map _ = _; rw [hz]; rfl⟩
theorem szL_set {z : Tm} : ∀ {l : List Tm} {j : Nat}, j < l.length → z.sz ≤ szL (l.set j z)
  | [], _, h => by simp at h
  | a :: l, 0, _ => by simp only [List.set_cons_zero, szL]; omega
  | a :: l, j + 1, h => by
    simp only [List.set_cons_succ, szL]
    have := szL_set (z := z) (l := l) (j := j) (by simpa using h)
    omega
theorem putP_sz {p : List Int} : ∀ {t u z : Tm}, putP p t u = some z → u.sz ≤ z.sz := by
  induction p with
  | nil => intro t u z h; cases h; exact Nat.le_refl _
  | cons k p ih =>
    intro t u z h
    simp only [putP] at h
    cases hk : t.kidI k with
    | none => rw [hk] at h; cases h
    | some c =>
      rw [hk] at h
      have h1 : (putP p c u).map (fun c' => (Tm.mk t.op t.n t.ty (t.kids.set k.toNat c'))) = some z := h
      cases hz : putP p c u with
      | none => rw [hz] at h1; cases h1
      | some d =>
        rw [hz] at h1
        cases h1
        obtain ⟨j, rfl, hj⟩ := kidI_some hk
        have h2 := ih hz
        have h3 := szL_set (z := d) (l := t.kids) (j := j) (List.getElem?_eq_some_iff.1 hj).1
        rw [sz_eq (Tm.mk t.op t.n t.ty _)]
        show _ ≤ 1 + szL (t.kids.set (j : Int).toNat d)
        rw [Int.toNat_natCast]
        omega
theorem putP_tmB {p : List Int} : ∀ {t u z : Tm}, TmB t → TmB u → putP p t u = some z → TmB z := by
  induction p with
  | nil => intro t u z _ hu h; cases h; exact hu
  | cons k p ih =>
    intro t u z ht hu h
    simp only [putP] at h
    cases hk : t.kidI k with
    | none => rw [hk] at h; cases h
    | some c =>
      rw [hk] at h
      have h1 : (putP p c u).map (fun c' => (Tm.mk t.op t.n t.ty (t.kids.set k.toNat c'))) = some z := h
      cases hz : putP p c u with
      | none => rw [hz] at h1; cases h1
      | some d =>
        rw [hz] at h1
        cases h1
        obtain ⟨j, rfl, hj⟩ := kidI_some hk
        have hd := ih (ht.kid (List.mem_of_getElem? hj)) hu hz
        refine .mk _ ht.ty fun q hq => ?_
        have hq' : q ∈ t.kids.set (j : Int).toNat d := hq
        rcases List.mem_or_eq_of_mem_set hq' with h2 | h2
        · exact ht.kid h2
        · rw [h2]; exact hd
theorem rv_tmB {f : Int → Int → Tm} (hf : ∀ j a, TmB (f j a)) (t : Tm) : ∀ (_ : TmB t) (a : Int), TmB (t.rv f a) := by
  induction t using Tm.ind with
  | h t ih =>
    intro hb a
    by_cases h : t.op = 0 ∧ a ≤ t.n
    · rw [Tm.rv_var h.1 h.2]
      exact hf _ _
    · rw [Tm.rv_node h]
      refine .mk _ hb.ty fun k hk => ?_
      obtain ⟨i, hi, e⟩ := List.getElem_of_mem hk
      have e2 := List.getElem?_eq_getElem hi
      rw [e] at e2
      change (Tm.rvL f t.op a 0 t.kids)[i]? = some k at e2
      rw [Tm.rvL_at] at e2
      cases e3 : t.kids[i]? with
      | none => rw [e3] at e2; cases e2
      | some q =>
        rw [e3] at e2
        cases e2
        exact ih q (List.mem_of_getElem? e3) (hb.kid (List.mem_of_getElem? e3)) _
theorem sub_tmB {us : List Tm} (hu : ∀ u ∈ us, TmB u) {t : Tm} (h : TmB t) : TmB (t.rv (subf 0 us) 0) :=
  rv_tmB (fun j a => by
    unfold subf
    split
    · exact varT_tmB _
    · split
      · rename_i h1 h2
        have hlt : (j - 0).toNat < us.length := by omega
        rw [List.getD_eq_getElem?_getD, List.getElem?_eq_getElem hlt]
        exact rv_tmB (fun i b => varT_tmB _) _ (hu _ (List.getElem_mem hlt)) 0
      · exact varT_tmB _) t h 0
theorem atP_tmB {p : List Int} : ∀ {t c : Tm}, TmB t → atP p t = some c → TmB c := by
  induction p with
  | nil => intro t c h e; cases e; exact h
  | cons k p ih =>
    intro t c h e
    simp only [atP] at e
    cases hk : t.kidI k with
    | none => rw [hk] at e; cases e
    | some d =>
      rw [hk] at e
      obtain ⟨j, rfl, hj⟩ := kidI_some hk
      exact ih (h.kid (List.mem_of_getElem? hj)) e
end Tm
theorem one_tmB (op n : Int) : TmB (.mk op n [] []) := .mk _ (fun u hu => by cases hu) (fun k hk => by cases hk)
theorem Cof.tmB {t b : Tm} {put : List Tm} (h : Cof t b put) (ht : TmB t) : TmB b ∧ ∀ u ∈ put, TmB u := by
  have kd : ∀ {x y : Tm}, TmB x → y ∈ x.kids → TmB y := fun hx hy => hx.kid hy
  cases h with
  | add a b h hk ha hb => exact ⟨one_tmB _ _, (fun u hu => by cases hu)⟩
  | if0 a b c h hk ha hn => exact ⟨kd ht (by rw [hk]; simp), (fun u hu => by cases hu)⟩
  | if1 a b c h hk ha hn => exact ⟨kd ht (by rw [hk]; simp), (fun u hu => by cases hu)⟩
  | app a b u h hk ha hu =>
    have hA : TmB a := kd ht (by rw [hk]; simp)
    exact ⟨kd hA (by rw [hu]; simp), fun w hw => by simp at hw; subst hw; exact kd ht (by rw [hk]; simp)⟩
  | split a b u v h hk ha hu =>
    have hA : TmB a := kd ht (by rw [hk]; simp)
    exact ⟨kd ht (by rw [hk]; simp), fun w hw => by simp at hw; rcases hw with rfl | rfl <;> exact kd hA (by rw [hu]; simp)⟩
  | left a b c u h hk ha hu =>
    have hA : TmB a := kd ht (by rw [hk]; simp)
    exact ⟨kd ht (by rw [hk]; simp), fun w hw => by simp at hw; subst hw; exact kd hA (by rw [hu]; simp)⟩
  | right a b c u h hk ha hu =>
    have hA : TmB a := kd ht (by rw [hk]; simp)
    exact ⟨kd ht (by rw [hk]; simp), fun w hw => by simp at hw; subst hw; exact kd hA (by rw [hu]; simp)⟩
  | opn a b u h hk ha hu =>
    have hA : TmB a := kd ht (by rw [hk]; simp)
    exact ⟨kd ht (by rw [hk]; simp), fun w hw => by simp at hw; subst hw; exact kd hA (by rw [hu]; simp)⟩
/-- What stands behind the arrow is well made, below as many variables more as there are terms to put. -/
theorem Cof.ok {size v : Int} {closed : Bool} {t b : Tm} {put : List Tm} (h : Cof t b put) (ok : OkT size closed v t) (hv : 0 ≤ v) : OkT size closed (v + put.length) b ∧ (∀ u ∈ put, OkT size closed v u) ∧ put.length ≤ 2 := by
  have kd : ∀ {x y : Tm} {w : Int} {i : Nat} {m : Int}, OkT size closed w x → x.kids[i]? = some y → addsO x.op i = m → OkT size closed (w + m) y := fun hx hy hm => by rw [← hm]; exact hx.kid hy
  have z : ∀ {x y : Tm} {w : Int} {i : Nat}, OkT size closed w x → x.kids[i]? = some y → addsO x.op i = 0 → OkT size closed w y := fun hx hy hm => by have := kd hx hy hm; rwa [Int.add_zero] at this
  cases h with
  | add a b h hk ha hb =>
    refine ⟨?_, (fun u hu => by cases hu), by simp⟩
    refine .mk _ _ ⟨by show ((0 : Nat) : Int) = manyO 1; decide, ?_, ?_⟩ (fun i k hk => by simp [Tm.kids] at hk)
    · show NOk size closed _ 1 _
      unfold NOk
      rw [if_neg (by decide), if_pos rfl]
      have h1 := (z (i := 0) ok (by rw [hk]; rfl) (by rw [h]; decide)).node.nok
      have h2 := (z (i := 1) ok (by rw [hk]; rfl) (by rw [h]; decide)).node.nok
      unfold NOk at h1 h2
      rw [if_neg (by omega), if_pos ha] at h1
      rw [if_neg (by omega), if_pos hb] at h2
      show 0 ≤ (a.n + b.n).tmod 3 ∧ (a.n + b.n).tmod 3 < 3
      rw [Int.tmod_eq_emod_of_nonneg (by omega)]
      omega
    · show TyOk size closed 1 []
      unfold TyOk
      rw [if_neg (by unfold TypedO; omega)]
  | if0 a b c h hk ha hn => exact ⟨by simpa using z (i := 1) ok (by rw [hk]; rfl) (by rw [h]; decide), (fun u hu => by cases hu), by simp⟩
  | if1 a b c h hk ha hn => exact ⟨by simpa using z (i := 2) ok (by rw [hk]; rfl) (by rw [h]; decide), (fun u hu => by cases hu), by simp⟩
  | app a b u h hk ha hu =>
    have hA := z (i := 0) ok (by rw [hk]; rfl) (by rw [h]; decide)
    exact ⟨kd (i := 0) (m := 1) hA (by rw [hu]; rfl) (by rw [ha]; decide), fun w hw => by simp at hw; subst hw; exact z (i := 1) ok (by rw [hk]; rfl) (by rw [h]; decide), by simp⟩
  | split a b u v' h hk ha hu =>
    have hA := z (i := 0) ok (by rw [hk]; rfl) (by rw [h]; decide)
    refine ⟨kd (i := 1) (m := 2) ok (by rw [hk]; rfl) (by rw [h]; decide), fun w hw => ?_, by simp⟩
    simp at hw
    rcases hw with rfl | rfl
    · exact z (i := 1) hA (by rw [hu]; rfl) (by rw [ha]; decide)
    · exact z (i := 0) hA (by rw [hu]; rfl) (by rw [ha]; decide)
  | left a b c u h hk ha hu =>
    have hA := z (i := 0) ok (by rw [hk]; rfl) (by rw [h]; decide)
    exact ⟨kd (i := 1) (m := 1) ok (by rw [hk]; rfl) (by rw [h]; decide), fun w hw => by simp at hw; subst hw; exact z (i := 0) hA (by rw [hu]; rfl) (by rw [ha]; decide), by simp⟩
  | right a b c u h hk ha hu =>
    have hA := z (i := 0) ok (by rw [hk]; rfl) (by rw [h]; decide)
    exact ⟨kd (i := 2) (m := 1) ok (by rw [hk]; rfl) (by rw [h]; decide), fun w hw => by simp at hw; subst hw; exact z (i := 0) hA (by rw [hu]; rfl) (by rw [ha]; decide), by simp⟩
  | opn a b u h hk ha hu =>
    have hA := z (i := 0) ok (by rw [hk]; rfl) (by rw [h]; decide)
    exact ⟨kd (i := 1) (m := 1) ok (by rw [hk]; rfl) (by rw [h]; decide), fun w hw => by simp at hw; subst hw; exact z (i := 0) hA (by rw [hu]; rfl) (by rw [ha]; decide), by simp⟩
/-- What ReplaceAt answers. -/
def ReplV (t : Tm) (p : List Int) (u o : Tm) (b : Bool) : Prop := (Written t ∧ t.putP p u = some o ∧ Written o ∧ b = true) ∨ (¬ (Written t ∧ ∃ z, t.putP p u = some z ∧ Written z) ∧ o = zeroT ∧ b = false)
theorem replV_ex (t : Tm) (p : List Int) (u : Tm) : ∃ o b, ReplV t p u o b := by
  by_cases h : Written t ∧ ∃ z, t.putP p u = some z ∧ Written z
  · obtain ⟨h1, z, h2, h3⟩ := h
    exact ⟨z, true, .inl ⟨h1, h2, h3, rfl⟩⟩
  · exact ⟨zeroT, false, .inr ⟨h, rfl, rfl⟩⟩
theorem ReplV.wt {t u o : Tm} {p : List Int} {b : Bool} (h : ReplV t p u o b) : o.wt ≤ 16400 := by
  rcases h with ⟨_, _, h, _⟩ | ⟨_, rfl, _⟩
  · exact h.wt
  · simp [Tm.wt, Tm.wtL]
/-- What ContractAt answers. -/
def ConV (t : Tm) (p : List Int) (o : Tm) (b : Bool) : Prop := (∃ x body put, Written t ∧ t.atP p = some x ∧ Cof x body put ∧ ReplV t p (body.rv (subf 0 put) 0) o b) ∨ (¬ (∃ x body put, Written t ∧ t.atP p = some x ∧ Cof x body put) ∧ o = zeroT ∧ b = false)
theorem conV_ex (t : Tm) (p : List Int) : ∃ o b, ConV t p o b := by
  by_cases h : ∃ x body put, Written t ∧ t.atP p = some x ∧ Cof x body put
  · obtain ⟨x, body, put, h1, h2, h3⟩ := h
    obtain ⟨o, b, ho⟩ := replV_ex t p (body.rv (subf 0 put) 0)
    exact ⟨o, b, .inl ⟨x, body, put, h1, h2, h3, ho⟩⟩
  · exact ⟨zeroT, false, .inr ⟨h, rfl, rfl⟩⟩
theorem ConV.wt {t o : Tm} {p : List Int} {b : Bool} (h : ConV t p o b) : o.wt ≤ 16400 := by
  rcases h with ⟨_, _, _, _, _, _, h⟩ | ⟨_, rfl, _⟩
  · exact h.wt
  · simp [Tm.wt, Tm.wtL]
end Go.Proofs.YtncfbljablbglaaDoor
/- How great the parts of a contraction are. Nothing is walked here. -/
namespace Go.Proofs.YtncfbljablbglaaDoor
open Go.RowKit
theorem Cof.szs {t b : Tm} {put : List Tm} (h : Cof t b put) : b.sz ≤ t.sz ∧ ∀ u ∈ put, u.sz ≤ t.sz := by
  have kd : ∀ {x y : Tm}, y ∈ x.kids → y.sz ≤ x.sz := fun hy => Nat.le_of_lt (Tm.sz_kid hy)
  cases h with
  | add a b h hk ha hb => exact ⟨by have := t.sz_pos; simp [Tm.sz, Tm.szL]; omega, (fun u hu => by cases hu)⟩
  | if0 a b c h hk ha hn => exact ⟨kd (by rw [hk]; simp), (fun u hu => by cases hu)⟩
  | if1 a b c h hk ha hn => exact ⟨kd (by rw [hk]; simp), (fun u hu => by cases hu)⟩
  | app a b u h hk ha hu =>
    have hA : a.sz ≤ t.sz := kd (by rw [hk]; simp)
    exact ⟨Nat.le_trans (kd (by rw [hu]; simp)) hA, fun w hw => by simp at hw; subst hw; exact kd (by rw [hk]; simp)⟩
  | split a b u v h hk ha hu =>
    have hA : a.sz ≤ t.sz := kd (by rw [hk]; simp)
    exact ⟨kd (by rw [hk]; simp), fun w hw => by simp at hw; rcases hw with rfl | rfl <;> exact Nat.le_trans (kd (by rw [hu]; simp)) hA⟩
  | left a b c u h hk ha hu =>
    have hA : a.sz ≤ t.sz := kd (by rw [hk]; simp)
    exact ⟨kd (by rw [hk]; simp), fun w hw => by simp at hw; subst hw; exact Nat.le_trans (kd (by rw [hu]; simp)) hA⟩
  | right a b c u h hk ha hu =>
    have hA : a.sz ≤ t.sz := kd (by rw [hk]; simp)
    exact ⟨kd (by rw [hk]; simp), fun w hw => by simp at hw; subst hw; exact Nat.le_trans (kd (by rw [hu]; simp)) hA⟩
  | opn a b u h hk ha hu =>
    have hA : a.sz ≤ t.sz := kd (by rw [hk]; simp)
    exact ⟨kd (by rw [hk]; simp), fun w hw => by simp at hw; subst hw; exact Nat.le_trans (kd (by rw [hu]; simp)) hA⟩
end Go.Proofs.YtncfbljablbglaaDoor
