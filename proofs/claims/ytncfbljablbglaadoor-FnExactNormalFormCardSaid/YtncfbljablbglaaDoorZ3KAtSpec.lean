/- Terms at paths, plainly. Nothing of a program stands here. -/
import Derived.Test.YtncfbljablbglaaDoorZ3GA
set_option linter.unusedVariables false
set_option linter.unusedSimpArgs false
namespace Go.Proofs.YtncfbljablbglaaDoor
open Go.RowKit
namespace Tm
/-- The kid of a number. -/
def kidI (t : Tm) (k : Int) : Option Tm := if 0 ≤ k then t.kids[k.toNat]? else none
/-- The term at a path. -/
def atP : List Int → Tm → Option Tm | [], t => some t | k :: p, t => (t.kidI k).bind (atP p)
theorem kidI_some {t c : Tm} {k : Int} (h : t.kidI k = some c) : ∃ j : Nat, k = (j : Int) ∧ t.kids[j]? = some c := by
  unfold kidI at h
  split at h
  · exact ⟨k.toNat, by omega, h⟩
  · cases h
theorem kidI_none {t : Tm} {k : Int} (h : t.kidI k = none) : ¬ (0 ≤ k ∧ k < (t.kids.length : Int)) := by
  unfold kidI at h
  rintro ⟨h0, h1⟩
  rw [if_pos h0] at h
  have := List.getElem?_eq_none_iff.1 h
  omega
theorem atP_snoc {p : List Int} : ∀ {t : Tm} {k : Int}, atP (p ++ [k]) t = (atP p t).bind (fun c => c.kidI k) := by
  induction p with
  | nil => intro t k; simp [atP]
  | cons a p ih =>
    intro t k
    simp only [List.cons_append, atP]
    cases t.kidI a with
    | none => rfl
    | some c => exact ih
theorem atP_append {q : List Int} {p : List Int} : ∀ {t : Tm}, atP (p ++ q) t = (atP p t).bind (atP q) := by
  induction p with
  | nil => intro t; simp [atP]
  | cons a p ih =>
    intro t
    simp only [List.cons_append, atP]
    cases t.kidI a with
    | none => rfl
    | some c => exact ih
theorem atP_step {p : List Int} {t c : Tm} {j : Nat} {k : Int} (h : atP (p.take j) t = some c) (hk : p[j]? = some k) : atP (p.take (j + 1)) t = c.kidI k := by
  have e : p.take (j + 1) = p.take j ++ [k] := by rw [List.take_add_one, hk]; rfl
  rw [e, atP_snoc, h]
  rfl
theorem atP_stop {p : List Int} {t c : Tm} {j : Nat} {k : Int} (h : atP (p.take j) t = some c) (hk : p[j]? = some k) (hn : c.kidI k = none) : atP p t = none := by
  have e : p = p.take (j + 1) ++ p.drop (j + 1) := (List.take_append_drop _ _).symm
  rw [e, atP_append, atP_step h hk, hn]
  rfl
end Tm
/-- A term within another one: well made, no greater. -/
structure Within (t c : Tm) (v : Int) : Prop where
  ok : OkT 16 false v c
  sz : c.sz ≤ t.sz
  room : v + 2 * (c.sz : Int) ≤ 8 + 2 * (t.sz : Int)
  low : 8 ≤ v
  wt : c.wt ≤ t.wt
theorem Within.self {t : Tm} (h : Written t) : Within t t 8 := ⟨h.2, Nat.le_refl _, by omega, by omega, Nat.le_refl _⟩
theorem Within.kid {t c d : Tm} {v : Int} (h : Within t c v) {j : Nat} (hd : c.kids[j]? = some d) : Within t d (v + addsO c.op j) := by
  have h1 := Tm.sz_kid (List.mem_of_getElem? hd)
  have h2 := addsO_le c.op j
  have h3 := addsO_ge c.op j
  have h4 := h.sz
  have h5 := h.room
  have h6 := h.low
  have h7 := Tm.wt_kid (List.mem_of_getElem? hd)
  have h8 := h.wt
  exact ⟨h.ok.kid hd, by omega, by omega, by omega, by omega⟩
theorem Within.at {t : Tm} : ∀ {p : List Int} {c o : Tm} {v : Int}, Within t c v → c.atP p = some o → ∃ w, Within t o w
  | [], c, o, v, h, e => by cases e; exact ⟨v, h⟩
  | k :: p, c, o, v, h, e => by
    simp only [Tm.atP] at e
    cases hk : c.kidI k with
    | none => rw [hk] at e; cases e
    | some d =>
      rw [hk] at e
      obtain ⟨j, rfl, hj⟩ := Tm.kidI_some hk
      exact Within.at (h.kid hj) e
/-- What TermAt answers. -/
def AtV (t : Tm) (p : List Int) (o : Tm) (b : Bool) : Prop := (Written t ∧ t.atP p = some o ∧ b = true) ∨ (¬ (Written t ∧ ∃ c, t.atP p = some c) ∧ o = zeroT ∧ b = false)
theorem AtV.no {t o : Tm} {p : List Int} {b : Bool} (h : AtV t p o b) (hn : ¬ (Written t ∧ ∃ c, t.atP p = some c)) : o = zeroT ∧ b = false := by
  rcases h with ⟨g, e, _⟩ | ⟨_, e⟩
  · exact absurd ⟨g, o, e⟩ hn
  · exact e
theorem AtV.yes {t o c : Tm} {p : List Int} {b : Bool} (h : AtV t p o b) (hw : Written t) (g : t.atP p = some c) : o = c ∧ b = true := by
  rcases h with ⟨_, e, e2⟩ | ⟨hn, _⟩
  · rw [g] at e; cases e; exact ⟨rfl, e2⟩
  · exact absurd ⟨hw, c, g⟩ hn
theorem AtV.wt {t o : Tm} {p : List Int} {b : Bool} (h : AtV t p o b) : o.wt ≤ 16400 := by
  rcases h with ⟨g, e, _⟩ | ⟨_, rfl, _⟩
  · obtain ⟨w, hw⟩ := (Within.self g).at e
    have := hw.wt
    have := g.wt
    omega
  · simp [Tm.wt, Tm.wtL]
end Go.Proofs.YtncfbljablbglaaDoor
