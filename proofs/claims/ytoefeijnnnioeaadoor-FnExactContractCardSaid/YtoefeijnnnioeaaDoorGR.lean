/- Texts of one claim, laid together: Tree, RowCut, PlaceSpec. -/
import Derived.Test.YtoefeijnnnioeaaDoorGA
set_option linter.unusedVariables false
set_option linter.unusedSimpArgs false

/- Types as trees, plainly: every written type is the list of one tree. Nothing of a program stands here. -/
namespace Go.Proofs.YtoefeijnnnioeaaDoor
open Go.RowKit

inductive Ty where
  | leaf
  | two (c : Int) (a b : Ty)
  | one (c : Int) (a : Ty)
namespace Ty
/-- Its codes. -/
def enc : Ty → List Int | leaf => [0] | two c a b => c :: (a.enc ++ b.enc) | one c a => c :: a.enc
/-- Each code has its parts. -/
def Ok : Ty → Prop | leaf => True | two c a b => kidsOf c = 2 ∧ a.Ok ∧ b.Ok | one c a => kidsOf c = 1 ∧ a.Ok
def encs : List Ty → List Int | [] => [] | t :: l => t.enc ++ encs l
theorem enc_pos (t : Ty) : 0 < t.enc.length := by cases t <;> simp [enc]
theorem endL_enc {t : Ty} (h : t.Ok) : ∀ (post : List Int) (i : Nat) (m : Int), 0 ≤ m → endL (t.enc ++ post) i (m + 1) = endL post (i + t.enc.length) m := by
  induction t with
  | leaf =>
    intro post i m hm
    have h0 : ¬ m + 1 = 0 := by omega
    simp only [enc, List.cons_append, List.nil_append, endL, h0, if_false, kidsOf_0, List.length_cons, List.length_nil]
    rw [if_neg (by omega), show m + 1 - 1 + 0 = m by omega]
  | two c a b iha ihb =>
    obtain ⟨hc, ha, hb⟩ := h
    intro post i m hm
    have h0 : ¬ m + 1 = 0 := by omega
    simp only [enc, List.cons_append, endL, h0, if_false, hc, List.length_cons, List.length_append]
    rw [if_neg (by omega), show m + 1 - 1 + 2 = (m + 1) + 1 by omega, List.append_assoc, iha ha _ _ _ (by omega), ihb hb _ _ _ hm]
    congr 1
    omega
  | one c a iha =>
    obtain ⟨hc, ha⟩ := h
    intro post i m hm
    have h0 : ¬ m + 1 = 0 := by omega
    simp only [enc, List.cons_append, endL, h0, if_false, hc, List.length_cons]
    rw [if_neg (by omega), show m + 1 - 1 + 1 = m + 1 by omega, iha ha _ _ _ hm]
    congr 1
    omega
/-- A tree that stands in a list ends where its codes end. -/
theorem endOf_enc {t : Ty} (h : t.Ok) {l : List Int} {i : Nat} {post : List Int} (hl : l.drop i = t.enc ++ post) : endOf l i 1 = i + t.enc.length := by
  unfold endOf
  rw [hl, show (1 : Int) = 0 + 1 from rfl, endL_enc h _ _ _ (by omega)]
  cases post <;> simp [endL]
theorem parse (l : List Int) : ∀ (i : Nat) (m : Nat), 0 ≤ endL l i m → ∃ (ts : List Ty) (post : List Int), ts.length = m ∧ (∀ t ∈ ts, t.Ok) ∧ l = encs ts ++ post ∧ endL l i m = i + (encs ts).length := by
  induction l with
  | nil =>
    intro i m h
    cases m with
    | zero => exact ⟨[], [], rfl, by simp, rfl, by simp [endL, encs]⟩
    | succ m =>
      exfalso
      simp only [endL] at h
      rw [if_neg (by omega)] at h
      omega
  | cons c l ih =>
    intro i m h
    cases m with
    | zero => exact ⟨[], c :: l, rfl, by simp, rfl, by simp [endL, encs]⟩
    | succ m =>
      have h0 : ¬ ((m + 1 : Nat) : Int) = 0 := by omega
      simp only [endL, h0, if_false] at h ⊢
      have hk : ¬ kidsOf c < 0 := fun q => by rw [if_pos q] at h; omega
      rw [if_neg hk] at h ⊢
      have hle := kidsOf_le c
      obtain ⟨k, hkk⟩ : ∃ k : Nat, kidsOf c = k := ⟨(kidsOf c).toNat, by omega⟩
      rw [show ((m + 1 : Nat) : Int) - 1 + kidsOf c = ((m + k : Nat) : Int) by omega] at h ⊢
      obtain ⟨ts, post, h1, h2, h3, h4⟩ := ih (i + 1) (m + k) h
      have hk3 : k = 0 ∨ k = 1 ∨ k = 2 := by omega
      rcases hk3 with rfl | rfl | rfl
      · have hc : c = 0 := by
          unfold kidsOf at hkk
          split at hkk
          · assumption
          · split at hkk
            · omega
            · split at hkk <;> omega
        subst hc
        refine ⟨leaf :: ts, post, by simp [h1], ?_, by simp [encs, enc, h3], ?_⟩
        · intro t ht
          rcases List.mem_cons.1 ht with rfl | ht
          · trivial
          · exact h2 t ht
        · rw [h4]; simp [encs, enc]; omega
      · match ts, h1 with
        | a :: ts, h1 =>
          refine ⟨one c a :: ts, post, by simpa using h1, ?_, by simp [encs, enc, h3], ?_⟩
          · intro t ht
            rcases List.mem_cons.1 ht with rfl | ht
            · exact ⟨by omega, h2 a (by simp)⟩
            · exact h2 t (by simp [ht])
          · rw [h4]; simp [encs, enc]; omega
      · match ts, h1 with
        | a :: b :: ts, h1 =>
          refine ⟨two c a b :: ts, post, by simpa using h1, ?_, by simp [encs, enc, h3], ?_⟩
          · intro t ht
            rcases List.mem_cons.1 ht with rfl | ht
            · exact ⟨by omega, h2 a (by simp), h2 b (by simp)⟩
            · exact h2 t (by simp [ht])
          · rw [h4]; simp [encs, enc]; omega
/-- Every written type is the list of a tree. -/
theorem _root_.Go.Proofs.YtoefeijnnnioeaaDoor.WT.tree {l : List Int} (h : WT l) : ∃ t : Ty, t.Ok ∧ l = t.enc := by
  have h1 := h.2
  unfold endOf at h1
  obtain ⟨ts, post, h2, h3, h4, h5⟩ := parse (l.drop 0) 0 1 (by have := h1; simp at this ⊢; omega)
  have h6 : endL (l.drop 0) 0 1 = (l.length : Int) := h1
  match ts, h2 with
  | [t], _ =>
    have h7 : l = t.enc ++ post := by simpa [encs] using h4
    have h8 : ((0 : Nat) : Int) + (t.enc.length : Int) = l.length := by
      have := h5.symm.trans h6
      simpa [encs] using this
    have h9 : post = [] := by
      have := congrArg List.length h7
      simp at this
      exact List.eq_nil_of_length_eq_zero (by omega)
    exact ⟨t, h3 t (by simp), by simpa [h9] using h7⟩
/-- How many leaves. -/
def leaves : Ty → Nat | leaf => 1 | two _ a b => a.leaves + b.leaves | one _ a => a.leaves
theorem leaves_pos (t : Ty) : 1 ≤ t.leaves := by
  induction t with
  | leaf => simp [leaves]
  | two c a b iha ihb => simp [leaves]; omega
  | one c a ih => simpa [leaves] using ih
theorem leaves_le (t : Ty) : 2 * t.leaves ≤ t.enc.length + 1 := by
  induction t with
  | leaf => simp [leaves, enc]
  | two c a b iha ihb => simp [leaves, enc]; omega
  | one c a ih => simp [leaves, enc]; omega
/-- How many values. -/
def cnt : Ty → Nat | leaf => 3 | two c a b => if c = 1 then a.cnt * b.cnt else a.cnt + b.cnt | one _ a => a.cnt
theorem cnt_pos (t : Ty) : 1 ≤ t.cnt := by
  induction t with
  | leaf => simp [cnt]
  | two c a b iha ihb =>
    simp only [cnt]
    split
    · exact Nat.mul_pos iha ihb
    · omega
  | one c a ih => simpa [cnt] using ih
theorem cnt_le_pow (t : Ty) : t.cnt ≤ 3 ^ t.leaves := by
  induction t with
  | leaf => simp [cnt, leaves]
  | two c a b iha ihb =>
    have ha := a.leaves_pos
    have hb := b.leaves_pos
    simp only [cnt, leaves, Nat.pow_add]
    have h1 : 3 ≤ 3 ^ a.leaves := by simpa using Nat.pow_le_pow_right (n := 3) (by omega) ha
    have h2 : 3 ≤ 3 ^ b.leaves := by simpa using Nat.pow_le_pow_right (n := 3) (by omega) hb
    split
    · exact Nat.mul_le_mul iha ihb
    · have h3 : 3 ^ a.leaves * 2 ≤ 3 ^ a.leaves * 3 ^ b.leaves := Nat.mul_le_mul_left _ (by omega)
      have h4 : 3 ^ b.leaves * 2 ≤ 3 ^ b.leaves * 3 ^ a.leaves := Nat.mul_le_mul_left _ (by omega)
      rw [Nat.mul_comm (3 ^ b.leaves) (3 ^ a.leaves)] at h4
      omega
  | one c a ih => simpa [cnt, leaves] using ih
theorem cnt_le {t : Ty} (h : t.enc.length ≤ 40) : t.cnt ≤ 3486784401 := by
  have h1 := t.leaves_le
  have h2 := t.cnt_le_pow
  have h3 : 3 ^ t.leaves ≤ 3 ^ 20 := Nat.pow_le_pow_right (by omega) (by omega)
  have h4 : (3 : Nat) ^ 20 = 3486784401 := by decide
  omega
/-- How many values, but no more than 301. -/
def cap (t : Ty) : Nat := min t.cnt 301
theorem cap_leaf : cap leaf = 3 := rfl
theorem cap_one (c : Int) (a : Ty) : cap (one c a) = cap a := rfl
theorem cap_pair (a b : Ty) : cap (two 1 a b) = min (cap a * cap b) 301 := by
  unfold cap
  simp only [cnt, if_true]
  have ha := a.cnt_pos
  have hb := b.cnt_pos
  by_cases h1 : a.cnt ≤ 301
  · by_cases h2 : b.cnt ≤ 301
    · rw [Nat.min_eq_left h1, Nat.min_eq_left h2]
    · have h3 : 1 * b.cnt ≤ a.cnt * b.cnt := Nat.mul_le_mul_right _ ha
      have h4 : 1 * 301 ≤ a.cnt * 301 := Nat.mul_le_mul_right _ ha
      rw [Nat.min_eq_left h1, Nat.min_eq_right (a := b.cnt) (by omega)]
      omega
  · have h3 : a.cnt * 1 ≤ a.cnt * b.cnt := Nat.mul_le_mul_left _ hb
    have h4 : 301 * 1 ≤ 301 * min b.cnt 301 := Nat.mul_le_mul_left _ (by omega)
    rw [Nat.min_eq_right (a := a.cnt) (by omega)]
    omega
theorem cap_sum (c : Int) (hc : c ≠ 1) (a b : Ty) : cap (two c a b) = min (cap a + cap b) 301 := by
  unfold cap
  simp only [cnt, hc, if_false]
  omega
theorem cap_le (t : Ty) : t.cap ≤ 301 := by unfold cap; omega
end Ty
end Go.Proofs.YtoefeijnnnioeaaDoor

/- Parts of rows, plainly. Nothing of a program stands here. -/
namespace Go.Proofs.YtoefeijnnnioeaaDoor
open Go.RowKit

theorem Row.place {α : Type} {w : World} {mk : α → Value} {a : Option Addr} {l : List α} (h : Row w mk a l) (hl : l ≠ []) : ∃ b o, a = some ⟨b, o, none⟩ := by
  rcases h with h | ⟨b, o, e, _⟩
  · exact absurd h hl
  · exact ⟨b, o, e⟩
theorem Row.cut {α : Type} {w : World} {mk : α → Value} {b o : Nat} {pre l post : List α} (h : Row w mk (some ⟨b, o, none⟩) (pre ++ (l ++ post))) {o' : Nat} (ho : o' = o + pre.length) : Row w mk (some ⟨b, o', none⟩) l := by
  subst ho
  refine .inr ⟨b, _, rfl, fun i x hx => ?_⟩
  have hi := (List.getElem?_eq_some_iff.1 hx).1
  have hx' : (pre ++ (l ++ post))[pre.length + i]? = some x := by
    rw [List.getElem?_append_right (by omega), show pre.length + i - pre.length = i by omega, List.getElem?_append_left hi]
    exact hx
  rcases h with h | ⟨b', o', e, hc⟩
  · rw [h] at hx'; simp at hx'
  · cases e
    have := hc _ x hx'
    rwa [show o + pre.length + i = o + (pre.length + i) by omega]
section
variable {w : World} {b o : Nat} {c : Int} {A B : Ty}
theorem row_head {l : List Int} (h : Row w (Value.int .i64) (some ⟨b, o, none⟩) l) {c : Int} {l' : List Int} (hl : l = c :: l') : w.cell? ⟨b, o, none⟩ = some (.int .i64 c) := by
  subst hl
  rcases h with h | ⟨b', o', e, hc⟩
  · cases h
  · cases e
    have := hc 0 c rfl
    simpa using this
theorem row_two1 (h : Row w (Value.int .i64) (some ⟨b, o, none⟩) (Ty.two c A B).enc) : Row w (Value.int .i64) (some ⟨b, o + 1, none⟩) A.enc :=
  Row.cut (pre := [c]) (post := B.enc) h rfl
theorem row_two2 (h : Row w (Value.int .i64) (some ⟨b, o, none⟩) (Ty.two c A B).enc) : Row w (Value.int .i64) (some ⟨b, o + (1 + A.enc.length), none⟩) B.enc :=
  Row.cut (pre := c :: A.enc) (post := []) (by simpa [Ty.enc] using h) (by simp; omega)
theorem row_one (h : Row w (Value.int .i64) (some ⟨b, o, none⟩) (Ty.one c A).enc) : Row w (Value.int .i64) (some ⟨b, o + 1, none⟩) A.enc :=
  Row.cut (pre := [c]) (post := []) (by simpa [Ty.enc] using h) rfl
end
theorem Ty.len_two (c : Int) (A B : Ty) : (Ty.two c A B).enc.length = 1 + A.enc.length + B.enc.length := by simp [Ty.enc]; omega
theorem Ty.len_one (c : Int) (A : Ty) : (Ty.one c A).enc.length = 1 + A.enc.length := by simp [Ty.enc]; omega
theorem Ty.len_leaf : Ty.leaf.enc.length = 1 := rfl
theorem Ty.end_two {c : Int} {A B : Ty} (h : (Ty.two c A B).Ok) : endOf (Ty.two c A B).enc 1 1 = (1 + A.enc.length : Nat) := by
  rw [Ty.endOf_enc (t := A) h.2.1 (post := B.enc) (by simp [Ty.enc])]
  omega
theorem Ty.end_two2 {c : Int} {A B : Ty} (h : (Ty.two c A B).Ok) : endOf (Ty.two c A B).enc (1 + A.enc.length) 1 = (1 + A.enc.length + B.enc.length : Nat) := by
  rw [Ty.endOf_enc (t := B) h.2.2 (post := []) (by rw [Nat.add_comm]; simp [Ty.enc])]
  omega
theorem Ty.end_one {c : Int} {A : Ty} (h : (Ty.one c A).Ok) : endOf (Ty.one c A).enc 1 1 = (1 + A.enc.length : Nat) := by
  rw [Ty.endOf_enc (t := A) h.2 (post := []) (by simp [Ty.enc])]
  omega
end Go.Proofs.YtoefeijnnnioeaaDoor

/- Places of values, plainly. Nothing of a program stands here. -/
namespace Go.Proofs.YtoefeijnnnioeaaDoor
open Go.RowKit

namespace Ty
/-- No arrows. -/
def Data : Ty → Prop | leaf => True | two c a b => (c = 1 ∨ c = 2) ∧ a.Data ∧ b.Data | one _ a => a.Data
theorem bx_of {c : Int} (h : kidsOf c = 1) : Bx c := by
  unfold kidsOf at h
  split at h
  · omega
  · split at h
    · omega
    · split at h
      · assumption
      · omega
theorem two_of {c : Int} (h : kidsOf c = 2) : c = 1 ∨ c = 2 ∨ Arr c := by
  unfold kidsOf at h
  split at h
  · omega
  · split at h
    · assumption
    · split at h <;> omega
theorem data_of {t : Ty} (h : t.Ok) (hd : ∀ c ∈ t.enc, ¬ Arr c) : t.Data := by
  induction t with
  | leaf => trivial
  | two c a b iha ihb =>
    have h1 := hd c (by simp [enc])
    refine ⟨?_, iha h.2.1 fun u hu => hd u (by simp [enc, hu]), ihb h.2.2 fun u hu => hd u (by simp [enc, hu])⟩
    rcases two_of h.1 with h2 | h2 | h2
    · exact .inl h2
    · exact .inr h2
    · exact absurd h2 h1
  | one c a iha => exact iha h.2 fun u hu => hd u (by simp [enc, hu])
/-- The place of a value; none: it is no value. -/
def place : Ty → Tm → Option Nat
  | leaf, v => if v.op = 1 then some v.n.toNat else none
  | two c a b, v =>
    if c = 1 then (if v.op = 4 then match v.kids with | [x, y] => (a.place x).bind fun p => (b.place y).map fun q => p * b.cnt + q | _ => none else none)
    else if v.op = 6 ∧ v.ty = b.enc then match v.kids with | [x] => a.place x | _ => none
    else if v.op = 7 ∧ v.ty = a.enc then match v.kids with | [x] => (b.place x).map (a.cnt + ·) | _ => none
    else none
  | one c a, v => if v.op = 11 ∧ v.n = gradeOf c then match v.kids with | [x] => a.place x | _ => none else none
theorem place_lt (t : Ty) : ∀ {size vars : Int} {closed : Bool} {v : Tm} (_ : OkT size closed vars v) {p : Nat} (_ : t.place v = some p), p < t.cnt := by
  induction t with
  | leaf =>
    intro size vars closed v ok p h
    simp only [place] at h
    split at h
    · rename_i ho
      cases h
      have := ok.node.nok
      unfold NOk at this
      rw [if_neg (by omega), if_pos ho] at this
      simp only [cnt]
      omega
    · cases h
  | two c a b iha ihb =>
    intro size vars closed v ok p h
    simp only [place] at h
    split at h
    · rename_i hc
      split at h
      · split at h
        · rename_i x y hk
          obtain ⟨q, hq, h⟩ := Option.bind_eq_some_iff.1 h
          obtain ⟨r, hr, h⟩ := Option.map_eq_some_iff.1 h
          have h1 := iha (ok.kid (i := 0) (by rw [hk]; rfl)) hq
          have h2 := ihb (ok.kid (i := 1) (by rw [hk]; rfl)) hr
          simp only [cnt, hc, if_true]
          have h3 : (q + 1) * b.cnt ≤ a.cnt * b.cnt := Nat.mul_le_mul_right _ (by omega)
          rw [Nat.add_mul] at h3
          omega
        · cases h
      · cases h
    · rename_i hc
      simp only [cnt, hc, if_false]
      split at h
      · split at h
        · rename_i x hk
          have h1 := iha (ok.kid (i := 0) (by rw [hk]; rfl)) h
          omega
        · cases h
      · split at h
        · split at h
          · rename_i x hk
            obtain ⟨r, hr, h⟩ := Option.map_eq_some_iff.1 h
            have h1 := ihb (ok.kid (i := 0) (by rw [hk]; rfl)) hr
            omega
          · cases h
        · cases h
  | one c a iha =>
    intro size vars closed v ok p h
    simp only [place] at h
    split at h
    · split at h
      · rename_i x hk
        exact iha (ok.kid (i := 0) (by rw [hk]; rfl)) h
      · cases h
    · cases h
section
variable {c : Int} {a b : Ty} {v x y : Tm}
theorem place_leaf (h : v.op = 1) : leaf.place v = some v.n.toNat := by simp [place, h]
theorem place_leaf_no (h : v.op ≠ 1) : leaf.place v = none := by simp [place, h]
theorem place_pair (h : v.op = 4) (hk : v.kids = [x, y]) : (two 1 a b).place v = (a.place x).bind fun p => (b.place y).map fun q => p * b.cnt + q := by simp [place, h, hk]
theorem place_pair_no (h : v.op ≠ 4) : (two 1 a b).place v = none := by simp [place, h]
theorem place_left (h : v.op = 6) (ht : v.ty = b.enc) (hk : v.kids = [x]) : (two 2 a b).place v = a.place x := by simp [place, h, ht, hk]
theorem place_right (h : v.op = 7) (ht : v.ty = a.enc) (hk : v.kids = [x]) : (two 2 a b).place v = (b.place x).map (a.cnt + ·) := by simp [place, h, ht, hk]
theorem place_sum_no (h1 : ¬ (v.op = 6 ∧ v.ty = b.enc)) (h2 : ¬ (v.op = 7 ∧ v.ty = a.enc)) : (two 2 a b).place v = none := by
  simp only [place]
  rw [if_neg (by omega), if_neg h1, if_neg h2]
theorem place_box (h : v.op = 11) (hn : v.n = gradeOf c) (hk : v.kids = [x]) : (one c a).place v = a.place x := by simp [place, h, hn, hk]
theorem place_box_no (h : ¬ (v.op = 11 ∧ v.n = gradeOf c)) : (one c a).place v = none := by
  simp only [place]
  rw [if_neg h]
end
/-- What is told of a place. -/
def placeI (o : Option Nat) : Int := match o with | some p => p | none => -1
end Ty
end Go.Proofs.YtoefeijnnnioeaaDoor
