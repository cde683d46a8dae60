
/- The value at a place has that place, and a value is the one at its place. Nothing is walked here. -/
import Derived.Test.YtoefeijnnnioeaaDoorKPlcS
import Derived.Test.YtoefeijnnnioeaaDoorGW
import Derived.Test.YtoefeijnnnioeaaDoorGA
set_option linter.unusedVariables false
set_option linter.unusedSimpArgs false
namespace Go.Proofs.YtoefeijnnnioeaaDoor
open Go.RowKit

theorem node4 {size vars : Int} {closed : Bool} {t : Tm} (h : NodeOk size closed vars t) (ho : t.op = 4) : t.n = 0 ∧ t.ty = [] := by
  have h1 := h.nok
  have h2 := h.tok
  rw [ho] at h1 h2
  unfold NOk at h1
  unfold TyOk at h2
  rw [if_neg (by decide), if_neg (by decide), if_neg (by unfold HasG; omega)] at h1
  rw [if_neg (by unfold TypedO; omega)] at h2
  exact ⟨h1, h2⟩
theorem node67 {size vars : Int} {closed : Bool} {t : Tm} (h : NodeOk size closed vars t) (ho : t.op = 6 ∨ t.op = 7) : t.n = 0 := by
  have h1 := h.nok
  unfold NOk at h1
  rw [if_neg (by omega), if_neg (by omega), if_neg (by unfold HasG; omega)] at h1
  exact h1
theorem node1 {size vars : Int} {closed : Bool} {t : Tm} (h : NodeOk size closed vars t) (ho : t.op = 1) : (0 ≤ t.n ∧ t.n < 3) ∧ t.ty = [] ∧ t.kids = [] := by
  have h1 := h.nok
  have h2 := h.tok
  have h3 := h.many
  rw [ho] at h1 h2 h3
  unfold NOk at h1
  unfold TyOk at h2
  rw [if_neg (by decide), if_pos rfl] at h1
  rw [if_neg (by unfold TypedO; omega)] at h2
  have h4 : manyO 1 = 0 := by decide
  rw [h4] at h3
  exact ⟨h1, h2, List.eq_nil_of_length_eq_zero (by omega)⟩
theorem node11 {size vars : Int} {closed : Bool} {t : Tm} (h : NodeOk size closed vars t) (ho : t.op = 11) : t.ty = [] := by
  have h2 := h.tok
  rw [ho] at h2
  unfold TyOk at h2
  rw [if_neg (by unfold TypedO; omega)] at h2
  exact h2
theorem tm_eta (t : Tm) : t = .mk t.op t.n t.ty t.kids := by cases t; rfl
namespace Ty
theorem at_place (T : Ty) : T.Data → ∀ {size vars : Int} {closed : Bool} {v : Tm} (_ : OkT size closed vars v) {p : Nat}, T.place v = some p → v = T.at_ p := by
  induction T with
  | leaf =>
    intro _ size vars closed v ok p h
    simp only [place] at h
    split at h
    · rename_i ho
      obtain ⟨h1, h2, h3⟩ := node1 ok.node ho
      have h4 := Option.some.inj h
      rw [tm_eta v, ho, h2, h3, at_, ← h4, Int.toNat_of_nonneg h1.1]
    · cases h
  | two c a b iha ihb =>
    intro hd size vars closed v ok p h
    rcases hd.1 with rfl | rfl
    · by_cases ho : v.op = 4
      · obtain ⟨x, y, hk⟩ := len2 (l := v.kids) (by have := ok.node.many; rw [ho] at this; exact this)
        rw [place_pair ho hk] at h
        obtain ⟨q, hq, h⟩ := Option.bind_eq_some_iff.1 h
        obtain ⟨r, hr, h⟩ := Option.map_eq_some_iff.1 h
        have okx := ok.kid (i := 0) (k := x) (by rw [hk]; rfl)
        have oky := ok.kid (i := 1) (k := y) (by rw [hk]; rfl)
        have h1 := iha hd.2.1 okx hq
        have h2 := ihb hd.2.2 oky hr
        have h3 := place_lt b oky hr
        obtain ⟨n1, n2⟩ := node4 ok.node ho
        have e1 : p / b.cnt = q := by rw [← h, Nat.mul_comm, Nat.mul_add_div (by omega), Nat.div_eq_of_lt h3, Nat.add_zero]
        have e2 : p % b.cnt = r := by rw [← h, Nat.mul_comm, Nat.mul_add_mod, Nat.mod_eq_of_lt h3]
        rw [tm_eta v, ho, n1, n2, hk, h1, h2]
        simp only [at_, if_true]
        rw [e1, e2]
      · rw [place_pair_no ho] at h
        cases h
    · by_cases h6 : v.op = 6 ∧ v.ty = b.enc
      · obtain ⟨x, hk⟩ := len1 (l := v.kids) (by have := ok.node.many; rw [h6.1] at this; exact this)
        rw [place_left h6.1 h6.2 hk] at h
        have okx := ok.kid (i := 0) (k := x) (by rw [hk]; rfl)
        have h1 := iha hd.2.1 okx h
        have h3 := place_lt a okx h
        rw [tm_eta v, h6.1, node67 ok.node (.inl h6.1), h6.2, hk, h1]
        simp only [at_]
        rw [if_neg (by decide), if_pos h3]
      · by_cases h7 : v.op = 7 ∧ v.ty = a.enc
        · obtain ⟨x, hk⟩ := len1 (l := v.kids) (by have := ok.node.many; rw [h7.1] at this; exact this)
          rw [place_right h7.1 h7.2 hk] at h
          obtain ⟨q, hq, h⟩ := Option.map_eq_some_iff.1 h
          have okx := ok.kid (i := 0) (k := x) (by rw [hk]; rfl)
          have h1 := ihb hd.2.2 okx hq
          rw [tm_eta v, h7.1, node67 ok.node (.inr h7.1), h7.2, hk, h1, ← h]
          simp only [at_]
          rw [if_neg (by decide), if_neg (by omega), Nat.add_sub_cancel_left]
        · rw [place_sum_no h6 h7] at h
          cases h
  | one c a ih =>
    intro hd size vars closed v ok p h
    by_cases ho : v.op = 11 ∧ v.n = gradeOf c
    · obtain ⟨x, hk⟩ := len1 (l := v.kids) (by have := ok.node.many; rw [ho.1] at this; exact this)
      rw [place_box ho.1 ho.2 hk] at h
      have h1 := ih hd (ok.kid (i := 0) (k := x) (by rw [hk]; rfl)) h
      rw [tm_eta v, ho.1, ho.2, node11 ok.node ho.1, hk, h1]
      rfl
    · rw [place_box_no ho] at h
      cases h
theorem place_at (T : Ty) : T.Data → ∀ {k : Nat}, k < T.cnt → T.place (T.at_ k) = some k := by
  induction T with
  | leaf => intro _ k _; simp [at_, place, Tm.op, Tm.n]
  | two c a b iha ihb =>
    intro hd k hk
    rcases hd.1 with rfl | rfl
    · obtain ⟨h1, h2⟩ := pair_lt hk
      rw [show (two 1 a b).at_ k = .mk 4 0 [] [a.at_ (k / b.cnt), b.at_ (k % b.cnt)] from rfl, place_pair rfl rfl, iha hd.2.1 h1, ihb hd.2.2 h2]
      simp only [Option.bind_some, Option.map_some]
      rw [Nat.mul_comm, Nat.div_add_mod]
    · have hc : (two 2 a b).cnt = a.cnt + b.cnt := by simp [cnt]
      by_cases h : k < a.cnt
      · rw [show (two 2 a b).at_ k = .mk 6 0 b.enc [a.at_ k] by simp only [at_]; rw [if_neg (by decide), if_pos h], place_left rfl rfl rfl, iha hd.2.1 h]
      · rw [show (two 2 a b).at_ k = .mk 7 0 a.enc [b.at_ (k - a.cnt)] by simp only [at_]; rw [if_neg (by decide), if_neg h], place_right rfl rfl rfl, ihb hd.2.2 (k := k - a.cnt) (by omega)]
        simp only [Option.map_some]
        congr 1
        omega
  | one c a ih =>
    intro hd k hk
    rw [show (one c a).at_ k = .mk 11 (gradeOf c) [] [a.at_ k] from rfl, place_box rfl rfl rfl]
    exact ih hd hk
end Ty
/-- What PlaceOf answers. -/
def PlaceV (s : Sys) (l : List Int) (t : Tm) (v : Int) : Prop :=
  ∃ n, CntV s l n ∧ ((0 ≤ n ∧ IsTermP s t 0 ∧ IsDataP s l ∧ ∃ T : Ty, T.Ok ∧ T.Data ∧ T.Cl ∧ l = T.enc ∧ T.enc.length ≤ 40 ∧ T.cnt ≤ 300 ∧ n = T.cnt ∧ v = Ty.placeI (T.place t)) ∨ (¬ (0 ≤ n ∧ IsTermP s t 0) ∧ v = -1))
theorem placeV_ex (s : Sys) (l : List Int) (t : Tm) : ∃ v, PlaceV s l t v := by
  obtain ⟨n, hn⟩ := cntV_ex s l
  by_cases h : 0 ≤ n ∧ IsTermP s t 0
  · have hn' := hn
    rcases hn with ⟨hd, T, h1, h2, h3, ⟨h4, rfl⟩ | ⟨h4, rfl⟩⟩ | ⟨_, rfl⟩
    · exact ⟨_, T.cnt, hn', .inl ⟨h.1, h.2, hd, T, h1, h2, Ty.cl_of (n := s.n) h1 (by rw [← h3]; exact hd.1.2.2), h3, by rw [← h3]; exact hd.1.2.1.1, h4, rfl, rfl⟩⟩
    · omega
    · omega
  · exact ⟨-1, n, hn, .inr ⟨h, rfl⟩⟩
end Go.Proofs.YtoefeijnnnioeaaDoor
