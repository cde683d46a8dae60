
/- Lists of lists of numbers: how much they are, their copies by the laws. -/
import Derived.Test.YteffcfaoganciaaDoorKOpenLs
import Derived.Test.YteffcfaoganciaaDoorGE
set_option linter.unusedVariables false
set_option linter.unusedSimpArgs false
namespace Go.Proofs.YteffcfaoganciaaDoor
open Go.RowKit

set_option maxHeartbeats 1600000 in
theorem szIntSS_ans {W : World} {a : Option Addr} {c : Nat} {ls : List (List Int)} {hd : Nat → Option Addr × Nat} (h : LsAr W a ls hd) (left : Int) (hl0 : 0 ≤ left) (hl1 : left ≤ 1048576) (v : Int) (hv : SzV (lsWt ls) left v) (x : Ext W) :
    Calls Tryd.prog 45 #[.slice a ls.length c, .int .i64 left] x.w (Ans W (.int .i64 v)) := by
  have HV := Lib.hid hv
  clear hv
  have hlk := h.all
  obtain ⟨yy, hyy⟩ : ∃ y : Ext W, x = y := ⟨x, rfl⟩
  rw [hyy]
  clear hyy
  by_cases hs : left < (ls.length : Int)
  · have hs2 : left - (ls.length : Int) < 0 := by omega
    go_enter Tryd.func45, Tryd.ntmps45
    go_wp2
    go_ret
    refine fin_int ?_ ⟨yy, rfl⟩
    have h3 : lsWt ls = ls.length + cntLs ls := rfl
    rcases HV.out with ⟨b1, b2⟩ | ⟨b1, b2⟩ <;> omega
  · have hs2 : ¬ left - (ls.length : Int) < 0 := by omega
    go_enter Tryd.func45, Tryd.ntmps45
    go_wp2
    go_loopw [5, 1] (fun i q wr => ∃ k : Nat, ∃ u : Int, i = .int .i64 k ∧ q = .int .i64 u ∧ k ≤ ls.length ∧ 0 ≤ u ∧ u ≤ left ∧ (∃ y : Ext W, wr = y.w) ∧ Hid (u = left - ls.length - cntLs (ls.take k))) (fun i _ _ => ls.length - (intOf i).toNat)
    case atStart => exact ⟨0, _, rfl, rfl, by omega, by omega, by omega, ⟨yy, rfl⟩, by show _ = _; simp [cntLs]⟩
    case round =>
      obtain ⟨k, u, rfl, rfl, hk, hu1, hu2, ⟨yy, rfl⟩, HU⟩ := hrel
      by_cases hlt : k < ls.length
      · have hlt' : (k : Int) < (ls.length : Int) := by omega
        obtain ⟨l, hl⟩ : ∃ l, ls[k]? = some l := ⟨_, List.getElem?_eq_getElem hlt⟩
        have HL := Lib.hid hl
        have hll := h.len k l hl
        obtain ⟨b1, o1, rfl, hc⟩ := h.row.at (i := k) (by rw [hds_len]; exact hlt)
        have c1 : ∀ y : Ext W, y.w.cell? ⟨b1, o1 + k, none⟩ = some (.slice (hd k).1 l.length (hd k).2) := fun y => y.cell (hc k _ (hds_at hl hd))
        obtain ⟨m, hm⟩ : ∃ m : Int, m = if u < (l.length : Int) then -1 else u - l.length := ⟨_, rfl⟩
        have HM := Lib.hid hm
        have C : ∀ y : Ext W, Calls Tryd.prog 53 #[.slice (hd k).1 l.length (hd k).2, .int .i64 u] y.w (Ans W (.int .i64 m)) := fun y => szIntS_ans _ _ l u hu1 (by omega) hll m hm y
        clear hc hl hm
        by_cases hm0 : m < 0
        · go_wp2_with (go_at_call 53; with_reducible refine Calls.mono (C _) ?_; rintro e w' ⟨rfl, yy, rfl⟩)
          go_ret
          refine fin_int ?_ ⟨yy, rfl⟩
          have h3 : lsWt ls = ls.length + cntLs ls := rfl
          have h4 := cntLs_take_succ HL.out
          have h5 := cntLs_take_le ls (k + 1)
          have h6 := HU.out
          have h7 := HM.out
          have h8 : u < (l.length : Int) := by
            by_cases e : u < (l.length : Int)
            · exact e
            · rw [if_neg e] at h7; omega
          rcases HV.out with ⟨b1, b2⟩ | ⟨b1, b2⟩ <;> omega
        · have h8 : ¬ u < (l.length : Int) := fun e => by have h7 := HM.out; rw [if_pos e] at h7; omega
          have h9 : m = u - l.length := by have h7 := HM.out; rw [if_neg h8] at h7; exact h7
          have H9 := Lib.hid h9
          have hm1 : m ≤ left := by omega
          clear h8 h9
          go_wp2_with (go_at_call 53; with_reducible refine Calls.mono (C _) ?_; rintro e w' ⟨rfl, yy, rfl⟩)
          go_roundw
          case rel =>
            have h4 := cntLs_take_succ HL.out
            have h6 := HU.out
            have h9 := H9.out
            exact ⟨k + 1, m, by go_num, rfl, by omega, by omega, hm1, ⟨yy, rfl⟩, by show _ = _; omega⟩
          case measure => simp [intOf]; omega
      · have hke : k = ls.length := by omega
        have HK := Lib.hid hke
        clear hke
        go_wp2
        go_ret
        refine fin_int ?_ ⟨yy, rfl⟩
        have h3 : lsWt ls = ls.length + cntLs ls := rfl
        have h6 := HU.out
        rw [HK.out, List.take_length] at h6
        rcases HV.out with ⟨b1, b2⟩ | ⟨b1, b2⟩ <;> omega

set_option maxHeartbeats 4000000 in
theorem toIntSS_ans {W : World} {a : Option Addr} {c : Nat} {ls : List (List Int)} {hd : Nat → Option Addr × Nat} (h : LsIn W a ls hd) (hn : ls.length ≤ 1048576) (x : Ext W) :
    Calls Tryd.prog 49 #[.slice a ls.length c] x.w (NewLs W ls) := by
  obtain ⟨i0, hi, hz0, hz1, hz2⟩ := info_parts info_intss
  go_enter Tryd.func49, Tryd.ntmps49
  go_wp2_with (at_make; refine wpList_make_full _ rfl _ _ 26 rfl x.w.heap.size 22 i0 (.slice none 0 0) 1 Tryd.underlying26 hi hz0 hz1 .i64 .i64 _ _ ls.length rfl rfl rfl rfl (by rw [hz2]; omega) (by unfold maxLen; omega) (Nat.le_refl _) ?_; intro w0 hown0 hgrow0)
  have hb0 : Below W.heap.size W w0 := x.below.grown hgrow0 x.size (fun k hk => by cases hk)
  have hsz := x.size
  generalize x.w.heap.size = g at *
  generalize (madeCells _ _).toList = xs0 at hown0
  clear hgrow0 hi hz0 hz1 hz2
  have hx0 : xs0.length = ls.length := by have := hown0.1; omega
  have st0 : GrowL W w0 (some ⟨g, 0, none⟩) ls.length (hds (ls.take 0) hd ++ xs0.drop 0) (ls.take 0) hd := by
    refine GrowL.start hb0 ?_ _
    simp only [List.take_zero, List.drop_zero, hds, List.length_nil, List.range_zero, List.map_nil, List.nil_append]
    rw [hx0]
    exact owns_lower hown0 hsz
  clear hown0 hb0
  go_loopw [4] (fun i wr => ∃ (k : Nat) (he : Nat → Option Addr × Nat), i = .int .i64 k ∧ k ≤ ls.length ∧ Hid (GrowL W wr (some ⟨g, 0, none⟩) ls.length (hds (ls.take k) he ++ xs0.drop k) (ls.take k) he)) (fun i _ => ls.length - (intOf i).toNat)
  case atStart => exact ⟨0, hd, rfl, by omega, st0⟩
  case round =>
    obtain ⟨k, he, rfl, hk, HG⟩ := hrel
    clear st0
    have hol : (hds (ls.take k) he ++ xs0.drop k).length = ls.length := by simp [hds_len]; omega
    by_cases hlt : k < ls.length
    · have hlt' : (k : Int) < (ls.length : Int) := by omega
      obtain ⟨l, hl⟩ : ∃ l, ls[k]? = some l := ⟨_, List.getElem?_eq_getElem hlt⟩
      have HL := Lib.hid hl
      obtain ⟨b1, o1, rfl, hc⟩ := h.row.at (i := k) (by rw [hds_len]; exact hlt)
      have hbel := HG.out.bel
      have c1 : wr.cell? ⟨b1, o1 + k, none⟩ = some (.slice (hd k).1 l.length (hd k).2) := (Ext.mk wr hbel).cell (hc k _ (hds_at hl hd))
      have CL : Calls Tryd.prog 27 #[.slice (hd k).1 l.length (hd k).2] wr (NewRow wr 22 3 (Value.int .i64) l) := toIntS_ans (c := (hd k).2) ((h.sub k l hl).ext ⟨wr, hbel⟩) (h.len k l hl) (Ext.self wr)
      have hol2 := Lib.hid hol
      clear hc hl hbel hol
      go_wp2_with fail
      refine Calls.mono CL ?_
      rintro e w' ⟨v, y, rfl, rfl, own⟩
      obtain ⟨ac, dc, rfl, -, -⟩ := owned_row own
      have HG2 := HG.out.add y own
      have hol := hol2.out
      have hrow := HG2.own
      rw [hol] at hrow
      obtain ⟨v0, hv0⟩ : ∃ v0, (hds (ls.take k) he ++ xs0.drop k)[k]? = some v0 := ⟨_, List.getElem?_eq_getElem (by omega)⟩
      have hold : y.w.cell? ⟨g, k, none⟩ = some v0 := by rw [hrow.cellAt k (by omega)]; exact hv0
      have hfz : y.w.frozen? ⟨g, k, none⟩ = false := hrow.frozenAt k
      obtain ⟨hst, hgs⟩ := hrow.stored k (.slice ac l.length dc)
      have HS := Lib.hid hst
      have HGS := Lib.hid hgs
      have H2 := Lib.hid HG2
      clear hst hgs hrow HG2 own CL hv0 hol
      go_wp2
      go_roundw
      case rel =>
        have e1 : ls.take (k + 1) = ls.take k ++ [l] := by rw [List.take_add_one, HL.out]; rfl
        have hol := hol2.out
        have e0 : (ls.take k).length = k := by simp; omega
        have e2 : hds (ls.take (k + 1)) (upd he k (ac, dc)) ++ xs0.drop (k + 1) = (hds (ls.take k) he ++ xs0.drop k).set k (.slice ac l.length dc) := by
          have e3 := hds_snoc (ls.take k) l he (ac, dc)
          rw [e0] at e3
          rw [e1, e3, List.set_append_right _ _ (by simp [hds_len]; omega)]
          have : k - (hds (ls.take k) he).length = 0 := by simp [hds_len]; omega
          rw [this, List.drop_eq_getElem_cons (show k < xs0.length by omega), List.set_cons_zero, List.append_assoc]
          rfl
        refine ⟨k + 1, upd he k (ac, dc), by go_num, by omega, ?_⟩
        show GrowL _ _ _ _ _ _ _
        rw [e2, e1]
        have H3 := H2.out
        rw [e0] at H3
        refine H3.put ?_ HGS.out (.inl rfl)
        rw [List.length_set, hol]
        exact HS.out
      case measure => simp [intOf]; omega
    · have hke : k = ls.length := by omega
      have HK := Lib.hid hke
      clear hke
      go_wp2
      go_ret
      have e1 : ls.take k = ls := by rw [HK.out, List.take_length]
      have e2 : xs0.drop k = [] := List.drop_eq_nil_of_le (by have := HK.out; omega)
      have H3 := HG.out
      rw [e1, e2, List.append_nil] at H3
      exact H3.newLs
end Go.Proofs.YteffcfaoganciaaDoor
