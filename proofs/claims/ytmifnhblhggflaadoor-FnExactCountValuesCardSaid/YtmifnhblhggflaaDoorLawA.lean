
/- The laws' own helpers: copies of slices. -/
import Derived.Test.YtmifnhblhggflaaDoorWorld
import Derived.Test.YtmifnhblhggflaaDoorProg
namespace Go.Proofs.YtmifnhblhggflaaDoor
open Go.RowKit


set_option maxHeartbeats 4000000 in
theorem toIntS_ans {W : World} {a : Option Addr} {c : Nat} {l : List Int} (h : Row W (Value.int .i64) a l) (hl : l.length ≤ 1099511627776) (x : Ext W) :
    Calls Tryd.prog 16 #[.slice a l.length c] x.w (NewRow W 22 3 (Value.int .i64) l) := by
  obtain ⟨i0, hi, hz0, hz1, hz2⟩ := info_parts info_int
  have HN : Hid (∀ e w', NewRow W 22 3 (Value.int .i64) l e w' ↔ NewRow W 22 3 (Value.int .i64) l e w') := fun _ _ => Iff.rfl
  go_enter Tryd.func16, Tryd.ntmps16
  go_wp2_with (at_make; refine wpList_make_full _ rfl _ _ 22 rfl x.w.heap.size 3 i0 (.int .i64 0) 1 Tryd.underlying22 hi hz0 hz1 .i64 .i64 _ _ l.length rfl rfl rfl rfl (by rw [hz2]; omega) (by unfold maxLen; omega) (Nat.le_refl _) ?_; intro w0 hown0 hgrow0)
  have hb0 : Below W.heap.size W w0 := x.below.grown hgrow0 x.size (fun k hk => by cases hk)
  have hsz := x.size
  generalize x.w.heap.size = g at *
  generalize (madeCells _ _).toList = xs0 at hown0
  clear hgrow0 hi hz0 hz1 hz2
  go_loopw [4] (fun i wr => ∃ (k : Nat) (xs : List Value), i = .int .i64 k ∧ k ≤ l.length ∧ wr.ownsRow g 3 1 (.slice (some ⟨g, 0, none⟩) l.length l.length) l.length xs ∧ Below W.heap.size W wr ∧ Hid (∀ i, i < k → xs[i]? = (l[i]?).map (Value.int .i64))) (fun i _ => l.length - (intOf i).toNat)
  case atStart => exact ⟨0, xs0, rfl, by omega, hown0, hb0, fun i hi => by omega⟩
  case round =>
    obtain ⟨k, xs, rfl, hk, hown, hb, hX⟩ := hrel
    by_cases hlt : k < l.length
    · obtain ⟨b, o, rfl, hc⟩ := h.at hlt
      have hcell := (Ext.mk wr hb).cell (hc k l[k] (List.getElem?_eq_getElem hlt))
      have HG : Hid (l[k]? = some l[k]) := List.getElem?_eq_getElem hlt
      clear hc
      generalize l[k] = u at *
      have hlx : xs.length = l.length := by have := hown.1; omega
      obtain ⟨v0, hv0⟩ : ∃ v0, xs[k]? = some v0 := ⟨_, List.getElem?_eq_getElem (by omega)⟩
      have hold : wr.cell? ⟨g, k, none⟩ = some v0 := by rw [hown.cellAt k (by omega)]; exact hv0
      have hfz : wr.frozen? ⟨g, k, none⟩ = false := hown.frozenAt k
      obtain ⟨hst, hgs⟩ := hown.stored k ((Value.int .i64) u)
      have HS := Lib.hid hst
      have HL := Lib.hid hlx
      have hb2 := hb.setCell (p := ⟨g, k, none⟩) (by exact hsz) ((Value.int .i64) u)
      clear hst hgs hv0 hlx hown
      go_wp2
      go_roundw
      case rel =>
        refine ⟨k + 1, _, by go_num, by omega, HS.out, hb2, fun i hi => ?_⟩
        have hlx := HL.out
        rw [List.getElem?_set]
        by_cases e : k = i
        · subst e
          rw [if_pos rfl, if_pos (by omega), HG.out]; rfl
        · rw [if_neg e]; exact hX.out i (by omega)
      case measure => simp [intOf]; omega
    · have hke : k = l.length := by omega
      have HK := Lib.hid hke
      clear hke
      go_wp2
      go_ret
      refine ⟨_, ⟨wr, hb⟩, rfl, rfl, ?_⟩
      have e : xs = l.map (Value.int .i64) := by
        apply List.ext_getElem?
        intro i
        rw [List.getElem?_map]
        by_cases hi : i < l.length
        · exact hX.out i (by rw [HK.out]; exact hi)
        · have := hown.1
          rw [List.getElem?_eq_none (by omega), List.getElem?_eq_none (by omega)]; rfl
      rw [← e]
      exact owns_lower hown hsz

set_option maxHeartbeats 4000000 in
theorem toBoolS_ans {W : World} {a : Option Addr} {c : Nat} {l : List Bool} (h : Row W Value.bool a l) (hl : l.length ≤ 1099511627776) (x : Ext W) :
    Calls Tryd.prog 84 #[.slice a l.length c] x.w (NewRow W 50 4 Value.bool l) := by
  obtain ⟨i0, hi, hz0, hz1, hz2⟩ := info_parts info_bool
  have HN : Hid (∀ e w', NewRow W 50 4 Value.bool l e w' ↔ NewRow W 50 4 Value.bool l e w') := fun _ _ => Iff.rfl
  go_enter Tryd.func84, Tryd.ntmps84
  go_wp2_with (at_make; refine wpList_make_full _ rfl _ _ 50 rfl x.w.heap.size 4 i0 (.bool false) 1 Tryd.underlying50 hi hz0 hz1 .i64 .i64 _ _ l.length rfl rfl rfl rfl (by rw [hz2]; omega) (by unfold maxLen; omega) (Nat.le_refl _) ?_; intro w0 hown0 hgrow0)
  have hb0 : Below W.heap.size W w0 := x.below.grown hgrow0 x.size (fun k hk => by cases hk)
  have hsz := x.size
  generalize x.w.heap.size = g at *
  generalize (madeCells _ _).toList = xs0 at hown0
  clear hgrow0 hi hz0 hz1 hz2
  go_loopw [4] (fun i wr => ∃ (k : Nat) (xs : List Value), i = .int .i64 k ∧ k ≤ l.length ∧ wr.ownsRow g 4 1 (.slice (some ⟨g, 0, none⟩) l.length l.length) l.length xs ∧ Below W.heap.size W wr ∧ Hid (∀ i, i < k → xs[i]? = (l[i]?).map Value.bool)) (fun i _ => l.length - (intOf i).toNat)
  case atStart => exact ⟨0, xs0, rfl, by omega, hown0, hb0, fun i hi => by omega⟩
  case round =>
    obtain ⟨k, xs, rfl, hk, hown, hb, hX⟩ := hrel
    by_cases hlt : k < l.length
    · obtain ⟨b, o, rfl, hc⟩ := h.at hlt
      have hcell := (Ext.mk wr hb).cell (hc k l[k] (List.getElem?_eq_getElem hlt))
      have HG : Hid (l[k]? = some l[k]) := List.getElem?_eq_getElem hlt
      clear hc
      generalize l[k] = u at *
      have hlx : xs.length = l.length := by have := hown.1; omega
      obtain ⟨v0, hv0⟩ : ∃ v0, xs[k]? = some v0 := ⟨_, List.getElem?_eq_getElem (by omega)⟩
      have hold : wr.cell? ⟨g, k, none⟩ = some v0 := by rw [hown.cellAt k (by omega)]; exact hv0
      have hfz : wr.frozen? ⟨g, k, none⟩ = false := hown.frozenAt k
      obtain ⟨hst, hgs⟩ := hown.stored k (Value.bool u)
      have HS := Lib.hid hst
      have HL := Lib.hid hlx
      have hb2 := hb.setCell (p := ⟨g, k, none⟩) (by exact hsz) (Value.bool u)
      clear hst hgs hv0 hlx hown
      go_wp2
      go_roundw
      case rel =>
        refine ⟨k + 1, _, by go_num, by omega, HS.out, hb2, fun i hi => ?_⟩
        have hlx := HL.out
        rw [List.getElem?_set]
        by_cases e : k = i
        · subst e
          rw [if_pos rfl, if_pos (by omega), HG.out]; rfl
        · rw [if_neg e]; exact hX.out i (by omega)
      case measure => simp [intOf]; omega
    · have hke : k = l.length := by omega
      have HK := Lib.hid hke
      clear hke
      go_wp2
      go_ret
      refine ⟨_, ⟨wr, hb⟩, rfl, rfl, ?_⟩
      have e : xs = l.map Value.bool := by
        apply List.ext_getElem?
        intro i
        rw [List.getElem?_map]
        by_cases hi : i < l.length
        · exact hX.out i (by rw [HK.out]; exact hi)
        · have := hown.1
          rw [List.getElem?_eq_none (by omega), List.getElem?_eq_none (by omega)]; rfl
      rw [← e]
      exact owns_lower hown hsz

end Go.Proofs.YtmifnhblhggflaaDoor
