
/- Cells of budgets and of what is booked: lists of pairs; the laws' copies and comparisons of them. -/
import Derived.Test.YteffcfaoganciaaHA
import Derived.LoopTactic
namespace Go.Proofs.Yteffcfaoganciaa
open Go.RowKit

/-- Pairs of numbers in a row. -/
def Row2 (w : World) (a : Option Addr) (l : List (Int × Int)) : Prop :=
  l = [] ∨ ∃ b o, a = some ⟨b, o, none⟩ ∧ ∀ i x, l[i]? = some x → w.cell? ⟨b, o + i * 2, none⟩ = some (.int .i64 x.1) ∧ w.cell? ⟨b, o + i * 2 + 1, none⟩ = some (.int .i64 x.2)
theorem Row2.ext {W : World} {a : Option Addr} {l : List (Int × Int)} (h : Row2 W a l) (x : Ext W) : Row2 x.w a l := by
  rcases h with h | ⟨b, o, ha, hc⟩
  · exact .inl h
  · exact .inr ⟨b, o, ha, fun i y hy => ⟨x.cell (hc i y hy).1, x.cell (hc i y hy).2⟩⟩
theorem Row2.at {w : World} {a : Option Addr} {l : List (Int × Int)} (h : Row2 w a l) {i : Nat} (hi : i < l.length) :
    ∃ b o, a = some ⟨b, o, none⟩ ∧ ∀ i x, l[i]? = some x → w.cell? ⟨b, o + i * 2, none⟩ = some (.int .i64 x.1) ∧ w.cell? ⟨b, o + i * 2 + 1, none⟩ = some (.int .i64 x.2) := by
  rcases h with rfl | h
  · simp at hi
  · exact h
theorem info_cell : (Try.prog.info? 52).map (fun i => (i.zero, i.size, i.bytes)) = some (some (.agg #[.int .i64 0, .int .i64 0]), 2, 16) := by kernel_rfl
/-- A new slice of pairs. -/
def NewRow2 (W : World) (l : List (Int × Int)) : Ending → World → Prop := fun e w' => ∃ (a : Option Addr) (c : Nat) (y : Ext W), e = .returned (.slice a l.length c) ∧ w' = y.w ∧ Row2 y.w a l

theorem szCellS_ans {W : World} (a : Option Addr) (c : Nat) (l : List (Int × Int)) (left : Int) (h0 : 0 ≤ left) (h1 : left ≤ 1048576) (hl : l.length ≤ 9223372036854775807) (v : Int) (hv : v = if left < l.length then -1 else left - l.length) (x : Ext W) :
    Calls Try.prog 6 #[.slice a l.length c, .int .i64 left] x.w (Ans W (.int .i64 v)) := by
  have HV := Lib.hid hv
  clear hv
  by_cases hs : left < (l.length : Int)
  · have hs2 : left - (l.length : Int) < 0 := by omega
    go_enter Try.func6, Try.ntmps6
    go_wp2
    go_ret
    exact fin_int (by rw [HV.out, if_pos hs]) ⟨x, rfl⟩
  · have hs2 : ¬ left - (l.length : Int) < 0 := by omega
    go_enter Try.func6, Try.ntmps6
    go_wp2
    go_ret
    exact fin_int (by rw [HV.out, if_neg (Int.not_lt.2 (by omega))]) ⟨x, rfl⟩

theorem blk_of_alloc3 {w : World} {g : Nat} {o o' : Obj} (h : w.heap[g]? = some o) : (w.alloc o').heap[g]? = some o := by
  have hl : g < w.heap.size := (Array.getElem?_eq_some_iff.1 h).1
  show (w.heap.push o')[g]? = _
  rw [Array.getElem?_push_lt hl, ← h, Array.getElem?_eq_getElem hl]
theorem new_blk3 (w : World) (o : Obj) : (w.alloc o).heap[w.heap.size]? = some o := by
  show (w.heap.push o)[w.heap.size]? = some o
  simp
set_option maxHeartbeats 4000000 in
theorem toCell_ans {W : World} (p q : Int) (x : Ext W) : Calls Try.prog 24 #[.agg #[.int .i64 p, .int .i64 q]] x.w (Ans W (.agg #[.int .i64 p, .int .i64 q])) := by
  go_enter Try.func24, Try.ntmps24
  go_wp2
  have hs1 : (x.w.alloc (.cells #[.int .i64 p, .int .i64 q] 56)).heap.size = x.w.heap.size + 1 := by simp
  have b1 := new_blk3 (x.w.alloc (.cells #[.int .i64 p, .int .i64 q] 56)) (.cells #[.int .i64 p, .int .i64 q] 52)
  rw [hs1] at b1
  have b2 := blk_of_alloc3 (o' := .cells #[.int .i64 p, .int .i64 q] 52) b1
  obtain ⟨y, hy⟩ : ∃ y : Ext W, y.w = ((x.w.alloc (.cells #[.int .i64 p, .int .i64 q] 56)).alloc (.cells #[.int .i64 p, .int .i64 q] 52)).alloc (.cells #[.int .i64 p, .int .i64 q] 52) := ⟨((x.alloc _).alloc _).alloc _, rfl⟩
  rw [← hy] at b2 ⊢
  have r0 := blk_cell b2 0
  have r1 := blk_cell b2 1
  simp at r0 r1
  clear hy b1 b2
  refine bodyPost_ret (v := .agg #[.int .i64 p, .int .i64 q]) (by simp [results, Try.results24, go_sem, r0, r1]) rfl ⟨rfl, y, rfl⟩

def Cur2 (cur : Array Value) (j : Nat) (u : Int × Int) : Prop := cur[j * 2]? = some (.int .i64 u.1) ∧ cur[j * 2 + 1]? = some (.int .i64 u.2)
set_option maxHeartbeats 8000000 in
theorem toCellS_ans {W : World} {a : Option Addr} {c : Nat} {l : List (Int × Int)} (h : Row2 W a l) (hl : l.length ≤ 1048576) (x : Ext W) :
    Calls Try.prog 9 #[.slice a l.length c] x.w (NewRow2 W l) := by
  obtain ⟨i0, hi, hz0, hz1, hz2⟩ := info_parts info_cell
  go_enter Try.func9, Try.ntmps9
  go_wp2_with (at_make; refine wpList_make_full _ rfl _ _ 32 rfl x.w.heap.size 52 i0 (.agg #[.int .i64 0, .int .i64 0]) 2 Try.underlying32 hi hz0 hz1 .i64 .i64 _ _ l.length rfl rfl rfl rfl (by rw [hz2]; omega) (by unfold maxLen; omega) (Nat.le_refl _) ?_; intro w0 hown0 hgrow0)
  have hb0 : Below W.heap.size W w0 := x.below.grown hgrow0 x.size (fun k hk => by cases hk)
  have hsz := x.size
  generalize x.w.heap.size = g at *
  obtain ⟨cur0, hg0, hc0⟩ : ∃ cur : Array Value, w0.heap[g]? = some (.cells cur 52 (0, 0)) ∧ cur.size = l.length * 2 := by
    rcases hown0.2 with ⟨e, _⟩ | ⟨g', cap, cur, e, _, hg, _, _, hs, _⟩
    · cases e
    · cases e
      exact ⟨cur, hg, hs⟩
  clear hgrow0 hi hz0 hz1 hz2 hown0
  go_loopw [4] (fun i wr => ∃ (k : Nat) (cur : Array Value), i = .int .i64 k ∧ k ≤ l.length ∧ wr.heap[g]? = some (.cells cur 52 (0, 0)) ∧ cur.size = l.length * 2 ∧ Below W.heap.size W wr ∧ Hid (∀ (j : Nat) u, j < k → l[j]? = some u → Cur2 cur j u)) (fun i _ => l.length - (intOf i).toNat)
  case atStart => exact ⟨0, cur0, rfl, by omega, hg0, hc0, hb0, fun j u hj => by omega⟩
  case round =>
    obtain ⟨k, cur, rfl, hk, hg, hcs, hb, HU⟩ := hrel
    by_cases hlt : k < l.length
    · have hlt' : (k : Int) < (l.length : Int) := by omega
      obtain ⟨kid, hkid⟩ : ∃ kid, l[k]? = some kid := ⟨_, List.getElem?_eq_getElem hlt⟩
      have HKID := Lib.hid hkid
      obtain ⟨b0, o0, rfl, K⟩ := h.at hlt
      obtain ⟨K0, K1⟩ := K k kid hkid
      have d0 : wr.cell? ⟨b0, o0 + k * 2, none⟩ = some (.int .i64 kid.1) := (Ext.mk wr hb).cell K0
      have d1 : wr.cell? ⟨b0, o0 + k * 2 + 1, none⟩ = some (.int .i64 kid.2) := (Ext.mk wr hb).cell K1
      have C := toCell_ans kid.1 kid.2 (Ext.self wr)
      clear K K0 K1 hkid
      go_wp2_with fail
      with_reducible refine Calls.mono C ?_
      rintro e w' ⟨rfl, zz, rfl⟩
      have bz := zz.blk hg
      have hgw : g < wr.heap.size := (Array.getElem?_eq_some_iff.1 hg).1
      obtain ⟨v0, hv0⟩ : ∃ v, cur[k * 2]? = some v := ⟨_, Array.getElem?_eq_getElem (by omega)⟩
      obtain ⟨v1, hv1⟩ : ∃ v, cur[k * 2 + 1]? = some v := ⟨_, Array.getElem?_eq_getElem (by omega)⟩
      have k0 : zz.w.cell? ⟨g, k * 2, none⟩ = some v0 := (blk_cell bz _).trans hv0
      have k1 : zz.w.cell? ⟨g, k * 2 + 1, none⟩ = some v1 := (blk_cell bz _).trans hv1
      have z0 := blk_free bz (k * 2)
      have z1 := blk_free bz (k * 2 + 1)
      have HV : Hid (cur[k * 2]? = some v0 ∧ cur[k * 2 + 1]? = some v1) := ⟨hv0, hv1⟩
      have HB := Lib.hid bz
      have HBW := Lib.hid hb
      clear hv0 hv1 bz hb d0 d1 hg C
      go_wp2
      generalize hY1 : zz.w.setCell _ _ = Y1
      generalize hY2 : Y1.setCell _ _ = Y2
      have q4 := set_blk (set_blk HB.out (k * 2) _ hY1) (k * 2 + 1) _ hY2
      have hb4 : Below W.heap.size W Y2 := by
        subst hY2; subst hY1
        exact ((HBW.out.trans (zz.below.mono HBW.out.size)).setCell (by simpa using hsz) _).setCell (by simpa using hsz) _
      clear hY1 hY2 k0 k1 z0 z1
      have Q4 := Lib.hid q4
      clear q4
      go_roundw
      case rel =>
        refine ⟨k + 1, _, by go_num, by omega, Q4.out, by simp; exact hcs, hb4, fun j u hj hu => ?_⟩
        unfold Cur2
        by_cases e : j = k
        · subst e
          obtain rfl := Option.some.inj (hu.symm.trans HKID.out)
          have := hcs
          simp [Array.getElem?_setIfInBounds]
          omega
        · obtain ⟨a0, a1⟩ := HU.out j u (by omega) hu
          have n0 : ∀ p q : Nat, p < 2 → q < 2 → k * 2 + p ≠ j * 2 + q := fun p q _ _ => by omega
          have h0 := n0 0 0 (by omega) (by omega); have h1 := n0 1 0 (by omega) (by omega); have h2 := n0 0 1 (by omega) (by omega); have h3 := n0 1 1 (by omega) (by omega)
          simp only [Nat.add_zero] at h0 h1 h2 h3
          exact ⟨by rw [Array.getElem?_setIfInBounds_ne h1, Array.getElem?_setIfInBounds_ne h0]; exact a0, by rw [Array.getElem?_setIfInBounds_ne h3, Array.getElem?_setIfInBounds_ne h2]; exact a1⟩
      case measure => simp [intOf]; omega
    · go_wp2
      go_ret
      refine ⟨_, _, ⟨wr, hb⟩, rfl, rfl, .inr ⟨g, 0, rfl, fun i u hi => ?_⟩⟩
      have hi2 : i < k := by have := (List.getElem?_eq_some_iff.1 hi).1; omega
      obtain ⟨a0, a1⟩ := HU.out i u hi2 hi
      rw [Nat.zero_add]
      exact ⟨(blk_cell hg _).trans a0, (blk_cell hg _).trans a1⟩

end Go.Proofs.Yteffcfaoganciaa
