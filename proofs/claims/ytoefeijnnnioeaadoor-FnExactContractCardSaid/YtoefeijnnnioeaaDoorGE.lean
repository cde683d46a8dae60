/- Texts of one claim, laid together: LawA, LawB, Mark, Marks, LawHead, OwnI, Steps, HoldR. -/
import Derived.Test.YtoefeijnnnioeaaDoorGA
import Derived.Test.YtoefeijnnnioeaaDoorProg
import Derived.Maps.AppendAt
import Derived.Deep.RegionHeld3
set_option linter.unusedVariables false
set_option linter.unusedSimpArgs false

/- The laws' own helpers: copies of slices. -/
namespace Go.Proofs.YtoefeijnnnioeaaDoor
open Go.RowKit


set_option maxHeartbeats 4000000 in
theorem toIntS_ans {W : World} {a : Option Addr} {c : Nat} {l : List Int} (h : Row W (Value.int .i64) a l) (hl : l.length ≤ 1099511627776) (x : Ext W) :
    Calls Tryd.prog 16 #[.slice a l.length c] x.w (NewRow W 22 3 (Value.int .i64) l) := by
  obtain ⟨i0, hi, hz0, hz1, hz2⟩ := info_parts info_int
  have HN : Hid (∀ e w', NewRow W 22 3 (Value.int .i64) l e w' ↔ NewRow W 22 3 (Value.int .i64) l e w') := fun _ _ => Iff.rfl
  go_enter Tryd.func16, Tryd.ntmps16
  go_wp2_with (at_make; refine wpList_make_full _ rfl _ _ 22 rfl x.w.heap.size 3 i0 (.int .i64 0) 1 Tryd.underlying22 hi hz0 hz1 .i64 .i64 _ _ l.length rfl rfl rfl rfl (by rw [hz2]; omega) (by unfold maxLen; omega) (Nat.le_refl _) ?_; intro w0 hown0 hgrow0)
  have hb0 : Below W.heap.size W w0 := x.below.grown hgrow0 x.size (fun k hk => by cases hk)
  have hsz := x.size
  generalize x.w.heap.size = g at *
  generalize (madeCells _ _).toList = xs0 at hown0
  clear hgrow0 hi hz0 hz1 hz2
  go_loopw [4] (fun i wr => ∃ (k : Nat) (xs : List Value), i = .int .i64 k ∧ k ≤ l.length ∧ wr.ownsRow g 3 1 (.slice (some ⟨g, 0, none⟩) l.length l.length) l.length xs ∧ Below W.heap.size W wr ∧ Hid (∀ i, i < k → xs[i]? = (l[i]?).map (Value.int .i64))) (fun i _ => l.length - (intOf i).toNat)
  case atStart => exact ⟨0, xs0, rfl, by omega, hown0, hb0, fun i hi => by omega⟩
  case round =>
    obtain ⟨k, xs, rfl, hk, hown, hb, hX⟩ := hrel
    by_cases hlt : k < l.length
    · obtain ⟨b, o, rfl, hc⟩ := h.at hlt
      have hcell := (Ext.mk wr hb).cell (hc k l[k] (List.getElem?_eq_getElem hlt))
      have HG : Hid (l[k]? = some l[k]) := List.getElem?_eq_getElem hlt
      clear hc
      generalize l[k] = u at *
      have hlx : xs.length = l.length := by have := hown.1; omega
      obtain ⟨v0, hv0⟩ : ∃ v0, xs[k]? = some v0 := ⟨_, List.getElem?_eq_getElem (by omega)⟩
      have hold : wr.cell? ⟨g, k, none⟩ = some v0 := by rw [hown.cellAt k (by omega)]; exact hv0
      have hfz : wr.frozen? ⟨g, k, none⟩ = false := hown.frozenAt k
      obtain ⟨hst, hgs⟩ := hown.stored k ((Value.int .i64) u)
      have HS := Lib.hid hst
      have HL := Lib.hid hlx
      have hb2 := hb.setCell (p := ⟨g, k, none⟩) (by exact hsz) ((Value.int .i64) u)
      clear hst hgs hv0 hlx hown
      go_wp2
      go_roundw
      case rel =>
        refine ⟨k + 1, _, by go_num, by omega, HS.out, hb2, fun i hi => ?_⟩
        have hlx := HL.out
        rw [List.getElem?_set]
        by_cases e : k = i
        · subst e
          rw [if_pos rfl, if_pos (by omega), HG.out]; rfl
        · rw [if_neg e]; exact hX.out i (by omega)
      case measure => simp [intOf]; omega
    · have hke : k = l.length := by omega
      have HK := Lib.hid hke
      clear hke
      go_wp2
      go_ret
      refine ⟨_, ⟨wr, hb⟩, rfl, rfl, ?_⟩
      have e : xs = l.map (Value.int .i64) := by
        apply List.ext_getElem?
        intro i
        rw [List.getElem?_map]
        by_cases hi : i < l.length
        · exact hX.out i (by rw [HK.out]; exact hi)
        · have := hown.1
          rw [List.getElem?_eq_none (by omega), List.getElem?_eq_none (by omega)]; rfl
      rw [← e]
      exact owns_lower hown hsz

set_option maxHeartbeats 4000000 in
theorem toBoolS_ans {W : World} {a : Option Addr} {c : Nat} {l : List Bool} (h : Row W Value.bool a l) (hl : l.length ≤ 1099511627776) (x : Ext W) :
    Calls Tryd.prog 79 #[.slice a l.length c] x.w (NewRow W 40 4 Value.bool l) := by
  obtain ⟨i0, hi, hz0, hz1, hz2⟩ := info_parts info_bool
  have HN : Hid (∀ e w', NewRow W 40 4 Value.bool l e w' ↔ NewRow W 40 4 Value.bool l e w') := fun _ _ => Iff.rfl
  go_enter Tryd.func79, Tryd.ntmps79
  go_wp2_with (at_make; refine wpList_make_full _ rfl _ _ 40 rfl x.w.heap.size 4 i0 (.bool false) 1 Tryd.underlying40 hi hz0 hz1 .i64 .i64 _ _ l.length rfl rfl rfl rfl (by rw [hz2]; omega) (by unfold maxLen; omega) (Nat.le_refl _) ?_; intro w0 hown0 hgrow0)
  have hb0 : Below W.heap.size W w0 := x.below.grown hgrow0 x.size (fun k hk => by cases hk)
  have hsz := x.size
  generalize x.w.heap.size = g at *
  generalize (madeCells _ _).toList = xs0 at hown0
  clear hgrow0 hi hz0 hz1 hz2
  go_loopw [4] (fun i wr => ∃ (k : Nat) (xs : List Value), i = .int .i64 k ∧ k ≤ l.length ∧ wr.ownsRow g 4 1 (.slice (some ⟨g, 0, none⟩) l.length l.length) l.length xs ∧ Below W.heap.size W wr ∧ Hid (∀ i, i < k → xs[i]? = (l[i]?).map Value.bool)) (fun i _ => l.length - (intOf i).toNat)
  case atStart => exact ⟨0, xs0, rfl, by omega, hown0, hb0, fun i hi => by omega⟩
  case round =>
    obtain ⟨k, xs, rfl, hk, hown, hb, hX⟩ := hrel
    by_cases hlt : k < l.length
    · obtain ⟨b, o, rfl, hc⟩ := h.at hlt
      have hcell := (Ext.mk wr hb).cell (hc k l[k] (List.getElem?_eq_getElem hlt))
      have HG : Hid (l[k]? = some l[k]) := List.getElem?_eq_getElem hlt
      clear hc
      generalize l[k] = u at *
      have hlx : xs.length = l.length := by have := hown.1; omega
      obtain ⟨v0, hv0⟩ : ∃ v0, xs[k]? = some v0 := ⟨_, List.getElem?_eq_getElem (by omega)⟩
      have hold : wr.cell? ⟨g, k, none⟩ = some v0 := by rw [hown.cellAt k (by omega)]; exact hv0
      have hfz : wr.frozen? ⟨g, k, none⟩ = false := hown.frozenAt k
      obtain ⟨hst, hgs⟩ := hown.stored k (Value.bool u)
      have HS := Lib.hid hst
      have HL := Lib.hid hlx
      have hb2 := hb.setCell (p := ⟨g, k, none⟩) (by exact hsz) (Value.bool u)
      clear hst hgs hv0 hlx hown
      go_wp2
      go_roundw
      case rel =>
        refine ⟨k + 1, _, by go_num, by omega, HS.out, hb2, fun i hi => ?_⟩
        have hlx := HL.out
        rw [List.getElem?_set]
        by_cases e : k = i
        · subst e
          rw [if_pos rfl, if_pos (by omega), HG.out]; rfl
        · rw [if_neg e]; exact hX.out i (by omega)
      case measure => simp [intOf]; omega
    · have hke : k = l.length := by omega
      have HK := Lib.hid hke
      clear hke
      go_wp2
      go_ret
      refine ⟨_, ⟨wr, hb⟩, rfl, rfl, ?_⟩
      have e : xs = l.map Value.bool := by
        apply List.ext_getElem?
        intro i
        rw [List.getElem?_map]
        by_cases hi : i < l.length
        · exact hX.out i (by rw [HK.out]; exact hi)
        · have := hown.1
          rw [List.getElem?_eq_none (by omega), List.getElem?_eq_none (by omega)]; rfl
      rw [← e]
      exact owns_lower hown hsz

end Go.Proofs.YtoefeijnnnioeaaDoor

/- The laws' own helpers: a copy of a system. -/
namespace Go.Proofs.YtoefeijnnnioeaaDoor
open Go.RowKit

set_option maxHeartbeats 4000000 in
theorem toSystem_ans {W : World} {r : Ref} {s : Sys} (h : SysIn W r s) (sm : Small s) (x : Ext W) :
    Calls Tryd.prog 30 #[r.val s] x.w (NewSys W s) := by
  unfold Ref.val
  go_enter Tryd.func30, Tryd.ntmps30
  go_wp2_with fail
  have hxs := x.size
  generalize hWa : ((x.w.alloc _).alloc _).alloc _ = Wa
  generalize hB : x.w.heap.size = B at *
  obtain ⟨bA, bB, bC, sA, bel⟩ := blocks3 hB hWa
  have belA : Below W.heap.size W Wa := x.below.trans (bel.mono (by omega))
  clear bel hWa
  -- the first copy
  refine (toIntS_ans (W := Wa) ((h.ext ⟨Wa, belA⟩).plus) sm.p (Ext.self Wa)).mono ?_
  rintro e w' ⟨v1, y, rfl, rfl, own1⟩
  have k1 := blk_cell (y.blk bA) 2
  have k2 := blk_cell (y.blk bC) 1
  have k3 := blk_free (y.blk bC) 1
  simp at k1 k2
  obtain ⟨a1, c1, rfl, row1, pl1⟩ := owned_row own1
  go_wp2_with fail
  clear k1 k2 k3
  generalize hWb : y.w.setCell _ _ = Wb
  have bA' := (set_other hWb (k := B) (by omega)).trans (y.blk bA)
  have bB' := (set_other hWb (k := B + 1) (by omega)).trans (y.blk bB)
  have bC' := set_blk (y.blk bC) 1 _ hWb
  have sB : B + 3 ≤ Wb.heap.size := by rw [set_size hWb]; have := y.size; omega
  have belB : Below W.heap.size W Wb := by subst hWb; exact (belA.trans (y.below.mono (by omega))).setCell (by simp; omega) _
  have row1' : Row Wb (.int .i64) a1 s.plus := row_keep row1 (fun p hp => by have := (pl1 p hp).1; exact set_other hWb (by omega))
  have pl1' : ∀ p, a1 = some p → p.block < Wb.heap.size ∧ B + 3 ≤ p.block := fun p hp => by rw [set_size hWb]; have := pl1 p hp; omega
  simp at bC'
  clear bA bB bC sA belA own1 row1 pl1 hWb y Wa
  -- the second copy
  refine (toIntS_ans (W := Wb) ((h.ext ⟨Wb, belB⟩).times) sm.t (Ext.self Wb)).mono ?_
  rintro e w' ⟨v2, y, rfl, rfl, own2⟩
  have k1 := blk_cell (y.blk bA') 3
  have k2 := blk_cell (y.blk bC') 2
  have k3 := blk_free (y.blk bC') 2
  simp at k1 k2
  obtain ⟨a2, c2, rfl, row2, pl2⟩ := owned_row own2
  go_wp2_with fail
  clear k1 k2 k3
  generalize hWc : y.w.setCell _ _ = Wc
  have bA'' := (set_other hWc (k := B) (by omega)).trans (y.blk bA')
  have bB'' := (set_other hWc (k := B + 1) (by omega)).trans (y.blk bB')
  have bC'' := set_blk (y.blk bC') 2 _ hWc
  have sC : B + 3 ≤ Wc.heap.size := by rw [set_size hWc]; have := y.size; omega
  have belC : Below W.heap.size W Wc := by subst hWc; exact (belB.trans (y.below.mono (by omega))).setCell (by simp; omega) _
  have row1'' : Row Wc (.int .i64) a1 s.plus := row_keep row1' (fun p hp => by have := (pl1' p hp); rw [set_other hWc (by omega)]; exact y.below.block _ this.1)
  have row2' : Row Wc (.int .i64) a2 s.times := row_keep row2 (fun p hp => by have := (pl2 p hp).1; exact set_other hWc (by omega))
  have pl1'' : ∀ p, a1 = some p → p.block < Wc.heap.size ∧ B + 3 ≤ p.block := fun p hp => by rw [set_size hWc]; have := pl1' p hp; have := y.size; omega
  have pl2' : ∀ p, a2 = some p → p.block < Wc.heap.size ∧ B + 3 ≤ p.block := fun p hp => by rw [set_size hWc]; have := pl2 p hp; omega
  simp at bC''
  clear bA' bB' bC' sB belB own2 row1' pl1' row2 pl2 hWc y Wb
  -- the third copy
  refine (toBoolS_ans (W := Wc) ((h.ext ⟨Wc, belC⟩).below) sm.b (Ext.self Wc)).mono ?_
  rintro e w' ⟨v3, y, rfl, rfl, own3⟩
  have k2 := blk_cell (y.blk bC'') 3
  have k3 := blk_free (y.blk bC'') 3
  have m0 := blk_cell (y.blk bC'') 0
  have m1 := blk_cell (y.blk bC'') 1
  have m2 := blk_cell (y.blk bC'') 2
  have n0 := blk_cell (y.blk bB'') 0
  have n1 := blk_cell (y.blk bB'') 1
  have n2 := blk_cell (y.blk bB'') 2
  have n3 := blk_cell (y.blk bB'') 3
  have p0 := blk_free (y.blk bB'') 0
  have p1 := blk_free (y.blk bB'') 1
  have p2 := blk_free (y.blk bB'') 2
  have p3 := blk_free (y.blk bB'') 3
  simp at k2 m0 m1 m2 n0 n1 n2 n3
  obtain ⟨a3, c3, rfl, row3, pl3⟩ := owned_row own3
  go_wp2
  clear k2 k3 m0 m1 m2 n0 n1 n2 n3 p0 p1 p2 p3
  generalize hY1 : y.w.setCell _ _ = Y1
  generalize hY2 : Y1.setCell _ _ = Y2
  generalize hY3 : Y2.setCell _ _ = Y3
  generalize hY4 : Y3.setCell _ _ = Y4
  generalize hY5 : Y4.setCell _ _ = Y5
  have q1 := (set_other hY1 (k := B + 1) (by omega)).trans (y.blk bB'')
  have q5 := set_blk (set_blk (set_blk (set_blk q1 0 _ hY2) 1 _ hY3) 2 _ hY4) 3 _ hY5
  simp at q5
  have r0 := blk_cell q5 0
  have r1 := blk_cell q5 1
  have r2 := blk_cell q5 2
  have r3 := blk_cell q5 3
  simp at r0 r1 r2 r3
  have hsame : ∀ k, B + 3 ≤ k → Y5.heap[k]? = y.w.heap[k]? := fun k hk => by
    rw [set_other hY5 (by omega), set_other hY4 (by omega), set_other hY3 (by omega), set_other hY2 (by omega), set_other hY1 (by omega)]
  have belD : Below W.heap.size W Y5 := by
    subst hY5; subst hY4; subst hY3; subst hY2; subst hY1
    exact (((((belC.trans (y.below.mono (by omega))).setCell (by simp; omega) _).setCell (by simp; omega) _).setCell (by simp; omega) _).setCell (by simp; omega) _).setCell (by simp; omega) _
  have hyc : Wc.heap.size ≤ y.w.heap.size := y.size
  have f1 : Row Y5 (.int .i64) a1 s.plus := row_keep row1'' (fun p hp => by have := pl1'' p hp; rw [hsame _ this.2]; exact y.below.block _ this.1)
  have f2 : Row Y5 (.int .i64) a2 s.times := row_keep row2' (fun p hp => by have := pl2' p hp; rw [hsame _ this.2]; exact y.below.block _ this.1)
  have f3 : Row Y5 .bool a3 s.below := row_keep row3 (fun p hp => by have := (pl3 p hp).1; exact hsame _ (by omega))
  refine bodyPost_ret (v := .agg #[.int .i64 s.n, .slice a1 s.plus.length c1, .slice a2 s.times.length c2, .slice a3 s.below.length c3]) (by simp [results, Tryd.results30, go_sem, r0, r1, r2, r3]) rfl ?_
  exact ⟨⟨a1, a2, a3, c1, c2, c3⟩, ⟨Y5, belD⟩, rfl, rfl, f1, f2, f3, h.lp, h.lt, h.lb⟩

theorem szIntS_ans {W : World} (a : Option Addr) (c : Nat) (l : List Int) (left : Int) (h0 : 0 ≤ left) (h1 : left ≤ 1048576) (hl : l.length ≤ 9223372036854775807) (v : Int) (hv : v = if left < l.length then -1 else left - l.length) (x : Ext W) :
    Calls Tryd.prog 64 #[.slice a l.length c, .int .i64 left] x.w (Ans W (.int .i64 v)) := by
  have HV := Lib.hid hv
  clear hv
  by_cases e : left < (l.length : Int)
  · have e2 : left - (l.length : Int) < 0 := by omega
    go_enter Tryd.func64, Tryd.ntmps64
    go_wp2
    go_ret
    exact fin_int (by rw [HV.out, if_pos e]) ⟨x, rfl⟩
  · have e2 : 0 ≤ left - (l.length : Int) := by omega
    go_enter Tryd.func64, Tryd.ntmps64
    go_wp2
    go_ret
    exact fin_int (by rw [HV.out, if_neg (by omega)]) ⟨x, rfl⟩

theorem szBoolS_ans {W : World} (a : Option Addr) (c : Nat) (l : List Bool) (left : Int) (h0 : 0 ≤ left) (h1 : left ≤ 1048576) (hl : l.length ≤ 9223372036854775807) (v : Int) (hv : v = if left < l.length then -1 else left - l.length) (x : Ext W) :
    Calls Tryd.prog 75 #[.slice a l.length c, .int .i64 left] x.w (Ans W (.int .i64 v)) := by
  have HV := Lib.hid hv
  clear hv
  by_cases e : left < (l.length : Int)
  · have e2 : left - (l.length : Int) < 0 := by omega
    go_enter Tryd.func75, Tryd.ntmps75
    go_wp2
    go_ret
    exact fin_int (by rw [HV.out, if_pos e]) ⟨x, rfl⟩
  · have e2 : 0 ≤ left - (l.length : Int) := by omega
    go_enter Tryd.func75, Tryd.ntmps75
    go_wp2
    go_ret
    exact fin_int (by rw [HV.out, if_neg (by omega)]) ⟨x, rfl⟩

set_option maxHeartbeats 4000000 in
theorem eqIntS_ans {W : World} {a b : Option Addr} {c d : Nat} {l m : List Int} (h : Row W (Value.int .i64) a l) (k : Row W (Value.int .i64) b m) (hl : l.length ≤ 1099511627776) (p : Bool) (hp : p = true ↔ l = m) (x : Ext W) :
    Calls Tryd.prog 18 #[.slice a l.length c, .slice b m.length d] x.w (Ans W (.bool p)) := by
  have HP := Lib.hid hp
  clear hp
  by_cases hlen : l.length = m.length
  · have fl : ((l.length : Int) != (m.length : Int)) = false := by simp; omega
    have hlm1 : l.length ≤ m.length := by omega
    have hlm2 : m.length ≤ l.length := by omega
    have HL := Lib.hid hlen
    clear hlen
    go_enter Tryd.func18, Tryd.ntmps18
    go_wp2
    clear fl
    obtain ⟨yy, hyy⟩ : ∃ y : Ext W, x = y := ⟨x, rfl⟩
    rw [hyy]
    clear hyy
    go_loopw [5] (fun i wr => ∃ j : Nat, i = .int .i64 j ∧ j ≤ l.length ∧ (∃ y : Ext W, wr = y.w) ∧ Hid (∀ i, i < j → l[i]? = m[i]?)) (fun i _ => l.length - (intOf i).toNat)
    case atStart => exact ⟨0, rfl, by omega, ⟨yy, rfl⟩, fun i hi => by omega⟩
    case round =>
      obtain ⟨j, rfl, hj, ⟨yy, rfl⟩, hU⟩ := hrel
      by_cases hlt : j < l.length
      · have hltm : j < m.length := by omega
        have hlt' : (j : Int) < (l.length : Int) := by omega
        have hltm' : (j : Int) < (m.length : Int) := by omega
        obtain ⟨b1, o1, rfl, hc⟩ := h.at hlt
        obtain ⟨b2, o2, rfl, hd⟩ := k.at hltm
        have c1 : ∀ y : Ext W, y.w.cell? ⟨b1, o1 + j, none⟩ = some ((Value.int .i64) l[j]) := fun y => y.cell (hc j _ (List.getElem?_eq_getElem hlt))
        have c2 : ∀ y : Ext W, y.w.cell? ⟨b2, o2 + j, none⟩ = some ((Value.int .i64) m[j]) := fun y => y.cell (hd j _ (List.getElem?_eq_getElem hltm))
        have E1 : Hid (l[j]? = some l[j]) := List.getElem?_eq_getElem hlt
        have E2 : Hid (m[j]? = some m[j]) := List.getElem?_eq_getElem hltm
        clear hc hd
        generalize l[j] = u at *
        generalize m[j] = v at *
        by_cases he : u = v
        · have fe : (u != v) = false := by simpa using he
          have HE := Lib.hid he
          clear he
          go_wp2
          refine region_ext yy (by kernel_rfl) (by kernel_rfl) ?_
          repeat (go_big_quiet_step (fail))
          refine wpQuiet_nil ?_
          rintro _ ⟨yy, rfl⟩
          go_wp2
          go_roundw
          case rel =>
            refine ⟨j + 1, by go_num, by omega, ⟨yy, rfl⟩, fun i hi => ?_⟩
            by_cases e : i = j
            · subst e; rw [E1.out, E2.out, HE.out]
            · exact hU.out i (by omega)
          case measure => simp [intOf]; omega
        · have fe : (u != v) = true := by simpa using he
          have HE := Lib.hid he
          clear he
          go_wp2
          refine region_ext yy (by kernel_rfl) (by kernel_rfl) ?_
          repeat (go_big_quiet_step (fail))
          refine wpQuiet_nil ?_
          rintro _ ⟨yy, rfl⟩
          go_wp2
          go_ret
          refine fin_false HP (fun q => HE.out ?_) ⟨yy, rfl⟩
          have e1 := E1.out
          rw [q, E2.out] at e1
          cases e1
          rfl
      · go_wp2
        go_ret
        refine fin_true HP (List.ext_getElem? fun i => ?_) ⟨yy, rfl⟩
        by_cases hi : i < l.length
        · exact hU.out i (by omega)
        · rw [List.getElem?_eq_none (by omega), List.getElem?_eq_none (by omega)]
  · have fl : ((l.length : Int) != (m.length : Int)) = true := by simp; omega
    have HL := Lib.hid hlen
    clear hlen
    go_enter Tryd.func18, Tryd.ntmps18
    go_wp2
    go_ret
    exact fin_false HP (fun q => HL.out (by rw [q])) ⟨x, rfl⟩

set_option maxHeartbeats 4000000 in
theorem eqBoolS_ans {W : World} {a b : Option Addr} {c d : Nat} {l m : List Bool} (h : Row W Value.bool a l) (k : Row W Value.bool b m) (hl : l.length ≤ 1099511627776) (p : Bool) (hp : p = true ↔ l = m) (x : Ext W) :
    Calls Tryd.prog 83 #[.slice a l.length c, .slice b m.length d] x.w (Ans W (.bool p)) := by
  have HP := Lib.hid hp
  clear hp
  by_cases hlen : l.length = m.length
  · have fl : ((l.length : Int) != (m.length : Int)) = false := by simp; omega
    have hlm1 : l.length ≤ m.length := by omega
    have hlm2 : m.length ≤ l.length := by omega
    have HL := Lib.hid hlen
    clear hlen
    go_enter Tryd.func83, Tryd.ntmps83
    go_wp2
    clear fl
    obtain ⟨yy, hyy⟩ : ∃ y : Ext W, x = y := ⟨x, rfl⟩
    rw [hyy]
    clear hyy
    go_loopw [5] (fun i wr => ∃ j : Nat, i = .int .i64 j ∧ j ≤ l.length ∧ (∃ y : Ext W, wr = y.w) ∧ Hid (∀ i, i < j → l[i]? = m[i]?)) (fun i _ => l.length - (intOf i).toNat)
    case atStart => exact ⟨0, rfl, by omega, ⟨yy, rfl⟩, fun i hi => by omega⟩
    case round =>
      obtain ⟨j, rfl, hj, ⟨yy, rfl⟩, hU⟩ := hrel
      by_cases hlt : j < l.length
      · have hltm : j < m.length := by omega
        have hlt' : (j : Int) < (l.length : Int) := by omega
        have hltm' : (j : Int) < (m.length : Int) := by omega
        obtain ⟨b1, o1, rfl, hc⟩ := h.at hlt
        obtain ⟨b2, o2, rfl, hd⟩ := k.at hltm
        have c1 : ∀ y : Ext W, y.w.cell? ⟨b1, o1 + j, none⟩ = some (Value.bool l[j]) := fun y => y.cell (hc j _ (List.getElem?_eq_getElem hlt))
        have c2 : ∀ y : Ext W, y.w.cell? ⟨b2, o2 + j, none⟩ = some (Value.bool m[j]) := fun y => y.cell (hd j _ (List.getElem?_eq_getElem hltm))
        have E1 : Hid (l[j]? = some l[j]) := List.getElem?_eq_getElem hlt
        have E2 : Hid (m[j]? = some m[j]) := List.getElem?_eq_getElem hltm
        clear hc hd
        generalize l[j] = u at *
        generalize m[j] = v at *
        cases u <;> cases v
        · skip
          go_wp2
          refine region_ext yy (by kernel_rfl) (by kernel_rfl) ?_
          repeat (go_big_quiet_step (fail))
          refine wpQuiet_nil ?_
          rintro _ ⟨yy, rfl⟩
          go_wp2
          go_roundw
          case rel =>
            refine ⟨j + 1, by go_num, by omega, ⟨yy, rfl⟩, fun i hi => ?_⟩
            by_cases e : i = j
            · subst e; rw [E1.out, E2.out]
            · exact hU.out i (by omega)
          case measure => simp [intOf]; omega
        · have HE : Hid (¬ (false : Bool) = true) := fun q => by cases q
          go_wp2
          refine region_ext yy (by kernel_rfl) (by kernel_rfl) ?_
          repeat (go_big_quiet_step (fail))
          refine wpQuiet_nil ?_
          rintro _ ⟨yy, rfl⟩
          go_wp2
          go_ret
          refine fin_false HP (fun q => HE.out ?_) ⟨yy, rfl⟩
          have e1 := E1.out
          rw [q, E2.out] at e1
          cases e1
        · have HE : Hid (¬ (true : Bool) = false) := fun q => by cases q
          go_wp2
          refine region_ext yy (by kernel_rfl) (by kernel_rfl) ?_
          repeat (go_big_quiet_step (fail))
          refine wpQuiet_nil ?_
          rintro _ ⟨yy, rfl⟩
          go_wp2
          go_ret
          refine fin_false HP (fun q => HE.out ?_) ⟨yy, rfl⟩
          have e1 := E1.out
          rw [q, E2.out] at e1
          cases e1
        · skip
          go_wp2
          refine region_ext yy (by kernel_rfl) (by kernel_rfl) ?_
          repeat (go_big_quiet_step (fail))
          refine wpQuiet_nil ?_
          rintro _ ⟨yy, rfl⟩
          go_wp2
          go_roundw
          case rel =>
            refine ⟨j + 1, by go_num, by omega, ⟨yy, rfl⟩, fun i hi => ?_⟩
            by_cases e : i = j
            · subst e; rw [E1.out, E2.out]
            · exact hU.out i (by omega)
          case measure => simp [intOf]; omega
      · go_wp2
        go_ret
        refine fin_true HP (List.ext_getElem? fun i => ?_) ⟨yy, rfl⟩
        by_cases hi : i < l.length
        · exact hU.out i (by omega)
        · rw [List.getElem?_eq_none (by omega), List.getElem?_eq_none (by omega)]
  · have fl : ((l.length : Int) != (m.length : Int)) = true := by simp; omega
    have HL := Lib.hid hlen
    clear hlen
    go_enter Tryd.func83, Tryd.ntmps83
    go_wp2
    go_ret
    exact fin_false HP (fun q => HL.out (by rw [q])) ⟨x, rfl⟩

theorem szSystem_ans {W : World} {r : Ref} {s : Sys} (h : SysIn W r s) (left : Int) (hl0 : 0 ≤ left) (hl1 : left ≤ 1048576) (v : Int)
    (hv : v = if left < s.plus.length + s.times.length + s.below.length then -1 else left - (s.plus.length + s.times.length + s.below.length)) (x : Ext W) :
    Calls Tryd.prog 28 #[r.val s, .int .i64 left] x.w (Ans W (.int .i64 v)) := by
  have HV := Lib.hid hv
  clear hv
  unfold Ref.val
  by_cases e1 : left < (s.plus.length : Int)
  · skip
    go_enter Tryd.func28, Tryd.ntmps28
    go_wp2_with fail
    generalize hW : x.w.alloc _ = W1
    generalize hB : x.w.heap.size = B
    obtain ⟨c0, c1, c2, c3, h1, hback, yy, hy0⟩ := boxed h x hB hW
    clear hW hB
    rw [← hy0]
    clear hy0
    (with_reducible refine Calls.mono (szIntS_ans _ _ s.plus (left) (by omega) (by omega) h1.lp (-1) (by split <;> omega) _) ?_)
    rintro e w' ⟨rfl, yy, rfl⟩
    go_wp2_with fail
    go_ret
    exact fin_int (by rw [HV.out, if_pos (by omega)]) (hback yy)
  · by_cases e2 : left - (s.plus.length : Int) < (s.times.length : Int)
    · skip
      go_enter Tryd.func28, Tryd.ntmps28
      go_wp2_with fail
      generalize hW : x.w.alloc _ = W1
      generalize hB : x.w.heap.size = B
      obtain ⟨c0, c1, c2, c3, h1, hback, yy, hy0⟩ := boxed h x hB hW
      clear hW hB
      rw [← hy0]
      clear hy0
      (with_reducible refine Calls.mono (szIntS_ans _ _ s.plus (left) (by omega) (by omega) h1.lp (left - s.plus.length) (by split <;> omega) _) ?_)
      rintro e w' ⟨rfl, yy, rfl⟩
      go_wp2_with fail
      (with_reducible refine Calls.mono (szIntS_ans _ _ s.times (left - s.plus.length) (by omega) (by omega) h1.lt (-1) (by split <;> omega) _) ?_)
      rintro e w' ⟨rfl, yy, rfl⟩
      go_wp2_with fail
      go_ret
      exact fin_int (by rw [HV.out, if_pos (by omega)]) (hback yy)
    · by_cases e3 : left - (s.plus.length : Int) - (s.times.length : Int) < (s.below.length : Int)
      · skip
        go_enter Tryd.func28, Tryd.ntmps28
        go_wp2_with fail
        generalize hW : x.w.alloc _ = W1
        generalize hB : x.w.heap.size = B
        obtain ⟨c0, c1, c2, c3, h1, hback, yy, hy0⟩ := boxed h x hB hW
        clear hW hB
        rw [← hy0]
        clear hy0
        (with_reducible refine Calls.mono (szIntS_ans _ _ s.plus (left) (by omega) (by omega) h1.lp (left - s.plus.length) (by split <;> omega) _) ?_)
        rintro e w' ⟨rfl, yy, rfl⟩
        go_wp2_with fail
        (with_reducible refine Calls.mono (szIntS_ans _ _ s.times (left - s.plus.length) (by omega) (by omega) h1.lt (left - s.plus.length - s.times.length) (by split <;> omega) _) ?_)
        rintro e w' ⟨rfl, yy, rfl⟩
        go_wp2_with fail
        (with_reducible refine Calls.mono (szBoolS_ans _ _ s.below (left - s.plus.length - s.times.length) (by omega) (by omega) h1.lb (-1) (by split <;> omega) _) ?_)
        rintro e w' ⟨rfl, yy, rfl⟩
        go_wp2_with fail
        go_ret
        exact fin_int (by rw [HV.out, if_pos (by omega)]) (hback yy)
      · skip
        go_enter Tryd.func28, Tryd.ntmps28
        go_wp2_with fail
        generalize hW : x.w.alloc _ = W1
        generalize hB : x.w.heap.size = B
        obtain ⟨c0, c1, c2, c3, h1, hback, yy, hy0⟩ := boxed h x hB hW
        clear hW hB
        rw [← hy0]
        clear hy0
        (with_reducible refine Calls.mono (szIntS_ans _ _ s.plus (left) (by omega) (by omega) h1.lp (left - s.plus.length) (by split <;> omega) _) ?_)
        rintro e w' ⟨rfl, yy, rfl⟩
        go_wp2_with fail
        (with_reducible refine Calls.mono (szIntS_ans _ _ s.times (left - s.plus.length) (by omega) (by omega) h1.lt (left - s.plus.length - s.times.length) (by split <;> omega) _) ?_)
        rintro e w' ⟨rfl, yy, rfl⟩
        go_wp2_with fail
        (with_reducible refine Calls.mono (szBoolS_ans _ _ s.below (left - s.plus.length - s.times.length) (by omega) (by omega) h1.lb (left - s.plus.length - s.times.length - s.below.length) (by split <;> omega) _) ?_)
        rintro e w' ⟨rfl, yy, rfl⟩
        go_wp2_with fail
        go_ret
        exact fin_int (by rw [HV.out, if_neg (by omega)]; omega) (hback yy)

set_option maxHeartbeats 4000000 in
theorem eqSystem_ans {W : World} {r r' : Ref} {s s' : Sys} (h : SysIn W r s) (k : SysIn W r' s') (sm : Small s) (p : Bool) (hp : p = true ↔ s = s') (x : Ext W) :
    Calls Tryd.prog 32 #[r.val s, r'.val s'] x.w (Ans W (.bool p)) := by
  have HP := Lib.hid hp
  clear hp
  unfold Ref.val
  by_cases en : s.n = s'.n
  · skip
    have EN := Lib.hid en
    clear en
    have fn : (s.n != s'.n) = false := by simpa using EN.out
    by_cases ea : s.plus = s'.plus
    · skip
      have EA := Lib.hid ea
      clear ea
      by_cases eb : s.times = s'.times
      · skip
        have EB := Lib.hid eb
        clear eb
        by_cases ec : s.below = s'.below
        · skip
          have EC := Lib.hid ec
          clear ec
          go_enter Tryd.func32, Tryd.ntmps32
          go_wp2_with fail
          generalize hW : (x.w.alloc _).alloc _ = W1
          generalize hB : x.w.heap.size = B
          obtain ⟨c0, c1, c2, c3, d0, d1, d2, d3, h1, k1, hback, yy, hy0⟩ := boxed2 h k x hB hW
          clear hW hB
          rw [← hy0]
          clear hy0
          (with_reducible refine Calls.mono (eqIntS_ans h1.plus k1.plus sm.p true (by refine iff_tf ?_; dsimp only; exact EA.out) _) ?_)
          rintro e w' ⟨rfl, yy, rfl⟩
          go_wp2_with fail
          (with_reducible refine Calls.mono (eqIntS_ans h1.times k1.times sm.t true (by refine iff_tf ?_; dsimp only; exact EB.out) _) ?_)
          rintro e w' ⟨rfl, yy, rfl⟩
          go_wp2_with fail
          (with_reducible refine Calls.mono (eqBoolS_ans h1.below k1.below sm.b true (by refine iff_tf ?_; dsimp only; exact EC.out) _) ?_)
          rintro e w' ⟨rfl, yy, rfl⟩
          go_wp2_with fail
          go_ret
          exact fin_true HP (by cases s; cases s'; have := EN.out; have := EA.out; have := EB.out; have := EC.out; simp_all) (hback yy)
        · skip
          have EC := Lib.hid ec
          clear ec
          go_enter Tryd.func32, Tryd.ntmps32
          go_wp2_with fail
          generalize hW : (x.w.alloc _).alloc _ = W1
          generalize hB : x.w.heap.size = B
          obtain ⟨c0, c1, c2, c3, d0, d1, d2, d3, h1, k1, hback, yy, hy0⟩ := boxed2 h k x hB hW
          clear hW hB
          rw [← hy0]
          clear hy0
          (with_reducible refine Calls.mono (eqIntS_ans h1.plus k1.plus sm.p true (by refine iff_tf ?_; dsimp only; exact EA.out) _) ?_)
          rintro e w' ⟨rfl, yy, rfl⟩
          go_wp2_with fail
          (with_reducible refine Calls.mono (eqIntS_ans h1.times k1.times sm.t true (by refine iff_tf ?_; dsimp only; exact EB.out) _) ?_)
          rintro e w' ⟨rfl, yy, rfl⟩
          go_wp2_with fail
          (with_reducible refine Calls.mono (eqBoolS_ans h1.below k1.below sm.b false (by refine iff_tf ?_; dsimp only; exact EC.out) _) ?_)
          rintro e w' ⟨rfl, yy, rfl⟩
          go_wp2_with fail
          go_ret
          exact fin_false HP (fun q => EC.out (by rw [q])) (hback yy)
      · skip
        have EB := Lib.hid eb
        clear eb
        go_enter Tryd.func32, Tryd.ntmps32
        go_wp2_with fail
        generalize hW : (x.w.alloc _).alloc _ = W1
        generalize hB : x.w.heap.size = B
        obtain ⟨c0, c1, c2, c3, d0, d1, d2, d3, h1, k1, hback, yy, hy0⟩ := boxed2 h k x hB hW
        clear hW hB
        rw [← hy0]
        clear hy0
        (with_reducible refine Calls.mono (eqIntS_ans h1.plus k1.plus sm.p true (by refine iff_tf ?_; dsimp only; exact EA.out) _) ?_)
        rintro e w' ⟨rfl, yy, rfl⟩
        go_wp2_with fail
        (with_reducible refine Calls.mono (eqIntS_ans h1.times k1.times sm.t false (by refine iff_tf ?_; dsimp only; exact EB.out) _) ?_)
        rintro e w' ⟨rfl, yy, rfl⟩
        go_wp2_with fail
        go_ret
        exact fin_false HP (fun q => EB.out (by rw [q])) (hback yy)
    · skip
      have EA := Lib.hid ea
      clear ea
      go_enter Tryd.func32, Tryd.ntmps32
      go_wp2_with fail
      generalize hW : (x.w.alloc _).alloc _ = W1
      generalize hB : x.w.heap.size = B
      obtain ⟨c0, c1, c2, c3, d0, d1, d2, d3, h1, k1, hback, yy, hy0⟩ := boxed2 h k x hB hW
      clear hW hB
      rw [← hy0]
      clear hy0
      (with_reducible refine Calls.mono (eqIntS_ans h1.plus k1.plus sm.p false (by refine iff_tf ?_; dsimp only; exact EA.out) _) ?_)
      rintro e w' ⟨rfl, yy, rfl⟩
      go_wp2_with fail
      go_ret
      exact fin_false HP (fun q => EA.out (by rw [q])) (hback yy)
  · skip
    have EN := Lib.hid en
    clear en
    have fn : (s.n != s'.n) = true := by simpa using EN.out
    go_enter Tryd.func32, Tryd.ntmps32
    go_wp2_with fail
    generalize hW : (x.w.alloc _).alloc _ = W1
    generalize hB : x.w.heap.size = B
    obtain ⟨c0, c1, c2, c3, d0, d1, d2, d3, h1, k1, hback, yy, hy0⟩ := boxed2 h k x hB hW
    clear hW hB
    rw [← hy0]
    clear hy0
    go_wp2
    go_ret
    exact fin_false HP (fun q => EN.out (by rw [q])) (hback yy)

end Go.Proofs.YtoefeijnnnioeaaDoor

/- The laws' marks. -/
namespace Go.Proofs.YtoefeijnnnioeaaDoor
open Go.RowKit

def marksI (m : Int) (n : Nat) : List Value := (List.range n).map fun (i : Nat) => Value.int .i64 (m + (i : Int))
def bit3 (k : Int) : Bool := k % 3 == 0
def marksB (m : Int) (n : Nat) : List Value := (List.range n).map fun (i : Nat) => Value.bool (bit3 (m + (i : Int)))
theorem marksI_at (m : Int) {n j : Nat} (h : j < n) : (marksI m n)[j]? = some (.int .i64 (m + j)) := by simp [marksI, h]
theorem marksB_at (m : Int) {n j : Nat} (h : j < n) : (marksB m n)[j]? = some (.bool (bit3 (m + j))) := by simp [marksB, h]

set_option maxHeartbeats 4000000 in
theorem markIntS_ans {w : World} {base : Nat} {a : Option Addr} {n c : Nat} {xs : List Value} (h : w.ownsRow base 3 1 (.slice a n c) n xs) (hn : n ≤ 1000000000) (m : Int) (h0 : 0 ≤ m) (h1 : m ≤ 1000000000) :
    Calls Tryd.prog 19 #[.slice a n c, .int .i64 m] w (fun e w' => e = .returned (.int .i64 (m + n)) ∧ w'.ownsRow base 3 1 (.slice a n c) n (marksI m n) ∧ w.grownBy w' (Value.slice a n c).ownBlock) := by
  rcases h.2 with ⟨e, rfl⟩ | ⟨g, cap, cur, e, hb, hg, hcap, hmax, hsz, htk⟩
  · cases e
    go_enter Tryd.func19, Tryd.ntmps19
    go_wp2
    go_loopw [5, 1] (fun i k wr => i = .int .i64 0 ∧ k = .int .i64 m ∧ wr = w) (fun _ _ _ => 0)
    case atStart => exact ⟨rfl, rfl, rfl⟩
    case round =>
      obtain ⟨rfl, rfl, rfl⟩ := hrel
      go_wp2
      go_ret
      exact ⟨by simp, (World.ownsRow_nil _ _ _ _ : World.ownsRow _ _ _ _ _ _ []), World.grownBy.refl _ _⟩
  · cases e
    clear hsz htk hmax hcap hg cur
    go_enter Tryd.func19, Tryd.ntmps19
    go_wp2
    go_loopw [5, 1] (fun i k wr => ∃ (j : Nat) (ys : List Value), i = .int .i64 j ∧ k = .int .i64 (m + j) ∧ j ≤ n ∧ wr.ownsRow base 3 1 (.slice (some ⟨g, 0, none⟩) n c) n ys ∧ w.grownBy wr (some g) ∧ Hid (∀ i, i < j → ys[i]? = (marksI m n)[i]?)) (fun i _ _ => n - (intOf i).toNat)
    case atStart => exact ⟨0, xs, rfl, by simp, by omega, h, World.grownBy.refl _ _, fun i hi => by omega⟩
    case round =>
      obtain ⟨j, ys, rfl, rfl, hj, hown, hgr, hX⟩ := hrel
      by_cases hlt : j < n
      · have hlt' : (j : Int) < (n : Int) := by omega
        have hly : ys.length = n := by have := hown.1; omega
        obtain ⟨v0, hv0⟩ : ∃ v0, ys[j]? = some v0 := ⟨_, List.getElem?_eq_getElem (by omega)⟩
        have hold : wr.cell? ⟨g, j, none⟩ = some v0 := by rw [hown.cellAt j (by omega)]; exact hv0
        have hfz : wr.frozen? ⟨g, j, none⟩ = false := hown.frozenAt j
        obtain ⟨hst, hgs⟩ := hown.stored j (Value.int .i64 (m + (j : Int)))
        have HS := Lib.hid hst
        have HG := Lib.hid (hgr.trans hgs)
        have HL := Lib.hid hly
        skip
        clear hst hgs hv0 hly hown hgr
        go_wp2
        go_roundw
        case rel =>
          refine ⟨j + 1, _, by go_num, by go_num, by omega, HS.out, HG.out, fun i hi => ?_⟩
          have hly := HL.out
          rw [List.getElem?_set]
          by_cases e : j = i
          · subst e
            rw [marksI_at _ hlt, if_pos rfl, if_pos (by omega)] <;> rfl
          · rw [if_neg e]; exact hX.out i (by omega)
        case measure => simp [intOf]; omega
      · have hlt' : ¬ (j : Int) < (n : Int) := by omega
        have hke : j = n := by omega
        have HK := Lib.hid hke
        have HO := Lib.hid hown
        have HG := Lib.hid hgr
        clear hke hown hgr
        go_wp2
        go_ret
        refine ⟨by rw [HK.out] <;> rfl, ?_, HG.out⟩
        have e : ys = marksI m n := by
          apply List.ext_getElem?
          intro i
          by_cases hi : i < n
          · exact hX.out i (by rw [HK.out]; exact hi)
          · have := HO.out.1
            rw [List.getElem?_eq_none (by omega), List.getElem?_eq_none (by simp [marksI]; omega)]
        rw [← e]
        exact HO.out

set_option maxHeartbeats 4000000 in
theorem markBoolS_ans {w : World} {base : Nat} {a : Option Addr} {n c : Nat} {xs : List Value} (h : w.ownsRow base 4 1 (.slice a n c) n xs) (hn : n ≤ 1000000000) (m : Int) (h0 : 0 ≤ m) (h1 : m ≤ 1000000000) :
    Calls Tryd.prog 103 #[.slice a n c, .int .i64 m] w (fun e w' => e = .returned (.int .i64 (m + n)) ∧ w'.ownsRow base 4 1 (.slice a n c) n (marksB m n) ∧ w.grownBy w' (Value.slice a n c).ownBlock) := by
  rcases h.2 with ⟨e, rfl⟩ | ⟨g, cap, cur, e, hb, hg, hcap, hmax, hsz, htk⟩
  · cases e
    go_enter Tryd.func103, Tryd.ntmps103
    go_wp2
    go_loopw [5, 1] (fun i k wr => i = .int .i64 0 ∧ k = .int .i64 m ∧ wr = w) (fun _ _ _ => 0)
    case atStart => exact ⟨rfl, rfl, rfl⟩
    case round =>
      obtain ⟨rfl, rfl, rfl⟩ := hrel
      go_wp2
      go_ret
      exact ⟨by simp, (World.ownsRow_nil _ _ _ _ : World.ownsRow _ _ _ _ _ _ []), World.grownBy.refl _ _⟩
  · cases e
    clear hsz htk hmax hcap hg cur
    go_enter Tryd.func103, Tryd.ntmps103
    go_wp2
    go_loopw [5, 1] (fun i k wr => ∃ (j : Nat) (ys : List Value), i = .int .i64 j ∧ k = .int .i64 (m + j) ∧ j ≤ n ∧ wr.ownsRow base 4 1 (.slice (some ⟨g, 0, none⟩) n c) n ys ∧ w.grownBy wr (some g) ∧ Hid (∀ i, i < j → ys[i]? = (marksB m n)[i]?)) (fun i _ _ => n - (intOf i).toNat)
    case atStart => exact ⟨0, xs, rfl, by simp, by omega, h, World.grownBy.refl _ _, fun i hi => by omega⟩
    case round =>
      obtain ⟨j, ys, rfl, rfl, hj, hown, hgr, hX⟩ := hrel
      by_cases hlt : j < n
      · have hlt' : (j : Int) < (n : Int) := by omega
        have hly : ys.length = n := by have := hown.1; omega
        obtain ⟨v0, hv0⟩ : ∃ v0, ys[j]? = some v0 := ⟨_, List.getElem?_eq_getElem (by omega)⟩
        have hold : wr.cell? ⟨g, j, none⟩ = some v0 := by rw [hown.cellAt j (by omega)]; exact hv0
        have hfz : wr.frozen? ⟨g, j, none⟩ = false := hown.frozenAt j
        obtain ⟨hst, hgs⟩ := hown.stored j (Value.bool ((m + (j : Int)) % 3 == 0))
        have HS := Lib.hid hst
        have HG := Lib.hid (hgr.trans hgs)
        have HL := Lib.hid hly
        have hb3 : (m + (j : Int)).tmod 3 = (m + (j : Int)) % 3 := Int.tmod_eq_emod_of_nonneg (by omega)
        clear hst hgs hv0 hly hown hgr
        go_wp2
        go_roundw
        case rel =>
          refine ⟨j + 1, _, by go_num, by go_num, by omega, HS.out, HG.out, fun i hi => ?_⟩
          have hly := HL.out
          rw [List.getElem?_set]
          by_cases e : j = i
          · subst e
            rw [marksB_at _ hlt, if_pos rfl, if_pos (by omega)] <;> rfl
          · rw [if_neg e]; exact hX.out i (by omega)
        case measure => simp [intOf]; omega
      · have hlt' : ¬ (j : Int) < (n : Int) := by omega
        have hke : j = n := by omega
        have HK := Lib.hid hke
        have HO := Lib.hid hown
        have HG := Lib.hid hgr
        clear hke hown hgr
        go_wp2
        go_ret
        refine ⟨by rw [HK.out] <;> rfl, ?_, HG.out⟩
        have e : ys = marksB m n := by
          apply List.ext_getElem?
          intro i
          by_cases hi : i < n
          · exact hX.out i (by rw [HK.out]; exact hi)
          · have := HO.out.1
            rw [List.getElem?_eq_none (by omega), List.getElem?_eq_none (by simp [marksB]; omega)]
        rw [← e]
        exact HO.out

end Go.Proofs.YtoefeijnnnioeaaDoor

/- The laws' marks of a system. -/
namespace Go.Proofs.YtoefeijnnnioeaaDoor
open Go.RowKit

set_option maxHeartbeats 4000000 in
theorem heldIntS_ans {W : World} {a : Option Addr} {c : Nat} {l : List Int} (h : Row W (Value.int .i64) a l) (hn : l.length ≤ 1000000000) (m : Int) (h0 : 0 ≤ m) (h1 : m ≤ 1000000000) (hl : ∀ (i : Nat) u, l[i]? = some u → u = m + (i : Int)) (x : Ext W) :
    Calls Tryd.prog 20 #[.slice a l.length c, .int .i64 m] x.w (Ans W (.int .i64 (m + l.length))) := by
  have HL := Lib.hid hl
  clear hl
  obtain ⟨yy, hyy⟩ : ∃ y : Ext W, x = y := ⟨x, rfl⟩
  rw [hyy]
  clear hyy
  go_enter Tryd.func20, Tryd.ntmps20
  go_wp2
  go_loopw [5, 1] (fun i k wr => ∃ j : Nat, i = .int .i64 j ∧ k = .int .i64 (m + j) ∧ j ≤ l.length ∧ (∃ y : Ext W, wr = y.w)) (fun i _ _ => l.length - (intOf i).toNat)
  case atStart => exact ⟨0, rfl, by simp, by omega, ⟨yy, rfl⟩⟩
  case round =>
    obtain ⟨j, rfl, rfl, hj, ⟨yy, rfl⟩⟩ := hrel
    by_cases hlt : j < l.length
    · have hlt' : (j : Int) < (l.length : Int) := by omega
      obtain ⟨b1, o1, rfl, hc⟩ := h.at hlt
      have c1 : ∀ y : Ext W, y.w.cell? ⟨b1, o1 + j, none⟩ = some ((Value.int .i64) l[j]) := fun y => y.cell (hc j _ (List.getElem?_eq_getElem hlt))
      have hu := HL.out j _ (List.getElem?_eq_getElem hlt)
      clear hc
      generalize l[j] = u at *
      subst hu
      skip
      go_wp2
      go_roundw
      case rel => exact ⟨j + 1, by go_num, by go_num, by omega, ⟨yy, rfl⟩⟩
      case measure => simp [intOf]; omega
    · have hlt' : ¬ (j : Int) < (l.length : Int) := by omega
      have hke : (j : Int) = (l.length : Int) := by omega
      have HK := Lib.hid hke
      clear hke
      go_wp2
      go_ret
      exact fin_int (by rw [HK.out]) ⟨yy, rfl⟩

def Apart (v u : Value) : Prop := v.ownBlock = none ∨ v.ownBlock ≠ u.ownBlock
theorem Apart.symm {v u : Value} (h : Apart v u) : Apart u v := by
  unfold Apart at *
  cases hv : v.ownBlock <;> cases hu : u.ownBlock <;> simp_all
  exact fun e => h e.symm
/-- A system whose three tables lie in blocks of their own, from base on. -/
structure Own3 (w : World) (base : Nat) (r : Ref) (n1 n2 n3 : Nat) (x1 x2 x3 : List Value) : Prop where
  o1 : w.ownsRow base 3 1 (.slice r.pa n1 r.pc) n1 x1
  o2 : w.ownsRow base 3 1 (.slice r.ta n2 r.tc) n2 x2
  o3 : w.ownsRow base 4 1 (.slice r.ba n3 r.bc) n3 x3
  d12 : Apart (.slice r.pa n1 r.pc) (.slice r.ta n2 r.tc)
  d13 : Apart (.slice r.pa n1 r.pc) (.slice r.ba n3 r.bc)
  d23 : Apart (.slice r.ta n2 r.tc) (.slice r.ba n3 r.bc)
theorem Own3.ext {W : World} {base : Nat} {r : Ref} {n1 n2 n3 : Nat} {x1 x2 x3 : List Value} (h : Own3 W base r n1 n2 n3 x1 x2 x3) (y : Ext W) : Own3 y.w base r n1 n2 n3 x1 x2 x3 :=
  ⟨owns_ext h.o1 y, owns_ext h.o2 y, owns_ext h.o3 y, h.d12, h.d13, h.d23⟩
theorem Own3.lower {W : World} {base base' : Nat} {r : Ref} {n1 n2 n3 : Nat} {x1 x2 x3 : List Value} (h : Own3 W base r n1 n2 n3 x1 x2 x3) (hb : base' ≤ base) : Own3 W base' r n1 n2 n3 x1 x2 x3 :=
  ⟨owns_lower h.o1 hb, owns_lower h.o2 hb, owns_lower h.o3 hb, h.d12, h.d13, h.d23⟩
theorem own_row {α : Type} {w : World} {base : Nat} {E : TypeId} {mk : α → Value} {a : Option Addr} {c : Nat} {l : List α} (h : w.ownsRow base E 1 (.slice a l.length c) l.length (l.map mk)) : Row w mk a l := by
  obtain ⟨a', c', e, hr, _⟩ := owned_row h
  cases e
  exact hr
/-- A new system whose tables lie in blocks of their own. -/
def NewOwn (W : World) (s : Sys) : Ending → World → Prop := fun e w' => ∃ (r : Ref) (y : Ext W), e = .returned (r.val s) ∧ w' = y.w ∧
  Own3 y.w W.heap.size r s.plus.length s.times.length s.below.length (s.plus.map (Value.int .i64)) (s.times.map (Value.int .i64)) (s.below.map Value.bool)
theorem Own3.sys {w : World} {base : Nat} {r : Ref} {s : Sys} (h : Own3 w base r s.plus.length s.times.length s.below.length (s.plus.map (Value.int .i64)) (s.times.map (Value.int .i64)) (s.below.map Value.bool)) (sm : Small s) : SysIn w r s :=
  ⟨own_row h.o1, own_row h.o2, own_row h.o3, by have := sm.p; omega, by have := sm.t; omega, by have := sm.b; omega⟩

set_option maxHeartbeats 4000000 in
theorem markSystem_ans {w : World} {base : Nat} {r : Ref} {n1 n2 n3 : Nat} {x1 x2 x3 : List Value} (h : Own3 w base r n1 n2 n3 x1 x2 x3) (hbase : base ≤ w.heap.size) (z : Int) (hn1 : n1 ≤ 100000000) (hn2 : n2 ≤ 100000000) (hn3 : n3 ≤ 100000000) (m : Int) (hm0 : 0 ≤ m) (hm1 : m ≤ 100000000) :
    Calls Tryd.prog 50 #[.agg #[.int .i64 z, .slice r.pa n1 r.pc, .slice r.ta n2 r.tc, .slice r.ba n3 r.bc], .int .i64 m] w (fun e w' => e = .returned (.int .i64 (m + n1 + n2 + n3)) ∧
      Own3 w' base r n1 n2 n3 (marksI m n1) (marksI (m + n1) n2) (marksB (m + n1 + n2) n3) ∧ Below base w w' ∧ Only w w' (fun g => ob r.pa = some g ∨ ob r.ta = some g ∨ ob r.ba = some g)) := by
  go_enter Tryd.func50, Tryd.ntmps50
  go_wp2_with fail
  have l1 := h.o1.lt
  have l2 := h.o2.lt
  have l3 := h.o3.lt
  generalize hWb : w.alloc _ = Wb
  generalize hB : w.heap.size = B at *
  have bB : Wb.heap[B]? = some (.cells #[.int .i64 z, .slice r.pa n1 r.pc, .slice r.ta n2 r.tc, .slice r.ba n3 r.bc] 45 (0, 0)) := by
    subst hWb; subst hB
    show (w.heap.push _)[w.heap.size]? = _
    rw [Array.getElem?_push, if_pos rfl]
  have o1 : Wb.ownsRow base 3 1 (.slice r.pa n1 r.pc) n1 x1 := by subst hWb; exact h.o1.alloc _
  have o2 : Wb.ownsRow base 3 1 (.slice r.ta n2 r.tc) n2 x2 := by subst hWb; exact h.o2.alloc _
  have o3 : Wb.ownsRow base 4 1 (.slice r.ba n3 r.bc) n3 x3 := by subst hWb; exact h.o3.alloc _
  have bel : Below base w Wb := by subst hWb; exact (Below.refl _ _).alloc (by omega) _
  have hBs : B < Wb.heap.size := (Array.getElem?_eq_some_iff.1 bB).1
  have only0 : Only w Wb (fun g => ob r.pa = some g ∨ ob r.ta = some g ∨ ob r.ba = some g) := by subst hWb; exact Only.alloc _ _ _
  clear hWb
  refine Calls.mono (markIntS_ans o1 (by omega) m (by omega) (by omega)) ?_
  rintro e wa ⟨rfl, p1, g1⟩
  have bBa : wa.heap[B]? = _ := (g1.block B hBs (fun e => by have := (l1 B e.symm).2; omega)).trans bB
  have o2 := o2.kept g1 h.d12.symm
  have o3 := o3.kept g1 h.d13.symm
  have bel := bel.grown g1 (by omega) (fun k hk => (l1 k hk).1)
  have hBs : B < wa.heap.size := (Array.getElem?_eq_some_iff.1 bBa).1
  have k2 := blk_cell bBa 2
  have z2 : wa.cell? ⟨B, 2, none⟩ = some (.slice r.ta n2 r.tc) := k2
  have only1 := only0.trans (Only.grown (B := fun g => ob r.pa = some g ∨ ob r.ta = some g ∨ ob r.ba = some g) g1 (fun g e => .inl (by rw [← e, ob_eq])))
  clear k2 o1 bB
  go_wp2_with fail
  refine Calls.mono (markIntS_ans o2 (by omega) (m + n1) (by omega) (by omega)) ?_
  rintro e wb ⟨rfl, p2, g2⟩
  have bBb : wb.heap[B]? = _ := (g2.block B hBs (fun e => by have := (l2 B e.symm).2; omega)).trans bBa
  have p1 := p1.kept g2 h.d12
  have o3 := o3.kept g2 h.d23.symm
  have bel := bel.grown g2 (by omega) (fun k hk => (l2 k hk).1)
  have hBs : B < wb.heap.size := (Array.getElem?_eq_some_iff.1 bBb).1
  have k3 := blk_cell bBb 3
  have z3 : wb.cell? ⟨B, 3, none⟩ = some (.slice r.ba n3 r.bc) := k3
  have only2 := only1.trans (Only.grown (B := fun g => ob r.pa = some g ∨ ob r.ta = some g ∨ ob r.ba = some g) g2 (fun g e => .inr (.inl (by rw [← e, ob_eq]))))
  clear k3 o2 bBa z2
  go_wp2_with fail
  refine Calls.mono (markBoolS_ans o3 (by omega) (m + n1 + n2) (by omega) (by omega)) ?_
  rintro e wc ⟨rfl, p3, g3⟩
  have p1 := p1.kept g3 h.d13
  have p2 := p2.kept g3 h.d23
  have bel := bel.grown g3 (by omega) (fun k hk => (l3 k hk).1)
  have only3 := only2.trans (Only.grown (B := fun g => ob r.pa = some g ∨ ob r.ta = some g ∨ ob r.ba = some g) g3 (fun g e => .inr (.inr (by rw [← e, ob_eq]))))
  clear bBb z3
  go_wp2_with fail
  go_ret
  exact ⟨rfl, ⟨p1, p2, p3, h.d12, h.d13, h.d23⟩, bel, only3⟩

def uptoI (m : Int) (n : Nat) : List Int := (List.range n).map fun (i : Nat) => m + (i : Int)
def bitsB (m : Int) (n : Nat) : List Bool := (List.range n).map fun (i : Nat) => bit3 (m + (i : Int))
theorem marksI_eq (m : Int) (n : Nat) : marksI m n = (uptoI m n).map (Value.int .i64) := by simp [marksI, uptoI, List.map_map]
theorem marksB_eq (m : Int) (n : Nat) : marksB m n = (bitsB m n).map Value.bool := by simp [marksB, bitsB, List.map_map]
theorem uptoI_len (m : Int) (n : Nat) : (uptoI m n).length = n := by simp [uptoI]
theorem bitsB_len (m : Int) (n : Nat) : (bitsB m n).length = n := by simp [bitsB]
theorem uptoI_at {m : Int} {n i : Nat} {u : Int} (h : (uptoI m n)[i]? = some u) : u = m + (i : Int) := by
  obtain ⟨hi, h⟩ := List.getElem?_eq_some_iff.1 h
  rw [← h]; simp [uptoI]
theorem bitsB_at {m : Int} {n i : Nat} {u : Bool} (h : (bitsB m n)[i]? = some u) : u = bit3 (m + (i : Int)) := by
  obtain ⟨hi, h⟩ := List.getElem?_eq_some_iff.1 h
  rw [← h]; simp [bitsB]
/-- A system whose tables are marked. -/
def mkdS (s : Sys) (m : Int) : Sys := ⟨s.n, uptoI m s.plus.length, uptoI (m + s.plus.length) s.times.length, bitsB (m + s.plus.length + s.times.length) s.below.length⟩
theorem mkdS_val (r : Ref) (s : Sys) (m : Int) : r.val (mkdS s m) = r.val s := by simp [Ref.val, mkdS, uptoI_len, bitsB_len]
theorem Own3.marked {w : World} {base : Nat} {r : Ref} {s : Sys} {m : Int} (h : Own3 w base r s.plus.length s.times.length s.below.length (marksI m s.plus.length) (marksI (m + s.plus.length) s.times.length) (marksB (m + s.plus.length + s.times.length) s.below.length)) (sm : Small s) : SysIn w r (mkdS s m) := by
  have o1 := h.o1
  have o2 := h.o2
  have o3 := h.o3
  rw [marksI_eq] at o1 o2
  rw [marksB_eq] at o3
  refine ⟨own_row (c := r.pc) (l := uptoI m s.plus.length) (by rw [uptoI_len]; exact o1), own_row (c := r.tc) (l := uptoI (m + s.plus.length) s.times.length) (by rw [uptoI_len]; exact o2), own_row (c := r.bc) (l := bitsB (m + s.plus.length + s.times.length) s.below.length) (by rw [bitsB_len]; exact o3), ?_, ?_, ?_⟩
  · have := sm.p; simp [mkdS, uptoI_len]; omega
  · have := sm.t; simp [mkdS, uptoI_len]; omega
  · have := sm.b; simp [mkdS, bitsB_len]; omega
end Go.Proofs.YtoefeijnnnioeaaDoor

/- What the laws' walks end in. -/
namespace Go.Proofs.YtoefeijnnnioeaaDoor
open Go.RowKit

theorem lift_fact {W1 W3 : World} (yy : Ext W1) (hb : ∀ z : Ext W3, ∃ u : Ext yy.w, z.w = u.w) {a : Addr} {v : Value} (c : ∀ y : Ext W1, y.w.cell? a = some v) : ∀ z : Ext W3, z.w.cell? a = some v := fun z => by
  obtain ⟨u, hu⟩ := hb z
  rw [hu]
  exact c (yy.trans u)
theorem lift_sys {W1 W3 : World} (yy : Ext W1) (hb : ∀ z : Ext W3, ∃ u : Ext yy.w, z.w = u.w) (y0 : ∃ y0 : Ext W3, y0.w = W3) {r : Ref} {s : Sys} (h : SysIn W1 r s) : SysIn W3 r s := by
  obtain ⟨y0, hy⟩ := y0
  obtain ⟨u, hu⟩ := hb y0
  rw [← hy, hu]
  exact h.ext (yy.trans u)
theorem lift_back {W W1 W3 : World} (yy : Ext W1) (hb : ∀ z : Ext W3, ∃ u : Ext yy.w, z.w = u.w) (hback : ∀ y : Ext W1, ∃ z : Ext W, y.w = z.w) : ∀ y : Ext W3, ∃ z : Ext W, y.w = z.w := fun y => by
  obtain ⟨u, hu⟩ := hb y
  obtain ⟨z, hz⟩ := hback (yy.trans u)
  exact ⟨z, by rw [hu]; exact hz⟩
/-- A law's walk ends: true; nothing that was there has changed. -/
def LawEnd (W : World) : Ending → World → Prop := fun e w' => e = .returned (.bool true) ∧ Below W.heap.size W w'
theorem law_end {W : World} {w : World} (hz : ∃ z : Ext W, w = z.w) : LawEnd W (.returned (.bool true)) w := by
  obtain ⟨z, rfl⟩ := hz
  exact ⟨rfl, z.below⟩

end Go.Proofs.YtoefeijnnnioeaaDoor

/- Lists of numbers in blocks of their own. -/
namespace Go.Proofs.YtoefeijnnnioeaaDoor
open Go.RowKit

/-- What is owned is kept where nothing of it turns. -/
theorem own_only {w w' : World} {base : Nat} {e : TypeId} {size : Nat} {a : Option Addr} {n m c : Nat} {xs : List Value} {B : Nat → Prop} (h : w.ownsRow base e size (.slice a m c) n xs) (ho : Only w w' B) (hd : ∀ g, ob a = some g → ¬ B g) : w'.ownsRow base e size (.slice a m c) n xs :=
  owns_of_block h fun g hg => ho.block g (h.lt g hg).2 (hd g (by rw [← ob_eq]; exact hg))
theorem own_marked {w : World} {base : Nat} {a : Option Addr} {n c : Nat} {m : Int} (h : w.ownsRow base 3 1 (.slice a n c) n (marksI m n)) : Row w (Value.int .i64) a (uptoI m n) := by
  rw [marksI_eq] at h
  have e := uptoI_len m n
  exact own_row (E := 3) (base := base) (c := c) (l := uptoI m n) (by rw [e]; exact h)
theorem heldI_ans {W : World} {a : Option Addr} {n c : Nat} {m : Int} (h : Row W (Value.int .i64) a (uptoI m n)) (hn : n ≤ 1000000000) (h0 : 0 ≤ m) (h1 : m ≤ 1000000000) (x : Ext W) : Calls Tryd.prog 20 #[.slice a n c, .int .i64 m] x.w (Ans W (.int .i64 (m + n))) := by
  have := heldIntS_ans (c := c) h (by rw [uptoI_len]; exact hn) m h0 h1 (fun i u hu => uptoI_at hu) x
  rw [uptoI_len] at this
  exact this

end Go.Proofs.YtoefeijnnnioeaaDoor

/- Small steps from world to world. Nothing is walked here. -/
namespace Go.Proofs.YtoefeijnnnioeaaDoor
open Go.RowKit

theorem below_ext {W w' : World} (h : Below W.heap.size W w') (y : Ext w') : Below W.heap.size W y.w := h.trans (y.below.mono h.size)
theorem below_alloc {W w' : World} (h : Below W.heap.size W w') (o : Obj) : Below W.heap.size W (w'.alloc o) := h.alloc h.size o
theorem below_drew {W w' : World} (h : Below W.heap.size W w') : Below W.heap.size W w'.drew := h.drew
theorem below_set {W w w0 : World} {i : Nat} {v : Value} (h : Below W.heap.size W w) (h0 : Below W.heap.size W w0) : Below W.heap.size W (w.setCell ⟨w0.heap.size, i, none⟩ v) := h.setCell h0.size _
theorem blk_alloc {w : World} {g : Nat} {o : Obj} (h : w.heap[g]? = some o) (o' : Obj) : (w.alloc o').heap[g]? = some o := ((Ext.self w).alloc o').blk h
theorem blk_drew {w : World} {g : Nat} {o : Obj} (h : w.heap[g]? = some o) : w.drew.heap[g]? = some o := h
theorem new_blk_drew (w : World) (o : Obj) : (w.drew.alloc o).heap[w.heap.size]? = some o := new_blk (w := w.drew) rfl
theorem blk_then {w : World} {g : Nat} {o : Obj} {P : Prop} (h : w.heap[g]? = some o) (k : w.heap[g]? = some o → P) : P := k h
theorem new_blk_at (w : World) (o : Obj) : (w.alloc o).heap[w.heap.size]? = some o := new_blk rfl
theorem row_alloc {w : World} {a : Option Addr} {l : List Int} (h : Row w (Value.int .i64) a l) (o : Obj) : Row (w.alloc o) (Value.int .i64) a l := h.ext ((Ext.self w).alloc o)
theorem row_drew {w : World} {a : Option Addr} {l : List Int} (h : Row w (Value.int .i64) a l) : Row w.drew (Value.int .i64) a l := h.ext (Ext.self w).drew
theorem blocks1 {w w2 : World} {o1 : Obj} {B : Nat} (hB : w.heap.size = B) (h : w.alloc o1 = w2) :
    w2.heap[B]? = some o1 ∧ w2.heap.size = B + 1 ∧ Below w.heap.size w w2 := by
  subst h; subst hB
  exact ⟨new_blk rfl, by simp, (Below.refl _ _).alloc (Nat.le_refl _) _⟩
end Go.Proofs.YtoefeijnnnioeaaDoor

/- Rows of numbers that are held beside what is walked, each in a stretch of blocks. Nothing is walked here but marks. -/
namespace Go.Proofs.YtoefeijnnnioeaaDoor
open Go.RowKit

/-- A stretch of blocks. -/
def Str (lo hi g : Nat) : Prop := lo ≤ g ∧ g < hi
/-- A row in a block of its own within a stretch. -/
def HoldR (w : World) (lo hi : Nat) (a : Option Addr) (d : Nat) (l : List Int) : Prop :=
  (∃ base, w.ownsRow base 3 1 (.slice a l.length d) l.length (l.map (Value.int .i64))) ∧ ∀ g, ob a = some g → lo ≤ g ∧ g < hi
section
variable {w w' : World} {lo hi l2 h2 : Nat}
theorem HoldR.ext {a : Option Addr} {d : Nat} {l : List Int} (h : HoldR w lo hi a d l) (y : Ext w) : HoldR y.w lo hi a d l := by
  obtain ⟨⟨b, h1⟩, h2⟩ := h
  exact ⟨⟨b, owns_ext h1 y⟩, h2⟩
theorem HoldR.only {a : Option Addr} {d : Nat} {l : List Int} (h : HoldR w lo hi a d l) (ho : Only w w' (Str l2 h2)) (hd : hi ≤ l2 ∨ h2 ≤ lo) : HoldR w' lo hi a d l := by
  obtain ⟨⟨b, h1⟩, h3⟩ := h
  exact ⟨⟨b, own_only h1 ho (fun g hg e => by have := h3 g hg; have e1 := e.1; have e2 := e.2; omega)⟩, h3⟩
theorem HoldR.row {a : Option Addr} {d : Nat} {l : List Int} (h : HoldR w lo hi a d l) : Row w (Value.int .i64) a l := by
  obtain ⟨⟨b, h1⟩, h2⟩ := h
  exact own_row h1
theorem HoldR.new {a : Option Addr} {d : Nat} {l : List Int} {base : Nat} (h : w.ownsRow base 3 1 (.slice a l.length d) l.length (l.map (Value.int .i64))) (hl : ∀ p, a = some p → lo ≤ p.block ∧ p.block < hi) : HoldR w lo hi a d l :=
  ⟨⟨base, h⟩, fun g hg => by cases a <;> simp [ob] at hg; subst hg; exact hl _ rfl⟩
theorem Only.str_below {U : World} (h : Only w w' (Str lo hi)) (hu : Below U.heap.size U w) (hl : U.heap.size ≤ lo) : Below U.heap.size U w' :=
  hu.trans (h.below (fun _ e => Nat.le_trans hl e.1) hu.size)
theorem HoldR.mark {a : Option Addr} {d : Nat} {l : List Int} (h : HoldR w lo hi a d l) (hl : l.length ≤ 1048576) (m : Int) (h0 : 0 ≤ m) (h1 : m ≤ 100000000) :
    Calls Tryd.prog 19 #[.slice a l.length d, .int .i64 m] w (fun e w' => e = .returned (.int .i64 (m + l.length)) ∧ Only w w' (Str lo hi)) := by
  obtain ⟨⟨b, h3⟩, h4⟩ := h
  refine Calls.mono (markIntS_ans h3 (by omega) m h0 (by omega)) ?_
  rintro e w' ⟨rfl, -, g0⟩
  rw [ob_eq] at g0
  exact ⟨rfl, Only.grown g0 (fun g e => h4 g e)⟩
end
end Go.Proofs.YtoefeijnnnioeaaDoor
