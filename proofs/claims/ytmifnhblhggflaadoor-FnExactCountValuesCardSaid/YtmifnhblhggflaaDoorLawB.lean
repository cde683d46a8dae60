
/- The laws' own helpers: a copy of a system. -/
import Derived.Test.YtmifnhblhggflaaDoorLawA
namespace Go.Proofs.YtmifnhblhggflaaDoor
open Go.RowKit

set_option maxHeartbeats 4000000 in
theorem toSystem_ans {W : World} {r : Ref} {s : Sys} (h : SysIn W r s) (sm : Small s) (x : Ext W) :
    Calls Tryd.prog 44 #[r.val s] x.w (NewSys W s) := by
  unfold Ref.val
  go_enter Tryd.func44, Tryd.ntmps44
  go_wp2_with fail
  have hxs := x.size
  generalize hWa : ((x.w.alloc _).alloc _).alloc _ = Wa
  generalize hB : x.w.heap.size = B at *
  obtain ⟨bA, bB, bC, sA, bel⟩ := blocks3 hB hWa
  have belA : Below W.heap.size W Wa := x.below.trans (bel.mono (by omega))
  clear bel hWa
  -- the first copy
  refine (toIntS_ans (W := Wa) ((h.ext ⟨Wa, belA⟩).plus) sm.p (Ext.self Wa)).mono ?_
  rintro e w' ⟨v1, y, rfl, rfl, own1⟩
  have k1 := blk_cell (y.blk bA) 2
  have k2 := blk_cell (y.blk bC) 1
  have k3 := blk_free (y.blk bC) 1
  simp at k1 k2
  obtain ⟨a1, c1, rfl, row1, pl1⟩ := owned_row own1
  go_wp2_with fail
  clear k1 k2 k3
  generalize hWb : y.w.setCell _ _ = Wb
  have bA' := (set_other hWb (k := B) (by omega)).trans (y.blk bA)
  have bB' := (set_other hWb (k := B + 1) (by omega)).trans (y.blk bB)
  have bC' := set_blk (y.blk bC) 1 _ hWb
  have sB : B + 3 ≤ Wb.heap.size := by rw [set_size hWb]; have := y.size; omega
  have belB : Below W.heap.size W Wb := by subst hWb; exact (belA.trans (y.below.mono (by omega))).setCell (by simp; omega) _
  have row1' : Row Wb (.int .i64) a1 s.plus := row_keep row1 (fun p hp => by have := (pl1 p hp).1; exact set_other hWb (by omega))
  have pl1' : ∀ p, a1 = some p → p.block < Wb.heap.size ∧ B + 3 ≤ p.block := fun p hp => by rw [set_size hWb]; have := pl1 p hp; omega
  simp at bC'
  clear bA bB bC sA belA own1 row1 pl1 hWb y Wa
  -- the second copy
  refine (toIntS_ans (W := Wb) ((h.ext ⟨Wb, belB⟩).times) sm.t (Ext.self Wb)).mono ?_
  rintro e w' ⟨v2, y, rfl, rfl, own2⟩
  have k1 := blk_cell (y.blk bA') 3
  have k2 := blk_cell (y.blk bC') 2
  have k3 := blk_free (y.blk bC') 2
  simp at k1 k2
  obtain ⟨a2, c2, rfl, row2, pl2⟩ := owned_row own2
  go_wp2_with fail
  clear k1 k2 k3
  generalize hWc : y.w.setCell _ _ = Wc
  have bA'' := (set_other hWc (k := B) (by omega)).trans (y.blk bA')
  have bB'' := (set_other hWc (k := B + 1) (by omega)).trans (y.blk bB')
  have bC'' := set_blk (y.blk bC') 2 _ hWc
  have sC : B + 3 ≤ Wc.heap.size := by rw [set_size hWc]; have := y.size; omega
  have belC : Below W.heap.size W Wc := by subst hWc; exact (belB.trans (y.below.mono (by omega))).setCell (by simp; omega) _
  have row1'' : Row Wc (.int .i64) a1 s.plus := row_keep row1' (fun p hp => by have := (pl1' p hp); rw [set_other hWc (by omega)]; exact y.below.block _ this.1)
  have row2' : Row Wc (.int .i64) a2 s.times := row_keep row2 (fun p hp => by have := (pl2 p hp).1; exact set_other hWc (by omega))
  have pl1'' : ∀ p, a1 = some p → p.block < Wc.heap.size ∧ B + 3 ≤ p.block := fun p hp => by rw [set_size hWc]; have := pl1' p hp; have := y.size; omega
  have pl2' : ∀ p, a2 = some p → p.block < Wc.heap.size ∧ B + 3 ≤ p.block := fun p hp => by rw [set_size hWc]; have := pl2 p hp; omega
  simp at bC''
  clear bA' bB' bC' sB belB own2 row1' pl1' row2 pl2 hWc y Wb
  -- the third copy
  refine (toBoolS_ans (W := Wc) ((h.ext ⟨Wc, belC⟩).below) sm.b (Ext.self Wc)).mono ?_
  rintro e w' ⟨v3, y, rfl, rfl, own3⟩
  have k2 := blk_cell (y.blk bC'') 3
  have k3 := blk_free (y.blk bC'') 3
  have m0 := blk_cell (y.blk bC'') 0
  have m1 := blk_cell (y.blk bC'') 1
  have m2 := blk_cell (y.blk bC'') 2
  have n0 := blk_cell (y.blk bB'') 0
  have n1 := blk_cell (y.blk bB'') 1
  have n2 := blk_cell (y.blk bB'') 2
  have n3 := blk_cell (y.blk bB'') 3
  have p0 := blk_free (y.blk bB'') 0
  have p1 := blk_free (y.blk bB'') 1
  have p2 := blk_free (y.blk bB'') 2
  have p3 := blk_free (y.blk bB'') 3
  simp at k2 m0 m1 m2 n0 n1 n2 n3
  obtain ⟨a3, c3, rfl, row3, pl3⟩ := owned_row own3
  go_wp2
  clear k2 k3 m0 m1 m2 n0 n1 n2 n3 p0 p1 p2 p3
  generalize hY1 : y.w.setCell _ _ = Y1
  generalize hY2 : Y1.setCell _ _ = Y2
  generalize hY3 : Y2.setCell _ _ = Y3
  generalize hY4 : Y3.setCell _ _ = Y4
  generalize hY5 : Y4.setCell _ _ = Y5
  have q1 := (set_other hY1 (k := B + 1) (by omega)).trans (y.blk bB'')
  have q5 := set_blk (set_blk (set_blk (set_blk q1 0 _ hY2) 1 _ hY3) 2 _ hY4) 3 _ hY5
  simp at q5
  have r0 := blk_cell q5 0
  have r1 := blk_cell q5 1
  have r2 := blk_cell q5 2
  have r3 := blk_cell q5 3
  simp at r0 r1 r2 r3
  have hsame : ∀ k, B + 3 ≤ k → Y5.heap[k]? = y.w.heap[k]? := fun k hk => by
    rw [set_other hY5 (by omega), set_other hY4 (by omega), set_other hY3 (by omega), set_other hY2 (by omega), set_other hY1 (by omega)]
  have belD : Below W.heap.size W Y5 := by
    subst hY5; subst hY4; subst hY3; subst hY2; subst hY1
    exact (((((belC.trans (y.below.mono (by omega))).setCell (by simp; omega) _).setCell (by simp; omega) _).setCell (by simp; omega) _).setCell (by simp; omega) _).setCell (by simp; omega) _
  have hyc : Wc.heap.size ≤ y.w.heap.size := y.size
  have f1 : Row Y5 (.int .i64) a1 s.plus := row_keep row1'' (fun p hp => by have := pl1'' p hp; rw [hsame _ this.2]; exact y.below.block _ this.1)
  have f2 : Row Y5 (.int .i64) a2 s.times := row_keep row2' (fun p hp => by have := pl2' p hp; rw [hsame _ this.2]; exact y.below.block _ this.1)
  have f3 : Row Y5 .bool a3 s.below := row_keep row3 (fun p hp => by have := (pl3 p hp).1; exact hsame _ (by omega))
  refine bodyPost_ret (v := .agg #[.int .i64 s.n, .slice a1 s.plus.length c1, .slice a2 s.times.length c2, .slice a3 s.below.length c3]) (by simp [results, Tryd.results44, go_sem, r0, r1, r2, r3]) rfl ?_
  exact ⟨⟨a1, a2, a3, c1, c2, c3⟩, ⟨Y5, belD⟩, rfl, rfl, f1, f2, f3, h.lp, h.lt, h.lb⟩

theorem szIntS_ans {W : World} (a : Option Addr) (c : Nat) (l : List Int) (left : Int) (h0 : 0 ≤ left) (h1 : left ≤ 1048576) (hl : l.length ≤ 9223372036854775807) (v : Int) (hv : v = if left < l.length then -1 else left - l.length) (x : Ext W) :
    Calls Tryd.prog 61 #[.slice a l.length c, .int .i64 left] x.w (Ans W (.int .i64 v)) := by
  have HV := Lib.hid hv
  clear hv
  by_cases e : left < (l.length : Int)
  · have e2 : left - (l.length : Int) < 0 := by omega
    go_enter Tryd.func61, Tryd.ntmps61
    go_wp2
    go_ret
    exact fin_int (by rw [HV.out, if_pos e]) ⟨x, rfl⟩
  · have e2 : 0 ≤ left - (l.length : Int) := by omega
    go_enter Tryd.func61, Tryd.ntmps61
    go_wp2
    go_ret
    exact fin_int (by rw [HV.out, if_neg (by omega)]) ⟨x, rfl⟩

theorem szBoolS_ans {W : World} (a : Option Addr) (c : Nat) (l : List Bool) (left : Int) (h0 : 0 ≤ left) (h1 : left ≤ 1048576) (hl : l.length ≤ 9223372036854775807) (v : Int) (hv : v = if left < l.length then -1 else left - l.length) (x : Ext W) :
    Calls Tryd.prog 81 #[.slice a l.length c, .int .i64 left] x.w (Ans W (.int .i64 v)) := by
  have HV := Lib.hid hv
  clear hv
  by_cases e : left < (l.length : Int)
  · have e2 : left - (l.length : Int) < 0 := by omega
    go_enter Tryd.func81, Tryd.ntmps81
    go_wp2
    go_ret
    exact fin_int (by rw [HV.out, if_pos e]) ⟨x, rfl⟩
  · have e2 : 0 ≤ left - (l.length : Int) := by omega
    go_enter Tryd.func81, Tryd.ntmps81
    go_wp2
    go_ret
    exact fin_int (by rw [HV.out, if_neg (by omega)]) ⟨x, rfl⟩

set_option maxHeartbeats 4000000 in
theorem eqIntS_ans {W : World} {a b : Option Addr} {c d : Nat} {l m : List Int} (h : Row W (Value.int .i64) a l) (k : Row W (Value.int .i64) b m) (hl : l.length ≤ 1099511627776) (p : Bool) (hp : p = true ↔ l = m) (x : Ext W) :
    Calls Tryd.prog 19 #[.slice a l.length c, .slice b m.length d] x.w (Ans W (.bool p)) := by
  have HP := Lib.hid hp
  clear hp
  by_cases hlen : l.length = m.length
  · have fl : ((l.length : Int) != (m.length : Int)) = false := by simp; omega
    have hlm1 : l.length ≤ m.length := by omega
    have hlm2 : m.length ≤ l.length := by omega
    have HL := Lib.hid hlen
    clear hlen
    go_enter Tryd.func19, Tryd.ntmps19
    go_wp2
    clear fl
    obtain ⟨yy, hyy⟩ : ∃ y : Ext W, x = y := ⟨x, rfl⟩
    rw [hyy]
    clear hyy
    go_loopw [5] (fun i wr => ∃ j : Nat, i = .int .i64 j ∧ j ≤ l.length ∧ (∃ y : Ext W, wr = y.w) ∧ Hid (∀ i, i < j → l[i]? = m[i]?)) (fun i _ => l.length - (intOf i).toNat)
    case atStart => exact ⟨0, rfl, by omega, ⟨yy, rfl⟩, fun i hi => by omega⟩
    case round =>
      obtain ⟨j, rfl, hj, ⟨yy, rfl⟩, hU⟩ := hrel
      by_cases hlt : j < l.length
      · have hltm : j < m.length := by omega
        have hlt' : (j : Int) < (l.length : Int) := by omega
        have hltm' : (j : Int) < (m.length : Int) := by omega
        obtain ⟨b1, o1, rfl, hc⟩ := h.at hlt
        obtain ⟨b2, o2, rfl, hd⟩ := k.at hltm
        have c1 : ∀ y : Ext W, y.w.cell? ⟨b1, o1 + j, none⟩ = some ((Value.int .i64) l[j]) := fun y => y.cell (hc j _ (List.getElem?_eq_getElem hlt))
        have c2 : ∀ y : Ext W, y.w.cell? ⟨b2, o2 + j, none⟩ = some ((Value.int .i64) m[j]) := fun y => y.cell (hd j _ (List.getElem?_eq_getElem hltm))
        have E1 : Hid (l[j]? = some l[j]) := List.getElem?_eq_getElem hlt
        have E2 : Hid (m[j]? = some m[j]) := List.getElem?_eq_getElem hltm
        clear hc hd
        generalize l[j] = u at *
        generalize m[j] = v at *
        by_cases he : u = v
        · have fe : (u != v) = false := by simpa using he
          have HE := Lib.hid he
          clear he
          go_wp2
          refine region_ext yy (by kernel_rfl) (by kernel_rfl) ?_
          repeat (go_big_quiet_step (fail))
          refine wpQuiet_nil ?_
          rintro _ ⟨yy, rfl⟩
          go_wp2
          go_roundw
          case rel =>
            refine ⟨j + 1, by go_num, by omega, ⟨yy, rfl⟩, fun i hi => ?_⟩
            by_cases e : i = j
            · subst e; rw [E1.out, E2.out, HE.out]
            · exact hU.out i (by omega)
          case measure => simp [intOf]; omega
        · have fe : (u != v) = true := by simpa using he
          have HE := Lib.hid he
          clear he
          go_wp2
          refine region_ext yy (by kernel_rfl) (by kernel_rfl) ?_
          repeat (go_big_quiet_step (fail))
          refine wpQuiet_nil ?_
          rintro _ ⟨yy, rfl⟩
          go_wp2
          go_ret
          refine fin_false HP (fun q => HE.out ?_) ⟨yy, rfl⟩
          have e1 := E1.out
          rw [q, E2.out] at e1
          cases e1
          rfl
      · go_wp2
        go_ret
        refine fin_true HP (List.ext_getElem? fun i => ?_) ⟨yy, rfl⟩
        by_cases hi : i < l.length
        · exact hU.out i (by omega)
        · rw [List.getElem?_eq_none (by omega), List.getElem?_eq_none (by omega)]
  · have fl : ((l.length : Int) != (m.length : Int)) = true := by simp; omega
    have HL := Lib.hid hlen
    clear hlen
    go_enter Tryd.func19, Tryd.ntmps19
    go_wp2
    go_ret
    exact fin_false HP (fun q => HL.out (by rw [q])) ⟨x, rfl⟩

set_option maxHeartbeats 4000000 in
theorem eqBoolS_ans {W : World} {a b : Option Addr} {c d : Nat} {l m : List Bool} (h : Row W Value.bool a l) (k : Row W Value.bool b m) (hl : l.length ≤ 1099511627776) (p : Bool) (hp : p = true ↔ l = m) (x : Ext W) :
    Calls Tryd.prog 87 #[.slice a l.length c, .slice b m.length d] x.w (Ans W (.bool p)) := by
  have HP := Lib.hid hp
  clear hp
  by_cases hlen : l.length = m.length
  · have fl : ((l.length : Int) != (m.length : Int)) = false := by simp; omega
    have hlm1 : l.length ≤ m.length := by omega
    have hlm2 : m.length ≤ l.length := by omega
    have HL := Lib.hid hlen
    clear hlen
    go_enter Tryd.func87, Tryd.ntmps87
    go_wp2
    clear fl
    obtain ⟨yy, hyy⟩ : ∃ y : Ext W, x = y := ⟨x, rfl⟩
    rw [hyy]
    clear hyy
    go_loopw [5] (fun i wr => ∃ j : Nat, i = .int .i64 j ∧ j ≤ l.length ∧ (∃ y : Ext W, wr = y.w) ∧ Hid (∀ i, i < j → l[i]? = m[i]?)) (fun i _ => l.length - (intOf i).toNat)
    case atStart => exact ⟨0, rfl, by omega, ⟨yy, rfl⟩, fun i hi => by omega⟩
    case round =>
      obtain ⟨j, rfl, hj, ⟨yy, rfl⟩, hU⟩ := hrel
      by_cases hlt : j < l.length
      · have hltm : j < m.length := by omega
        have hlt' : (j : Int) < (l.length : Int) := by omega
        have hltm' : (j : Int) < (m.length : Int) := by omega
        obtain ⟨b1, o1, rfl, hc⟩ := h.at hlt
        obtain ⟨b2, o2, rfl, hd⟩ := k.at hltm
        have c1 : ∀ y : Ext W, y.w.cell? ⟨b1, o1 + j, none⟩ = some (Value.bool l[j]) := fun y => y.cell (hc j _ (List.getElem?_eq_getElem hlt))
        have c2 : ∀ y : Ext W, y.w.cell? ⟨b2, o2 + j, none⟩ = some (Value.bool m[j]) := fun y => y.cell (hd j _ (List.getElem?_eq_getElem hltm))
        have E1 : Hid (l[j]? = some l[j]) := List.getElem?_eq_getElem hlt
        have E2 : Hid (m[j]? = some m[j]) := List.getElem?_eq_getElem hltm
        clear hc hd
        generalize l[j] = u at *
        generalize m[j] = v at *
        cases u <;> cases v
        · skip
          go_wp2
          refine region_ext yy (by kernel_rfl) (by kernel_rfl) ?_
          repeat (go_big_quiet_step (fail))
          refine wpQuiet_nil ?_
          rintro _ ⟨yy, rfl⟩
          go_wp2
          go_roundw
          case rel =>
            refine ⟨j + 1, by go_num, by omega, ⟨yy, rfl⟩, fun i hi => ?_⟩
            by_cases e : i = j
            · subst e; rw [E1.out, E2.out]
            · exact hU.out i (by omega)
          case measure => simp [intOf]; omega
        · have HE : Hid (¬ (false : Bool) = true) := fun q => by cases q
          go_wp2
          refine region_ext yy (by kernel_rfl) (by kernel_rfl) ?_
          repeat (go_big_quiet_step (fail))
          refine wpQuiet_nil ?_
          rintro _ ⟨yy, rfl⟩
          go_wp2
          go_ret
          refine fin_false HP (fun q => HE.out ?_) ⟨yy, rfl⟩
          have e1 := E1.out
          rw [q, E2.out] at e1
          cases e1
        · have HE : Hid (¬ (true : Bool) = false) := fun q => by cases q
          go_wp2
          refine region_ext yy (by kernel_rfl) (by kernel_rfl) ?_
          repeat (go_big_quiet_step (fail))
          refine wpQuiet_nil ?_
          rintro _ ⟨yy, rfl⟩
          go_wp2
          go_ret
          refine fin_false HP (fun q => HE.out ?_) ⟨yy, rfl⟩
          have e1 := E1.out
          rw [q, E2.out] at e1
          cases e1
        · skip
          go_wp2
          refine region_ext yy (by kernel_rfl) (by kernel_rfl) ?_
          repeat (go_big_quiet_step (fail))
          refine wpQuiet_nil ?_
          rintro _ ⟨yy, rfl⟩
          go_wp2
          go_roundw
          case rel =>
            refine ⟨j + 1, by go_num, by omega, ⟨yy, rfl⟩, fun i hi => ?_⟩
            by_cases e : i = j
            · subst e; rw [E1.out, E2.out]
            · exact hU.out i (by omega)
          case measure => simp [intOf]; omega
      · go_wp2
        go_ret
        refine fin_true HP (List.ext_getElem? fun i => ?_) ⟨yy, rfl⟩
        by_cases hi : i < l.length
        · exact hU.out i (by omega)
        · rw [List.getElem?_eq_none (by omega), List.getElem?_eq_none (by omega)]
  · have fl : ((l.length : Int) != (m.length : Int)) = true := by simp; omega
    have HL := Lib.hid hlen
    clear hlen
    go_enter Tryd.func87, Tryd.ntmps87
    go_wp2
    go_ret
    exact fin_false HP (fun q => HL.out (by rw [q])) ⟨x, rfl⟩

theorem szSystem_ans {W : World} {r : Ref} {s : Sys} (h : SysIn W r s) (left : Int) (hl0 : 0 ≤ left) (hl1 : left ≤ 1048576) (v : Int)
    (hv : v = if left < s.plus.length + s.times.length + s.below.length then -1 else left - (s.plus.length + s.times.length + s.below.length)) (x : Ext W) :
    Calls Tryd.prog 42 #[r.val s, .int .i64 left] x.w (Ans W (.int .i64 v)) := by
  have HV := Lib.hid hv
  clear hv
  unfold Ref.val
  by_cases e1 : left < (s.plus.length : Int)
  · skip
    go_enter Tryd.func42, Tryd.ntmps42
    go_wp2_with fail
    generalize hW : x.w.alloc _ = W1
    generalize hB : x.w.heap.size = B
    obtain ⟨c0, c1, c2, c3, h1, hback, yy, hy0⟩ := boxed h x hB hW
    clear hW hB
    rw [← hy0]
    clear hy0
    (with_reducible refine Calls.mono (szIntS_ans _ _ s.plus (left) (by omega) (by omega) h1.lp (-1) (by split <;> omega) _) ?_)
    rintro e w' ⟨rfl, yy, rfl⟩
    go_wp2_with fail
    go_ret
    exact fin_int (by rw [HV.out, if_pos (by omega)]) (hback yy)
  · by_cases e2 : left - (s.plus.length : Int) < (s.times.length : Int)
    · skip
      go_enter Tryd.func42, Tryd.ntmps42
      go_wp2_with fail
      generalize hW : x.w.alloc _ = W1
      generalize hB : x.w.heap.size = B
      obtain ⟨c0, c1, c2, c3, h1, hback, yy, hy0⟩ := boxed h x hB hW
      clear hW hB
      rw [← hy0]
      clear hy0
      (with_reducible refine Calls.mono (szIntS_ans _ _ s.plus (left) (by omega) (by omega) h1.lp (left - s.plus.length) (by split <;> omega) _) ?_)
      rintro e w' ⟨rfl, yy, rfl⟩
      go_wp2_with fail
      (with_reducible refine Calls.mono (szIntS_ans _ _ s.times (left - s.plus.length) (by omega) (by omega) h1.lt (-1) (by split <;> omega) _) ?_)
      rintro e w' ⟨rfl, yy, rfl⟩
      go_wp2_with fail
      go_ret
      exact fin_int (by rw [HV.out, if_pos (by omega)]) (hback yy)
    · by_cases e3 : left - (s.plus.length : Int) - (s.times.length : Int) < (s.below.length : Int)
      · skip
        go_enter Tryd.func42, Tryd.ntmps42
        go_wp2_with fail
        generalize hW : x.w.alloc _ = W1
        generalize hB : x.w.heap.size = B
        obtain ⟨c0, c1, c2, c3, h1, hback, yy, hy0⟩ := boxed h x hB hW
        clear hW hB
        rw [← hy0]
        clear hy0
        (with_reducible refine Calls.mono (szIntS_ans _ _ s.plus (left) (by omega) (by omega) h1.lp (left - s.plus.length) (by split <;> omega) _) ?_)
        rintro e w' ⟨rfl, yy, rfl⟩
        go_wp2_with fail
        (with_reducible refine Calls.mono (szIntS_ans _ _ s.times (left - s.plus.length) (by omega) (by omega) h1.lt (left - s.plus.length - s.times.length) (by split <;> omega) _) ?_)
        rintro e w' ⟨rfl, yy, rfl⟩
        go_wp2_with fail
        (with_reducible refine Calls.mono (szBoolS_ans _ _ s.below (left - s.plus.length - s.times.length) (by omega) (by omega) h1.lb (-1) (by split <;> omega) _) ?_)
        rintro e w' ⟨rfl, yy, rfl⟩
        go_wp2_with fail
        go_ret
        exact fin_int (by rw [HV.out, if_pos (by omega)]) (hback yy)
      · skip
        go_enter Tryd.func42, Tryd.ntmps42
        go_wp2_with fail
        generalize hW : x.w.alloc _ = W1
        generalize hB : x.w.heap.size = B
        obtain ⟨c0, c1, c2, c3, h1, hback, yy, hy0⟩ := boxed h x hB hW
        clear hW hB
        rw [← hy0]
        clear hy0
        (with_reducible refine Calls.mono (szIntS_ans _ _ s.plus (left) (by omega) (by omega) h1.lp (left - s.plus.length) (by split <;> omega) _) ?_)
        rintro e w' ⟨rfl, yy, rfl⟩
        go_wp2_with fail
        (with_reducible refine Calls.mono (szIntS_ans _ _ s.times (left - s.plus.length) (by omega) (by omega) h1.lt (left - s.plus.length - s.times.length) (by split <;> omega) _) ?_)
        rintro e w' ⟨rfl, yy, rfl⟩
        go_wp2_with fail
        (with_reducible refine Calls.mono (szBoolS_ans _ _ s.below (left - s.plus.length - s.times.length) (by omega) (by omega) h1.lb (left - s.plus.length - s.times.length - s.below.length) (by split <;> omega) _) ?_)
        rintro e w' ⟨rfl, yy, rfl⟩
        go_wp2_with fail
        go_ret
        exact fin_int (by rw [HV.out, if_neg (by omega)]; omega) (hback yy)

set_option maxHeartbeats 4000000 in
theorem eqSystem_ans {W : World} {r r' : Ref} {s s' : Sys} (h : SysIn W r s) (k : SysIn W r' s') (sm : Small s) (p : Bool) (hp : p = true ↔ s = s') (x : Ext W) :
    Calls Tryd.prog 46 #[r.val s, r'.val s'] x.w (Ans W (.bool p)) := by
  have HP := Lib.hid hp
  clear hp
  unfold Ref.val
  by_cases en : s.n = s'.n
  · skip
    have EN := Lib.hid en
    clear en
    have fn : (s.n != s'.n) = false := by simpa using EN.out
    by_cases ea : s.plus = s'.plus
    · skip
      have EA := Lib.hid ea
      clear ea
      by_cases eb : s.times = s'.times
      · skip
        have EB := Lib.hid eb
        clear eb
        by_cases ec : s.below = s'.below
        · skip
          have EC := Lib.hid ec
          clear ec
          go_enter Tryd.func46, Tryd.ntmps46
          go_wp2_with fail
          generalize hW : (x.w.alloc _).alloc _ = W1
          generalize hB : x.w.heap.size = B
          obtain ⟨c0, c1, c2, c3, d0, d1, d2, d3, h1, k1, hback, yy, hy0⟩ := boxed2 h k x hB hW
          clear hW hB
          rw [← hy0]
          clear hy0
          (with_reducible refine Calls.mono (eqIntS_ans h1.plus k1.plus sm.p true (by refine iff_tf ?_; dsimp only; exact EA.out) _) ?_)
          rintro e w' ⟨rfl, yy, rfl⟩
          go_wp2_with fail
          (with_reducible refine Calls.mono (eqIntS_ans h1.times k1.times sm.t true (by refine iff_tf ?_; dsimp only; exact EB.out) _) ?_)
          rintro e w' ⟨rfl, yy, rfl⟩
          go_wp2_with fail
          (with_reducible refine Calls.mono (eqBoolS_ans h1.below k1.below sm.b true (by refine iff_tf ?_; dsimp only; exact EC.out) _) ?_)
          rintro e w' ⟨rfl, yy, rfl⟩
          go_wp2_with fail
          go_ret
          exact fin_true HP (by cases s; cases s'; have := EN.out; have := EA.out; have := EB.out; have := EC.out; simp_all) (hback yy)
        · skip
          have EC := Lib.hid ec
          clear ec
          go_enter Tryd.func46, Tryd.ntmps46
          go_wp2_with fail
          generalize hW : (x.w.alloc _).alloc _ = W1
          generalize hB : x.w.heap.size = B
          obtain ⟨c0, c1, c2, c3, d0, d1, d2, d3, h1, k1, hback, yy, hy0⟩ := boxed2 h k x hB hW
          clear hW hB
          rw [← hy0]
          clear hy0
          (with_reducible refine Calls.mono (eqIntS_ans h1.plus k1.plus sm.p true (by refine iff_tf ?_; dsimp only; exact EA.out) _) ?_)
          rintro e w' ⟨rfl, yy, rfl⟩
          go_wp2_with fail
          (with_reducible refine Calls.mono (eqIntS_ans h1.times k1.times sm.t true (by refine iff_tf ?_; dsimp only; exact EB.out) _) ?_)
          rintro e w' ⟨rfl, yy, rfl⟩
          go_wp2_with fail
          (with_reducible refine Calls.mono (eqBoolS_ans h1.below k1.below sm.b false (by refine iff_tf ?_; dsimp only; exact EC.out) _) ?_)
          rintro e w' ⟨rfl, yy, rfl⟩
          go_wp2_with fail
          go_ret
          exact fin_false HP (fun q => EC.out (by rw [q])) (hback yy)
      · skip
        have EB := Lib.hid eb
        clear eb
        go_enter Tryd.func46, Tryd.ntmps46
        go_wp2_with fail
        generalize hW : (x.w.alloc _).alloc _ = W1
        generalize hB : x.w.heap.size = B
        obtain ⟨c0, c1, c2, c3, d0, d1, d2, d3, h1, k1, hback, yy, hy0⟩ := boxed2 h k x hB hW
        clear hW hB
        rw [← hy0]
        clear hy0
        (with_reducible refine Calls.mono (eqIntS_ans h1.plus k1.plus sm.p true (by refine iff_tf ?_; dsimp only; exact EA.out) _) ?_)
        rintro e w' ⟨rfl, yy, rfl⟩
        go_wp2_with fail
        (with_reducible refine Calls.mono (eqIntS_ans h1.times k1.times sm.t false (by refine iff_tf ?_; dsimp only; exact EB.out) _) ?_)
        rintro e w' ⟨rfl, yy, rfl⟩
        go_wp2_with fail
        go_ret
        exact fin_false HP (fun q => EB.out (by rw [q])) (hback yy)
    · skip
      have EA := Lib.hid ea
      clear ea
      go_enter Tryd.func46, Tryd.ntmps46
      go_wp2_with fail
      generalize hW : (x.w.alloc _).alloc _ = W1
      generalize hB : x.w.heap.size = B
      obtain ⟨c0, c1, c2, c3, d0, d1, d2, d3, h1, k1, hback, yy, hy0⟩ := boxed2 h k x hB hW
      clear hW hB
      rw [← hy0]
      clear hy0
      (with_reducible refine Calls.mono (eqIntS_ans h1.plus k1.plus sm.p false (by refine iff_tf ?_; dsimp only; exact EA.out) _) ?_)
      rintro e w' ⟨rfl, yy, rfl⟩
      go_wp2_with fail
      go_ret
      exact fin_false HP (fun q => EA.out (by rw [q])) (hback yy)
  · skip
    have EN := Lib.hid en
    clear en
    have fn : (s.n != s'.n) = true := by simpa using EN.out
    go_enter Tryd.func46, Tryd.ntmps46
    go_wp2_with fail
    generalize hW : (x.w.alloc _).alloc _ = W1
    generalize hB : x.w.heap.size = B
    obtain ⟨c0, c1, c2, c3, d0, d1, d2, d3, h1, k1, hback, yy, hy0⟩ := boxed2 h k x hB hW
    clear hW hB
    rw [← hy0]
    clear hy0
    go_wp2
    go_ret
    exact fin_false HP (fun q => EN.out (by rw [q])) (hback yy)

end Go.Proofs.YtmifnhblhggflaaDoor
