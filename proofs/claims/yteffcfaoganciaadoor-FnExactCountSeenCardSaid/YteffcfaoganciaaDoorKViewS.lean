
/- The model's test of marked grades. -/
import Derived.Test.YteffcfaoganciaaDoorGB
import Derived.Test.YteffcfaoganciaaDoorKViewSpec
set_option linter.unusedVariables false
set_option linter.unusedSimpArgs false
namespace Go.Proofs.YteffcfaoganciaaDoor
open Go.RowKit

def mkI (m : List Bool) (g : Int) : Bool := m.getD g.toNat false

set_option maxHeartbeats 8000000 in
theorem l1View_ans {W : World} {r : Ref} {s : Sys} (h : SysIn W r s) (t : Tables s) {a : Option Addr} {c : Nat} {m : List Bool} (hr : Row W Value.bool a m) (hm : (m.length : Int) = s.n) (p : Bool) (hp : p = true ↔ ViewP s (fun g => mkI m g = true)) (x : Ext W) :
    Calls Tryd.prog 114 #[r.val s, .slice a m.length c] x.w (Ans W (.bool p)) := by
  have HP := Lib.hid hp
  clear hp
  have h2 := t.lo
  have h16 := t.hi
  obtain ⟨bm, om, rfl, hcm⟩ := hr.at (i := 0) (by omega)
  have HCM := Lib.hid hcm
  clear hcm
  have hl1 : (0 : Int) < (m.length : Int) := by omega
  have hl2 : (1 : Int) < (m.length : Int) := by omega
  have HM := Lib.hid hm
  have hm1 : (m.length : Int) ≤ s.n := by omega
  have hm2 : s.n ≤ (m.length : Int) := by omega
  clear hm
  unfold Ref.val
  cases h1b : mkI m 1
  · have H1 := Lib.hid h1b
    cases h0b : mkI m 0
    · have H0 := Lib.hid h0b
      have hcell : ∀ (g : Int), 0 ≤ g → g < (m.length : Int) → ∀ y : Ext W, y.w.cell? ⟨bm, om + g.toNat, none⟩ = some (.bool (mkI m g)) := fun g h0 hg y => 
        y.cell (HCM.out g.toNat _ (by unfold mkI; rw [List.getD_eq_getElem?_getD, List.getElem?_eq_getElem (by omega)]; rfl))
      have y0c : ((x.alloc (.cells #[.int .i64 s.n, .slice r.pa s.plus.length r.pc, .slice r.ta s.times.length r.tc, .slice r.ba s.below.length r.bc] 34)) : Ext W).w.cell? ⟨bm, om, none⟩ = some (.bool (mkI m 0)) := by simpa using hcell 0 (by omega) hl1 (x.alloc _)
      have y1c : ((x.alloc (.cells #[.int .i64 s.n, .slice r.pa s.plus.length r.pc, .slice r.ta s.times.length r.tc, .slice r.ba s.below.length r.bc] 34)) : Ext W).w.cell? ⟨bm, om + 1, none⟩ = some (.bool (mkI m 1)) := by simpa using hcell 1 (by omega) hl2 (x.alloc _)
      dsimp only at y0c y1c
      rw [h0b] at y0c
      rw [h1b] at y1c
      have HCELL := Lib.hid hcell
      clear hcell
      go_enter Tryd.func114, Tryd.ntmps114
      go_wp2_with fail
      generalize hW : x.w.alloc _ = W1
      generalize hB : x.w.heap.size = B
      obtain ⟨c0, c1, c2, c3, h1, hback, yy, hy0⟩ := boxed h x hB hW
      clear hW hB
      rw [← hy0]
      clear hy0
      clear y0c y1c
      go_wp2
      go_ret
      exact fin_false HP (fun q => by have this : mkI m 1 = true := q.1.1; rw [H1.out] at this; cases this) (hback yy)
    · have H0 := Lib.hid h0b
      have hcell : ∀ (g : Int), 0 ≤ g → g < (m.length : Int) → ∀ y : Ext W, y.w.cell? ⟨bm, om + g.toNat, none⟩ = some (.bool (mkI m g)) := fun g h0 hg y => 
        y.cell (HCM.out g.toNat _ (by unfold mkI; rw [List.getD_eq_getElem?_getD, List.getElem?_eq_getElem (by omega)]; rfl))
      have y0c : ((x.alloc (.cells #[.int .i64 s.n, .slice r.pa s.plus.length r.pc, .slice r.ta s.times.length r.tc, .slice r.ba s.below.length r.bc] 34)) : Ext W).w.cell? ⟨bm, om, none⟩ = some (.bool (mkI m 0)) := by simpa using hcell 0 (by omega) hl1 (x.alloc _)
      have y1c : ((x.alloc (.cells #[.int .i64 s.n, .slice r.pa s.plus.length r.pc, .slice r.ta s.times.length r.tc, .slice r.ba s.below.length r.bc] 34)) : Ext W).w.cell? ⟨bm, om + 1, none⟩ = some (.bool (mkI m 1)) := by simpa using hcell 1 (by omega) hl2 (x.alloc _)
      dsimp only at y0c y1c
      rw [h0b] at y0c
      rw [h1b] at y1c
      have HCELL := Lib.hid hcell
      clear hcell
      go_enter Tryd.func114, Tryd.ntmps114
      go_wp2_with fail
      generalize hW : x.w.alloc _ = W1
      generalize hB : x.w.heap.size = B
      obtain ⟨c0, c1, c2, c3, h1, hback, yy, hy0⟩ := boxed h x hB hW
      clear hW hB
      rw [← hy0]
      clear hy0
      clear y0c y1c
      go_wp2
      go_ret
      exact fin_false HP (fun q => by have this : mkI m 1 = true := q.1.1; rw [H1.out] at this; cases this) (hback yy)
  · have H1 := Lib.hid h1b
    cases h0b : mkI m 0
    · have H0 := Lib.hid h0b
      have hcell : ∀ (g : Int), 0 ≤ g → g < (m.length : Int) → ∀ y : Ext W, y.w.cell? ⟨bm, om + g.toNat, none⟩ = some (.bool (mkI m g)) := fun g h0 hg y => 
        y.cell (HCM.out g.toNat _ (by unfold mkI; rw [List.getD_eq_getElem?_getD, List.getElem?_eq_getElem (by omega)]; rfl))
      have y0c : ((x.alloc (.cells #[.int .i64 s.n, .slice r.pa s.plus.length r.pc, .slice r.ta s.times.length r.tc, .slice r.ba s.below.length r.bc] 34)) : Ext W).w.cell? ⟨bm, om, none⟩ = some (.bool (mkI m 0)) := by simpa using hcell 0 (by omega) hl1 (x.alloc _)
      have y1c : ((x.alloc (.cells #[.int .i64 s.n, .slice r.pa s.plus.length r.pc, .slice r.ta s.times.length r.tc, .slice r.ba s.below.length r.bc] 34)) : Ext W).w.cell? ⟨bm, om + 1, none⟩ = some (.bool (mkI m 1)) := by simpa using hcell 1 (by omega) hl2 (x.alloc _)
      dsimp only at y0c y1c
      rw [h0b] at y0c
      rw [h1b] at y1c
      have HCELL := Lib.hid hcell
      clear hcell
      go_enter Tryd.func114, Tryd.ntmps114
      go_wp2_with fail
      generalize hW : x.w.alloc _ = W1
      generalize hB : x.w.heap.size = B
      obtain ⟨c0, c1, c2, c3, h1, hback, yy, hy0⟩ := boxed h x hB hW
      clear hW hB
      rw [← hy0]
      clear hy0
      clear y0c y1c
      clear h1b h0b
      have hcell : ∀ (g : Int), 0 ≤ g → g < (m.length : Int) → ∀ y : Ext W1, y.w.cell? ⟨bm, om + g.toNat, none⟩ = some (.bool (mkI m g)) := fun g h0 hg y => by
        obtain ⟨u, hu⟩ := hback y
        rw [hu]
        exact HCELL.out g h0 hg u
      have hm := HM.out
      replace hcell := Lib.hid hcell
      replace hm := Lib.hid hm
      go_loopw [5] (fun i wr => ∃ k : Nat, i = .int .i64 k ∧ (k : Int) ≤ s.n ∧ (∃ y : Ext W1, wr = y.w) ∧ Hid (Upto k (ViewAt s (fun g => mkI m g = true)))) (fun i _ => (s.n - intOf i).toNat)
      case atStart => exact ⟨0, rfl, by omega, ⟨yy, rfl⟩, Upto.zero _⟩
      case round =>
        obtain ⟨k, rfl, hk, ⟨yy, rfl⟩, hUk⟩ := hrel
        by_cases hltk : (k : Int) < s.n
        · have hGk : G s k := ⟨by omega, hltk⟩
          go_wp2_with fail
          go_loopw [6] (fun i wr => ∃ j : Nat, i = .int .i64 j ∧ (j : Int) ≤ s.n ∧ (∃ y : Ext W1, wr = y.w) ∧ Hid (Upto j (ViewAt1 s (fun g => mkI m g = true) k))) (fun i _ => (s.n - intOf i).toNat)
          case atStart => exact ⟨0, rfl, by omega, ⟨yy, rfl⟩, Upto.zero _⟩
          case round =>
            obtain ⟨j, rfl, hj, ⟨yy, rfl⟩, hUj⟩ := hrel
            by_cases hltj : (j : Int) < s.n
            · have hGj : G s j := ⟨by omega, hltj⟩
              have g1 := t.addG hGk hGj
              have g2 := t.mulG hGk hGj
              have i1 : 0 ≤ s.add k j := g1.1
              have i2 : s.add k j < (m.length : Int) := by rw [hm.out]; exact g1.2
              have i3 : 0 ≤ s.mul k j := g2.1
              have i4 : s.mul k j < (m.length : Int) := by rw [hm.out]; exact g2.2
              have i5 : (k : Int) < (m.length : Int) := by rw [hm.out]; exact hltk
              have i6 : (j : Int) < (m.length : Int) := by rw [hm.out]; exact hltj
              have z1 := hcell.out (s.add k j) i1 i2
              have z2 := hcell.out (s.mul k j) i3 i4
              have z3 := hcell.out k (by omega) i5
              have z4 := hcell.out j (by omega) i6
              rw [show ((k : Int).toNat) = k by omega] at z3
              rw [show ((j : Int).toNat) = j by omega] at z4
              cases hA : mkI m k
              · have HA := Lib.hid hA
                rw [hA] at z3
                cases hB : mkI m j
                · have HB := Lib.hid hB
                  rw [hB] at z4
                  cases hX : mkI m (s.add k j)
                  · have HX := Lib.hid hX
                    rw [hX] at z1
                    cases hY : mkI m (s.mul k j)
                    · have HY := Lib.hid hY
                      rw [hY] at z2
                      go_wp2_with fail
                      refine region_ext yy (by kernel_rfl) (by kernel_rfl) ?_
                      repeat (go_big_quiet_step (first | (go_at_call 141; with_reducible exact l1Add_ans h1 t (by assumption) (by assumption) _) | (go_at_call 142; with_reducible exact l1Mul_ans h1 t (by assumption) (by assumption) _) | (go_at_call 143; with_reducible exact l1Le_is h1 t (by assumption) (by assumption) (by assumption) _)))
                      refine wpQuiet_nil ?_
                      rintro _ ⟨yy, rfl⟩
                      go_wp2_with fail
                      go_roundw
                      case rel => exact ⟨j + 1, by go_num, by omega, ⟨yy, rfl⟩, hUj.out.succ (⟨by simp [HA.out, HB.out, HX.out], by simp [HA.out, HB.out, HY.out], fun (u : mkI m k = true) => (by rw [HA.out] at u; cases u)⟩)⟩
                      case measure => simp [intOf]; omega
                    · have HY := Lib.hid hY
                      rw [hY] at z2
                      go_wp2_with fail
                      refine region_ext yy (by kernel_rfl) (by kernel_rfl) ?_
                      repeat (go_big_quiet_step (first | (go_at_call 141; with_reducible exact l1Add_ans h1 t (by assumption) (by assumption) _) | (go_at_call 142; with_reducible exact l1Mul_ans h1 t (by assumption) (by assumption) _) | (go_at_call 143; with_reducible exact l1Le_is h1 t (by assumption) (by assumption) (by assumption) _)))
                      refine wpQuiet_nil ?_
                      rintro _ ⟨yy, rfl⟩
                      go_wp2_with fail
                      go_ret
                      exact fin_false HP (fun q => (by have := ((q.2 k hGk) j hGj).2.1; simp only [HA.out, HB.out, HY.out] at this; simp at this)) (hback yy)
                  · have HX := Lib.hid hX
                    rw [hX] at z1
                    go_wp2_with fail
                    refine region_ext yy (by kernel_rfl) (by kernel_rfl) ?_
                    repeat (go_big_quiet_step (first | (go_at_call 141; with_reducible exact l1Add_ans h1 t (by assumption) (by assumption) _) | (go_at_call 142; with_reducible exact l1Mul_ans h1 t (by assumption) (by assumption) _) | (go_at_call 143; with_reducible exact l1Le_is h1 t (by assumption) (by assumption) (by assumption) _)))
                    refine wpQuiet_nil ?_
                    rintro _ ⟨yy, rfl⟩
                    go_wp2_with fail
                    go_ret
                    exact fin_false HP (fun q => (by have := ((q.2 k hGk) j hGj).1; simp only [HA.out, HB.out, HX.out] at this; simp at this)) (hback yy)
                · have HB := Lib.hid hB
                  rw [hB] at z4
                  cases hX : mkI m (s.add k j)
                  · have HX := Lib.hid hX
                    rw [hX] at z1
                    go_wp2_with fail
                    refine region_ext yy (by kernel_rfl) (by kernel_rfl) ?_
                    repeat (go_big_quiet_step (first | (go_at_call 141; with_reducible exact l1Add_ans h1 t (by assumption) (by assumption) _) | (go_at_call 142; with_reducible exact l1Mul_ans h1 t (by assumption) (by assumption) _) | (go_at_call 143; with_reducible exact l1Le_is h1 t (by assumption) (by assumption) (by assumption) _)))
                    refine wpQuiet_nil ?_
                    rintro _ ⟨yy, rfl⟩
                    go_wp2_with fail
                    go_ret
                    exact fin_false HP (fun q => (by have := ((q.2 k hGk) j hGj).1; simp only [HA.out, HB.out, HX.out] at this; simp at this)) (hback yy)
                  · have HX := Lib.hid hX
                    rw [hX] at z1
                    cases hY : mkI m (s.mul k j)
                    · have HY := Lib.hid hY
                      rw [hY] at z2
                      go_wp2_with fail
                      refine region_ext yy (by kernel_rfl) (by kernel_rfl) ?_
                      repeat (go_big_quiet_step (first | (go_at_call 141; with_reducible exact l1Add_ans h1 t (by assumption) (by assumption) _) | (go_at_call 142; with_reducible exact l1Mul_ans h1 t (by assumption) (by assumption) _) | (go_at_call 143; with_reducible exact l1Le_is h1 t (by assumption) (by assumption) (by assumption) _)))
                      refine wpQuiet_nil ?_
                      rintro _ ⟨yy, rfl⟩
                      go_wp2_with fail
                      go_roundw
                      case rel => exact ⟨j + 1, by go_num, by omega, ⟨yy, rfl⟩, hUj.out.succ (⟨by simp [HA.out, HB.out, HX.out], by simp [HA.out, HB.out, HY.out], fun (u : mkI m k = true) => (by rw [HA.out] at u; cases u)⟩)⟩
                      case measure => simp [intOf]; omega
                    · have HY := Lib.hid hY
                      rw [hY] at z2
                      go_wp2_with fail
                      refine region_ext yy (by kernel_rfl) (by kernel_rfl) ?_
                      repeat (go_big_quiet_step (first | (go_at_call 141; with_reducible exact l1Add_ans h1 t (by assumption) (by assumption) _) | (go_at_call 142; with_reducible exact l1Mul_ans h1 t (by assumption) (by assumption) _) | (go_at_call 143; with_reducible exact l1Le_is h1 t (by assumption) (by assumption) (by assumption) _)))
                      refine wpQuiet_nil ?_
                      rintro _ ⟨yy, rfl⟩
                      go_wp2_with fail
                      go_ret
                      exact fin_false HP (fun q => (by have := ((q.2 k hGk) j hGj).2.1; simp only [HA.out, HB.out, HY.out] at this; simp at this)) (hback yy)
              · have HA := Lib.hid hA
                rw [hA] at z3
                cases hB : mkI m j
                · have HB := Lib.hid hB
                  rw [hB] at z4
                  cases hX : mkI m (s.add k j)
                  · have HX := Lib.hid hX
                    rw [hX] at z1
                    go_wp2_with fail
                    refine region_ext yy (by kernel_rfl) (by kernel_rfl) ?_
                    repeat (go_big_quiet_step (first | (go_at_call 141; with_reducible exact l1Add_ans h1 t (by assumption) (by assumption) _) | (go_at_call 142; with_reducible exact l1Mul_ans h1 t (by assumption) (by assumption) _) | (go_at_call 143; with_reducible exact l1Le_is h1 t (by assumption) (by assumption) (by assumption) _)))
                    refine wpQuiet_nil ?_
                    rintro _ ⟨yy, rfl⟩
                    go_wp2_with fail
                    go_ret
                    exact fin_false HP (fun q => (by have := ((q.2 k hGk) j hGj).1; simp only [HA.out, HB.out, HX.out] at this; simp at this)) (hback yy)
                  · have HX := Lib.hid hX
                    rw [hX] at z1
                    cases hY : mkI m (s.mul k j)
                    · have HY := Lib.hid hY
                      rw [hY] at z2
                      cases hL : s.le k j
                      · have HL := Lib.hid hL
                        go_wp2_with fail
                        refine region_ext yy (by kernel_rfl) (by kernel_rfl) ?_
                        repeat (go_big_quiet_step (first | (go_at_call 141; with_reducible exact l1Add_ans h1 t (by assumption) (by assumption) _) | (go_at_call 142; with_reducible exact l1Mul_ans h1 t (by assumption) (by assumption) _) | (go_at_call 143; with_reducible exact l1Le_is h1 t (by assumption) (by assumption) (by assumption) _)))
                        refine wpQuiet_nil ?_
                        rintro _ ⟨yy, rfl⟩
                        go_wp2_with fail
                        go_roundw
                        case rel => exact ⟨j + 1, by go_num, by omega, ⟨yy, rfl⟩, hUj.out.succ (⟨by simp [HA.out, HB.out, HX.out], by simp [HA.out, HB.out, HY.out], fun _ u => (by rw [HL.out] at u; cases u)⟩)⟩
                        case measure => simp [intOf]; omega
                      · have HL := Lib.hid hL
                        go_wp2_with fail
                        refine region_ext yy (by kernel_rfl) (by kernel_rfl) ?_
                        repeat (go_big_quiet_step (first | (go_at_call 141; with_reducible exact l1Add_ans h1 t (by assumption) (by assumption) _) | (go_at_call 142; with_reducible exact l1Mul_ans h1 t (by assumption) (by assumption) _) | (go_at_call 143; with_reducible exact l1Le_is h1 t (by assumption) (by assumption) (by assumption) _)))
                        refine wpQuiet_nil ?_
                        rintro _ ⟨yy, rfl⟩
                        go_wp2_with fail
                        go_ret
                        exact fin_false HP (fun q => (by have this : mkI m j = true := ((q.2 k hGk) j hGj).2.2 HA.out HL.out; rw [HB.out] at this; cases this)) (hback yy)
                    · have HY := Lib.hid hY
                      rw [hY] at z2
                      go_wp2_with fail
                      refine region_ext yy (by kernel_rfl) (by kernel_rfl) ?_
                      repeat (go_big_quiet_step (first | (go_at_call 141; with_reducible exact l1Add_ans h1 t (by assumption) (by assumption) _) | (go_at_call 142; with_reducible exact l1Mul_ans h1 t (by assumption) (by assumption) _) | (go_at_call 143; with_reducible exact l1Le_is h1 t (by assumption) (by assumption) (by assumption) _)))
                      refine wpQuiet_nil ?_
                      rintro _ ⟨yy, rfl⟩
                      go_wp2_with fail
                      go_ret
                      exact fin_false HP (fun q => (by have := ((q.2 k hGk) j hGj).2.1; simp only [HA.out, HB.out, HY.out] at this; simp at this)) (hback yy)
                · have HB := Lib.hid hB
                  rw [hB] at z4
                  cases hX : mkI m (s.add k j)
                  · have HX := Lib.hid hX
                    rw [hX] at z1
                    go_wp2_with fail
                    refine region_ext yy (by kernel_rfl) (by kernel_rfl) ?_
                    repeat (go_big_quiet_step (first | (go_at_call 141; with_reducible exact l1Add_ans h1 t (by assumption) (by assumption) _) | (go_at_call 142; with_reducible exact l1Mul_ans h1 t (by assumption) (by assumption) _) | (go_at_call 143; with_reducible exact l1Le_is h1 t (by assumption) (by assumption) (by assumption) _)))
                    refine wpQuiet_nil ?_
                    rintro _ ⟨yy, rfl⟩
                    go_wp2_with fail
                    go_ret
                    exact fin_false HP (fun q => (by have := ((q.2 k hGk) j hGj).1; simp only [HA.out, HB.out, HX.out] at this; simp at this)) (hback yy)
                  · have HX := Lib.hid hX
                    rw [hX] at z1
                    cases hY : mkI m (s.mul k j)
                    · have HY := Lib.hid hY
                      rw [hY] at z2
                      go_wp2_with fail
                      refine region_ext yy (by kernel_rfl) (by kernel_rfl) ?_
                      repeat (go_big_quiet_step (first | (go_at_call 141; with_reducible exact l1Add_ans h1 t (by assumption) (by assumption) _) | (go_at_call 142; with_reducible exact l1Mul_ans h1 t (by assumption) (by assumption) _) | (go_at_call 143; with_reducible exact l1Le_is h1 t (by assumption) (by assumption) (by assumption) _)))
                      refine wpQuiet_nil ?_
                      rintro _ ⟨yy, rfl⟩
                      go_wp2_with fail
                      go_ret
                      exact fin_false HP (fun q => (by have := ((q.2 k hGk) j hGj).2.1; simp only [HA.out, HB.out, HY.out] at this; simp at this)) (hback yy)
                    · have HY := Lib.hid hY
                      rw [hY] at z2
                      cases hL : s.le k j
                      · have HL := Lib.hid hL
                        go_wp2_with fail
                        refine region_ext yy (by kernel_rfl) (by kernel_rfl) ?_
                        repeat (go_big_quiet_step (first | (go_at_call 141; with_reducible exact l1Add_ans h1 t (by assumption) (by assumption) _) | (go_at_call 142; with_reducible exact l1Mul_ans h1 t (by assumption) (by assumption) _) | (go_at_call 143; with_reducible exact l1Le_is h1 t (by assumption) (by assumption) (by assumption) _)))
                        refine wpQuiet_nil ?_
                        rintro _ ⟨yy, rfl⟩
                        go_wp2_with fail
                        go_roundw
                        case rel => exact ⟨j + 1, by go_num, by omega, ⟨yy, rfl⟩, hUj.out.succ (⟨by simp [HA.out, HB.out, HX.out], by simp [HA.out, HB.out, HY.out], fun _ _ => HB.out⟩)⟩
                        case measure => simp [intOf]; omega
                      · have HL := Lib.hid hL
                        go_wp2_with fail
                        refine region_ext yy (by kernel_rfl) (by kernel_rfl) ?_
                        repeat (go_big_quiet_step (first | (go_at_call 141; with_reducible exact l1Add_ans h1 t (by assumption) (by assumption) _) | (go_at_call 142; with_reducible exact l1Mul_ans h1 t (by assumption) (by assumption) _) | (go_at_call 143; with_reducible exact l1Le_is h1 t (by assumption) (by assumption) (by assumption) _)))
                        refine wpQuiet_nil ?_
                        rintro _ ⟨yy, rfl⟩
                        go_wp2_with fail
                        go_roundw
                        case rel => exact ⟨j + 1, by go_num, by omega, ⟨yy, rfl⟩, hUj.out.succ (⟨by simp [HA.out, HB.out, HX.out], by simp [HA.out, HB.out, HY.out], fun _ _ => HB.out⟩)⟩
                        case measure => simp [intOf]; omega
            · go_wp2
              go_roundw
              case rel => exact ⟨k + 1, by go_num, by omega, ⟨yy, rfl⟩, hUk.out.succ (hUj.out.all _ (by omega))⟩
              case measure => simp [intOf]; omega
        · go_wp2
          go_ret
          exact fin_true HP (⟨⟨H1.out, fun (u : mkI m 0 = true) => (by rw [H0.out] at u; cases u)⟩, hUk.out.all _ (by omega)⟩) (hback yy)
    · have H0 := Lib.hid h0b
      have hcell : ∀ (g : Int), 0 ≤ g → g < (m.length : Int) → ∀ y : Ext W, y.w.cell? ⟨bm, om + g.toNat, none⟩ = some (.bool (mkI m g)) := fun g h0 hg y => 
        y.cell (HCM.out g.toNat _ (by unfold mkI; rw [List.getD_eq_getElem?_getD, List.getElem?_eq_getElem (by omega)]; rfl))
      have y0c : ((x.alloc (.cells #[.int .i64 s.n, .slice r.pa s.plus.length r.pc, .slice r.ta s.times.length r.tc, .slice r.ba s.below.length r.bc] 34)) : Ext W).w.cell? ⟨bm, om, none⟩ = some (.bool (mkI m 0)) := by simpa using hcell 0 (by omega) hl1 (x.alloc _)
      have y1c : ((x.alloc (.cells #[.int .i64 s.n, .slice r.pa s.plus.length r.pc, .slice r.ta s.times.length r.tc, .slice r.ba s.below.length r.bc] 34)) : Ext W).w.cell? ⟨bm, om + 1, none⟩ = some (.bool (mkI m 1)) := by simpa using hcell 1 (by omega) hl2 (x.alloc _)
      dsimp only at y0c y1c
      rw [h0b] at y0c
      rw [h1b] at y1c
      have HCELL := Lib.hid hcell
      clear hcell
      go_enter Tryd.func114, Tryd.ntmps114
      go_wp2_with fail
      generalize hW : x.w.alloc _ = W1
      generalize hB : x.w.heap.size = B
      obtain ⟨c0, c1, c2, c3, h1, hback, yy, hy0⟩ := boxed h x hB hW
      clear hW hB
      rw [← hy0]
      clear hy0
      clear y0c y1c
      go_wp2
      go_ret
      exact fin_false HP (fun q => q.1.2 H0.out) (hback yy)

end Go.Proofs.YteffcfaoganciaaDoor
