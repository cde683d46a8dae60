/- The program's test of a map. -/
import Derived.Test.YtkokmpdmmfghhaaZ2KSysA
import Derived.Test.YtkokmpdmmfghhaaZ2KMapSpec
import Derived.Test.YtkokmpdmmfghhaaZ2HA
set_option linter.unusedVariables false
set_option linter.unusedSimpArgs false
namespace Go.Proofs.Ytkokmpdmmfghhaa
open Go.RowKit

set_option maxRecDepth 100000 in
set_option maxHeartbeats 8000000 in
theorem isMap_ans {W : World} {r r' : Ref} {A B : Sys} (h : SysIn W r A) (k : SysIn W r' B) {a : Option Addr} {c : Nat} {f : List Int} (hr : Row W (Value.int .i64) a f) (hl : f.length ≤ 1099511627776) (p : Bool) (hp : p = true ↔ IsMapP A B f) (x : Ext W) :
    Calls Try.prog 26 #[r.val A, r'.val B, .slice a f.length c] x.w (Ans W (.bool p)) := by
  have HP := Lib.hid hp
  clear hp
  unfold Ref.val
  by_cases isA : IsSys A
  · have tA := isA.tab
    have hA2 := tA.lo
    have hA16 := tA.hi
    have ISA := Lib.hid isA
    clear isA
    by_cases isB : IsSys B
    · have tB := isB.tab
      have hB2 := tB.lo
      have hB16 := tB.hi
      have ISB := Lib.hid isB
      clear isB
      by_cases hlen : (f.length : Int) = A.n
      · have fl : ((f.length : Int) != A.n) = false := by simpa using hlen
        have HLEN := Lib.hid hlen
        have hle1 : (f.length : Int) ≤ A.n := by omega
        have hle2 : A.n ≤ (f.length : Int) := by omega
        clear hlen
        by_cases hrng : ∀ g ∈ f, 0 ≤ g ∧ g < B.n
        · have HRNG := Lib.hid hrng
          clear hrng
          by_cases hz : fI f 0 = 0
          · have fz : (fI f 0 != 0) = false := by simpa using hz
            have HZ := Lib.hid hz
            clear hz
            by_cases ho : fI f 1 = 1
            · have fo : (fI f 1 != 1) = false := by simpa using ho
              have HO := Lib.hid ho
              clear ho
              go_enter Try.func26, Try.ntmps26
              go_wp2_with fail
              generalize hW : (x.w.alloc _).alloc _ = W1
              generalize hB : x.w.heap.size = B0
              obtain ⟨c0, c1, c2, c3, d0, d1, d2, d3, h1, k1, hback, yy, hy0⟩ := boxed2 h k x hB hW
              clear hW hB
              rw [← hy0]
              clear hy0
              have hrow : ∀ y : Ext W1, Row y.w (Value.int .i64) a f := fun y => by obtain ⟨u, hu⟩ := hback y; rw [hu]; exact hr.ext u
              have hrow0 : Row W1 (Value.int .i64) a f := hrow (Ext.self W1)
              (with_reducible refine Calls.mono (isSystem_ans h1 true (by refine iff_tf ?_; dsimp only; exact ISA.out) _) ?_)
              rintro e w' ⟨rfl, yy, rfl⟩
              go_wp2_with fail
              (with_reducible refine Calls.mono (isSystem_ans k1 true (by refine iff_tf ?_; dsimp only; exact ISB.out) _) ?_)
              rintro e w' ⟨rfl, yy, rfl⟩
              go_wp2_with fail
              (refine Calls.mono (allInRange_ans (W := W1) hrow0 hl B.n true (by refine iff_tf ?_; dsimp only; exact HRNG.out) yy) ?_)
              rintro e w' ⟨rfl, yy, rfl⟩
              obtain ⟨bf, o_f, hrf, hcf⟩ := (hrow yy).at (i := 0) (by omega)
              have hcellA : ∀ (g : Int), 0 ≤ g → g < (f.length : Int) → ∀ y : Ext W1, y.w.cell? ⟨bf, o_f + g.toNat, none⟩ = some (.int .i64 (fI f g)) := fun g h0 hg y => by
                obtain ⟨b2, o2, e2, hc2⟩ := (hrow y).at (i := 0) (by omega)
                rw [hrf] at e2
                cases e2
                exact hc2 g.toNat _ (by unfold fI; rw [List.getD_eq_getElem?_getD, List.getElem?_eq_getElem (by omega)]; rfl)
              have HCELL := Lib.hid hcellA
              clear hcellA hcf
              subst hrf
              have y0c := fun y : Ext W1 => HCELL.out 0 (by omega) (by omega) y
              have y1c := fun y : Ext W1 => HCELL.out 1 (by omega) (by omega) y
              simp only [Int.toNat_zero, Int.toNat_one, Nat.add_zero] at y0c y1c
              have l0 : (0 : Int) < (f.length : Int) := by omega
              have l1 : (1 : Int) < (f.length : Int) := by omega
              go_wp2_with fail
              clear y0c y1c fz fo fl
              go_loopw [43] (fun i wr => ∃ k : Nat, i = .int .i64 k ∧ (k : Int) ≤ A.n ∧ (∃ y : Ext W1, wr = y.w) ∧ Hid (Upto k (MapAt A B f))) (fun i _ => (A.n - intOf i).toNat)
              case atStart => exact ⟨0, rfl, by omega, ⟨yy, rfl⟩, Upto.zero _⟩
              case round =>
                obtain ⟨k, rfl, hk, ⟨yy, rfl⟩, hUk⟩ := hrel
                by_cases hltk : (k : Int) < A.n
                · have hGk : G A k := ⟨by omega, hltk⟩
                  go_wp2_with fail
                  go_loopw [48] (fun i wr => ∃ j : Nat, i = .int .i64 j ∧ (j : Int) ≤ A.n ∧ (∃ y : Ext W1, wr = y.w) ∧ Hid (Upto j (MapAt1 A B f k))) (fun i _ => (A.n - intOf i).toNat)
                  case atStart => exact ⟨0, rfl, by omega, ⟨yy, rfl⟩, Upto.zero _⟩
                  case round =>
                    obtain ⟨j, rfl, hj, ⟨yy, rfl⟩, hUj⟩ := hrel
                    by_cases hltj : (j : Int) < A.n
                    · have hGj : G A j := ⟨by omega, hltj⟩
                      have g1 := tA.addG hGk hGj
                      have g2 := tA.mulG hGk hGj
                      have GB1 := fI_G HLEN.out HRNG.out hGk
                      have GB2 := fI_G HLEN.out HRNG.out hGj
                      have i1 : 0 ≤ A.add k j := g1.1
                      have i2 : A.add k j < (f.length : Int) := by rw [HLEN.out]; exact g1.2
                      have i3 : 0 ≤ A.mul k j := g2.1
                      have i4 : A.mul k j < (f.length : Int) := by rw [HLEN.out]; exact g2.2
                      have i5 : (k : Int) < (f.length : Int) := by rw [HLEN.out]; exact hltk
                      have i6 : (j : Int) < (f.length : Int) := by rw [HLEN.out]; exact hltj
                      have z1 := HCELL.out (A.add k j) i1 i2
                      have z2 := HCELL.out (A.mul k j) i3 i4
                      have z3 := HCELL.out k (by omega) i5
                      have z4 := HCELL.out j (by omega) i6
                      rw [show ((k : Int).toNat) = k by omega] at z3
                      rw [show ((j : Int).toNat) = j by omega] at z4
                      by_cases ea : fI f (A.add k j) = B.add (fI f k) (fI f j)
                      · have fa : (fI f (A.add k j) != B.add (fI f k) (fI f j)) = false := by simpa using ea
                        have Ea := Lib.hid ea
                        clear ea
                        by_cases eb : fI f (A.mul k j) = B.mul (fI f k) (fI f j)
                        · have fb : (fI f (A.mul k j) != B.mul (fI f k) (fI f j)) = false := by simpa using eb
                          have Eb := Lib.hid eb
                          clear eb
                          go_wp2
                          refine region_ext yy (by kernel_rfl) (by kernel_rfl) ?_
                          repeat (go_big_quiet_step (first | (go_at_call 60; with_reducible exact sumIn_ans h1 tA (by assumption) (by assumption) _) | (go_at_call 60; with_reducible exact sumIn_ans k1 tB (by assumption) (by assumption) _) | (go_at_call 62; with_reducible exact productIn_ans h1 tA (by assumption) (by assumption) _) | (go_at_call 62; with_reducible exact productIn_ans k1 tB (by assumption) (by assumption) _) | (go_at_call 63; with_reducible exact belowIn_is h1 tA (by assumption) (by assumption) (by assumption) _) | (go_at_call 63; with_reducible exact belowIn_is k1 tB (by assumption) (by assumption) (by assumption) _)))
                          refine wpQuiet_nil ?_
                          rintro _ ⟨yy, rfl⟩
                          go_wp2_with fail
                          clear fa fb
                          cases hL : A.le k j
                          · have HL := Lib.hid hL
                            refine region_ext yy (by kernel_rfl) (by kernel_rfl) ?_
                            repeat (go_big_quiet_step (first | (go_at_call 60; with_reducible exact sumIn_ans h1 tA (by assumption) (by assumption) _) | (go_at_call 60; with_reducible exact sumIn_ans k1 tB (by assumption) (by assumption) _) | (go_at_call 62; with_reducible exact productIn_ans h1 tA (by assumption) (by assumption) _) | (go_at_call 62; with_reducible exact productIn_ans k1 tB (by assumption) (by assumption) _) | (go_at_call 63; with_reducible exact belowIn_is h1 tA (by assumption) (by assumption) (by assumption) _) | (go_at_call 63; with_reducible exact belowIn_is k1 tB (by assumption) (by assumption) (by assumption) _)))
                            refine wpQuiet_nil ?_
                            rintro _ ⟨yy, rfl⟩
                            go_wp2_with fail
                            go_roundw
                            case rel => exact ⟨j + 1, by go_num, by omega, ⟨yy, rfl⟩, hUj.out.succ (⟨Ea.out, Eb.out, fun u => (by rw [HL.out] at u; cases u)⟩)⟩
                            case measure => simp [intOf]; omega
                          · have HL := Lib.hid hL
                            cases hM : B.le (fI f k) (fI f j)
                            · have HM := Lib.hid hM
                              refine region_ext yy (by kernel_rfl) (by kernel_rfl) ?_
                              repeat (go_big_quiet_step (first | (go_at_call 60; with_reducible exact sumIn_ans h1 tA (by assumption) (by assumption) _) | (go_at_call 60; with_reducible exact sumIn_ans k1 tB (by assumption) (by assumption) _) | (go_at_call 62; with_reducible exact productIn_ans h1 tA (by assumption) (by assumption) _) | (go_at_call 62; with_reducible exact productIn_ans k1 tB (by assumption) (by assumption) _) | (go_at_call 63; with_reducible exact belowIn_is h1 tA (by assumption) (by assumption) (by assumption) _) | (go_at_call 63; with_reducible exact belowIn_is k1 tB (by assumption) (by assumption) (by assumption) _)))
                              refine wpQuiet_nil ?_
                              rintro _ ⟨yy, rfl⟩
                              go_wp2_with fail
                              go_ret
                              exact fin_false HP (fun q => by have := ((q.all k hGk) j hGj).2.2 HL.out; rw [HM.out] at this; cases this) (hback yy)
                            · have HM := Lib.hid hM
                              refine region_ext yy (by kernel_rfl) (by kernel_rfl) ?_
                              repeat (go_big_quiet_step (first | (go_at_call 60; with_reducible exact sumIn_ans h1 tA (by assumption) (by assumption) _) | (go_at_call 60; with_reducible exact sumIn_ans k1 tB (by assumption) (by assumption) _) | (go_at_call 62; with_reducible exact productIn_ans h1 tA (by assumption) (by assumption) _) | (go_at_call 62; with_reducible exact productIn_ans k1 tB (by assumption) (by assumption) _) | (go_at_call 63; with_reducible exact belowIn_is h1 tA (by assumption) (by assumption) (by assumption) _) | (go_at_call 63; with_reducible exact belowIn_is k1 tB (by assumption) (by assumption) (by assumption) _)))
                              refine wpQuiet_nil ?_
                              rintro _ ⟨yy, rfl⟩
                              go_wp2_with fail
                              go_roundw
                              case rel => exact ⟨j + 1, by go_num, by omega, ⟨yy, rfl⟩, hUj.out.succ (⟨Ea.out, Eb.out, fun _ => HM.out⟩)⟩
                              case measure => simp [intOf]; omega
                        · have fb : (fI f (A.mul k j) != B.mul (fI f k) (fI f j)) = true := by simpa using eb
                          have Eb := Lib.hid eb
                          clear eb
                          go_wp2
                          refine region_ext yy (by kernel_rfl) (by kernel_rfl) ?_
                          repeat (go_big_quiet_step (first | (go_at_call 60; with_reducible exact sumIn_ans h1 tA (by assumption) (by assumption) _) | (go_at_call 60; with_reducible exact sumIn_ans k1 tB (by assumption) (by assumption) _) | (go_at_call 62; with_reducible exact productIn_ans h1 tA (by assumption) (by assumption) _) | (go_at_call 62; with_reducible exact productIn_ans k1 tB (by assumption) (by assumption) _) | (go_at_call 63; with_reducible exact belowIn_is h1 tA (by assumption) (by assumption) (by assumption) _) | (go_at_call 63; with_reducible exact belowIn_is k1 tB (by assumption) (by assumption) (by assumption) _)))
                          refine wpQuiet_nil ?_
                          rintro _ ⟨yy, rfl⟩
                          go_wp2_with fail
                          go_ret
                          exact fin_false HP (fun q => Eb.out (((q.all k hGk) j hGj).2.1)) (hback yy)
                      · have fa : (fI f (A.add k j) != B.add (fI f k) (fI f j)) = true := by simpa using ea
                        have Ea := Lib.hid ea
                        clear ea
                        go_wp2
                        refine region_ext yy (by kernel_rfl) (by kernel_rfl) ?_
                        repeat (go_big_quiet_step (first | (go_at_call 60; with_reducible exact sumIn_ans h1 tA (by assumption) (by assumption) _) | (go_at_call 60; with_reducible exact sumIn_ans k1 tB (by assumption) (by assumption) _) | (go_at_call 62; with_reducible exact productIn_ans h1 tA (by assumption) (by assumption) _) | (go_at_call 62; with_reducible exact productIn_ans k1 tB (by assumption) (by assumption) _) | (go_at_call 63; with_reducible exact belowIn_is h1 tA (by assumption) (by assumption) (by assumption) _) | (go_at_call 63; with_reducible exact belowIn_is k1 tB (by assumption) (by assumption) (by assumption) _)))
                        refine wpQuiet_nil ?_
                        rintro _ ⟨yy, rfl⟩
                        go_wp2_with fail
                        go_ret
                        exact fin_false HP (fun q => Ea.out (((q.all k hGk) j hGj).1)) (hback yy)
                    · go_wp2
                      go_roundw
                      case rel => exact ⟨k + 1, by go_num, by omega, ⟨yy, rfl⟩, hUk.out.succ (hUj.out.all _ (by omega))⟩
                      case measure => simp [intOf]; omega
                · go_wp2
                  go_ret
                  exact fin_true HP (⟨ISA.out, ISB.out, HLEN.out, HRNG.out, HZ.out, HO.out, hUk.out.all _ (by omega)⟩) (hback yy)
            · have fo : (fI f 1 != 1) = true := by simpa using ho
              have HO := Lib.hid ho
              clear ho
              go_enter Try.func26, Try.ntmps26
              go_wp2_with fail
              generalize hW : (x.w.alloc _).alloc _ = W1
              generalize hB : x.w.heap.size = B0
              obtain ⟨c0, c1, c2, c3, d0, d1, d2, d3, h1, k1, hback, yy, hy0⟩ := boxed2 h k x hB hW
              clear hW hB
              rw [← hy0]
              clear hy0
              have hrow : ∀ y : Ext W1, Row y.w (Value.int .i64) a f := fun y => by obtain ⟨u, hu⟩ := hback y; rw [hu]; exact hr.ext u
              have hrow0 : Row W1 (Value.int .i64) a f := hrow (Ext.self W1)
              (with_reducible refine Calls.mono (isSystem_ans h1 true (by refine iff_tf ?_; dsimp only; exact ISA.out) _) ?_)
              rintro e w' ⟨rfl, yy, rfl⟩
              go_wp2_with fail
              (with_reducible refine Calls.mono (isSystem_ans k1 true (by refine iff_tf ?_; dsimp only; exact ISB.out) _) ?_)
              rintro e w' ⟨rfl, yy, rfl⟩
              go_wp2_with fail
              (refine Calls.mono (allInRange_ans (W := W1) hrow0 hl B.n true (by refine iff_tf ?_; dsimp only; exact HRNG.out) yy) ?_)
              rintro e w' ⟨rfl, yy, rfl⟩
              obtain ⟨bf, o_f, hrf, hcf⟩ := (hrow yy).at (i := 0) (by omega)
              have hcellA : ∀ (g : Int), 0 ≤ g → g < (f.length : Int) → ∀ y : Ext W1, y.w.cell? ⟨bf, o_f + g.toNat, none⟩ = some (.int .i64 (fI f g)) := fun g h0 hg y => by
                obtain ⟨b2, o2, e2, hc2⟩ := (hrow y).at (i := 0) (by omega)
                rw [hrf] at e2
                cases e2
                exact hc2 g.toNat _ (by unfold fI; rw [List.getD_eq_getElem?_getD, List.getElem?_eq_getElem (by omega)]; rfl)
              have HCELL := Lib.hid hcellA
              clear hcellA hcf
              subst hrf
              have y0c := fun y : Ext W1 => HCELL.out 0 (by omega) (by omega) y
              have y1c := fun y : Ext W1 => HCELL.out 1 (by omega) (by omega) y
              simp only [Int.toNat_zero, Int.toNat_one, Nat.add_zero] at y0c y1c
              have l0 : (0 : Int) < (f.length : Int) := by omega
              have l1 : (1 : Int) < (f.length : Int) := by omega
              go_wp2_with fail
              go_ret
              exact fin_false HP (fun q => HO.out q.o) (hback yy)
          · have fz : (fI f 0 != 0) = true := by simpa using hz
            have HZ := Lib.hid hz
            clear hz
            go_enter Try.func26, Try.ntmps26
            go_wp2_with fail
            generalize hW : (x.w.alloc _).alloc _ = W1
            generalize hB : x.w.heap.size = B0
            obtain ⟨c0, c1, c2, c3, d0, d1, d2, d3, h1, k1, hback, yy, hy0⟩ := boxed2 h k x hB hW
            clear hW hB
            rw [← hy0]
            clear hy0
            have hrow : ∀ y : Ext W1, Row y.w (Value.int .i64) a f := fun y => by obtain ⟨u, hu⟩ := hback y; rw [hu]; exact hr.ext u
            have hrow0 : Row W1 (Value.int .i64) a f := hrow (Ext.self W1)
            (with_reducible refine Calls.mono (isSystem_ans h1 true (by refine iff_tf ?_; dsimp only; exact ISA.out) _) ?_)
            rintro e w' ⟨rfl, yy, rfl⟩
            go_wp2_with fail
            (with_reducible refine Calls.mono (isSystem_ans k1 true (by refine iff_tf ?_; dsimp only; exact ISB.out) _) ?_)
            rintro e w' ⟨rfl, yy, rfl⟩
            go_wp2_with fail
            (refine Calls.mono (allInRange_ans (W := W1) hrow0 hl B.n true (by refine iff_tf ?_; dsimp only; exact HRNG.out) yy) ?_)
            rintro e w' ⟨rfl, yy, rfl⟩
            obtain ⟨bf, o_f, hrf, hcf⟩ := (hrow yy).at (i := 0) (by omega)
            have hcellA : ∀ (g : Int), 0 ≤ g → g < (f.length : Int) → ∀ y : Ext W1, y.w.cell? ⟨bf, o_f + g.toNat, none⟩ = some (.int .i64 (fI f g)) := fun g h0 hg y => by
              obtain ⟨b2, o2, e2, hc2⟩ := (hrow y).at (i := 0) (by omega)
              rw [hrf] at e2
              cases e2
              exact hc2 g.toNat _ (by unfold fI; rw [List.getD_eq_getElem?_getD, List.getElem?_eq_getElem (by omega)]; rfl)
            have HCELL := Lib.hid hcellA
            clear hcellA hcf
            subst hrf
            have y0c := fun y : Ext W1 => HCELL.out 0 (by omega) (by omega) y
            have y1c := fun y : Ext W1 => HCELL.out 1 (by omega) (by omega) y
            simp only [Int.toNat_zero, Int.toNat_one, Nat.add_zero] at y0c y1c
            have l0 : (0 : Int) < (f.length : Int) := by omega
            have l1 : (1 : Int) < (f.length : Int) := by omega
            go_wp2_with fail
            go_ret
            exact fin_false HP (fun q => HZ.out q.z) (hback yy)
        · have HRNG := Lib.hid hrng
          clear hrng
          go_enter Try.func26, Try.ntmps26
          go_wp2_with fail
          generalize hW : (x.w.alloc _).alloc _ = W1
          generalize hB : x.w.heap.size = B0
          obtain ⟨c0, c1, c2, c3, d0, d1, d2, d3, h1, k1, hback, yy, hy0⟩ := boxed2 h k x hB hW
          clear hW hB
          rw [← hy0]
          clear hy0
          have hrow : ∀ y : Ext W1, Row y.w (Value.int .i64) a f := fun y => by obtain ⟨u, hu⟩ := hback y; rw [hu]; exact hr.ext u
          have hrow0 : Row W1 (Value.int .i64) a f := hrow (Ext.self W1)
          (with_reducible refine Calls.mono (isSystem_ans h1 true (by refine iff_tf ?_; dsimp only; exact ISA.out) _) ?_)
          rintro e w' ⟨rfl, yy, rfl⟩
          go_wp2_with fail
          (with_reducible refine Calls.mono (isSystem_ans k1 true (by refine iff_tf ?_; dsimp only; exact ISB.out) _) ?_)
          rintro e w' ⟨rfl, yy, rfl⟩
          go_wp2_with fail
          (refine Calls.mono (allInRange_ans (W := W1) hrow0 hl B.n false (by refine iff_tf ?_; dsimp only; exact HRNG.out) yy) ?_)
          rintro e w' ⟨rfl, yy, rfl⟩
          go_wp2_with fail
          go_ret
          exact fin_false HP (fun q => HRNG.out q.rng) (hback yy)
      · have fl : ((f.length : Int) != A.n) = true := by simpa using hlen
        have HLEN := Lib.hid hlen
        clear hlen
        go_enter Try.func26, Try.ntmps26
        go_wp2_with fail
        generalize hW : (x.w.alloc _).alloc _ = W1
        generalize hB : x.w.heap.size = B0
        obtain ⟨c0, c1, c2, c3, d0, d1, d2, d3, h1, k1, hback, yy, hy0⟩ := boxed2 h k x hB hW
        clear hW hB
        rw [← hy0]
        clear hy0
        have hrow : ∀ y : Ext W1, Row y.w (Value.int .i64) a f := fun y => by obtain ⟨u, hu⟩ := hback y; rw [hu]; exact hr.ext u
        (with_reducible refine Calls.mono (isSystem_ans h1 true (by refine iff_tf ?_; dsimp only; exact ISA.out) _) ?_)
        rintro e w' ⟨rfl, yy, rfl⟩
        go_wp2_with fail
        (with_reducible refine Calls.mono (isSystem_ans k1 true (by refine iff_tf ?_; dsimp only; exact ISB.out) _) ?_)
        rintro e w' ⟨rfl, yy, rfl⟩
        go_wp2_with fail
        go_ret
        exact fin_false HP (fun q => HLEN.out q.len) (hback yy)
    · have ISB := Lib.hid isB
      clear isB
      go_enter Try.func26, Try.ntmps26
      go_wp2_with fail
      generalize hW : (x.w.alloc _).alloc _ = W1
      generalize hB : x.w.heap.size = B0
      obtain ⟨c0, c1, c2, c3, d0, d1, d2, d3, h1, k1, hback, yy, hy0⟩ := boxed2 h k x hB hW
      clear hW hB
      rw [← hy0]
      clear hy0
      have hrow : ∀ y : Ext W1, Row y.w (Value.int .i64) a f := fun y => by obtain ⟨u, hu⟩ := hback y; rw [hu]; exact hr.ext u
      (with_reducible refine Calls.mono (isSystem_ans h1 true (by refine iff_tf ?_; dsimp only; exact ISA.out) _) ?_)
      rintro e w' ⟨rfl, yy, rfl⟩
      go_wp2_with fail
      (with_reducible refine Calls.mono (isSystem_ans k1 false (by refine iff_tf ?_; dsimp only; exact ISB.out) _) ?_)
      rintro e w' ⟨rfl, yy, rfl⟩
      go_wp2_with fail
      go_ret
      exact fin_false HP (fun q => ISB.out q.b) (hback yy)
  · have ISA := Lib.hid isA
    clear isA
    go_enter Try.func26, Try.ntmps26
    go_wp2_with fail
    generalize hW : (x.w.alloc _).alloc _ = W1
    generalize hB : x.w.heap.size = B0
    obtain ⟨c0, c1, c2, c3, d0, d1, d2, d3, h1, k1, hback, yy, hy0⟩ := boxed2 h k x hB hW
    clear hW hB
    rw [← hy0]
    clear hy0
    have hrow : ∀ y : Ext W1, Row y.w (Value.int .i64) a f := fun y => by obtain ⟨u, hu⟩ := hback y; rw [hu]; exact hr.ext u
    (with_reducible refine Calls.mono (isSystem_ans h1 false (by refine iff_tf ?_; dsimp only; exact ISA.out) _) ?_)
    rintro e w' ⟨rfl, yy, rfl⟩
    go_wp2_with fail
    go_ret
    exact fin_false HP (fun q => ISA.out q.a) (hback yy)

end Go.Proofs.Ytkokmpdmmfghhaa
