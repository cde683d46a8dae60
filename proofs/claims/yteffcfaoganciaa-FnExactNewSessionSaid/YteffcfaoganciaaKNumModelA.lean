
/- The model's systems of numbers. -/
import Derived.Test.YteffcfaoganciaaKNumModel
import Derived.Test.YteffcfaoganciaaGA
import Derived.LoopTactic
set_option linter.unusedVariables false
set_option linter.unusedSimpArgs false
namespace Go.Proofs.Yteffcfaoganciaa
open Go.RowKit

set_option maxRecDepth 100000 in
set_option maxHeartbeats 8000000 in
theorem l1Numbers_in {W : World} (n : Nat) (h1 : 1 ≤ n) (h14 : n ≤ 14) (bound : Bool) (f1 f2 : Nat → Nat → Int) (f3 : Nat → Nat → Bool)
    (hf1 : ∀ a b : Nat, f1 a b = min ((a : Int) + b) ((n : Int) + 1)) (hf2 : ∀ a b : Nat, f2 a b = min ((a : Int) * b) ((n : Int) + 1))
    (hf3 : ∀ a b : Nat, a < n + 2 → b < n + 2 → f3 a b = (decide (a = b) || (decide ((b : Int) = (n : Int) + 1) || (bound && decide (a ≤ b))))) (x : Ext W) :
    Calls Try.prog 54 #[.int .i64 n, .bool bound] x.w (NewSysA W ⟨(n + 2 : Nat), grid (n + 2) f1, grid (n + 2) f2, grid (n + 2) f3⟩) := by
  have F1 := Lib.hid hf1
  have F2 := Lib.hid hf2
  have F3 := Lib.hid hf3
  clear hf1 hf2 hf3
  obtain ⟨i0, hi0, hz0, hz1, hz2⟩ := info_parts info_int
  obtain ⟨ib, hib, hy0, hy1, hy2⟩ := info_parts info_bool
  go_enter Try.func54, Try.ntmps54
  go_wp2_with ((go_at_call 64; (with_reducible refine Calls.mono (l1In_q (n : Int) 1 14 true (by rw [decide_eq_true]; omega) _) ?_); rintro e w' ⟨rfl, rfl⟩))
  have hxW := x.size
  have belx := x.below
  generalize hWa : (x.w.alloc _).alloc _ = Wa
  generalize x.w = X at *
  generalize hB : X.heap.size = B at *
  obtain ⟨bR, bC, sA, bel⟩ := blocks2 hB hWa
  have st0 : AccS X Wa B (B + 1) ((n : Int) + 2) (.slice none 0 0) (.slice none 0 0) (.slice none 0 0) [] [] [] :=
    ⟨bC, World.ownsRow_nil _ _ _ _, World.ownsRow_nil _ _ _ _, World.ownsRow_nil _ _ _ _, .inl rfl, by omega, by rw [hB]; rw [hB] at bel; exact bel, bR, by omega⟩
  clear hWa bR bC sA bel
  have HB := Lib.hid hB
  clear hB
  go_loopw [7] (fun i wr => ∃ a : Nat, i = .int .i64 a ∧ a ≤ n + 2 ∧ Hid (∃ v1 v2 v3, AccS X wr B (B + 1) ((n : Int) + 2) v1 v2 v3 (gridTo (n + 2) f1 (a * (n + 2))) (gridTo (n + 2) f2 (a * (n + 2))) (gridTo (n + 2) f3 (a * (n + 2))))) (fun i _ => n + 2 - (intOf i).toNat)
  case atStart => exact ⟨0, rfl, by omega, by rw [Nat.zero_mul]; exact ⟨_, _, _, st0⟩⟩
  case round =>
    obtain ⟨a, rfl, ha, ST⟩ := hrel
    clear st0
    by_cases hlt : a < n + 2
    · have hlt' : (a : Int) ≤ (n : Int) + 1 := by omega
      go_wp2_with fail
      go_loopw [8] (fun i wr => ∃ b : Nat, i = .int .i64 b ∧ b ≤ n + 2 ∧ Hid (∃ v1 v2 v3, AccS X wr B (B + 1) ((n : Int) + 2) v1 v2 v3 (gridTo (n + 2) f1 (a * (n + 2) + b)) (gridTo (n + 2) f2 (a * (n + 2) + b)) (gridTo (n + 2) f3 (a * (n + 2) + b)))) (fun i _ => n + 2 - (intOf i).toNat)
      case atStart => exact ⟨0, rfl, by omega, by rw [Nat.add_zero]; exact ST.out⟩
      case round =>
        obtain ⟨b, rfl, hb, ST2⟩ := hrel
        by_cases hlb : b < n + 2
        · have hlb' : (b : Int) ≤ (n : Int) + 1 := by omega
          obtain ⟨v1, v2, v3, A⟩ := ST2.out
          obtain ⟨a1, d1, rfl⟩ := own_slice A.o1
          obtain ⟨a2, d2, rfl⟩ := own_slice A.o2
          obtain ⟨a3, d3, rfl⟩ := own_slice A.o3
          obtain ⟨c0, c1, c2, c3⟩ := A.cells
          have hcap : a * (n + 2) + b ≤ 1000 := by have := Nat.mul_le_mul (show a ≤ 16 by omega) (show n + 2 ≤ 16 by omega); omega
          have hab : a * b ≤ 1000 := by have := Nat.mul_le_mul (show a ≤ 16 by omega) (show b ≤ 16 by omega); omega
          obtain ⟨P, hP⟩ : ∃ P : Int, (a : Int) * (b : Int) = P := ⟨_, rfl⟩
          have hPb : 0 ≤ P ∧ P ≤ 1000 := by rw [← hP, ← Int.natCast_mul]; omega
          have wp1 : IntKind.i64.wrap ((a : Int) * (b : Int)) = P := by rw [hP]; exact IntWalk.i64_in _ (by omega)
          have wp2 : wrap64 ((a : Int) * (b : Int)) = P := by rw [← IntWalk.i64_left]; exact wp1
          have HP := Lib.hid hP
          have HPB := Lib.hid hPb
          clear hP hPb hab
          by_cases e1 : a = b
          · have g1 : ((a : Int) == (b : Int)) = true := beq_iff_eq.2 (by omega)
            have E1 := Lib.hid e1
            clear e1
            go_wp2_with (first | (go_at_call 74; (with_reducible refine Calls.mono (l1Min_q _ _ _) ?_); rintro e w' ⟨rfl, rfl⟩) | (at_builtin; refine wpList_append_own_at _ rfl (.tmp 41) (.tmp 43) 22 rfl X.heap.size 3 i0 (.int .i64 0) 1 8 Try.underlying22 hi0 hz0 hz1 hz2 rfl (by decide) (.slice a1 (gridTo (n + 2) f1 (a * (n + 2) + b)).length d1) _ _ rfl (A.o1.alloc _) _ 1 1 [.int .i64 (min ((a : Int) + b) ((n : Int) + 1))] rfl rfl (cell_one_at _ _ _ _ (by simp)) (by intro u hu; simp at hu; subst hu; rfl) (by rw [gridTo_len]; unfold maxLen; omega) (by rw [gridTo_len]; omega) (by have := A.bel.size; simp at this ⊢; omega) ?_; intro v1' w1 own1 gr1 _ hat1; obtain ⟨b1, e1, rfl⟩ := own_slice own1; have m1 := A.mid (own_ne A.o1 A.blk no_int_sys) gr1; have c1 := blk_cell m1 1; have z1 := blk_free m1 1; have c2 := blk_cell m1 2; simp at c1 c2; have A2 := A.app1 own1 ⟨gr1, hat1, rfl⟩) | (at_builtin; refine wpList_append_own_at _ rfl (.tmp 47) (.tmp 49) 22 rfl X.heap.size 3 i0 (.int .i64 0) 1 8 Try.underlying22 hi0 hz0 hz1 hz2 rfl (by decide) (.slice a2 (gridTo (n + 2) f2 (a * (n + 2) + b)).length d2) _ _ rfl (A2.o2.alloc _) _ 1 1 [.int .i64 (min P ((n : Int) + 1))] rfl rfl (cell_one_at _ _ _ _ (by simp)) (by intro u hu; simp at hu; subst hu; rfl) (by rw [gridTo_len]; unfold maxLen; omega) (by rw [gridTo_len]; omega) (by have := A2.bel.size; simp at this ⊢; omega) ?_; intro v2' w2 own2 gr2 _ hat2; obtain ⟨b2, e2, rfl⟩ := own_slice own2; have m2 := A2.mid (own_ne A2.o2 A2.blk no_int_sys) gr2; have c2 := blk_cell m2 2; have z2 := blk_free m2 2; have c3 := blk_cell m2 3; simp at c2 c3; have A3 := A2.app2 own2 ⟨gr2, hat2, rfl⟩) | (at_builtin; refine wpList_append_own_at _ rfl (.tmp 53) (.tmp 70) 23 rfl X.heap.size 4 ib (.bool false) 1 1 Try.underlying23 hib hy0 hy1 hy2 rfl (by decide) (.slice a3 (gridTo (n + 2) f3 (a * (n + 2) + b)).length d3) _ _ rfl (A3.o3.alloc _) _ 1 1 [.bool true] rfl rfl (cell_one_at _ _ _ _ (by simp)) (by intro u hu; simp at hu; subst hu; rfl) (by rw [gridTo_len]; unfold maxLen; omega) (by rw [gridTo_len]; omega) (by have := A3.bel.size; simp at this ⊢; omega) ?_; intro v3' w3 own3 gr3 _ hat3; obtain ⟨b3, e3, rfl⟩ := own_slice own3; have m3 := A3.mid (own_ne A3.o3 A3.blk no_bool_sys) gr3; have c3 := blk_cell m3 3; have z3 := blk_free m3 3; simp at c3; have A4 := A3.app3 own3 ⟨gr3, hat3, rfl⟩))
            have HA := Lib.hid A4
            clear own1 own2 own3 gr1 gr2 gr3 hat1 hat2 hat3 A2 A3 A4 m1 m2 m3 wp1 wp2
            go_roundw
            case rel =>
              refine ⟨b + 1, by go_num, by omega, ?_⟩
              have e1 := F1.out a b
              have e2 := F2.out a b
              have e3 : f3 a b = true := by rw [F3.out a b hlt hlb]; rw [decide_eq_true E1.out, Bool.true_or]
              rw [HP.out] at e2
              have A5 := HA.out
              rw [← e1, ← e2, ← e3, gridTo_succ f1 hlb, gridTo_succ f2 hlb, gridTo_succ f3 hlb] at A5
              exact ⟨_, _, _, A5⟩
            case measure => simp [intOf]; omega
          have g1 : ((a : Int) == (b : Int)) = false := beq_eq_false_iff_ne.2 (by omega)
          have E1 := Lib.hid e1
          clear e1
          by_cases e2 : (b : Int) = (n : Int) + 1
          · have g2 : ((b : Int) == (n : Int) + 1) = true := beq_iff_eq.2 e2
            have E2 := Lib.hid e2
            clear e2
            go_wp2_with (first | (go_at_call 74; (with_reducible refine Calls.mono (l1Min_q _ _ _) ?_); rintro e w' ⟨rfl, rfl⟩) | (at_builtin; refine wpList_append_own_at _ rfl (.tmp 41) (.tmp 43) 22 rfl X.heap.size 3 i0 (.int .i64 0) 1 8 Try.underlying22 hi0 hz0 hz1 hz2 rfl (by decide) (.slice a1 (gridTo (n + 2) f1 (a * (n + 2) + b)).length d1) _ _ rfl (A.o1.alloc _) _ 1 1 [.int .i64 (min ((a : Int) + b) ((n : Int) + 1))] rfl rfl (cell_one_at _ _ _ _ (by simp)) (by intro u hu; simp at hu; subst hu; rfl) (by rw [gridTo_len]; unfold maxLen; omega) (by rw [gridTo_len]; omega) (by have := A.bel.size; simp at this ⊢; omega) ?_; intro v1' w1 own1 gr1 _ hat1; obtain ⟨b1, e1, rfl⟩ := own_slice own1; have m1 := A.mid (own_ne A.o1 A.blk no_int_sys) gr1; have c1 := blk_cell m1 1; have z1 := blk_free m1 1; have c2 := blk_cell m1 2; simp at c1 c2; have A2 := A.app1 own1 ⟨gr1, hat1, rfl⟩) | (at_builtin; refine wpList_append_own_at _ rfl (.tmp 47) (.tmp 49) 22 rfl X.heap.size 3 i0 (.int .i64 0) 1 8 Try.underlying22 hi0 hz0 hz1 hz2 rfl (by decide) (.slice a2 (gridTo (n + 2) f2 (a * (n + 2) + b)).length d2) _ _ rfl (A2.o2.alloc _) _ 1 1 [.int .i64 (min P ((n : Int) + 1))] rfl rfl (cell_one_at _ _ _ _ (by simp)) (by intro u hu; simp at hu; subst hu; rfl) (by rw [gridTo_len]; unfold maxLen; omega) (by rw [gridTo_len]; omega) (by have := A2.bel.size; simp at this ⊢; omega) ?_; intro v2' w2 own2 gr2 _ hat2; obtain ⟨b2, e2, rfl⟩ := own_slice own2; have m2 := A2.mid (own_ne A2.o2 A2.blk no_int_sys) gr2; have c2 := blk_cell m2 2; have z2 := blk_free m2 2; have c3 := blk_cell m2 3; simp at c2 c3; have A3 := A2.app2 own2 ⟨gr2, hat2, rfl⟩) | (at_builtin; refine wpList_append_own_at _ rfl (.tmp 53) (.tmp 70) 23 rfl X.heap.size 4 ib (.bool false) 1 1 Try.underlying23 hib hy0 hy1 hy2 rfl (by decide) (.slice a3 (gridTo (n + 2) f3 (a * (n + 2) + b)).length d3) _ _ rfl (A3.o3.alloc _) _ 1 1 [.bool true] rfl rfl (cell_one_at _ _ _ _ (by simp)) (by intro u hu; simp at hu; subst hu; rfl) (by rw [gridTo_len]; unfold maxLen; omega) (by rw [gridTo_len]; omega) (by have := A3.bel.size; simp at this ⊢; omega) ?_; intro v3' w3 own3 gr3 _ hat3; obtain ⟨b3, e3, rfl⟩ := own_slice own3; have m3 := A3.mid (own_ne A3.o3 A3.blk no_bool_sys) gr3; have c3 := blk_cell m3 3; have z3 := blk_free m3 3; simp at c3; have A4 := A3.app3 own3 ⟨gr3, hat3, rfl⟩))
            have HA := Lib.hid A4
            clear own1 own2 own3 gr1 gr2 gr3 hat1 hat2 hat3 A2 A3 A4 m1 m2 m3 wp1 wp2
            go_roundw
            case rel =>
              refine ⟨b + 1, by go_num, by omega, ?_⟩
              have e1 := F1.out a b
              have e2 := F2.out a b
              have e3 : f3 a b = true := by rw [F3.out a b hlt hlb]; rw [decide_eq_false E1.out, decide_eq_true E2.out]; rfl
              rw [HP.out] at e2
              have A5 := HA.out
              rw [← e1, ← e2, ← e3, gridTo_succ f1 hlb, gridTo_succ f2 hlb, gridTo_succ f3 hlb] at A5
              exact ⟨_, _, _, A5⟩
            case measure => simp [intOf]; omega
          have g2 : ((b : Int) == (n : Int) + 1) = false := beq_eq_false_iff_ne.2 e2
          have E2 := Lib.hid e2
          clear e2
          cases bound
          · skip
            go_wp2_with (first | (go_at_call 74; (with_reducible refine Calls.mono (l1Min_q _ _ _) ?_); rintro e w' ⟨rfl, rfl⟩) | (at_builtin; refine wpList_append_own_at _ rfl (.tmp 41) (.tmp 43) 22 rfl X.heap.size 3 i0 (.int .i64 0) 1 8 Try.underlying22 hi0 hz0 hz1 hz2 rfl (by decide) (.slice a1 (gridTo (n + 2) f1 (a * (n + 2) + b)).length d1) _ _ rfl (A.o1.alloc _) _ 1 1 [.int .i64 (min ((a : Int) + b) ((n : Int) + 1))] rfl rfl (cell_one_at _ _ _ _ (by simp)) (by intro u hu; simp at hu; subst hu; rfl) (by rw [gridTo_len]; unfold maxLen; omega) (by rw [gridTo_len]; omega) (by have := A.bel.size; simp at this ⊢; omega) ?_; intro v1' w1 own1 gr1 _ hat1; obtain ⟨b1, e1, rfl⟩ := own_slice own1; have m1 := A.mid (own_ne A.o1 A.blk no_int_sys) gr1; have c1 := blk_cell m1 1; have z1 := blk_free m1 1; have c2 := blk_cell m1 2; simp at c1 c2; have A2 := A.app1 own1 ⟨gr1, hat1, rfl⟩) | (at_builtin; refine wpList_append_own_at _ rfl (.tmp 47) (.tmp 49) 22 rfl X.heap.size 3 i0 (.int .i64 0) 1 8 Try.underlying22 hi0 hz0 hz1 hz2 rfl (by decide) (.slice a2 (gridTo (n + 2) f2 (a * (n + 2) + b)).length d2) _ _ rfl (A2.o2.alloc _) _ 1 1 [.int .i64 (min P ((n : Int) + 1))] rfl rfl (cell_one_at _ _ _ _ (by simp)) (by intro u hu; simp at hu; subst hu; rfl) (by rw [gridTo_len]; unfold maxLen; omega) (by rw [gridTo_len]; omega) (by have := A2.bel.size; simp at this ⊢; omega) ?_; intro v2' w2 own2 gr2 _ hat2; obtain ⟨b2, e2, rfl⟩ := own_slice own2; have m2 := A2.mid (own_ne A2.o2 A2.blk no_int_sys) gr2; have c2 := blk_cell m2 2; have z2 := blk_free m2 2; have c3 := blk_cell m2 3; simp at c2 c3; have A3 := A2.app2 own2 ⟨gr2, hat2, rfl⟩) | (at_builtin; refine wpList_append_own_at _ rfl (.tmp 53) (.tmp 70) 23 rfl X.heap.size 4 ib (.bool false) 1 1 Try.underlying23 hib hy0 hy1 hy2 rfl (by decide) (.slice a3 (gridTo (n + 2) f3 (a * (n + 2) + b)).length d3) _ _ rfl (A3.o3.alloc _) _ 1 1 [.bool false] rfl rfl (cell_one_at _ _ _ _ (by simp)) (by intro u hu; simp at hu; subst hu; rfl) (by rw [gridTo_len]; unfold maxLen; omega) (by rw [gridTo_len]; omega) (by have := A3.bel.size; simp at this ⊢; omega) ?_; intro v3' w3 own3 gr3 _ hat3; obtain ⟨b3, e3, rfl⟩ := own_slice own3; have m3 := A3.mid (own_ne A3.o3 A3.blk no_bool_sys) gr3; have c3 := blk_cell m3 3; have z3 := blk_free m3 3; simp at c3; have A4 := A3.app3 own3 ⟨gr3, hat3, rfl⟩))
            have HA := Lib.hid A4
            clear own1 own2 own3 gr1 gr2 gr3 hat1 hat2 hat3 A2 A3 A4 m1 m2 m3 wp1 wp2
            go_roundw
            case rel =>
              refine ⟨b + 1, by go_num, by omega, ?_⟩
              have e1 := F1.out a b
              have e2 := F2.out a b
              have e3 : f3 a b = false := by rw [F3.out a b hlt hlb]; rw [decide_eq_false E1.out, decide_eq_false E2.out]; rfl
              rw [HP.out] at e2
              have A5 := HA.out
              rw [← e1, ← e2, ← e3, gridTo_succ f1 hlb, gridTo_succ f2 hlb, gridTo_succ f3 hlb] at A5
              exact ⟨_, _, _, A5⟩
            case measure => simp [intOf]; omega
          by_cases hle : a ≤ b
          · have g3 : (a : Int) ≤ (b : Int) := by omega
            go_wp2_with (first | (go_at_call 74; (with_reducible refine Calls.mono (l1Min_q _ _ _) ?_); rintro e w' ⟨rfl, rfl⟩) | (at_builtin; refine wpList_append_own_at _ rfl (.tmp 41) (.tmp 43) 22 rfl X.heap.size 3 i0 (.int .i64 0) 1 8 Try.underlying22 hi0 hz0 hz1 hz2 rfl (by decide) (.slice a1 (gridTo (n + 2) f1 (a * (n + 2) + b)).length d1) _ _ rfl (A.o1.alloc _) _ 1 1 [.int .i64 (min ((a : Int) + b) ((n : Int) + 1))] rfl rfl (cell_one_at _ _ _ _ (by simp)) (by intro u hu; simp at hu; subst hu; rfl) (by rw [gridTo_len]; unfold maxLen; omega) (by rw [gridTo_len]; omega) (by have := A.bel.size; simp at this ⊢; omega) ?_; intro v1' w1 own1 gr1 _ hat1; obtain ⟨b1, e1, rfl⟩ := own_slice own1; have m1 := A.mid (own_ne A.o1 A.blk no_int_sys) gr1; have c1 := blk_cell m1 1; have z1 := blk_free m1 1; have c2 := blk_cell m1 2; simp at c1 c2; have A2 := A.app1 own1 ⟨gr1, hat1, rfl⟩) | (at_builtin; refine wpList_append_own_at _ rfl (.tmp 47) (.tmp 49) 22 rfl X.heap.size 3 i0 (.int .i64 0) 1 8 Try.underlying22 hi0 hz0 hz1 hz2 rfl (by decide) (.slice a2 (gridTo (n + 2) f2 (a * (n + 2) + b)).length d2) _ _ rfl (A2.o2.alloc _) _ 1 1 [.int .i64 (min P ((n : Int) + 1))] rfl rfl (cell_one_at _ _ _ _ (by simp)) (by intro u hu; simp at hu; subst hu; rfl) (by rw [gridTo_len]; unfold maxLen; omega) (by rw [gridTo_len]; omega) (by have := A2.bel.size; simp at this ⊢; omega) ?_; intro v2' w2 own2 gr2 _ hat2; obtain ⟨b2, e2, rfl⟩ := own_slice own2; have m2 := A2.mid (own_ne A2.o2 A2.blk no_int_sys) gr2; have c2 := blk_cell m2 2; have z2 := blk_free m2 2; have c3 := blk_cell m2 3; simp at c2 c3; have A3 := A2.app2 own2 ⟨gr2, hat2, rfl⟩) | (at_builtin; refine wpList_append_own_at _ rfl (.tmp 53) (.tmp 70) 23 rfl X.heap.size 4 ib (.bool false) 1 1 Try.underlying23 hib hy0 hy1 hy2 rfl (by decide) (.slice a3 (gridTo (n + 2) f3 (a * (n + 2) + b)).length d3) _ _ rfl (A3.o3.alloc _) _ 1 1 [.bool true] rfl rfl (cell_one_at _ _ _ _ (by simp)) (by intro u hu; simp at hu; subst hu; rfl) (by rw [gridTo_len]; unfold maxLen; omega) (by rw [gridTo_len]; omega) (by have := A3.bel.size; simp at this ⊢; omega) ?_; intro v3' w3 own3 gr3 _ hat3; obtain ⟨b3, e3, rfl⟩ := own_slice own3; have m3 := A3.mid (own_ne A3.o3 A3.blk no_bool_sys) gr3; have c3 := blk_cell m3 3; have z3 := blk_free m3 3; simp at c3; have A4 := A3.app3 own3 ⟨gr3, hat3, rfl⟩))
            have HA := Lib.hid A4
            clear own1 own2 own3 gr1 gr2 gr3 hat1 hat2 hat3 A2 A3 A4 m1 m2 m3 wp1 wp2
            go_roundw
            case rel =>
              refine ⟨b + 1, by go_num, by omega, ?_⟩
              have e1 := F1.out a b
              have e2 := F2.out a b
              have e3 : f3 a b = true := by rw [F3.out a b hlt hlb]; rw [decide_eq_false E1.out, decide_eq_false E2.out, decide_eq_true hle]; rfl
              rw [HP.out] at e2
              have A5 := HA.out
              rw [← e1, ← e2, ← e3, gridTo_succ f1 hlb, gridTo_succ f2 hlb, gridTo_succ f3 hlb] at A5
              exact ⟨_, _, _, A5⟩
            case measure => simp [intOf]; omega
          · have g3 : ¬ (a : Int) ≤ (b : Int) := by omega
            go_wp2_with (first | (go_at_call 74; (with_reducible refine Calls.mono (l1Min_q _ _ _) ?_); rintro e w' ⟨rfl, rfl⟩) | (at_builtin; refine wpList_append_own_at _ rfl (.tmp 41) (.tmp 43) 22 rfl X.heap.size 3 i0 (.int .i64 0) 1 8 Try.underlying22 hi0 hz0 hz1 hz2 rfl (by decide) (.slice a1 (gridTo (n + 2) f1 (a * (n + 2) + b)).length d1) _ _ rfl (A.o1.alloc _) _ 1 1 [.int .i64 (min ((a : Int) + b) ((n : Int) + 1))] rfl rfl (cell_one_at _ _ _ _ (by simp)) (by intro u hu; simp at hu; subst hu; rfl) (by rw [gridTo_len]; unfold maxLen; omega) (by rw [gridTo_len]; omega) (by have := A.bel.size; simp at this ⊢; omega) ?_; intro v1' w1 own1 gr1 _ hat1; obtain ⟨b1, e1, rfl⟩ := own_slice own1; have m1 := A.mid (own_ne A.o1 A.blk no_int_sys) gr1; have c1 := blk_cell m1 1; have z1 := blk_free m1 1; have c2 := blk_cell m1 2; simp at c1 c2; have A2 := A.app1 own1 ⟨gr1, hat1, rfl⟩) | (at_builtin; refine wpList_append_own_at _ rfl (.tmp 47) (.tmp 49) 22 rfl X.heap.size 3 i0 (.int .i64 0) 1 8 Try.underlying22 hi0 hz0 hz1 hz2 rfl (by decide) (.slice a2 (gridTo (n + 2) f2 (a * (n + 2) + b)).length d2) _ _ rfl (A2.o2.alloc _) _ 1 1 [.int .i64 (min P ((n : Int) + 1))] rfl rfl (cell_one_at _ _ _ _ (by simp)) (by intro u hu; simp at hu; subst hu; rfl) (by rw [gridTo_len]; unfold maxLen; omega) (by rw [gridTo_len]; omega) (by have := A2.bel.size; simp at this ⊢; omega) ?_; intro v2' w2 own2 gr2 _ hat2; obtain ⟨b2, e2, rfl⟩ := own_slice own2; have m2 := A2.mid (own_ne A2.o2 A2.blk no_int_sys) gr2; have c2 := blk_cell m2 2; have z2 := blk_free m2 2; have c3 := blk_cell m2 3; simp at c2 c3; have A3 := A2.app2 own2 ⟨gr2, hat2, rfl⟩) | (at_builtin; refine wpList_append_own_at _ rfl (.tmp 53) (.tmp 70) 23 rfl X.heap.size 4 ib (.bool false) 1 1 Try.underlying23 hib hy0 hy1 hy2 rfl (by decide) (.slice a3 (gridTo (n + 2) f3 (a * (n + 2) + b)).length d3) _ _ rfl (A3.o3.alloc _) _ 1 1 [.bool false] rfl rfl (cell_one_at _ _ _ _ (by simp)) (by intro u hu; simp at hu; subst hu; rfl) (by rw [gridTo_len]; unfold maxLen; omega) (by rw [gridTo_len]; omega) (by have := A3.bel.size; simp at this ⊢; omega) ?_; intro v3' w3 own3 gr3 _ hat3; obtain ⟨b3, e3, rfl⟩ := own_slice own3; have m3 := A3.mid (own_ne A3.o3 A3.blk no_bool_sys) gr3; have c3 := blk_cell m3 3; have z3 := blk_free m3 3; simp at c3; have A4 := A3.app3 own3 ⟨gr3, hat3, rfl⟩))
            have HA := Lib.hid A4
            clear own1 own2 own3 gr1 gr2 gr3 hat1 hat2 hat3 A2 A3 A4 m1 m2 m3 wp1 wp2
            go_roundw
            case rel =>
              refine ⟨b + 1, by go_num, by omega, ?_⟩
              have e1 := F1.out a b
              have e2 := F2.out a b
              have e3 : f3 a b = false := by rw [F3.out a b hlt hlb]; rw [decide_eq_false E1.out, decide_eq_false E2.out, decide_eq_false hle]; rfl
              rw [HP.out] at e2
              have A5 := HA.out
              rw [← e1, ← e2, ← e3, gridTo_succ f1 hlb, gridTo_succ f2 hlb, gridTo_succ f3 hlb] at A5
              exact ⟨_, _, _, A5⟩
            case measure => simp [intOf]; omega
        · have hbe : b = n + 2 := by omega
          have hlb' : ¬ (b : Int) ≤ (n : Int) + 1 := by omega
          have HBE := Lib.hid hbe
          clear hbe
          go_wp2_with fail
          go_roundw
          case rel =>
            refine ⟨a + 1, by go_num, by omega, ?_⟩
            have e : (a + 1) * (n + 2) = a * (n + 2) + b := by rw [HBE.out, Nat.add_mul, Nat.one_mul]
            rw [e]
            exact ST2.out
          case measure => simp [intOf]; omega
    · have hae : a = n + 2 := by omega
      have hlt' : ¬ (a : Int) ≤ (n : Int) + 1 := by omega
      have HAE := Lib.hid hae
      clear hae
      obtain ⟨v1, v2, v3, A⟩ := ST.out
      obtain ⟨a1, d1, rfl⟩ := own_slice A.o1
      obtain ⟨a2, d2, rfl⟩ := own_slice A.o2
      obtain ⟨a3, d3, rfl⟩ := own_slice A.o3
      rw [HAE.out, gridTo_all, gridTo_all, gridTo_all] at A
      obtain ⟨c0, c1, c2, c3⟩ := A.cells
      obtain ⟨n0, n1, n2, n3⟩ : wr.cell? ⟨B, 0, none⟩ = some (.int .i64 0) ∧ wr.cell? ⟨B, 1, none⟩ = some (.slice none 0 0) ∧ wr.cell? ⟨B, 2, none⟩ = some (.slice none 0 0) ∧ wr.cell? ⟨B, 3, none⟩ = some (.slice none 0 0) := ⟨blk_cell A.res 0, blk_cell A.res 1, blk_cell A.res 2, blk_cell A.res 3⟩
      have p0 := blk_free A.res 0
      have p1 := blk_free A.res 1
      have p2 := blk_free A.res 2
      have p3 := blk_free A.res 3
      have HA := Lib.hid A
      clear A ST
      go_wp2
      clear c0 c1 c2 c3 n0 n1 n2 n3 p0 p1 p2 p3
      generalize hY1 : wr.setCell _ _ = Y1
      generalize hY2 : Y1.setCell _ _ = Y2
      generalize hY3 : Y2.setCell _ _ = Y3
      generalize hY4 : Y3.setCell _ _ = Y4
      have q5 := set_blk (set_blk (set_blk (set_blk HA.out.res 0 _ hY1) 1 _ hY2) 2 _ hY3) 3 _ hY4
      simp at q5
      have r0 := blk_cell q5 0
      have r1 := blk_cell q5 1
      have r2 := blk_cell q5 2
      have r3 := blk_cell q5 3
      simp at r0 r1 r2 r3
      have hsame : ∀ k, k ≠ B → Y4.heap[k]? = wr.heap[k]? := fun k hk => by
        rw [set_other hY4 hk, set_other hY3 hk, set_other hY2 hk, set_other hY1 hk]
      have belW : Below W.heap.size W wr := belx.trans (HA.out.bel.mono (by rw [HB.out]; exact hxW))
      have belD : Below W.heap.size W Y4 := by
        subst hY4; subst hY3; subst hY2; subst hY1
        exact ((((belW.setCell hxW _).setCell hxW _).setCell hxW _).setCell hxW _)
      have o1 := owns_of_block (w' := Y4) HA.out.o1 (fun g hg => hsame g (fun e => own_ne HA.out.o1 HA.out.res no_int_sys (by rw [← e]; exact hg)))
      have o2 := owns_of_block (w' := Y4) HA.out.o2 (fun g hg => hsame g (fun e => own_ne HA.out.o2 HA.out.res no_int_sys (by rw [← e]; exact hg)))
      have o3 := owns_of_block (w' := Y4) HA.out.o3 (fun g hg => hsame g (fun e => own_ne HA.out.o3 HA.out.res no_bool_sys (by rw [← e]; exact hg)))
      have s1 := own_row o1
      have s2 := own_row o2
      have s3 := own_row o3
      refine bodyPost_ret (v := (Ref.mk a1 a2 a3 d1 d2 d3).val ⟨(n + 2 : Nat), grid (n + 2) f1, grid (n + 2) f2, grid (n + 2) f3⟩) (by simp [Ref.val, results, Try.results54, go_sem, r0, r1, r2, r3]) rfl ?_
      refine ⟨⟨a1, a2, a3, d1, d2, d3⟩, ⟨Y4, belD⟩, rfl, rfl, fun p hp => by rcases hp with rfl | rfl | rfl; exact ⟨Nat.le_trans (by rw [HB.out]; exact hxW) (o1.lt _ rfl).1, own_plain o1⟩; exact ⟨Nat.le_trans (by rw [HB.out]; exact hxW) (o2.lt _ rfl).1, own_plain o2⟩; exact ⟨Nat.le_trans (by rw [HB.out]; exact hxW) (o3.lt _ rfl).1, own_plain o3⟩, s1, s2, s3, ?_, ?_, ?_⟩ <;>
      · have := Nat.mul_le_mul (show n + 2 ≤ 16 by omega) (show n + 2 ≤ 16 by omega)
        show (grid _ _).length ≤ _
        rw [grid_len]
        omega

end Go.Proofs.Yteffcfaoganciaa
