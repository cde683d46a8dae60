
/- The model's systems of levels. -/
import Derived.Test.YtkokmpdmmfghhaaKNumModel
import Derived.Test.YtkokmpdmmfghhaaHA
import Derived.Test.YtkokmpdmmfghhaaKLevelClo
namespace Go.Proofs.Ytkokmpdmmfghhaa
open Go.RowKit

theorem rem_place {n p : Int} (h0 : 0 ≤ p) (h1 : p ≤ n) : (n + 1 - p) % (n + 1) = placeL n p ∧ (n + 1 - p).tmod (n + 1) = placeL n p := by
  have e : (n + 1 - p) % (n + 1) = placeL n p := by
    unfold placeL
    by_cases h : p = 0
    · rw [if_pos h, h, Int.sub_zero, Int.emod_self]
    · rw [if_neg h, Int.emod_eq_of_lt (by omega) (by omega)]
  exact ⟨e, by rw [Int.tmod_eq_emod_of_nonneg (by omega)]; exact e⟩
def highF (n : Int) (a b : Nat) : Int := placeL n (max (placeL n a) (placeL n b))
def lowF (n : Int) (a b : Nat) : Int := placeL n (min (placeL n a) (placeL n b))
def leF (n : Int) (a b : Nat) : Bool := decide (placeL n a ≤ placeL n b)
/-- What LevelSystem answers. -/
def LevS (n : Int) (s : Sys) : Prop := (∃ m : Nat, n = m ∧ 1 ≤ m ∧ m ≤ 15 ∧ s = ⟨(m + 1 : Nat), grid (m + 1) (highF n), grid (m + 1) (lowF n), grid (m + 1) (leF n)⟩) ∨ ((n < 1 ∨ 15 < n) ∧ s = ⟨0, [], [], []⟩)
theorem levS_ex (n : Int) : ∃ s, LevS n s := by
  by_cases h : 1 ≤ n ∧ n ≤ 15
  · exact ⟨_, .inl ⟨n.toNat, by omega, by omega, by omega, rfl⟩⟩
  · exact ⟨_, .inr ⟨by omega, rfl⟩⟩
theorem levS_small {n : Int} {s : Sys} (h : LevS n s) : s.plus.length ≤ 256 ∧ s.times.length ≤ 256 ∧ s.below.length ≤ 256 := by
  rcases h with ⟨m, rfl, h1, h2, rfl⟩ | ⟨_, rfl⟩
  · have := Nat.mul_le_mul (show m + 1 ≤ 16 by omega) (show m + 1 ≤ 16 by omega)
    simp only [grid_len]
    omega
  · simp
theorem l1Max_q (a b : Int) (w : World) : Calls Try.prog 135 #[.int .i64 a, .int .i64 b] w (fun e w' => e = .returned (.int .i64 (max a b)) ∧ w = w') := by
  by_cases h : b < a
  · rw [Int.max_eq_left (by omega)]
    go_enter Try.func135, Try.ntmps135
    go_wp2
    go_ret
    exact ⟨rfl, rfl⟩
  · rw [Int.max_eq_right (by omega)]
    have h' : ¬ b < a := h
    go_enter Try.func135, Try.ntmps135
    go_wp2
    go_ret
    exact ⟨rfl, rfl⟩

set_option maxRecDepth 100000 in
set_option maxHeartbeats 8000000 in
theorem specLevel_in {W : World} (n : Nat) (h1 : 1 ≤ n) (h15 : n ≤ 15) (f1 f2 : Nat → Nat → Int) (f3 : Nat → Nat → Bool) (hf1 : f1 = highF n) (hf2 : f2 = lowF n) (hf3 : f3 = leF n) (x : Ext W) :
    Calls Try.prog 86 #[.int .i64 n] x.w (NewSysA W ⟨(n + 1 : Nat), grid (n + 1) f1, grid (n + 1) f2, grid (n + 1) f3⟩) := by
  have F1 : Hid (∀ a b, f1 a b = placeL n (max (placeL n (a : Nat)) (placeL n (b : Nat)))) := fun a b => by rw [hf1]; rfl
  have F2 : Hid (∀ a b, f2 a b = placeL n (min (placeL n (a : Nat)) (placeL n (b : Nat)))) := fun a b => by rw [hf2]; rfl
  have F3 : Hid (∀ a b, f3 a b = decide (placeL n (a : Nat) ≤ placeL n (b : Nat))) := fun a b => by rw [hf3]; rfl
  clear hf1 hf2 hf3
  obtain ⟨i0, hi0, hz0, hz1, hz2⟩ := info_parts info_int
  obtain ⟨ib, hib, hy0, hy1, hy2⟩ := info_parts info_bool
  go_enter Try.func86, Try.ntmps86
  go_wp2_with ((go_at_call 91; (with_reducible refine Calls.mono (l1In_q (n : Int) 1 15 true (by rw [decide_eq_true]; omega) _) ?_); rintro e w' ⟨rfl, rfl⟩))
  have hxW := x.size
  have belx := x.below
  generalize hWa : (x.w.alloc _).alloc _ = Wa
  generalize x.w = X at *
  generalize hB : X.heap.size = B at *
  obtain ⟨bR, bC, sA, bel⟩ := blocks2 hB hWa
  have st0 : AccS X Wa B (B + 1) ((n : Int) + 1) (.slice none 0 0) (.slice none 0 0) (.slice none 0 0) [] [] [] :=
    ⟨bC, World.ownsRow_nil _ _ _ _, World.ownsRow_nil _ _ _ _, World.ownsRow_nil _ _ _ _, .inl rfl, by omega, by rw [hB]; rw [hB] at bel; exact bel, bR, by omega⟩
  clear hWa bR bC sA bel
  have HB := Lib.hid hB
  clear hB
  go_loopw [4] (fun i wr => ∃ a : Nat, i = .int .i64 a ∧ a ≤ n + 1 ∧ Hid (∃ v1 v2 v3, AccS X wr B (B + 1) ((n : Int) + 1) v1 v2 v3 (gridTo (n + 1) f1 (a * (n + 1))) (gridTo (n + 1) f2 (a * (n + 1))) (gridTo (n + 1) f3 (a * (n + 1))))) (fun i _ => n + 1 - (intOf i).toNat)
  case atStart => exact ⟨0, rfl, by omega, by rw [Nat.zero_mul]; exact ⟨_, _, _, st0⟩⟩
  case round =>
    obtain ⟨a, rfl, ha, ST⟩ := hrel
    clear st0
    by_cases hlt : a < n + 1
    · have hlt' : (a : Int) ≤ (n : Int) := by omega
      go_wp2_with fail
      go_loopw [5] (fun i wr => ∃ b : Nat, i = .int .i64 b ∧ b ≤ n + 1 ∧ Hid (∃ v1 v2 v3, AccS X wr B (B + 1) ((n : Int) + 1) v1 v2 v3 (gridTo (n + 1) f1 (a * (n + 1) + b)) (gridTo (n + 1) f2 (a * (n + 1) + b)) (gridTo (n + 1) f3 (a * (n + 1) + b)))) (fun i _ => n + 1 - (intOf i).toNat)
      case atStart => exact ⟨0, rfl, by omega, by rw [Nat.add_zero]; exact ST.out⟩
      case round =>
        obtain ⟨b, rfl, hb, ST2⟩ := hrel
        by_cases hlb : b < n + 1
        · have hlb' : (b : Int) ≤ (n : Int) := by omega
          obtain ⟨v1, v2, v3, A⟩ := ST2.out
          obtain ⟨a1, d1, rfl⟩ := own_slice A.o1
          obtain ⟨a2, d2, rfl⟩ := own_slice A.o2
          obtain ⟨a3, d3, rfl⟩ := own_slice A.o3
          obtain ⟨c0, c1, c2, c3⟩ := A.cells
          have hcap : a * (n + 1) + b ≤ 1000 := by have := Nat.mul_le_mul (show a ≤ 16 by omega) (show n + 1 ≤ 16 by omega); omega
          have f1e := F1.out a b
          have f2e := F2.out a b
          have f3e := F3.out a b
          obtain ⟨ra1, ra2⟩ := rem_place (n := n) (p := a) (by omega) hlt'
          obtain ⟨rb1, rb2⟩ := rem_place (n := n) (p := b) (by omega) hlb'
          have pai := placeL_in (n := n) (p := a) (by omega) hlt'
          have pbi := placeL_in (n := n) (p := b) (by omega) hlb'
          generalize placeL n a = pa at *
          generalize placeL n b = pb at *
          obtain ⟨rc1, rc2⟩ := rem_place (n := n) (p := max pa pb) (by omega) (by omega)
          obtain ⟨rd1, rd2⟩ := rem_place (n := n) (p := min pa pb) (by omega) (by omega)
          have hii := placeL_in (n := n) (p := max pa pb) (by omega) (by omega)
          have loi := placeL_in (n := n) (p := min pa pb) (by omega) (by omega)
          have mxb : 0 ≤ max pa pb ∧ max pa pb ≤ n := by omega
          have mnb : 0 ≤ min pa pb ∧ min pa pb ≤ n := by omega
          generalize placeL n (max pa pb) = hi at *
          generalize placeL n (min pa pb) = lo at *
          have HF := Lib.hid (⟨f1e, f2e, f3e⟩ : _ ∧ _ ∧ _)
          clear f1e f2e f3e
          obtain ⟨mx1, mx2⟩ := mxb
          obtain ⟨mn1, mn2⟩ := mnb
          obtain ⟨pa1, pa2⟩ := pai
          obtain ⟨pb1, pb2⟩ := pbi
          obtain ⟨hi1, hi2⟩ := hii
          obtain ⟨lo1, lo2⟩ := loi
          go_wp2_with (first | (go_at_call 135; (with_reducible refine Calls.mono (l1Max_q _ _ _) ?_); rintro e w' ⟨rfl, rfl⟩) | (go_at_call 85; (with_reducible refine Calls.mono (l1Min_q _ _ _) ?_); rintro e w' ⟨rfl, rfl⟩) | (at_builtin; refine wpList_append_own_at _ rfl (.tmp 60) (.tmp 62) 24 rfl X.heap.size 3 i0 (.int .i64 0) 1 8 Try.underlying24 hi0 hz0 hz1 hz2 rfl (by decide) (.slice a1 (gridTo (n + 1) f1 (a * (n + 1) + b)).length d1) _ _ rfl (A.o1.alloc _) _ 1 1 [.int .i64 hi] rfl rfl (cell_one_at _ _ _ _ (by simp)) (by intro u hu; simp at hu; subst hu; rfl) (by rw [gridTo_len]; unfold maxLen; omega) (by rw [gridTo_len]; omega) (by have := A.bel.size; simp at this ⊢; omega) ?_; intro v1' w1 own1 gr1 _ hat1; obtain ⟨b1, e1, rfl⟩ := own_slice own1; have m1 := A.mid (own_ne A.o1 A.blk no_int_sys) gr1; have c1 := blk_cell m1 1; have z1 := blk_free m1 1; have c2 := blk_cell m1 2; simp at c1 c2; have A2 := A.app1 own1 ⟨gr1, hat1, rfl⟩) | (at_builtin; refine wpList_append_own_at _ rfl (.tmp 66) (.tmp 68) 24 rfl X.heap.size 3 i0 (.int .i64 0) 1 8 Try.underlying24 hi0 hz0 hz1 hz2 rfl (by decide) (.slice a2 (gridTo (n + 1) f2 (a * (n + 1) + b)).length d2) _ _ rfl (A2.o2.alloc _) _ 1 1 [.int .i64 lo] rfl rfl (cell_one_at _ _ _ _ (by simp)) (by intro u hu; simp at hu; subst hu; rfl) (by rw [gridTo_len]; unfold maxLen; omega) (by rw [gridTo_len]; omega) (by have := A2.bel.size; simp at this ⊢; omega) ?_; intro v2' w2 own2 gr2 _ hat2; obtain ⟨b2, e2, rfl⟩ := own_slice own2; have m2 := A2.mid (own_ne A2.o2 A2.blk no_int_sys) gr2; have c2 := blk_cell m2 2; have z2 := blk_free m2 2; have c3 := blk_cell m2 3; simp at c2 c3; have A3 := A2.app2 own2 ⟨gr2, hat2, rfl⟩) | (at_builtin; refine wpList_append_own_at _ rfl (.tmp 72) (.tmp 76) 25 rfl X.heap.size 4 ib (.bool false) 1 1 Try.underlying25 hib hy0 hy1 hy2 rfl (by decide) (.slice a3 (gridTo (n + 1) f3 (a * (n + 1) + b)).length d3) _ _ rfl (A3.o3.alloc _) _ 1 1 [.bool (decide (pa ≤ pb))] rfl rfl (cell_one_at _ _ _ _ (by simp)) (by intro u hu; simp at hu; subst hu; rfl) (by rw [gridTo_len]; unfold maxLen; omega) (by rw [gridTo_len]; omega) (by have := A3.bel.size; simp at this ⊢; omega) ?_; intro v3' w3 own3 gr3 _ hat3; obtain ⟨b3, e3, rfl⟩ := own_slice own3; have m3 := A3.mid (own_ne A3.o3 A3.blk no_bool_sys) gr3; have c3 := blk_cell m3 3; have z3 := blk_free m3 3; simp at c3; have A4 := A3.app3 own3 ⟨gr3, hat3, rfl⟩))
          have HA := Lib.hid A4
          clear own1 own2 own3 gr1 gr2 gr3 hat1 hat2 hat3 A2 A3 A4 m1 m2 m3 ra1 ra2 rb1 rb2 rc1 rc2 rd1 rd2
          go_roundw
          case rel =>
            refine ⟨b + 1, by go_num, by omega, ?_⟩
            obtain ⟨e1, e2, e3⟩ := HF.out
            have A5 := HA.out
            rw [← e1, ← e2, ← e3, gridTo_succ f1 hlb, gridTo_succ f2 hlb, gridTo_succ f3 hlb] at A5
            exact ⟨_, _, _, A5⟩
          case measure => simp [intOf]; omega
        · have hbe : b = n + 1 := by omega
          have hlb' : ¬ (b : Int) ≤ (n : Int) := by omega
          have HBE := Lib.hid hbe
          clear hbe
          go_wp2_with fail
          go_roundw
          case rel =>
            refine ⟨a + 1, by go_num, by omega, ?_⟩
            have e : (a + 1) * (n + 1) = a * (n + 1) + b := by rw [HBE.out, Nat.add_mul, Nat.one_mul]
            rw [e]
            exact ST2.out
          case measure => simp [intOf]; omega
    · have hae : a = n + 1 := by omega
      have hlt' : ¬ (a : Int) ≤ (n : Int) := by omega
      have HAE := Lib.hid hae
      clear hae
      obtain ⟨v1, v2, v3, A⟩ := ST.out
      obtain ⟨a1, d1, rfl⟩ := own_slice A.o1
      obtain ⟨a2, d2, rfl⟩ := own_slice A.o2
      obtain ⟨a3, d3, rfl⟩ := own_slice A.o3
      rw [HAE.out, gridTo_all, gridTo_all, gridTo_all] at A
      obtain ⟨c0, c1, c2, c3⟩ := A.cells
      obtain ⟨n0, n1, n2, n3⟩ : wr.cell? ⟨B, 0, none⟩ = some (.int .i64 0) ∧ wr.cell? ⟨B, 1, none⟩ = some (.slice none 0 0) ∧ wr.cell? ⟨B, 2, none⟩ = some (.slice none 0 0) ∧ wr.cell? ⟨B, 3, none⟩ = some (.slice none 0 0) := ⟨blk_cell A.res 0, blk_cell A.res 1, blk_cell A.res 2, blk_cell A.res 3⟩
      have p0 := blk_free A.res 0
      have p1 := blk_free A.res 1
      have p2 := blk_free A.res 2
      have p3 := blk_free A.res 3
      have HA := Lib.hid A
      clear A ST
      go_wp2
      clear c0 c1 c2 c3 n0 n1 n2 n3 p0 p1 p2 p3
      generalize hY1 : wr.setCell _ _ = Y1
      generalize hY2 : Y1.setCell _ _ = Y2
      generalize hY3 : Y2.setCell _ _ = Y3
      generalize hY4 : Y3.setCell _ _ = Y4
      have q5 := set_blk (set_blk (set_blk (set_blk HA.out.res 0 _ hY1) 1 _ hY2) 2 _ hY3) 3 _ hY4
      simp at q5
      have r0 := blk_cell q5 0
      have r1 := blk_cell q5 1
      have r2 := blk_cell q5 2
      have r3 := blk_cell q5 3
      simp at r0 r1 r2 r3
      have hsame : ∀ k, k ≠ B → Y4.heap[k]? = wr.heap[k]? := fun k hk => by
        rw [set_other hY4 hk, set_other hY3 hk, set_other hY2 hk, set_other hY1 hk]
      have belW : Below W.heap.size W wr := belx.trans (HA.out.bel.mono (by rw [HB.out]; exact hxW))
      have belD : Below W.heap.size W Y4 := by
        subst hY4; subst hY3; subst hY2; subst hY1
        exact ((((belW.setCell hxW _).setCell hxW _).setCell hxW _).setCell hxW _)
      have o1 := owns_of_block (w' := Y4) HA.out.o1 (fun g hg => hsame g (fun e => own_ne HA.out.o1 HA.out.res no_int_sys (by rw [← e]; exact hg)))
      have o2 := owns_of_block (w' := Y4) HA.out.o2 (fun g hg => hsame g (fun e => own_ne HA.out.o2 HA.out.res no_int_sys (by rw [← e]; exact hg)))
      have o3 := owns_of_block (w' := Y4) HA.out.o3 (fun g hg => hsame g (fun e => own_ne HA.out.o3 HA.out.res no_bool_sys (by rw [← e]; exact hg)))
      have s1 := own_row o1
      have s2 := own_row o2
      have s3 := own_row o3
      refine bodyPost_ret (v := (Ref.mk a1 a2 a3 d1 d2 d3).val ⟨(n + 1 : Nat), grid (n + 1) f1, grid (n + 1) f2, grid (n + 1) f3⟩) (by simp [Ref.val, results, Try.results86, go_sem, r0, r1, r2, r3]) rfl ?_
      refine ⟨⟨a1, a2, a3, d1, d2, d3⟩, ⟨Y4, belD⟩, rfl, rfl, fun p hp => by rcases hp with rfl | rfl | rfl; exact ⟨Nat.le_trans (by rw [HB.out]; exact hxW) (o1.lt _ rfl).1, own_plain o1⟩; exact ⟨Nat.le_trans (by rw [HB.out]; exact hxW) (o2.lt _ rfl).1, own_plain o2⟩; exact ⟨Nat.le_trans (by rw [HB.out]; exact hxW) (o3.lt _ rfl).1, own_plain o3⟩, s1, s2, s3, ?_, ?_, ?_⟩ <;>
      · have := Nat.mul_le_mul (show n + 1 ≤ 16 by omega) (show n + 1 ≤ 16 by omega)
        show (grid _ _).length ≤ _
        rw [grid_len]
        omega

end Go.Proofs.Ytkokmpdmmfghhaa
