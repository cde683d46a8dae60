
/- The model's product of systems. -/
import Derived.Test.YtkokmpdmmfghhaaKProdR1
import Derived.Test.YtkokmpdmmfghhaaKProdR2
import Derived.Test.YtkokmpdmmfghhaaKProdR3
import Derived.Test.YtkokmpdmmfghhaaKProdR4
import Derived.LoopTactic
import Derived.Deep.Cut
import Derived.Deep.CutRange
import Derived.RegionTactic
import Derived.Deep.RegionHeld3
import Derived.Outline
namespace Go.Proofs.Ytkokmpdmmfghhaa
open Go.RowKit

set_option maxRecDepth 100000 in
set_option maxHeartbeats 8000000 in
theorem specProduct_in {W : World} {r r' : Ref} {A B : Sys} (h : SysIn W r A) (k : SysIn W r' B) (hp : HasProduct A B) (f1 f2 : Nat → Nat → Int) (f3 : Nat → Nat → Bool) (hf1 : f1 = pAddF A B) (hf2 : f2 = pMulF A B) (hf3 : f3 = pBothF A B) (x : Ext W) :
    Calls Try.prog 41 #[r.val A, r'.val B] x.w (NewSysB W ⟨((A.n * B.n).toNat : Nat), grid (A.n * B.n).toNat f1, grid (A.n * B.n).toNat f2, grid (A.n * B.n).toNat f3⟩ true) := by
  have ta := hp.1.tab
  have tb := hp.2.1.tab
  have hA2 := ta.lo
  have hA16 := ta.hi
  have hB2 := tb.lo
  have hB16 := tb.hi
  obtain ⟨hN16, hNN⟩ := prod_le hp
  have hN2 : 2 * B.n ≤ A.n * B.n := Int.mul_le_mul_of_nonneg_right hA2 (by omega)
  obtain ⟨N, hN⟩ : ∃ N : Nat, (A.n * B.n).toNat = N := ⟨_, rfl⟩
  rw [hN] at hN16 hNN ⊢
  have w1 : IntKind.i64.wrap (A.n * B.n) = (N : Int) := by rw [← hNN]; exact IntWalk.i64_in _ (by omega)
  have w2 : wrap64 (A.n * B.n) = (N : Int) := by rw [← IntWalk.i64_left]; exact w1
  have F1 : Hid (∀ a b, f1 a b = pAddF A B a b) := fun a b => by rw [hf1]
  have F2 : Hid (∀ a b, f2 a b = pMulF A B a b) := fun a b => by rw [hf2]
  have F3 : Hid (∀ a b, f3 a b = pBothF A B a b) := fun a b => by rw [hf3]
  clear hf1 hf2 hf3
  have HP := Lib.hid hp
  have HNN := Lib.hid hNN
  have HN := Lib.hid hN
  have HN2 := Lib.hid hN2
  clear hp hNN hN hN2
  obtain ⟨i0, hi0, hz0, hz1, hz2⟩ := info_parts info_int
  obtain ⟨ib, hib, hy0, hy1, hy2⟩ := info_parts info_bool
  unfold Ref.val
  go_enter Try.func41, Try.ntmps41
  go_upto_region 1 with fail
  have hxW := x.size
  generalize hWa : ((x.w.alloc _).alloc _).alloc _ = Wa
  generalize hB : x.w.heap.size = B0 at *
  obtain ⟨bA, bB, bR, sA, bel⟩ := blocks3 hB hWa
  have belA : Below W.heap.size W Wa := x.below.trans (bel.mono (by omega))
  clear hWa bel
  have h1 := h.ext ⟨Wa, belA⟩
  have k1 := k.ext ⟨Wa, belA⟩
  have c0 := blk_cell bA 0
  have c1 := blk_cell bA 1
  have c2 := blk_cell bA 2
  have c3 := blk_cell bA 3
  have e0 := blk_cell bB 0
  have e1 := blk_cell bB 1
  have e2 := blk_cell bB 2
  have e3 := blk_cell bB 3
  simp at c0 c1 c2 c3 e0 e1 e2 e3
  go_wp2_with fail
  (with_reducible refine Calls.mono (l1Product_ans h1 k1 true (by refine iff_tf ?_; dsimp only; exact HP.out) (Ext.self Wa)) ?_)
  rintro e w' ⟨rfl, y, rfl⟩
  clear c0 c1 c2 c3 e0 e1 e2 e3
  have bAy := y.blk bA
  have bBy := y.blk bB
  have bRy := y.blk bR
  have belY : Below W.heap.size W y.w := belA.trans (y.below.mono belA.size)
  have sY : B0 + 3 ≤ y.w.heap.size := by have := y.size; omega
  have hy' := h1.ext y
  have ky' := k1.ext y
  obtain ⟨Y, hY⟩ : ∃ Y : World, Y = y.w := ⟨_, rfl⟩
  rw [← hY] at bAy bBy bRy belY sY hy' ky' ⊢
  clear hY y bA bB bR belA h1 k1 sA
  have c0 := blk_cell bAy 0
  have e0 := blk_cell bBy 0
  simp at c0 e0
  go_upto_region 5 with fail
  generalize hWc : World.alloc _ _ = Wc
  have bC := new_blk hWc
  have belC : Below Y.heap.size Y Wc := by rw [← hWc]; exact (Below.refl _ _).alloc (Nat.le_refl _) _
  generalize hC : Y.heap.size = C at *
  have st0 : AccS Y Wc (B0 + 1 + 1) C (N : Int) (.slice none 0 0) (.slice none 0 0) (.slice none 0 0) [] [] [] :=
    ⟨bC, World.ownsRow_nil _ _ _ _, World.ownsRow_nil _ _ _ _, World.ownsRow_nil _ _ _ _, .inl rfl, by omega, by rw [hC]; exact belC, (Ext.mk Wc (by rw [hC]; exact belC)).blk bRy, by omega⟩
  have HBA := Lib.hid bAy
  have HBB := Lib.hid bBy
  have HC := Lib.hid hC
  clear hWc bC belC c0 e0 w1 w2 bAy bBy bRy hC
  go_wp2_with fail
  go_loopw [8] (fun i wr => ∃ a : Nat, i = .int .i64 a ∧ a ≤ N ∧ Hid (∃ v1 v2 v3, AccS Y wr (B0 + 1 + 1) C (N : Int) v1 v2 v3 (gridTo N f1 (a * N)) (gridTo N f2 (a * N)) (gridTo N f3 (a * N)))) (fun i _ => N - (intOf i).toNat)
  case atStart => exact ⟨0, rfl, by omega, by rw [Nat.zero_mul]; exact ⟨_, _, _, st0⟩⟩
  case round =>
    obtain ⟨a, rfl, ha, ST⟩ := hrel
    clear st0
    by_cases hlt : a < N
    · have hlt' : (a : Int) < (N : Int) := by omega
      have cC : wr.cell? ⟨C, 0, none⟩ = some (.int .i64 (N : Int)) := by obtain ⟨_, _, _, A⟩ := ST.out; exact A.cells.1
      go_wp2_with fail
      clear cC
      go_loopw [9] (fun i wr => ∃ b : Nat, i = .int .i64 b ∧ b ≤ N ∧ Hid (∃ v1 v2 v3, AccS Y wr (B0 + 1 + 1) C (N : Int) v1 v2 v3 (gridTo N f1 (a * N + b)) (gridTo N f2 (a * N + b)) (gridTo N f3 (a * N + b)))) (fun i _ => N - (intOf i).toNat)
      case atStart => exact ⟨0, rfl, by omega, by rw [Nat.add_zero]; exact ST.out⟩
      case round =>
        obtain ⟨b, rfl, hb, ST2⟩ := hrel
        by_cases hlb : b < N
        · have hlb' : (b : Int) < (N : Int) := by omega
          obtain ⟨v1, v2, v3, A1⟩ := ST2.out
          have cC : ∀ y : Ext wr, y.w.cell? ⟨C, 0, none⟩ = some (.int .i64 (N : Int)) := fun y => (A1.ext y).cells.1
          have hga : (0 : Int) ≤ a ∧ (a : Int) < 16 := by omega
          have hgb : (0 : Int) ≤ b ∧ (b : Int) < 16 := by omega
          obtain ⟨yy, hyy⟩ : ∃ y : Ext wr, y.w = wr := ⟨Ext.self wr, rfl⟩
          rw [← hyy]
          clear hyy
          go_upto_region 15 with (first | (go_at_call 114; (with_reducible refine Calls.mono (l1First_ans (W := wr) B.n a ⟨hB2, hB16⟩ hga yy) ?_); rintro e w' ⟨rfl, yy, rfl⟩) | (go_at_call 114; (with_reducible refine Calls.mono (l1First_ans (W := wr) B.n b ⟨hB2, hB16⟩ hgb yy) ?_); rintro e w' ⟨rfl, yy, rfl⟩) | (go_at_call 115; (with_reducible refine Calls.mono (l1Second_ans (W := wr) B.n a ⟨hB2, hB16⟩ hga yy) ?_); rintro e w' ⟨rfl, yy, rfl⟩) | (go_at_call 115; (with_reducible refine Calls.mono (l1Second_ans (W := wr) B.n b ⟨hB2, hB16⟩ hgb yy) ?_); rintro e w' ⟨rfl, yy, rfl⟩))
          have hx : G A (firstN B.n a) := firstN_in hA2 hB2 (by omega) (by rw [← HNN.out]; exact hlt')
          have hz : G A (firstN B.n b) := firstN_in hA2 hB2 (by omega) (by rw [← HNN.out]; exact hlb')
          have hy : G B (secondN B.n a) := secondN_in hB2
          have hw : G B (secondN B.n b) := secondN_in hB2
          have A2 := A1.ext yy
          have fe1 := F1.out a b
          have fe2 := F2.out a b
          have fe3 := F3.out a b
          unfold pAddF at fe1
          unfold pMulF at fe2
          unfold pBothF at fe3
          generalize firstN B.n a = fa at *
          generalize firstN B.n b = fb at *
          generalize secondN B.n a = sa at *
          generalize secondN B.n b = sb at *
          have HF := Lib.hid (⟨fe1, fe2, fe3⟩ : _ ∧ _ ∧ _)
          clear fe1 fe2 fe3 A1 cC hga hgb
          obtain ⟨wq, hwq⟩ : ∃ wq : World, wq = yy.w := ⟨_, rfl⟩
          rw [← hwq] at A2 ⊢
          clear hwq yy
          have hcap : a * N + b + 1 ≤ 999 := by have := Nat.mul_le_mul (show a ≤ 16 by omega) (show N ≤ 16 by omega); omega
          have hl1 : (gridTo N f1 (a * N + b)).length ≤ 998 := by rw [gridTo_len]; omega
          have hl2 : (gridTo N f2 (a * N + b)).length ≤ 998 := by rw [gridTo_len]; omega
          have hl3 : (gridTo N f3 (a * N + b)).length ≤ 999 := by rw [gridTo_len]; omega
          generalize hp1 : gridTo N f1 (a * N + b) = p1 at *
          generalize hp2 : gridTo N f2 (a * N + b) = p2 at *
          generalize hp3 : gridTo N f3 (a * N + b) = p3 at *
          have HPP := Lib.hid (⟨hp1, hp2, hp3⟩ : _ ∧ _ ∧ _)
          clear hp1 hp2 hp3
          have hmx1 : p1.length + 1 ≤ maxLen := by unfold maxLen; omega
          have hmx2 : p2.length + 1 ≤ maxLen := by unfold maxLen; omega
          have hmx3 : p3.length + 1 ≤ maxLen := by unfold maxLen; omega
          have hbx1 : (p1.length + 1) * 8 ≤ 140737488355328 := by omega
          have hbx2 : (p2.length + 1) * 8 ≤ 140737488355328 := by omega
          have hbx3 : (p3.length + 1) * 1 ≤ 140737488355328 := by omega
          refine prodReg1 (r := r) (r' := r') hy' ky' ta tb hx hz hy hw HBA HBB A2 (by omega) (by omega) (by omega) ?_
          intro u50 u51 u52 u53 u54 u55 u56 u57 u58 u59 u60 u61 u62 u63 u64 v' wc A3
          rw [HF.out.1.symm] at A3
          obtain ⟨q1, hq1⟩ : ∃ q, q = p1 ++ [f1 a b] := ⟨_, rfl⟩
          rw [← hq1] at A3
          have hlq1 : q1.length ≤ 999 := by rw [hq1]; simp; omega
          have HQ1 := Lib.hid hq1
          clear hq1 A2
          have A2 := A3
          clear A3
          go_upto_region 16 with fail
          refine prodReg2 (r := r) (r' := r') hy' ky' ta tb hx hz hy hw HBA HBB A2 hlq1 (by omega) (by omega) ?_
          intro u65 u66 u67 u68 u69 u70 u71 u72 u73 u74 u75 u76 u77 u78 u79 v'' wc2 A3
          rw [HF.out.2.1.symm] at A3
          obtain ⟨q2, hq2⟩ : ∃ q, q = p2 ++ [f2 a b] := ⟨_, rfl⟩
          rw [← hq2] at A3
          have hlq2 : q2.length ≤ 999 := by rw [hq2]; simp; omega
          have HQ2 := Lib.hid hq2
          clear hq2 A2
          have A2 := A3
          clear A3
          go_upto_region 17 with fail
          cases hle : A.le fa fb with
          | true =>
            have HLE := Lib.hid hle
            refine prodReg3 (r := r) (r' := r') hy' ky' ta tb hx hz hy hw hle HBA HBB A2 hlq1 hlq2 (by omega) ?_
            intro u80 u81 u82 u83 u84 u85 u86 u87 u88 u89 u90 u91 u92 u93 u94 v3' wc3 A3
            have e3 : f3 a b = B.le sa sb := by rw [HF.out.2.2, HLE.out]; rfl
            rw [← e3] at A3
            have HA := Lib.hid A3
            clear A3 A2 hle e3
            go_wp2_with fail
            go_roundw
            case rel =>
              refine ⟨b + 1, by go_num, by omega, ?_⟩
              have A5 := HA.out
              rw [HQ1.out, HQ2.out] at A5
              obtain ⟨h1, h2, h3⟩ := HPP.out
              rw [← h1, ← h2, ← h3, gridTo_succ f1 hlb, gridTo_succ f2 hlb, gridTo_succ f3 hlb] at A5
              exact ⟨_, _, _, A5⟩
            case measure => simp [intOf]; omega
          | false =>
            have HLE := Lib.hid hle
            refine prodReg4 (r := r) (r' := r') hy' ky' ta tb hx hz hy hw hle HBA HBB A2 hlq1 hlq2 (by omega) ?_
            intro u80 u81 u82 u83 u84 u85 u86 u87 u88 u89 u90 u91 u92 u93 u94 v3' wc3 A3
            have e3 : f3 a b = false := by rw [HF.out.2.2, HLE.out]; rfl
            rw [← e3] at A3
            have HA := Lib.hid A3
            clear A3 A2 hle e3
            go_wp2_with fail
            go_roundw
            case rel =>
              refine ⟨b + 1, by go_num, by omega, ?_⟩
              have A5 := HA.out
              rw [HQ1.out, HQ2.out] at A5
              obtain ⟨h1, h2, h3⟩ := HPP.out
              rw [← h1, ← h2, ← h3, gridTo_succ f1 hlb, gridTo_succ f2 hlb, gridTo_succ f3 hlb] at A5
              exact ⟨_, _, _, A5⟩
            case measure => simp [intOf]; omega
        · have hbe : b = N := by omega
          have hlb' : ¬ (b : Int) < (N : Int) := by omega
          have cC : wr.cell? ⟨C, 0, none⟩ = some (.int .i64 (N : Int)) := by obtain ⟨_, _, _, A⟩ := ST2.out; exact A.cells.1
          have HBE := Lib.hid hbe
          clear hbe
          go_wp2_with fail
          go_roundw
          case rel =>
            refine ⟨a + 1, by go_num, by omega, ?_⟩
            have e : (a + 1) * N = a * N + b := by rw [HBE.out, Nat.add_mul, Nat.one_mul]
            rw [e]
            exact ST2.out
          case measure => simp [intOf]; omega
    · have hae : a = N := by omega
      have hlt' : ¬ (a : Int) < (N : Int) := by omega
      have HAE := Lib.hid hae
      clear hae
      obtain ⟨v1, v2, v3, A1⟩ := ST.out
      obtain ⟨a1, d1, rfl⟩ := own_slice A1.o1
      obtain ⟨a2, d2, rfl⟩ := own_slice A1.o2
      obtain ⟨a3, d3, rfl⟩ := own_slice A1.o3
      rw [HAE.out, gridTo_all, gridTo_all, gridTo_all] at A1
      obtain ⟨c0, c1, c2, c3⟩ := A1.cells
      obtain ⟨n0, n1, n2, n3⟩ : wr.cell? ⟨B0 + 1 + 1, 0, none⟩ = some (.int .i64 0) ∧ wr.cell? ⟨B0 + 1 + 1, 1, none⟩ = some (.slice none 0 0) ∧ wr.cell? ⟨B0 + 1 + 1, 2, none⟩ = some (.slice none 0 0) ∧ wr.cell? ⟨B0 + 1 + 1, 3, none⟩ = some (.slice none 0 0) := ⟨blk_cell A1.res 0, blk_cell A1.res 1, blk_cell A1.res 2, blk_cell A1.res 3⟩
      have p0 := blk_free A1.res 0
      have p1 := blk_free A1.res 1
      have p2 := blk_free A1.res 2
      have p3 := blk_free A1.res 3
      have HA := Lib.hid A1
      clear A1 ST
      go_wp2
      clear c0 c1 c2 c3 n0 n1 n2 n3 p0 p1 p2 p3
      generalize hY4 : World.setCell _ _ _ = Y4
      obtain ⟨belD, hsame, hgr, r0, r1, r2, r3⟩ := ret4 (W := W) (belY.trans (HA.out.bel.mono belY.size)) (by omega) HA.out.res hY4
      have o1 := owns_of_block (w' := Y4) HA.out.o1 (fun g hg => hsame g (fun e => own_ne HA.out.o1 HA.out.res no_int_sys (by rw [← e]; exact hg)))
      have o2 := owns_of_block (w' := Y4) HA.out.o2 (fun g hg => hsame g (fun e => own_ne HA.out.o2 HA.out.res no_int_sys (by rw [← e]; exact hg)))
      have o3 := owns_of_block (w' := Y4) HA.out.o3 (fun g hg => hsame g (fun e => own_ne HA.out.o3 HA.out.res no_bool_sys (by rw [← e]; exact hg)))
      have s1 := own_row o1
      have s2 := own_row o2
      have s3 := own_row o3
      have hYW := belY.size
      refine bodyPost_ret (v := .tuple #[(Ref.mk a1 a2 a3 d1 d2 d3).val ⟨(N : Nat), grid N f1, grid N f2, grid N f3⟩, .bool true]) (by simp [Ref.val, results, Try.results41, go_sem, r0, r1, r2, r3]) rfl ?_
      refine ⟨⟨a1, a2, a3, d1, d2, d3⟩, ⟨Y4, belD⟩, rfl, rfl, fun p hp => by rcases hp with rfl | rfl | rfl; exact ⟨Nat.le_trans hYW (o1.lt _ rfl).1, own_plain o1⟩; exact ⟨Nat.le_trans hYW (o2.lt _ rfl).1, own_plain o2⟩; exact ⟨Nat.le_trans hYW (o3.lt _ rfl).1, own_plain o3⟩, s1, s2, s3, ?_, ?_, ?_⟩ <;>
      · have := Nat.mul_le_mul hN16 hN16
        show (grid _ _).length ≤ _
        rw [grid_len]
        omega

set_option maxHeartbeats 4000000 in
theorem specProduct_out {W : World} {r r' : Ref} {A B : Sys} (h : SysIn W r A) (k : SysIn W r' B) (hp : ¬ HasProduct A B) (x : Ext W) :
    Calls Try.prog 41 #[r.val A, r'.val B] x.w (NewSysB W ⟨0, [], [], []⟩ false) := by
  have HP := Lib.hid hp
  clear hp
  unfold Ref.val
  go_enter Try.func41, Try.ntmps41
  go_upto_region 1 with fail
  have hxW := x.size
  generalize hWa : ((x.w.alloc _).alloc _).alloc _ = Wa
  generalize hB : x.w.heap.size = B0 at *
  obtain ⟨bA, bB, bR, sA, bel⟩ := blocks3 hB hWa
  have belA : Below W.heap.size W Wa := x.below.trans (bel.mono (by omega))
  clear hWa bel
  have h1 := h.ext ⟨Wa, belA⟩
  have k1 := k.ext ⟨Wa, belA⟩
  have c0 := blk_cell bA 0
  have c1 := blk_cell bA 1
  have c2 := blk_cell bA 2
  have c3 := blk_cell bA 3
  have e0 := blk_cell bB 0
  have e1 := blk_cell bB 1
  have e2 := blk_cell bB 2
  have e3 := blk_cell bB 3
  simp at c0 c1 c2 c3 e0 e1 e2 e3
  go_wp2_with fail
  (with_reducible refine Calls.mono (l1Product_ans h1 k1 false (by refine iff_tf ?_; dsimp only; exact HP.out) (Ext.self Wa)) ?_)
  rintro e w' ⟨rfl, y, rfl⟩
  clear c0 c1 c2 c3 e0 e1 e2 e3
  have bRy := y.blk bR
  have belY : Below W.heap.size W y.w := belA.trans (y.below.mono belA.size)
  have n0 := blk_cell bRy 0
  have n1 := blk_cell bRy 1
  have n2 := blk_cell bRy 2
  have n3 := blk_cell bRy 3
  have p0 := blk_free bRy 0
  have p1 := blk_free bRy 1
  have p2 := blk_free bRy 2
  have p3 := blk_free bRy 3
  simp at n0 n1 n2 n3
  go_wp2
  clear n0 n1 n2 n3 p0 p1 p2 p3
  generalize hY4 : World.setCell _ _ _ = Y4
  obtain ⟨belD, hsame, hgr, r0, r1, r2, r3⟩ := ret4 (W := W) belY (by omega) bRy hY4
  refine bodyPost_ret (v := .tuple #[(Ref.mk none none none 0 0 0).val ⟨0, [], [], []⟩, .bool false]) (by simp [Ref.val, results, Try.results41, go_sem, r0, r1, r2, r3]) rfl ?_
  exact ⟨⟨none, none, none, 0, 0, 0⟩, ⟨Y4, belD⟩, rfl, rfl, (fun p hp => by rcases hp with h | h | h <;> cases h), .inl rfl, .inl rfl, .inl rfl, by simp, by simp, by simp⟩

theorem specProduct_ans {W : World} {r r' : Ref} {A B : Sys} (h : SysIn W r A) (k : SysIn W r' B) (s : Sys) (b : Bool) (hs : ProdV A B s b) (x : Ext W) :
    Calls Try.prog 41 #[r.val A, r'.val B] x.w (NewSysB W s b) := by
  rcases hs with ⟨hp, rfl, rfl⟩ | ⟨hp, rfl, rfl⟩
  · exact specProduct_in h k hp _ _ _ rfl rfl rfl x
  · exact specProduct_out h k hp x

end Go.Proofs.Ytkokmpdmmfghhaa
