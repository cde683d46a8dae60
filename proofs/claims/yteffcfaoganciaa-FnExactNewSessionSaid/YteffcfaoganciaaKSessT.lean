
/- The laws' comparison and marks of sessions as they are made. -/
import Derived.Test.YteffcfaoganciaaKSess
import Derived.Test.YteffcfaoganciaaGI
set_option linter.unusedVariables false
set_option linter.unusedSimpArgs false
namespace Go.Proofs.Yteffcfaoganciaa
open Go.RowKit

/-- The term of a new session. -/
def num0 : Tm := .mk 1 0 [] []
def num0V : TV := ⟨none, 0, none, 0⟩
theorem num0_in (w : World) : TmIn w 0 num0 num0V := .mk num0 num0V (fun _ => num0V) (.inl rfl) (fun p h => by cases h) (by simp [num0, Tm.ty]) (by simp [num0, Tm.kids]) (.inl rfl) (fun i k h => by simp [num0, Tm.kids] at h)
theorem num0_own (w : World) : TmOwn w num0 num0V (fun _ => False) := .mk num0 num0V (fun _ => num0V) [] (fun _ _ => False) _ (World.ownsRow_nil _ _ _ _) (World.ownsRow_nil _ _ _ _) (fun i k h => by simp [num0, Tm.kids] at h) (fun i k h => by simp [num0, Tm.kids] at h)
  (fun _ _ _ h => by simp [num0, Tm.kids] at h) (fun _ _ h => by simp [num0, Tm.kids] at h) (fun g h => by simp [num0V, ob] at h) (fun g => by simp [num0V, ob, num0, Tm.kids])
theorem num0_mkd (m : Int) : num0.mkd m = num0 := by rw [Tm.mkd_eq]; simp [num0, Tm.op, Tm.n, Tm.ty, Tm.kids, Tm.mkdL, Tm.upto]
theorem nil_in (w : World) : LsIn w none [] (fun _ => (none, 0)) := ⟨.inl rfl, fun i l h => by simp at h, fun i l h => by simp at h, by simp⟩
theorem nil_own (w : World) : LsOwn w none 0 [] (fun _ => (none, 0)) (fun _ => False) := ⟨World.ownsRow_nil _ _ _ _, fun i l h => by simp at h, fun i j g h => by simp at h, fun i g h => by simp at h, fun g => by simp [ob]⟩
theorem sysIn_back {W : World} {r : Ref} {s : Sys} (h : SysIn W r s) (y : Ext W) : SysIn y.w r s := h.ext y

theorem only_none {w w' : World} (h : Only w w' (fun _ => False)) : Below w.heap.size w w' := h.below (fun _ q => q.elim) (Nat.le_refl _)
set_option maxHeartbeats 4000000 in
theorem eqSession_ans {W : World} {r r' : Ref} {s : Sys} (h : SysIn W r s) (k : SysIn W r' s) (sm : Small s) (x : Ext W) : Calls Try.prog 15 #[sessV s r, sessV s r'] x.w (Ans W (.bool true)) := by
  unfold sessV
  go_enter Try.func15, Try.ntmps15
  go_wp2_with fail
  have hxW := x.size
  generalize hWb : (x.w.alloc _).alloc _ = Wb
  generalize hB : x.w.heap.size = B at *
  obtain ⟨b0, b1, sB, bel⟩ := blocks2 hB hWb
  have belW : Below W.heap.size W Wb := x.below.trans (bel.mono (by omega))
  clear hWb bel
  have h1 : SysIn Wb r s := h.ext ⟨Wb, belW⟩
  have k1 : SysIn Wb r' s := k.ext ⟨Wb, belW⟩
  have c0 : ∀ y : Ext Wb, y.w.cell? ⟨B, 0, none⟩ = some (.int .i64 s.n) := fun y => blk_cell (y.blk b0) 0
  have c1 : ∀ y : Ext Wb, y.w.cell? ⟨B, 1, none⟩ = some (.slice r.pa s.plus.length r.pc) := fun y => blk_cell (y.blk b0) 1
  have c2 : ∀ y : Ext Wb, y.w.cell? ⟨B, 2, none⟩ = some (.slice r.ta s.times.length r.tc) := fun y => blk_cell (y.blk b0) 2
  have c3 : ∀ y : Ext Wb, y.w.cell? ⟨B, 3, none⟩ = some (.slice r.ba s.below.length r.bc) := fun y => blk_cell (y.blk b0) 3
  have c4 : ∀ y : Ext Wb, y.w.cell? ⟨B, 4, none⟩ = some (.slice none 0 0) := fun y => blk_cell (y.blk b0) 4
  have c5 : ∀ y : Ext Wb, y.w.cell? ⟨B, 5, none⟩ = some (.int .i64 1) := fun y => blk_cell (y.blk b0) 5
  have c6 : ∀ y : Ext Wb, y.w.cell? ⟨B, 6, none⟩ = some (.int .i64 0) := fun y => blk_cell (y.blk b0) 6
  have c7 : ∀ y : Ext Wb, y.w.cell? ⟨B, 7, none⟩ = some (.slice none 0 0) := fun y => blk_cell (y.blk b0) 7
  have c8 : ∀ y : Ext Wb, y.w.cell? ⟨B, 8, none⟩ = some (.slice none 0 0) := fun y => blk_cell (y.blk b0) 8
  have d0 : ∀ y : Ext Wb, y.w.cell? ⟨B + 1, 0, none⟩ = some (.int .i64 s.n) := fun y => blk_cell (y.blk b1) 0
  have d1 : ∀ y : Ext Wb, y.w.cell? ⟨B + 1, 1, none⟩ = some (.slice r'.pa s.plus.length r'.pc) := fun y => blk_cell (y.blk b1) 1
  have d2 : ∀ y : Ext Wb, y.w.cell? ⟨B + 1, 2, none⟩ = some (.slice r'.ta s.times.length r'.tc) := fun y => blk_cell (y.blk b1) 2
  have d3 : ∀ y : Ext Wb, y.w.cell? ⟨B + 1, 3, none⟩ = some (.slice r'.ba s.below.length r'.bc) := fun y => blk_cell (y.blk b1) 3
  have d4 : ∀ y : Ext Wb, y.w.cell? ⟨B + 1, 4, none⟩ = some (.slice none 0 0) := fun y => blk_cell (y.blk b1) 4
  have d5 : ∀ y : Ext Wb, y.w.cell? ⟨B + 1, 5, none⟩ = some (.int .i64 1) := fun y => blk_cell (y.blk b1) 5
  have d6 : ∀ y : Ext Wb, y.w.cell? ⟨B + 1, 6, none⟩ = some (.int .i64 0) := fun y => blk_cell (y.blk b1) 6
  have d7 : ∀ y : Ext Wb, y.w.cell? ⟨B + 1, 7, none⟩ = some (.slice none 0 0) := fun y => blk_cell (y.blk b1) 7
  have d8 : ∀ y : Ext Wb, y.w.cell? ⟨B + 1, 8, none⟩ = some (.slice none 0 0) := fun y => blk_cell (y.blk b1) 8
  have E1 : ∀ y : Ext Wb, Calls Try.prog 11 #[.agg #[.int .i64 s.n, .slice r.pa s.plus.length r.pc, .slice r.ta s.times.length r.tc, .slice r.ba s.below.length r.bc], .agg #[.int .i64 s.n, .slice r'.pa s.plus.length r'.pc, .slice r'.ta s.times.length r'.tc, .slice r'.ba s.below.length r'.bc]] y.w (Ans Wb (.bool true)) := fun y => eqSystem_ans h1 k1 sm true (by simp) y
  have E2 : ∀ y : Ext Wb, Calls Try.prog 33 #[.slice none 0 0, .slice none 0 0] y.w (Ans Wb (.bool true)) := fun y => eqIntSS_ans (nil_in Wb) (nil_in Wb) true (by simp) y
  have E3 : ∀ y : Ext Wb, Calls Try.prog 34 #[.agg #[.int .i64 1, .int .i64 0, .slice none 0 0, .slice none 0 0], .agg #[.int .i64 1, .int .i64 0, .slice none 0 0, .slice none 0 0]] y.w (Ans Wb (.bool true)) := fun y => eqTerm_ans num0 (num0_in Wb) (num0_in Wb) (by simp [num0, Tm.wt, Tm.wtL]) true (by simp) y
  obtain ⟨yy, hy0⟩ : ∃ y : Ext Wb, y.w = Wb := ⟨Ext.self Wb, rfl⟩
  rw [← hy0]
  clear hy0
  go_wp2_with (first | (go_at_call 11; (with_reducible refine Calls.mono (E1 _) ?_); rintro e w' ⟨rfl, yy, rfl⟩) | (go_at_call 33; (with_reducible refine Calls.mono (E2 _) ?_); rintro e w' ⟨rfl, yy, rfl⟩) | (go_at_call 34; (with_reducible refine Calls.mono (E3 _) ?_); rintro e w' ⟨rfl, yy, rfl⟩))
  go_ret
  exact ⟨rfl, ⟨yy.w, belW.trans (yy.below.mono belW.size)⟩, rfl⟩
set_option maxHeartbeats 4000000 in
theorem heldSession_ans {W : World} {r : Ref} {s : Sys} {m : Int} (h : SysIn W r (mkdS s m)) (sm : s.plus.length ≤ 1000 ∧ s.times.length ≤ 1000 ∧ s.below.length ≤ 1000) (hm0 : 0 ≤ m) (hm1 : m ≤ 1000) (x : Ext W) : Calls Try.prog 17 #[sessV s r, .int .i64 m] x.w (Ans W (.int .i64 (m + s.plus.length + s.times.length + s.below.length))) := by
  obtain ⟨sm1, sm2, sm3⟩ := sm
  unfold sessV
  go_enter Try.func17, Try.ntmps17
  go_wp2_with fail
  have hxW := x.size
  generalize hWb : x.w.alloc _ = Wb
  generalize hB : x.w.heap.size = B at *
  obtain ⟨b0, sB, bel⟩ := blocks1 hB hWb
  have belW : Below W.heap.size W Wb := x.below.trans (bel.mono (by omega))
  clear hWb bel
  have h1 : SysIn Wb r (mkdS s m) := h.ext ⟨Wb, belW⟩
  have c0 : ∀ y : Ext Wb, y.w.cell? ⟨B, 0, none⟩ = some (.int .i64 s.n) := fun y => blk_cell (y.blk b0) 0
  have c1 : ∀ y : Ext Wb, y.w.cell? ⟨B, 1, none⟩ = some (.slice r.pa s.plus.length r.pc) := fun y => blk_cell (y.blk b0) 1
  have c2 : ∀ y : Ext Wb, y.w.cell? ⟨B, 2, none⟩ = some (.slice r.ta s.times.length r.tc) := fun y => blk_cell (y.blk b0) 2
  have c3 : ∀ y : Ext Wb, y.w.cell? ⟨B, 3, none⟩ = some (.slice r.ba s.below.length r.bc) := fun y => blk_cell (y.blk b0) 3
  have c4 : ∀ y : Ext Wb, y.w.cell? ⟨B, 4, none⟩ = some (.slice none 0 0) := fun y => blk_cell (y.blk b0) 4
  have c5 : ∀ y : Ext Wb, y.w.cell? ⟨B, 5, none⟩ = some (.int .i64 1) := fun y => blk_cell (y.blk b0) 5
  have c6 : ∀ y : Ext Wb, y.w.cell? ⟨B, 6, none⟩ = some (.int .i64 0) := fun y => blk_cell (y.blk b0) 6
  have c7 : ∀ y : Ext Wb, y.w.cell? ⟨B, 7, none⟩ = some (.slice none 0 0) := fun y => blk_cell (y.blk b0) 7
  have c8 : ∀ y : Ext Wb, y.w.cell? ⟨B, 8, none⟩ = some (.slice none 0 0) := fun y => blk_cell (y.blk b0) 8
  obtain ⟨M, hM⟩ : ∃ M : Int, M = m + s.plus.length + s.times.length + s.below.length := ⟨_, rfl⟩
  have hM0 : 0 ≤ M := by omega
  have hM1 : M ≤ 100000 := by omega
  have E1 : ∀ y : Ext Wb, Calls Try.prog 38 #[.agg #[.int .i64 s.n, .slice r.pa s.plus.length r.pc, .slice r.ta s.times.length r.tc, .slice r.ba s.below.length r.bc], .int .i64 m] y.w (Ans Wb (.int .i64 M)) := fun y => by rw [hM]; exact heldMarked_ans h1 (by omega) (by omega) (by omega) (by omega) (by omega) y
  have E2 : ∀ y : Ext Wb, Calls Try.prog 39 #[.slice none 0 0, .int .i64 M] y.w (Ans Wb (.int .i64 M)) := fun y => by
    have := heldIntSS_ans (a := none) (c := 0) (ls := []) M (nil_in Wb) hM0 (by simp [cntLs]; omega) y
    simpa [cntLs] using this
  have E3 : ∀ y : Ext Wb, Calls Try.prog 40 #[.agg #[.int .i64 1, .int .i64 0, .slice none 0 0, .slice none 0 0], .int .i64 M] y.w (Ans Wb (.int .i64 M)) := fun y => by
    have := heldTerm_ans (t := num0) (m := M) (r := num0V) (W := Wb) (lo := 0) (by rw [num0_mkd]; exact num0_in Wb) hM0 (by simp [num0, Tm.cnt, Tm.cntL]; omega) y
    rw [num0_mkd] at this
    rw [show M + ((num0.cnt : Nat) : Int) = M by simp [num0, Tm.cnt, Tm.cntL]] at this
    exact this
  clear h h1
  have HM := Lib.hid hM
  clear hM
  have hM2 : ¬ M < 0 := by omega
  obtain ⟨yy, hy0⟩ : ∃ y : Ext Wb, y.w = Wb := ⟨Ext.self Wb, rfl⟩
  rw [← hy0]
  clear hy0
  go_wp2_with (first | (go_at_call 38; (with_reducible refine Calls.mono (E1 _) ?_); rintro e w' ⟨rfl, yy, rfl⟩) | (go_at_call 39; (with_reducible refine Calls.mono (E2 _) ?_); rintro e w' ⟨rfl, yy, rfl⟩) | (go_at_call 40; (with_reducible refine Calls.mono (E3 _) ?_); rintro e w' ⟨rfl, yy, rfl⟩))
  go_ret
  first | exact fin_int HM.out ⟨⟨yy.w, belW.trans (yy.below.mono belW.size)⟩, rfl⟩ | exact fin_int HM.out.symm ⟨⟨yy.w, belW.trans (yy.below.mono belW.size)⟩, rfl⟩
set_option maxHeartbeats 4000000 in
theorem markSession_ans {w : World} {r : Ref} {s : Sys} {B : Nat → Prop} (h : SysOwn w s r B) (sm : s.plus.length ≤ 1000 ∧ s.times.length ≤ 1000 ∧ s.below.length ≤ 1000) (m : Int) (hm0 : 0 ≤ m) (hm1 : m ≤ 1000) :
    Calls Try.prog 16 #[sessV s r, .int .i64 m] w (fun e w' => e = .returned (.int .i64 (m + s.plus.length + s.times.length + s.below.length)) ∧ Only w w' B ∧ SysIn w' r (mkdS s m)) := by
  obtain ⟨sm1, sm2, sm3⟩ := sm
  unfold sessV
  go_enter Try.func16, Try.ntmps16
  go_wp2_with fail
  have hlt := h.lt
  generalize hWb : w.alloc _ = Wb
  have h1 : SysOwn Wb s r B := by rw [← hWb]; exact h.ext ((Ext.self w).alloc _)
  have on0 : Only w Wb B := by rw [← hWb]; exact Only.alloc _ _ _
  have b0 := new_blk hWb
  have hsz : w.heap.size < Wb.heap.size := (Array.getElem?_eq_some_iff.1 b0).1
  generalize w.heap.size = D at *
  clear hWb
  refine Calls.mono (markSystem_ans (base := 0) h1.own (Nat.zero_le _) s.n (by omega) (by omega) (by omega) m hm0 (by omega)) ?_
  rintro e M ⟨rfl, own, -, on⟩
  have on1 : Only Wb M B := on.mono fun g _ e => (h1.bl g).2 e
  have b1 := (on1.block D hsz (fun e => by have := hlt D e; omega)).trans b0
  have hin : SysIn M r (mkdS s m) := own.marked ⟨by omega, by omega, by omega⟩
  have onA := on0.trans on1
  clear on on0 on1 own h h1 b0 hlt
  have c0 : ∀ y : Ext M, y.w.cell? ⟨D, 0, none⟩ = some (.int .i64 s.n) := fun y => blk_cell (y.blk b1) 0
  have c1 : ∀ y : Ext M, y.w.cell? ⟨D, 1, none⟩ = some (.slice r.pa s.plus.length r.pc) := fun y => blk_cell (y.blk b1) 1
  have c2 : ∀ y : Ext M, y.w.cell? ⟨D, 2, none⟩ = some (.slice r.ta s.times.length r.tc) := fun y => blk_cell (y.blk b1) 2
  have c3 : ∀ y : Ext M, y.w.cell? ⟨D, 3, none⟩ = some (.slice r.ba s.below.length r.bc) := fun y => blk_cell (y.blk b1) 3
  have c4 : ∀ y : Ext M, y.w.cell? ⟨D, 4, none⟩ = some (.slice none 0 0) := fun y => blk_cell (y.blk b1) 4
  have c5 : ∀ y : Ext M, y.w.cell? ⟨D, 5, none⟩ = some (.int .i64 1) := fun y => blk_cell (y.blk b1) 5
  have c6 : ∀ y : Ext M, y.w.cell? ⟨D, 6, none⟩ = some (.int .i64 0) := fun y => blk_cell (y.blk b1) 6
  have c7 : ∀ y : Ext M, y.w.cell? ⟨D, 7, none⟩ = some (.slice none 0 0) := fun y => blk_cell (y.blk b1) 7
  have c8 : ∀ y : Ext M, y.w.cell? ⟨D, 8, none⟩ = some (.slice none 0 0) := fun y => blk_cell (y.blk b1) 8
  obtain ⟨K, hK⟩ : ∃ K : Int, K = m + s.plus.length + s.times.length + s.below.length := ⟨_, rfl⟩
  have hK0 : 0 ≤ K := by omega
  have hK1 : K ≤ 100000 := by omega
  rw [← hK]
  have HK := Lib.hid hK
  clear hK
  obtain ⟨yy, hy0⟩ : ∃ y : Ext M, y.w = M := ⟨Ext.self M, rfl⟩
  rw [← hy0]
  clear hy0
  go_wp2_with fail
  have C2 := markIntSS_ans (w := yy.w) (nil_own yy.w) K hK0 (by simp [cntLs]; omega)
  refine Calls.mono C2 ?_
  clear C2
  rintro e M2 ⟨rfl, on2, -⟩
  obtain ⟨y2, rfl⟩ : ∃ y2 : Ext M, M2 = y2.w := ⟨⟨M2, yy.below.trans ((only_none on2).mono yy.size)⟩, rfl⟩
  rw [show K + ((cntLs [] : Nat) : Int) = K by simp [cntLs]]
  go_wp2_with fail
  have C3 := markTerm_ans (w := y2.w) (num0_own y2.w) K hK0 (by simp [num0, Tm.cnt, Tm.cntL]; omega)
  refine Calls.mono C3 ?_
  clear C3
  rintro e M3 ⟨rfl, -, on3⟩
  obtain ⟨y3, rfl⟩ : ∃ y3 : Ext M, M3 = y3.w := ⟨⟨M3, y2.below.trans ((only_none on3).mono y2.size)⟩, rfl⟩
  rw [show K + ((num0.cnt : Nat) : Int) = K by simp [num0, Tm.cnt, Tm.cntL]]
  go_wp2_with fail
  go_ret
  refine ⟨?_, onA.trans (Only.of y3.below B), hin.ext y3⟩
  show Ending.returned (.int .i64 K) = _
  rw [HK.out]
end Go.Proofs.Yteffcfaoganciaa
