
/- How many values a view tells apart, by the model. -/
import Derived.Test.YteffcfaoganciaaDoorKSeenSpec
import Derived.Test.YteffcfaoganciaaDoorGS
import Derived.Test.YteffcfaoganciaaDoorKViewT
set_option linter.unusedVariables false
set_option linter.unusedSimpArgs false
namespace Go.Proofs.YteffcfaoganciaaDoor
open Go.RowKit

set_option maxHeartbeats 4000000 in
theorem l7Seen_ans {q : List Int} (hql : q.length ≤ 1099511627776) (T : Ty) : ∀ (_ : T.Ok) (_ : T.Data) {W : World} {aq : Option Addr} {cq : Nat} (_ : Row W (Value.int .i64) aq q) {b o c : Nat} (_ : Row W (Value.int .i64) (some ⟨b, o, none⟩) T.enc) (_ : T.enc.length ≤ 40) (_ : T.enc.length ≤ c) (x : Ext W),
    Calls Tryd.prog 73 #[.slice aq q.length cq, .slice (some ⟨b, o, none⟩) T.enc.length c] x.w (Ans W (.int .i64 (T.cntA (sees q)))) := by
  induction T with
  | leaf =>
    intro _ _ W aq cq hq b o c hr hl hc x
    obtain ⟨yy, hyy⟩ : ∃ y : Ext W, x = y := ⟨x, rfl⟩
    rw [hyy]
    clear hyy
    rw [show Ty.leaf.cntA (sees q) = 3 from rfl, Ty.len_leaf]
    have m0 : ∀ y : Ext W, y.w.cell? ⟨b, o, none⟩ = some (.int .i64 0) := fun y => y.cell (row_head hr (l' := []) rfl)
    clear hr
    go_enter Tryd.func73, Tryd.ntmps73
    go_wp2_with fail
    go_ret
    exact ⟨rfl, yy, rfl⟩
  | two cc A B ihA ihB =>
    intro hok hd W aq cq hq b o c hr hl hc x
    obtain ⟨yy, hyy⟩ : ∃ y : Ext W, x = y := ⟨x, rfl⟩
    rw [hyy]
    clear hyy
    have hA := A.enc_pos
    have hB := B.enc_pos
    have hlen := Ty.len_two cc A B
    have m0 : ∀ y : Ext W, y.w.cell? ⟨b, o, none⟩ = some (.int .i64 cc) := fun y => y.cell (row_head hr (l' := A.enc ++ B.enc) rfl)
    have P0 : ∀ y : Ext W, Calls Tryd.prog 117 #[.slice (some ⟨b, o, none⟩) (Ty.two cc A B).enc.length c, .int .i64 0] y.w (fun e w' => ∃ (v : Value) (z : Ext W), e = .returned v ∧ w' = z.w ∧ Hid (Calls Tryd.prog 73 #[.slice aq q.length cq, v] z.w (Ans W (.int .i64 (A.cntA (sees q)))))) := fun y => Calls.mono (l2Part0_ans hr (by omega) hc (Ty.end_two hok) (by omega) (by omega) (by omega) (row_two1 hr) y) (by
      rintro e w' ⟨v, z, rfl, rfl, own⟩
      obtain ⟨g, c1, rfl, row, hcap, _⟩ := own_some own (Ty.enc_pos _)
      exact ⟨_, z, rfl, rfl, Calls.mono (ihA hok.2.1 hd.2.1 (hq.ext z) row (by omega) hcap (Ext.self z.w)) fun _ _ q => ans_lift q⟩)
    have P1 : ∀ y : Ext W, Calls Tryd.prog 117 #[.slice (some ⟨b, o, none⟩) (Ty.two cc A B).enc.length c, .int .i64 1] y.w (fun e w' => ∃ (v : Value) (z : Ext W), e = .returned v ∧ w' = z.w ∧ Hid (Calls Tryd.prog 73 #[.slice aq q.length cq, v] z.w (Ans W (.int .i64 (B.cntA (sees q)))))) := fun y => Calls.mono (l2Part1_ans hr (by omega) hc (Ty.end_two hok) (by omega) (by omega) (by omega) (row_two2 hr) y) (by
      rintro e w' ⟨v, z, rfl, rfl, own⟩
      obtain ⟨g, c1, rfl, row, hcap, _⟩ := own_some own (Ty.enc_pos _)
      exact ⟨_, z, rfl, rfl, Calls.mono (ihB hok.2.2 hd.2.2 (hq.ext z) row (by omega) hcap (Ext.self z.w)) fun _ _ q => ans_lift q⟩)
    have hcnt := fun c => Nat.le_trans ((Ty.two c A B).cntA_le (sees q)) (Ty.cnt_le (t := Ty.two c A B) (by simpa [Ty.enc] using hl))
    have hlp : 0 < (Ty.two cc A B).enc.length := Ty.enc_pos _
    have hd1 := hd.1
    generalize (Ty.two cc A B).enc.length = len at *
    clear ihA ihB hr hok hd hlen hA hB hl hc hq
    have hlp' : (0 : Int) < (len : Int) := by omega
    rcases hd1 with rfl | rfl
    · replace hcnt := hcnt 1
      rw [show (Ty.two 1 A B).cntA (sees q) = A.cntA (sees q) * B.cntA (sees q) from rfl] at hcnt ⊢
      have hw : IntKind.i64.wrap ((A.cntA (sees q) : Int) * (B.cntA (sees q) : Int)) = (A.cntA (sees q) : Int) * (B.cntA (sees q) : Int) := IntWalk.i64_in _ (by rw [← Int.natCast_mul]; omega)
      rw [Int.natCast_mul]
      clear hcnt
      go_enter Tryd.func73, Tryd.ntmps73
      go_wp2_with (first | (go_at_call 117; (with_reducible refine Calls.mono (P0 _) ?_); rintro e w' ⟨v, yy, rfl, rfl, HC⟩) | (go_at_call 117; (with_reducible refine Calls.mono (P1 _) ?_); rintro e w' ⟨v, yy, rfl, rfl, HC⟩) | (go_at_call 73; (with_reducible refine Calls.mono HC.out ?_); rintro e w' ⟨rfl, yy, rfl⟩))
      go_ret
      exact ⟨rfl, yy, rfl⟩
    · replace hcnt := hcnt 2
      rw [show (Ty.two 2 A B).cntA (sees q) = A.cntA (sees q) + B.cntA (sees q) from rfl] at hcnt ⊢
      have hw : IntKind.i64.wrap ((A.cntA (sees q) : Int) + (B.cntA (sees q) : Int)) = (A.cntA (sees q) : Int) + (B.cntA (sees q) : Int) := IntWalk.i64_in _ (by omega)
      rw [show ((A.cntA (sees q) + B.cntA (sees q) : Nat) : Int) = (A.cntA (sees q) : Int) + (B.cntA (sees q) : Int) by omega]
      clear hcnt
      go_enter Tryd.func73, Tryd.ntmps73
      go_wp2_with (first | (go_at_call 117; (with_reducible refine Calls.mono (P0 _) ?_); rintro e w' ⟨v, yy, rfl, rfl, HC⟩) | (go_at_call 117; (with_reducible refine Calls.mono (P1 _) ?_); rintro e w' ⟨v, yy, rfl, rfl, HC⟩) | (go_at_call 73; (with_reducible refine Calls.mono HC.out ?_); rintro e w' ⟨rfl, yy, rfl⟩))
      go_ret
      exact ⟨rfl, yy, rfl⟩
  | one cc A ihA =>
    intro hok hd W aq cq hq b o c hr hl hc x
    obtain ⟨yy, hyy⟩ : ∃ y : Ext W, x = y := ⟨x, rfl⟩
    rw [hyy]
    clear hyy
    have hA := A.enc_pos
    have hlen := Ty.len_one cc A
    have m0 : ∀ y : Ext W, y.w.cell? ⟨b, o, none⟩ = some (.int .i64 cc) := fun y => y.cell (row_head hr (l' := A.enc) rfl)
    have P0 : ∀ y : Ext W, Calls Tryd.prog 117 #[.slice (some ⟨b, o, none⟩) (Ty.one cc A).enc.length c, .int .i64 0] y.w (fun e w' => ∃ (v : Value) (z : Ext W), e = .returned v ∧ w' = z.w ∧ Hid (Calls Tryd.prog 73 #[.slice aq q.length cq, v] z.w (Ans W (.int .i64 (A.cntA (sees q)))))) := fun y => Calls.mono (l2Part0_ans hr (by omega) hc (Ty.end_one hok) (by omega) (by omega) (by omega) (row_one hr) y) (by
      rintro e w' ⟨v, z, rfl, rfl, own⟩
      obtain ⟨g, c1, rfl, row, hcap, _⟩ := own_some own (Ty.enc_pos _)
      exact ⟨_, z, rfl, rfl, Calls.mono (ihA hok.2 hd (hq.ext z) row (by omega) hcap (Ext.self z.w)) fun _ _ q => ans_lift q⟩)
    have hbx := Ty.bx_of hok.1
    have n0 : (cc == 0) = false := by rw [beq_eq_false_iff_ne]; unfold Bx at hbx; omega
    have n1 : (cc == 1) = false := by rw [beq_eq_false_iff_ne]; unfold Bx at hbx; omega
    have n2 : (cc == 2) = false := by rw [beq_eq_false_iff_ne]; unfold Bx at hbx; omega
    have hlp : 0 < (Ty.one cc A).enc.length := Ty.enc_pos _
    have hcc : 0 ≤ cc ∧ cc ≤ 36 := ⟨by unfold Bx at hbx; omega, by unfold Bx at hbx; omega⟩
    have GC : ∀ y : Ext W, Calls Tryd.prog 119 #[.int .i64 cc] y.w (Ans W (.int .i64 (gradeOf cc))) := fun y => l2Grade_ans cc hcc.1 (by omega) y
    have HC0 : ∀ y : Ext W, Calls Tryd.prog 118 #[.slice aq q.length cq, .int .i64 (gradeOf cc)] y.w (Ans W (.bool (sees q (gradeOf cc)))) := fun y => l1Has_ans hq hql (gradeOf cc) _ (by simp [sees]) y
    rw [show (Ty.one cc A).cntA (sees q) = if sees q (gradeOf cc) then A.cntA (sees q) else 1 from rfl]
    generalize gradeOf cc = gg at *
    generalize (Ty.one cc A).enc.length = len at *
    clear ihA hr hok hd hlen hA hl hc hbx hq hcc
    have hlp' : (0 : Int) < (len : Int) := by omega
    cases hS : sees q gg with
    | true =>
      rw [hS] at HC0
      rw [if_pos rfl]
      go_enter Tryd.func73, Tryd.ntmps73
      go_wp2_with (first | (go_at_call 119; (with_reducible refine Calls.mono (GC _) ?_); rintro e w' ⟨rfl, yy, rfl⟩) | (go_at_call 118; (with_reducible refine Calls.mono (HC0 _) ?_); rintro e w' ⟨rfl, yy, rfl⟩) | (go_at_call 117; (with_reducible refine Calls.mono (P0 _) ?_); rintro e w' ⟨v, yy, rfl, rfl, HC⟩) | (go_at_call 73; (with_reducible refine Calls.mono HC.out ?_); rintro e w' ⟨rfl, yy, rfl⟩))
      go_ret
      exact ⟨rfl, yy, rfl⟩
    | false =>
      rw [hS] at HC0
      rw [if_neg (by simp)]
      go_enter Tryd.func73, Tryd.ntmps73
      go_wp2_with (first | (go_at_call 119; (with_reducible refine Calls.mono (GC _) ?_); rintro e w' ⟨rfl, yy, rfl⟩) | (go_at_call 118; (with_reducible refine Calls.mono (HC0 _) ?_); rintro e w' ⟨rfl, yy, rfl⟩))
      go_ret
      exact ⟨rfl, yy, rfl⟩
end Go.Proofs.YteffcfaoganciaaDoor
