
/- Whether what is put fits. -/
import Derived.Test.YtlbpefmocodkfaaDoorKPutSpec
import Derived.Test.YtlbpefmocodkfaaDoorGF
import Derived.Test.YtlbpefmocodkfaaDoorKUsesA
import Derived.Test.YtlbpefmocodkfaaDoorGI
import Derived.Deep.RegionHeld3
import Derived.RegionTactic
import Derived.Outline
namespace Go.Proofs.YtlbpefmocodkfaaDoor
open Go.RowKit

theorem left400 {t : Tm} (h : Written t) : LeftV t 400 (400 - (t.sz : Int)) := .inl ⟨by have := h.1; omega, rfl⟩
set_option maxHeartbeats 8000000 in
theorem l2Fits_ans {W : World} {lo lo2 : Nat} {t u : Tm} {r q : TV} (h : TmIn W lo t r) (hu : TmIn W lo2 u q) (wt : Written t) (wu : Written u) (i : Int) (hi : 0 ≤ i ∧ i ≤ 1000) (p : Bool) (hp : p = true ↔ (t.sz : Int) + (t.uses i : Int) * ((u.sz : Int) - 1) ≤ 400) (x : Ext W) :
    Calls Tryd.prog 82 #[r.val t, .int .i64 i, q.val u] x.w (Ans W (.bool p)) := by
  obtain ⟨ra, rc, rb, rd⟩ := r
  obtain ⟨va, vc, vb, vd⟩ := q
  unfold TV.val
  have HWT := Lib.hid wt
  have HWU := Lib.hid wu
  have hst := wt.1
  have hsu := wu.1
  have hu1 := Tm.uses_le t i
  have hsup := u.sz_pos
  obtain ⟨m, hm⟩ : ∃ m, m = (t.uses i : Int) * ((u.sz : Int) - 1) := ⟨_, rfl⟩
  have hmb : 0 ≤ m ∧ m ≤ 160000 := by
    rw [hm]
    have h1 : (t.uses i : Int) * ((u.sz : Int) - 1) ≤ 400 * ((u.sz : Int) - 1) := Int.mul_le_mul_of_nonneg_right (by omega) (by omega)
    exact ⟨Int.mul_nonneg (by omega) (by omega), by omega⟩
  have hp2 : decide ((t.sz : Int) + m ≤ 400) = p := by
    rw [← hm] at hp
    cases p with
    | true => simpa using hp
    | false => simpa using hp
  have w1 : IntKind.i64.wrap (400 - (400 - (t.sz : Int))) = (t.sz : Int) := by rw [show (400 : Int) - (400 - (t.sz : Int)) = t.sz by omega]; exact wrap_in (by omega) (by omega)
  have w2 : IntKind.i64.wrap (400 - (400 - (u.sz : Int))) = (u.sz : Int) := by rw [show (400 : Int) - (400 - (u.sz : Int)) = u.sz by omega]; exact wrap_in (by omega) (by omega)
  have w3 : IntKind.i64.wrap ((u.sz : Int) - 1) = (u.sz : Int) - 1 := wrap_in (by omega) (by omega)
  have w4 : IntKind.i64.wrap ((t.uses i : Int) * ((u.sz : Int) - 1)) = m := by rw [← hm]; exact IntWalk.i64_in _ (by omega)
  have w5 : IntKind.i64.wrap ((t.sz : Int) + m) = (t.sz : Int) + m := IntWalk.i64_in _ (by omega)
  clear hm hmb hu1 hsup hp wt wu
  have HS := Lib.hid (⟨hst, hsu⟩ : _ ∧ _)
  clear hst hsu
  go_enter Tryd.func82, Tryd.ntmps82
  go_wp2_with fail
  have hxW := x.size
  generalize hWa : (x.w.alloc _).alloc _ = Wa
  generalize hB : x.w.heap.size = B at *
  obtain ⟨bA, bU, sA, bel⟩ := blocks2 hB hWa
  have belA : Below W.heap.size W Wa := x.below.trans (bel.mono (by omega))
  clear hWa bel sA
  have KEEP : Hid (∀ w', Below Wa.heap.size Wa w' → (w'.cell? ⟨B, 0, none⟩ = some (.int .i64 t.op) ∧ w'.cell? ⟨B, 1, none⟩ = some (.int .i64 t.n) ∧ w'.cell? ⟨B, 2, none⟩ = some (.slice ra t.ty.length rc) ∧ w'.cell? ⟨B, 3, none⟩ = some (.slice rb t.kids.length rd)) ∧ w'.cell? ⟨B + 1, 0, none⟩ = some (.int .i64 u.op) ∧ w'.cell? ⟨B + 1, 1, none⟩ = some (.int .i64 u.n) ∧ w'.cell? ⟨B + 1, 2, none⟩ = some (.slice va u.ty.length vc) ∧ w'.cell? ⟨B + 1, 3, none⟩ = some (.slice vb u.kids.length vd)) := fun w' b => ⟨⟨blk_cell ((Ext.mk w' b).blk bA) 0, blk_cell ((Ext.mk w' b).blk bA) 1, blk_cell ((Ext.mk w' b).blk bA) 2, blk_cell ((Ext.mk w' b).blk bA) 3⟩, blk_cell ((Ext.mk w' b).blk bU) 0, blk_cell ((Ext.mk w' b).blk bU) 1, blk_cell ((Ext.mk w' b).blk bU) 2, blk_cell ((Ext.mk w' b).blk bU) 3⟩
  have C1 : Hid (∀ w', Below Wa.heap.size Wa w' → Calls Tryd.prog 65 #[.agg #[.int .i64 t.op, .int .i64 t.n, .slice ra t.ty.length rc, .slice rb t.kids.length rd], .int .i64 400] w' (Ans w' (.int .i64 (400 - (t.sz : Int))))) := fun w' b => l2Left_ans t (W := w') (h.ext ⟨w', belA.trans (b.mono belA.size)⟩) 400 (by omega) (by omega) _ (left400 HWT.out) (Ext.self w')
  have C2 : Hid (∀ w', Below Wa.heap.size Wa w' → Calls Tryd.prog 65 #[.agg #[.int .i64 u.op, .int .i64 u.n, .slice va u.ty.length vc, .slice vb u.kids.length vd], .int .i64 400] w' (Ans w' (.int .i64 (400 - (u.sz : Int))))) := fun w' b => l2Left_ans u (W := w') (hu.ext ⟨w', belA.trans (b.mono belA.size)⟩) 400 (by omega) (by omega) _ (left400 HWU.out) (Ext.self w')
  have C3 : Hid (∀ w', Below Wa.heap.size Wa w' → Calls Tryd.prog 74 #[.agg #[.int .i64 t.op, .int .i64 t.n, .slice ra t.ty.length rc, .slice rb t.kids.length rd], .int .i64 i] w' (Ans w' (.int .i64 (t.uses i : Int)))) := fun w' b => l2Uses_ans t (W := w') (h.ext ⟨w', belA.trans (b.mono belA.size)⟩) HWT.out.2 (by have := HS.out.1; omega) i (by omega) (by have := HS.out.1; omega) (Ext.self w')
  go_region_held3 (fun w' => (w'.cell? ⟨B, 0, none⟩ = some (.int .i64 t.op) ∧ w'.cell? ⟨B, 1, none⟩ = some (.int .i64 t.n) ∧ w'.cell? ⟨B, 2, none⟩ = some (.slice ra t.ty.length rc) ∧ w'.cell? ⟨B, 3, none⟩ = some (.slice rb t.kids.length rd)) ∧ w'.cell? ⟨B + 1, 0, none⟩ = some (.int .i64 u.op) ∧ w'.cell? ⟨B + 1, 1, none⟩ = some (.int .i64 u.n) ∧ w'.cell? ⟨B + 1, 2, none⟩ = some (.slice va u.ty.length vc) ∧ w'.cell? ⟨B + 1, 3, none⟩ = some (.slice vb u.kids.length vd)) ((refine KEEP.out _ ?_; (with_reducible (repeat (first | exact Below.refl _ _ | refine below_alloc ?_ _ | refine below_drew ?_ | refine below_ext ?_ _ | refine below_set ?_ ?_)))))
    (first | (go_at_call 74; with_reducible refine Calls.mono (C3.out _ (by (with_reducible (repeat (first | exact Below.refl _ _ | refine below_alloc ?_ _ | refine below_drew ?_ | refine below_ext ?_ _ | refine below_set ?_ ?_))))) ?_; rintro e w' ⟨rfl, y3, rfl⟩) | (go_at_call 65; (first | (with_reducible refine Calls.mono (C1.out _ (by (with_reducible (repeat (first | exact Below.refl _ _ | refine below_alloc ?_ _ | refine below_drew ?_ | refine below_ext ?_ _ | refine below_set ?_ ?_))))) ?_) | (with_reducible refine Calls.mono (C2.out _ (by (with_reducible (repeat (first | exact Below.refl _ _ | refine below_alloc ?_ _ | refine below_drew ?_ | refine below_ext ?_ _ | refine below_set ?_ ?_))))) ?_)); rintro e w' ⟨rfl, y1, rfl⟩))
  all_goals (
    go_wp2_with fail
    go_ret
    exact ⟨rfl, ⟨_, by have := belA; exact belA.trans (Below.mono (by (with_reducible (repeat (first | exact Below.refl _ _ | refine below_alloc ?_ _ | refine below_drew ?_ | refine below_ext ?_ _ | refine below_set ?_ ?_)))) belA.size)⟩, rfl⟩)

end Go.Proofs.YtlbpefmocodkfaaDoor
