
/- The model's parts of types, and how many values a type has. -/
import Derived.Test.YtmifnhblhggflaaDoorLCopy
import Derived.Test.YtmifnhblhggflaaDoorTypeS
import Derived.Test.YtmifnhblhggflaaDoorPlaceSpec
namespace Go.Proofs.YtmifnhblhggflaaDoor
open Go.RowKit

theorem own_some {α : Type} {w : World} {base : Nat} {E : TypeId} {mk : α → Value} {v : Value} {l : List α} (h : w.ownsRow base E 1 v l.length (l.map mk)) (hl : 0 < l.length) :
    ∃ g c, v = .slice (some ⟨g, 0, none⟩) l.length c ∧ Row w mk (some ⟨g, 0, none⟩) l ∧ l.length ≤ c ∧ base ≤ g ∧ g < w.heap.size := by
  obtain ⟨a, c, rfl, row, hb⟩ := owned_row h
  rcases h.2 with ⟨e, hn⟩ | ⟨g, cap, cur, e, hg, hh, r1, r2, r3, r4⟩
  · omega
  · cases e
    exact ⟨g, c, rfl, row, r1, hb _ rfl⟩
theorem ans_lift {W : World} {z : Ext W} {v : Value} {e : Ending} {w' : World} (h : Ans z.w v e w') : Ans W v e w' := by
  obtain ⟨rfl, y, rfl⟩ := h
  exact ⟨rfl, z.trans y, rfl⟩

set_option maxHeartbeats 1600000 in
theorem l2Part0_ans {W : World} {b o c : Nat} {l : List Int} (hr : Row W (Value.int .i64) (some ⟨b, o, none⟩) l) (hl : l.length ≤ 1000) (hc : l.length ≤ c) {e : Nat} (he : endOf l 1 1 = (e : Int)) (h1 : 2 ≤ e) (h2 : e ≤ l.length)
    {p : List Int} (hp : p.length = e - 1) (hrow : Row W (Value.int .i64) (some ⟨b, o + 1, none⟩) p) (x : Ext W) :
    Calls Tryd.prog 56 #[.slice (some ⟨b, o, none⟩) l.length c, .int .i64 0] x.w (NewRow W 22 3 (Value.int .i64) p) := by
  obtain ⟨yy, hyy⟩ : ∃ y : Ext W, x = y := ⟨x, rfl⟩
  rw [hyy]
  clear hyy
  have C : ∀ y : Ext W, Calls Tryd.prog 101 #[.slice (some ⟨b, o, none⟩) l.length c, .int .i64 1] y.w (Ans W (.int .i64 (e : Int))) := fun y => by rw [← he]; exact l2End_ans (at' := 1) hr hl (by omega) y
  have D : ∀ (y : Ext W) c', Calls Tryd.prog 104 #[.slice (some ⟨b, o + 1, none⟩) (e - 1) c'] y.w (NewRow W 22 3 (Value.int .i64) p) := fun y c' => by rw [← hp]; exact l1Copy_ans (c := c') hrow (by omega) y
  clear he
  have hc1 : ¬ c = 1 := by omega
  have hs : ∀ wx, (Instr.slice 22 (.slice (some ⟨b, o, none⟩) l.length c) (some (.int .i64 1)) (some (.int .i64 (e : Int))) none).run Tryd.prog wx = .ok (.slice (some ⟨b, o + 1, none⟩) (e - 1) (c - 1)) wx := fun wx => by
    have ht : Tryd.prog.underlying 22 = some (.slice (Tryd.prog.elem 22)) := by kernel_rfl
    have hz : (sizeOf (Tryd.prog.elem 22)).run Tryd.prog wx = .ok 1 wx := by kernel_rfl
    rw [run_slice_lh (P := Tryd.prog) wx _ _ _ _ ht _ _ _ _ (by omega) (by omega) (by omega), hz]
    simp [sliced, hc1, Addr.add, go_sem]
  go_enter Tryd.func56, Tryd.ntmps56
  go_wp2_with (go_at_call 101; with_reducible refine Calls.mono (C _) ?_; rintro e w' ⟨rfl, yy, rfl⟩)
  refine Calls.mono (D _ _) ?_
  rintro e w' ⟨v, yy, rfl, rfl, own⟩
  go_wp2_with fail
  go_ret
  exact ⟨v, yy, rfl, rfl, own⟩
set_option maxHeartbeats 1600000 in
theorem l2Part1_ans {W : World} {b o c : Nat} {l : List Int} (hr : Row W (Value.int .i64) (some ⟨b, o, none⟩) l) (hl : l.length ≤ 1000) (hc : l.length ≤ c) {e : Nat} (he : endOf l 1 1 = (e : Int)) (h1 : 2 ≤ e) (h2 : e < l.length)
    {p : List Int} (hp : p.length = l.length - e) (hrow : Row W (Value.int .i64) (some ⟨b, o + e, none⟩) p) (x : Ext W) :
    Calls Tryd.prog 56 #[.slice (some ⟨b, o, none⟩) l.length c, .int .i64 1] x.w (NewRow W 22 3 (Value.int .i64) p) := by
  obtain ⟨yy, hyy⟩ : ∃ y : Ext W, x = y := ⟨x, rfl⟩
  rw [hyy]
  clear hyy
  have C : ∀ y : Ext W, Calls Tryd.prog 101 #[.slice (some ⟨b, o, none⟩) l.length c, .int .i64 1] y.w (Ans W (.int .i64 (e : Int))) := fun y => by rw [← he]; exact l2End_ans (at' := 1) hr hl (by omega) y
  have D : ∀ (y : Ext W) c', Calls Tryd.prog 104 #[.slice (some ⟨b, o + e, none⟩) (l.length - e) c'] y.w (NewRow W 22 3 (Value.int .i64) p) := fun y c' => by rw [← hp]; exact l1Copy_ans (c := c') hrow (by omega) y
  clear he
  have hc1 : ¬ c = e := by omega
  have he0 : ¬ e = 0 := by omega
  have hs : ∀ wx, (Instr.slice 22 (.slice (some ⟨b, o, none⟩) l.length c) (some (.int .i64 (e : Int))) none none).run Tryd.prog wx = .ok (.slice (some ⟨b, o + e, none⟩) (l.length - e) (c - e)) wx := fun wx => by
    have ht : Tryd.prog.underlying 22 = some (.slice (Tryd.prog.elem 22)) := by kernel_rfl
    have hz : (sizeOf (Tryd.prog.elem 22)).run Tryd.prog wx = .ok 1 wx := by kernel_rfl
    rw [run_slice_l (P := Tryd.prog) wx _ _ _ _ ht _ _ (by omega) (by omega), hz]
    simp [sliced, hc1, he0, Addr.add, go_sem]
  go_enter Tryd.func56, Tryd.ntmps56
  go_wp2_with (go_at_call 101; with_reducible refine Calls.mono (C _) ?_; rintro e w' ⟨rfl, yy, rfl⟩)
  refine Calls.mono (D _ _) ?_
  rintro e w' ⟨v, yy, rfl, rfl, own⟩
  go_wp2_with fail
  go_ret
  exact ⟨v, yy, rfl, rfl, own⟩

theorem l1Min_ans {W : World} (a b : Int) (x : Ext W) : Calls Tryd.prog 120 #[.int .i64 a, .int .i64 b] x.w (Ans W (.int .i64 (min a b))) := by
  obtain ⟨yy, hyy⟩ : ∃ y : Ext W, x = y := ⟨x, rfl⟩
  rw [hyy]
  clear hyy
  by_cases h : a < b
  · have hm : min a b = a := by omega
    rw [hm]
    clear hm
    go_enter Tryd.func120, Tryd.ntmps120
    go_wp2
    go_ret
    exact ⟨rfl, yy, rfl⟩
  · have hm : min a b = b := by omega
    rw [hm]
    clear hm
    go_enter Tryd.func120, Tryd.ntmps120
    go_wp2
    go_ret
    exact ⟨rfl, yy, rfl⟩

set_option maxHeartbeats 4000000 in
theorem l5Count_ans (T : Ty) : ∀ (_ : T.Ok) (_ : T.Data) {W : World} {b o c : Nat} (_ : Row W (Value.int .i64) (some ⟨b, o, none⟩) T.enc) (_ : T.enc.length ≤ 40) (_ : T.enc.length ≤ c) (x : Ext W),
    Calls Tryd.prog 83 #[.slice (some ⟨b, o, none⟩) T.enc.length c] x.w (Ans W (.int .i64 T.cap)) := by
  induction T with
  | leaf =>
    intro _ _ W b o c hr hl hc x
    obtain ⟨yy, hyy⟩ : ∃ y : Ext W, x = y := ⟨x, rfl⟩
    rw [hyy]
    clear hyy
    rw [Ty.cap_leaf, Ty.len_leaf]
    have m0 : ∀ y : Ext W, y.w.cell? ⟨b, o, none⟩ = some (.int .i64 0) := fun y => y.cell (row_head hr (l' := []) rfl)
    clear hr
    go_enter Tryd.func83, Tryd.ntmps83
    go_wp2_with fail
    go_ret
    exact ⟨rfl, yy, rfl⟩
  | two cc A B ihA ihB =>
    intro hok hd W b o c hr hl hc x
    obtain ⟨yy, hyy⟩ : ∃ y : Ext W, x = y := ⟨x, rfl⟩
    rw [hyy]
    clear hyy
    have hA := A.enc_pos
    have hB := B.enc_pos
    have hlen := Ty.len_two cc A B
    have m0 : ∀ y : Ext W, y.w.cell? ⟨b, o, none⟩ = some (.int .i64 cc) := fun y => y.cell (row_head hr (l' := A.enc ++ B.enc) rfl)
    have P0 : ∀ y : Ext W, Calls Tryd.prog 56 #[.slice (some ⟨b, o, none⟩) (Ty.two cc A B).enc.length c, .int .i64 0] y.w (fun e w' => ∃ (v : Value) (z : Ext W), e = .returned v ∧ w' = z.w ∧ Hid (Calls Tryd.prog 83 #[v] z.w (Ans W (.int .i64 A.cap)))) := fun y => Calls.mono (l2Part0_ans hr (by omega) hc (Ty.end_two hok) (by omega) (by omega) (by omega) (row_two1 hr) y) (by
      rintro e w' ⟨v, z, rfl, rfl, own⟩
      obtain ⟨g, c1, rfl, row, hcap, _⟩ := own_some own (Ty.enc_pos _)
      exact ⟨_, z, rfl, rfl, Calls.mono (ihA hok.2.1 hd.2.1 row (by omega) hcap (Ext.self z.w)) fun _ _ q => ans_lift q⟩)
    have P1 : ∀ y : Ext W, Calls Tryd.prog 56 #[.slice (some ⟨b, o, none⟩) (Ty.two cc A B).enc.length c, .int .i64 1] y.w (fun e w' => ∃ (v : Value) (z : Ext W), e = .returned v ∧ w' = z.w ∧ Hid (Calls Tryd.prog 83 #[v] z.w (Ans W (.int .i64 B.cap)))) := fun y => Calls.mono (l2Part1_ans hr (by omega) hc (Ty.end_two hok) (by omega) (by omega) (by omega) (row_two2 hr) y) (by
      rintro e w' ⟨v, z, rfl, rfl, own⟩
      obtain ⟨g, c1, rfl, row, hcap, _⟩ := own_some own (Ty.enc_pos _)
      exact ⟨_, z, rfl, rfl, Calls.mono (ihB hok.2.2 hd.2.2 row (by omega) hcap (Ext.self z.w)) fun _ _ q => ans_lift q⟩)
    have hca := A.cap_le
    have hcb := B.cap_le
    have hab : A.cap * B.cap ≤ 90601 := Nat.mul_le_mul hca hcb
    have hcap1 := Ty.cap_pair A B
    have hcap2 := fun q => Ty.cap_sum cc q A B
    have hlp : 0 < (Ty.two cc A B).enc.length := Ty.enc_pos _
    have hd1 := hd.1
    generalize (Ty.two cc A B).enc.length = len at *
    clear ihA ihB hr hok hd hlen hA hB hl hc
    have hlp' : (0 : Int) < (len : Int) := by omega
    rcases hd1 with rfl | rfl
    · rw [hcap1]
      clear hcap1 hcap2
      rw [show ((min (A.cap * B.cap) 301 : Nat) : Int) = min ((A.cap : Int) * (B.cap : Int)) 301 by rw [← Int.natCast_mul]; omega]
      have hw : IntKind.i64.wrap ((A.cap : Int) * (B.cap : Int)) = (A.cap : Int) * (B.cap : Int) := IntWalk.i64_in _ (by rw [← Int.natCast_mul]; omega)
      clear hab hca hcb
      go_enter Tryd.func83, Tryd.ntmps83
      go_wp2_with (first | (go_at_call 56; (with_reducible refine Calls.mono (P0 _) ?_); rintro e w' ⟨v, yy, rfl, rfl, HC⟩) | (go_at_call 56; (with_reducible refine Calls.mono (P1 _) ?_); rintro e w' ⟨v, yy, rfl, rfl, HC⟩) | (go_at_call 83; (with_reducible refine Calls.mono HC.out ?_); rintro e w' ⟨rfl, yy, rfl⟩) | (go_at_call 120; (with_reducible refine Calls.mono (l1Min_ans _ _ _) ?_); rintro e w' ⟨rfl, yy, rfl⟩))
      go_ret
      exact ⟨rfl, yy, rfl⟩
    · rw [hcap2 (by omega)]
      clear hcap1 hcap2
      rw [show ((min (A.cap + B.cap) 301 : Nat) : Int) = min ((A.cap : Int) + (B.cap : Int)) 301 by omega]
      have hw : IntKind.i64.wrap ((A.cap : Int) + (B.cap : Int)) = (A.cap : Int) + (B.cap : Int) := IntWalk.i64_in _ (by omega)
      clear hab hca hcb
      go_enter Tryd.func83, Tryd.ntmps83
      go_wp2_with (first | (go_at_call 56; (with_reducible refine Calls.mono (P0 _) ?_); rintro e w' ⟨v, yy, rfl, rfl, HC⟩) | (go_at_call 56; (with_reducible refine Calls.mono (P1 _) ?_); rintro e w' ⟨v, yy, rfl, rfl, HC⟩) | (go_at_call 83; (with_reducible refine Calls.mono HC.out ?_); rintro e w' ⟨rfl, yy, rfl⟩) | (go_at_call 120; (with_reducible refine Calls.mono (l1Min_ans _ _ _) ?_); rintro e w' ⟨rfl, yy, rfl⟩))
      go_ret
      exact ⟨rfl, yy, rfl⟩
  | one cc A ihA =>
    intro hok hd W b o c hr hl hc x
    obtain ⟨yy, hyy⟩ : ∃ y : Ext W, x = y := ⟨x, rfl⟩
    rw [hyy]
    clear hyy
    have hA := A.enc_pos
    have hlen := Ty.len_one cc A
    have m0 : ∀ y : Ext W, y.w.cell? ⟨b, o, none⟩ = some (.int .i64 cc) := fun y => y.cell (row_head hr (l' := A.enc) rfl)
    have P0 : ∀ y : Ext W, Calls Tryd.prog 56 #[.slice (some ⟨b, o, none⟩) (Ty.one cc A).enc.length c, .int .i64 0] y.w (fun e w' => ∃ (v : Value) (z : Ext W), e = .returned v ∧ w' = z.w ∧ Hid (Calls Tryd.prog 83 #[v] z.w (Ans W (.int .i64 A.cap)))) := fun y => Calls.mono (l2Part0_ans hr (by omega) hc (Ty.end_one hok) (by omega) (by omega) (by omega) (row_one hr) y) (by
      rintro e w' ⟨v, z, rfl, rfl, own⟩
      obtain ⟨g, c1, rfl, row, hcap, _⟩ := own_some own (Ty.enc_pos _)
      exact ⟨_, z, rfl, rfl, Calls.mono (ihA hok.2 hd row (by omega) hcap (Ext.self z.w)) fun _ _ q => ans_lift q⟩)
    have hbx := Ty.bx_of hok.1
    have n0 : (cc == 0) = false := by rw [beq_eq_false_iff_ne]; unfold Bx at hbx; omega
    have n1 : (cc == 1) = false := by rw [beq_eq_false_iff_ne]; unfold Bx at hbx; omega
    have n2 : (cc == 2) = false := by rw [beq_eq_false_iff_ne]; unfold Bx at hbx; omega
    have hlp : 0 < (Ty.one cc A).enc.length := Ty.enc_pos _
    rw [Ty.cap_one]
    generalize (Ty.one cc A).enc.length = len at *
    clear ihA hr hok hd hlen hA hl hc hbx
    have hlp' : (0 : Int) < (len : Int) := by omega
    go_enter Tryd.func83, Tryd.ntmps83
    go_wp2_with (first | (go_at_call 56; (with_reducible refine Calls.mono (P0 _) ?_); rintro e w' ⟨v, yy, rfl, rfl, HC⟩) | (go_at_call 83; (with_reducible refine Calls.mono HC.out ?_); rintro e w' ⟨rfl, yy, rfl⟩))
    go_ret
    exact ⟨rfl, yy, rfl⟩
end Go.Proofs.YtmifnhblhggflaaDoor
