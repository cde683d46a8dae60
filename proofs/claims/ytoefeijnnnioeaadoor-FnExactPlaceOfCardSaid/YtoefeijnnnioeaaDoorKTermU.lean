
/- IsTerm of the program and of its model. -/
import Derived.Test.YtoefeijnnnioeaaDoorGH
import Derived.Test.YtoefeijnnnioeaaDoorGB
set_option linter.unusedVariables false
set_option linter.unusedSimpArgs false
namespace Go.Proofs.YtoefeijnnnioeaaDoor
open Go.RowKit

/-- A system and a term that a function has been handed. -/
theorem boxedST {W W1 : World} {r : Ref} {s : Sys} (h : SysIn W r s) {lo : Nat} {t : Tm} {q : TV} (k : TmIn W lo t q) (x : Ext W) {T T' : TypeId} {B : Nat} (hB : x.w.heap.size = B)
    (hW : (x.w.alloc (.cells #[.int .i64 s.n, .slice r.pa s.plus.length r.pc, .slice r.ta s.times.length r.tc, .slice r.ba s.below.length r.bc] T)).alloc (.cells #[.int .i64 t.op, .int .i64 t.n, .slice q.a t.ty.length q.c, .slice q.b t.kids.length q.d] T') = W1) :
    (∀ y : Ext W1, y.w.cell? ⟨B, 0, none⟩ = some (.int .i64 s.n)) ∧ (∀ y : Ext W1, y.w.cell? ⟨B, 1, none⟩ = some (.slice r.pa s.plus.length r.pc)) ∧
    (∀ y : Ext W1, y.w.cell? ⟨B, 2, none⟩ = some (.slice r.ta s.times.length r.tc)) ∧ (∀ y : Ext W1, y.w.cell? ⟨B, 3, none⟩ = some (.slice r.ba s.below.length r.bc)) ∧
    (∀ y : Ext W1, y.w.cell? ⟨B + 1, 0, none⟩ = some (.int .i64 t.op)) ∧ (∀ y : Ext W1, y.w.cell? ⟨B + 1, 1, none⟩ = some (.int .i64 t.n)) ∧
    (∀ y : Ext W1, y.w.cell? ⟨B + 1, 2, none⟩ = some (.slice q.a t.ty.length q.c)) ∧ (∀ y : Ext W1, y.w.cell? ⟨B + 1, 3, none⟩ = some (.slice q.b t.kids.length q.d)) ∧
    SysIn W1 r s ∧ TmIn W1 lo t q ∧ (∀ y : Ext W1, ∃ z : Ext W, y.w = z.w) ∧ ∃ y0 : Ext W1, y0.w = W1 := by
  obtain ⟨a0, a1, a2, a3, g1, gb, _, _⟩ := boxed h x (W1 := x.w.alloc _) hB rfl
  obtain ⟨b0, b1, b2, b3, g2, gb2, y1, hy1⟩ := boxedT (k.ext (x.alloc _)) (Ext.self (x.w.alloc _)) (T := T') (B := B + 1) (by rw [← hB]; simp) hW
  have hf : ∀ y : Ext W1, ∃ z : Ext (x.w.alloc (.cells #[.int .i64 s.n, .slice r.pa s.plus.length r.pc, .slice r.ta s.times.length r.tc, .slice r.ba s.below.length r.bc] T)), y.w = z.w := gb2
  refine ⟨?_, ?_, ?_, ?_, b0, b1, b2, b3, ?_, g2, ?_, y1, hy1⟩
  · intro y; obtain ⟨z, hz⟩ := hf y; rw [hz]; exact a0 z
  · intro y; obtain ⟨z, hz⟩ := hf y; rw [hz]; exact a1 z
  · intro y; obtain ⟨z, hz⟩ := hf y; rw [hz]; exact a2 z
  · intro y; obtain ⟨z, hz⟩ := hf y; rw [hz]; exact a3 z
  · obtain ⟨z, hz⟩ := hf y1; rw [← hy1, hz]; exact g1.ext z
  · intro y; obtain ⟨z, hz⟩ := hf y; obtain ⟨u, hu⟩ := gb z; exact ⟨u, by rw [hz, hu]⟩

set_option maxHeartbeats 4000000 in
theorem specIsTerm_ans {W : World} {r : Ref} {s : Sys} (h : SysIn W r s) {lo : Nat} {t : Tm} {q : TV} (k : TmIn W lo t q) (hwt : t.wt ≤ 1099511627776) (n : Int) (p : Bool) (hp : p = true ↔ IsTermP s t n) (x : Ext W) :
    Calls Tryd.prog 77 #[r.val s, q.val t, .int .i64 n] x.w (Ans W (.bool p)) := by
  have HP := Lib.hid hp
  clear hp
  obtain ⟨ta, tc, tb, td⟩ := q
  unfold Ref.val TV.val
  obtain ⟨m, hm⟩ := leftV_ex t 400
  have HM := Lib.hid hm
  clear hm
  by_cases is : IsSys s
  · have IS := Lib.hid is
    clear is
    by_cases hin : 0 ≤ n ∧ n ≤ 8
    · have IN := Lib.hid hin
      clear hin
      by_cases hs : t.sz ≤ 400
      · have hm0 : 0 ≤ m := by rcases HM.out with h | h <;> omega
        by_cases ho : OkT s.n true n t
        · have HO := Lib.hid ho
          clear ho
          go_enter Tryd.func77, Tryd.ntmps77
          go_wp2_with fail
          generalize hW : (x.w.alloc _).alloc _ = W1
          generalize hB : x.w.heap.size = B
          obtain ⟨c0, c1, c2, c3, d0, d1, d2, d3, h1, k1, hback, yy, hy0⟩ := boxedST h k x hB hW
          clear hW hB
          rw [← hy0]
          clear hy0
          have LEFT : ∀ y : Ext W1, Calls Tryd.prog 89 #[(TV.mk ta tc tb td).val t, .int .i64 400] y.w (Ans W1 (.int .i64 m)) := fun y => l2Left_ans t k1 400 (by omega) (by omega) m HM.out y
          unfold TV.val at LEFT
          have TERM : ∀ y : Ext W1, Calls Tryd.prog 116 #[(TV.mk ta tc tb td).val t, .int .i64 n, .int .i64 s.n, .bool true] y.w (Ans W1 (.bool true)) := fun y => l2Term_ans t k1 hwt n s.n IN.out.1 (by have := IN.out.2; omega) true true (by refine iff_tf ?_; dsimp only; exact HO.out) y
          unfold TV.val at TERM
          go_wp2_with (first | (go_at_call 123; with_reducible refine Calls.mono (specIsSystem_ans h1 true (by refine iff_tf ?_; dsimp only; exact IS.out) _) ?_; rintro e w' ⟨rfl, yy, rfl⟩) | (go_at_call 97; with_reducible refine Calls.mono (l1In_ans n 0 8 true (by refine iff_tf ?_; dsimp only; exact IN.out) _) ?_; rintro e w' ⟨rfl, yy, rfl⟩) | (go_at_call 89; with_reducible refine Calls.mono (LEFT _) ?_; rintro e w' ⟨rfl, yy, rfl⟩) | (go_at_call 116; with_reducible refine Calls.mono (TERM _) ?_; rintro e w' ⟨rfl, yy, rfl⟩))
          go_ret
          exact fin_true HP (⟨IS.out, IN.out, hs, HO.out⟩) (hback yy)
        · have HO := Lib.hid ho
          clear ho
          go_enter Tryd.func77, Tryd.ntmps77
          go_wp2_with fail
          generalize hW : (x.w.alloc _).alloc _ = W1
          generalize hB : x.w.heap.size = B
          obtain ⟨c0, c1, c2, c3, d0, d1, d2, d3, h1, k1, hback, yy, hy0⟩ := boxedST h k x hB hW
          clear hW hB
          rw [← hy0]
          clear hy0
          have LEFT : ∀ y : Ext W1, Calls Tryd.prog 89 #[(TV.mk ta tc tb td).val t, .int .i64 400] y.w (Ans W1 (.int .i64 m)) := fun y => l2Left_ans t k1 400 (by omega) (by omega) m HM.out y
          unfold TV.val at LEFT
          have TERM : ∀ y : Ext W1, Calls Tryd.prog 116 #[(TV.mk ta tc tb td).val t, .int .i64 n, .int .i64 s.n, .bool true] y.w (Ans W1 (.bool false)) := fun y => l2Term_ans t k1 hwt n s.n IN.out.1 (by have := IN.out.2; omega) true false (by refine iff_tf ?_; dsimp only; exact HO.out) y
          unfold TV.val at TERM
          go_wp2_with (first | (go_at_call 123; with_reducible refine Calls.mono (specIsSystem_ans h1 true (by refine iff_tf ?_; dsimp only; exact IS.out) _) ?_; rintro e w' ⟨rfl, yy, rfl⟩) | (go_at_call 97; with_reducible refine Calls.mono (l1In_ans n 0 8 true (by refine iff_tf ?_; dsimp only; exact IN.out) _) ?_; rintro e w' ⟨rfl, yy, rfl⟩) | (go_at_call 89; with_reducible refine Calls.mono (LEFT _) ?_; rintro e w' ⟨rfl, yy, rfl⟩) | (go_at_call 116; with_reducible refine Calls.mono (TERM _) ?_; rintro e w' ⟨rfl, yy, rfl⟩))
          go_ret
          exact fin_false HP (fun q => HO.out q.2.2.2) (hback yy)
      · have hm0 : ¬ 0 ≤ m := by rcases HM.out with h | h <;> omega
        go_enter Tryd.func77, Tryd.ntmps77
        go_wp2_with fail
        generalize hW : (x.w.alloc _).alloc _ = W1
        generalize hB : x.w.heap.size = B
        obtain ⟨c0, c1, c2, c3, d0, d1, d2, d3, h1, k1, hback, yy, hy0⟩ := boxedST h k x hB hW
        clear hW hB
        rw [← hy0]
        clear hy0
        have LEFT : ∀ y : Ext W1, Calls Tryd.prog 89 #[(TV.mk ta tc tb td).val t, .int .i64 400] y.w (Ans W1 (.int .i64 m)) := fun y => l2Left_ans t k1 400 (by omega) (by omega) m HM.out y
        unfold TV.val at LEFT
        go_wp2_with (first | (go_at_call 123; with_reducible refine Calls.mono (specIsSystem_ans h1 true (by refine iff_tf ?_; dsimp only; exact IS.out) _) ?_; rintro e w' ⟨rfl, yy, rfl⟩) | (go_at_call 97; with_reducible refine Calls.mono (l1In_ans n 0 8 true (by refine iff_tf ?_; dsimp only; exact IN.out) _) ?_; rintro e w' ⟨rfl, yy, rfl⟩) | (go_at_call 89; with_reducible refine Calls.mono (LEFT _) ?_; rintro e w' ⟨rfl, yy, rfl⟩))
        go_ret
        exact fin_false HP (fun q => hs q.2.2.1) (hback yy)
    · have IN := Lib.hid hin
      clear hin
      go_enter Tryd.func77, Tryd.ntmps77
      go_wp2_with fail
      generalize hW : (x.w.alloc _).alloc _ = W1
      generalize hB : x.w.heap.size = B
      obtain ⟨c0, c1, c2, c3, d0, d1, d2, d3, h1, k1, hback, yy, hy0⟩ := boxedST h k x hB hW
      clear hW hB
      rw [← hy0]
      clear hy0
      go_wp2_with (first | (go_at_call 123; with_reducible refine Calls.mono (specIsSystem_ans h1 true (by refine iff_tf ?_; dsimp only; exact IS.out) _) ?_; rintro e w' ⟨rfl, yy, rfl⟩) | (go_at_call 97; with_reducible refine Calls.mono (l1In_ans n 0 8 false (by refine iff_tf ?_; dsimp only; exact IN.out) _) ?_; rintro e w' ⟨rfl, yy, rfl⟩))
      go_ret
      exact fin_false HP (fun q => IN.out q.2.1) (hback yy)
  · have IS := Lib.hid is
    clear is
    go_enter Tryd.func77, Tryd.ntmps77
    go_wp2_with fail
    generalize hW : (x.w.alloc _).alloc _ = W1
    generalize hB : x.w.heap.size = B
    obtain ⟨c0, c1, c2, c3, d0, d1, d2, d3, h1, k1, hback, yy, hy0⟩ := boxedST h k x hB hW
    clear hW hB
    rw [← hy0]
    clear hy0
    go_wp2_with ((go_at_call 123; with_reducible refine Calls.mono (specIsSystem_ans h1 false (by refine iff_tf ?_; dsimp only; exact IS.out) _) ?_; rintro e w' ⟨rfl, yy, rfl⟩))
    go_ret
    exact fin_false HP (fun q => IS.out q.1) (hback yy)

set_option maxHeartbeats 4000000 in
theorem isTerm_ans {W : World} (F : Forms W) (TF : TForms W) {r : Ref} {s : Sys} (h : SysIn W r s) {lo : Nat} {t : Tm} {q : TV} (k : TmIn W lo t q) (hTB : TmB t) (n : Int) (p : Bool) (hp : p = true ↔ IsTermP s t n) (x : Ext W) :
    Calls Tryd.prog 81 #[r.val s, q.val t, .int .i64 n] x.w (Ans W (.bool p)) := by
  have HP := Lib.hid hp
  clear hp
  obtain ⟨ta, tc, tb, td⟩ := q
  unfold Ref.val TV.val
  by_cases hn1 : 0 ≤ n
  · have HN1 := Lib.hid hn1
    clear hn1
    by_cases hn2 : n ≤ 8
    · have HN2 := Lib.hid hn2
      clear hn2
      by_cases is : IsSys s
      · have IS := Lib.hid is
        clear is
        by_cases ho : OkT s.n (!false) n t ∧ t.sz ≤ 400
        · have HO := Lib.hid ho
          clear ho
          go_enter Tryd.func81, Tryd.ntmps81
          go_wp2_with fail
          generalize hW : (x.w.alloc _).alloc _ = W1
          generalize hB : x.w.heap.size = B
          obtain ⟨c0, c1, c2, c3, d0, d1, d2, d3, h1, k1, hback, yy, hy0⟩ := boxedST h k x hB hW
          clear hW hB
          rw [← hy0]
          clear hy0
          have FF := F.on hback
          have TG := TF.on hback
          have hs0 : (0 : Int) ≤ s.n := by have := IS.out.tab.lo; omega
          have AT : ∀ y : Ext W1, Calls Tryd.prog 119 #[.agg #[.int .i64 s.n, .bool false], (TV.mk ta tc tb td).val t, .int .i64 n] y.w (Ans W1 (.bool true)) := fun y => allowsTerm_ans FF TG k1 hTB s.n hs0 (by have := IS.out.tab.hi; omega) false n HN1.out (by have := HN2.out; omega) true (by refine iff_tf ?_; dsimp only; exact HO.out) y
          unfold TV.val at AT
          have n1 : 0 ≤ n := HN1.out
          have n2 : n ≤ 8 := HN2.out
          refine region_ext yy (by kernel_rfl) (by kernel_rfl) ?_
          repeat (go_big_quiet_step (first | (go_at_call 129; with_reducible exact isSystem_ans h1 true (by refine iff_tf ?_; dsimp only; exact IS.out) _) | (go_at_call 130; with_reducible exact ruleOf_ans h1 _) | (go_at_call 119; with_reducible exact AT _) | fail))
          refine wpQuiet_nil ?_
          rintro _ ⟨yy, rfl⟩
          go_wp2
          go_ret
          exact fin_true HP (⟨IS.out, ⟨HN1.out, HN2.out⟩, HO.out.2, HO.out.1⟩) (hback yy)
        · have HO := Lib.hid ho
          clear ho
          go_enter Tryd.func81, Tryd.ntmps81
          go_wp2_with fail
          generalize hW : (x.w.alloc _).alloc _ = W1
          generalize hB : x.w.heap.size = B
          obtain ⟨c0, c1, c2, c3, d0, d1, d2, d3, h1, k1, hback, yy, hy0⟩ := boxedST h k x hB hW
          clear hW hB
          rw [← hy0]
          clear hy0
          have FF := F.on hback
          have TG := TF.on hback
          have hs0 : (0 : Int) ≤ s.n := by have := IS.out.tab.lo; omega
          have AT : ∀ y : Ext W1, Calls Tryd.prog 119 #[.agg #[.int .i64 s.n, .bool false], (TV.mk ta tc tb td).val t, .int .i64 n] y.w (Ans W1 (.bool false)) := fun y => allowsTerm_ans FF TG k1 hTB s.n hs0 (by have := IS.out.tab.hi; omega) false n HN1.out (by have := HN2.out; omega) false (by refine iff_tf ?_; dsimp only; exact HO.out) y
          unfold TV.val at AT
          have n1 : 0 ≤ n := HN1.out
          have n2 : n ≤ 8 := HN2.out
          refine region_ext yy (by kernel_rfl) (by kernel_rfl) ?_
          repeat (go_big_quiet_step (first | (go_at_call 129; with_reducible exact isSystem_ans h1 true (by refine iff_tf ?_; dsimp only; exact IS.out) _) | (go_at_call 130; with_reducible exact ruleOf_ans h1 _) | (go_at_call 119; with_reducible exact AT _) | fail))
          refine wpQuiet_nil ?_
          rintro _ ⟨yy, rfl⟩
          go_wp2
          go_ret
          exact fin_false HP (fun q => HO.out ⟨q.2.2.2, q.2.2.1⟩) (hback yy)
      · have IS := Lib.hid is
        clear is
        go_enter Tryd.func81, Tryd.ntmps81
        go_wp2_with fail
        generalize hW : (x.w.alloc _).alloc _ = W1
        generalize hB : x.w.heap.size = B
        obtain ⟨c0, c1, c2, c3, d0, d1, d2, d3, h1, k1, hback, yy, hy0⟩ := boxedST h k x hB hW
        clear hW hB
        rw [← hy0]
        clear hy0
        have n1 : 0 ≤ n := HN1.out
        have n2 : n ≤ 8 := HN2.out
        refine region_ext yy (by kernel_rfl) (by kernel_rfl) ?_
        repeat (go_big_quiet_step (first | (go_at_call 129; with_reducible exact isSystem_ans h1 false (by refine iff_tf ?_; dsimp only; exact IS.out) _) | fail))
        refine wpQuiet_nil ?_
        rintro _ ⟨yy, rfl⟩
        go_wp2
        go_ret
        exact fin_false HP (fun q => IS.out q.1) (hback yy)
    · have HN2 := Lib.hid hn2
      clear hn2
      go_enter Tryd.func81, Tryd.ntmps81
      go_wp2_with fail
      generalize hW : (x.w.alloc _).alloc _ = W1
      generalize hB : x.w.heap.size = B
      obtain ⟨c0, c1, c2, c3, d0, d1, d2, d3, h1, k1, hback, yy, hy0⟩ := boxedST h k x hB hW
      clear hW hB
      rw [← hy0]
      clear hy0
      have n1 : 0 ≤ n := HN1.out
      have n2 : decide (n ≤ 8) = false := decide_eq_false (by have := HN2.out; omega)
      refine region_ext yy (by kernel_rfl) (by kernel_rfl) ?_
      repeat (go_big_quiet_step (fail))
      refine wpQuiet_nil ?_
      rintro _ ⟨yy, rfl⟩
      go_wp2
      go_ret
      exact fin_false HP (fun q => by have := HN2.out; have := q.2.1.2; omega) (hback yy)
  · have HN1 := Lib.hid hn1
    clear hn1
    go_enter Tryd.func81, Tryd.ntmps81
    go_wp2_with fail
    generalize hW : (x.w.alloc _).alloc _ = W1
    generalize hB : x.w.heap.size = B
    obtain ⟨c0, c1, c2, c3, d0, d1, d2, d3, h1, k1, hback, yy, hy0⟩ := boxedST h k x hB hW
    clear hW hB
    rw [← hy0]
    clear hy0
    have n1 : decide (0 ≤ n) = false := decide_eq_false (by have := HN1.out; omega)
    refine region_ext yy (by kernel_rfl) (by kernel_rfl) ?_
    repeat (go_big_quiet_step (fail))
    refine wpQuiet_nil ?_
    rintro _ ⟨yy, rfl⟩
    go_wp2
    go_ret
    exact fin_false HP (fun q => by have := HN1.out; have := q.2.1.1; omega) (hback yy)

end Go.Proofs.YtoefeijnnnioeaaDoor
