/- Texts of one claim, laid together: TermM, TermN, TermT. -/
import Derived.Test.YtncfbljablbglaaDoorZ3GF
import Derived.Test.YtncfbljablbglaaDoorZ3GA
set_option linter.unusedVariables false
set_option linter.unusedSimpArgs false
/- The model's table of terms. -/
namespace Go.Proofs.YtncfbljablbglaaDoor
open Go.RowKit

set_option maxHeartbeats 8000000 in
theorem l2Many_ans {W : World} (op : Int) (x : Ext W) : Calls Tryd.prog 100 #[.int .i64 op] x.w (Ans W (.int .i64 (manyO op))) := by
  obtain ⟨yy, hyy⟩ : ∃ y : Ext W, x = y := ⟨x, rfl⟩
  rw [hyy]
  clear hyy
  by_cases h : 0 ≤ op ∧ op ≤ 12
  · rcases ops13 h with rfl | rfl | rfl | rfl | rfl | rfl | rfl | rfl | rfl | rfl | rfl | rfl | rfl <;>
    · go_enter Tryd.func100, Tryd.ntmps100
      go_wp2_with ((go_at_call 30; with_reducible refine Calls.mono (l1In_ans _ 0 12 true (by simp) _) ?_; rintro e w' ⟨rfl, yy, rfl⟩))
      go_ret
      exact fin_int (by decide) ⟨yy.alloc _, rfl⟩
  · have HH := Lib.hid h
    have HV : Hid (-1 = manyO op) := by unfold manyO; rw [if_neg h]; exact rfl
    clear h
    go_enter Tryd.func100, Tryd.ntmps100
    go_wp2_with ((go_at_call 30; with_reducible refine Calls.mono (l1In_ans op 0 12 false (by refine iff_tf ?_; dsimp only; exact HH.out) _) ?_; rintro e w' ⟨rfl, yy, rfl⟩))
    go_ret
    exact fin_int HV.out ⟨yy, rfl⟩

theorem l2Has_ans {W : World} (op : Int) (p : Bool) (hp : p = true ↔ HasG op) (x : Ext W) : Calls Tryd.prog 79 #[.int .i64 op] x.w (Ans W (.bool p)) := by
  have HP := Lib.hid hp
  clear hp
  obtain ⟨yy, hyy⟩ : ∃ y : Ext W, x = y := ⟨x, rfl⟩
  rw [hyy]
  clear hyy
  by_cases e5 : op = 5
  · subst e5
    go_enter Tryd.func79, Tryd.ntmps79
    go_wp2
    go_ret
    exact fin_true HP (by decide) ⟨yy, rfl⟩
  by_cases e8 : op = 8
  · subst e8
    go_enter Tryd.func79, Tryd.ntmps79
    go_wp2
    go_ret
    exact fin_true HP (by decide) ⟨yy, rfl⟩
  by_cases e9 : op = 9
  · subst e9
    go_enter Tryd.func79, Tryd.ntmps79
    go_wp2
    go_ret
    exact fin_true HP (by decide) ⟨yy, rfl⟩
  by_cases e11 : op = 11
  · subst e11
    go_enter Tryd.func79, Tryd.ntmps79
    go_wp2
    go_ret
    exact fin_true HP (by decide) ⟨yy, rfl⟩
  by_cases e12 : op = 12
  · subst e12
    go_enter Tryd.func79, Tryd.ntmps79
    go_wp2
    go_ret
    exact fin_true HP (by decide) ⟨yy, rfl⟩
  have f5 : (op == 5) = false := by simpa using e5
  have f8 : (op == 8) = false := by simpa using e8
  have f9 : (op == 9) = false := by simpa using e9
  have f11 : (op == 11) = false := by simpa using e11
  have f12 : (op == 12) = false := by simpa using e12
  have HN : Hid (¬ HasG op) := by unfold HasG; show ¬ _; omega
  clear e5 e8 e9 e11 e12
  go_enter Tryd.func79, Tryd.ntmps79
  go_wp2
  go_ret
  exact fin_false HP HN.out ⟨yy, rfl⟩

theorem l2Typed_ans {W : World} (op : Int) (p : Bool) (hp : p = true ↔ TypedO op) (x : Ext W) : Calls Tryd.prog 80 #[.int .i64 op] x.w (Ans W (.bool p)) := by
  have HP := Lib.hid hp
  clear hp
  obtain ⟨yy, hyy⟩ : ∃ y : Ext W, x = y := ⟨x, rfl⟩
  rw [hyy]
  clear hyy
  by_cases e6 : op = 6
  · subst e6
    go_enter Tryd.func80, Tryd.ntmps80
    go_wp2
    go_ret
    exact fin_true HP (by decide) ⟨yy, rfl⟩
  by_cases e7 : op = 7
  · subst e7
    go_enter Tryd.func80, Tryd.ntmps80
    go_wp2
    go_ret
    exact fin_true HP (by decide) ⟨yy, rfl⟩
  by_cases e9 : op = 9
  · subst e9
    go_enter Tryd.func80, Tryd.ntmps80
    go_wp2
    go_ret
    exact fin_true HP (by decide) ⟨yy, rfl⟩
  have f6 : (op == 6) = false := by simpa using e6
  have f7 : (op == 7) = false := by simpa using e7
  have f9 : (op == 9) = false := by simpa using e9
  have HN : Hid (¬ TypedO op) := by unfold TypedO; show ¬ _; omega
  clear e6 e7 e9
  go_enter Tryd.func80, Tryd.ntmps80
  go_wp2
  go_ret
  exact fin_false HP HN.out ⟨yy, rfl⟩

set_option maxHeartbeats 8000000 in
theorem l2Adds_ans {W : World} (op : Int) (h : 0 ≤ op ∧ op ≤ 12) (k : Nat) (hk : k < 3) (x : Ext W) : Calls Tryd.prog 65 #[.int .i64 op, .int .i64 k] x.w (Ans W (.int .i64 (addsO op k))) := by
  obtain ⟨yy, hyy⟩ : ∃ y : Ext W, x = y := ⟨x, rfl⟩
  rw [hyy]
  clear hyy
  have hk3 : k = 0 ∨ k = 1 ∨ k = 2 := by omega
  rcases ops13 h with rfl | rfl | rfl | rfl | rfl | rfl | rfl | rfl | rfl | rfl | rfl | rfl | rfl <;> rcases hk3 with rfl | rfl | rfl <;>
  · go_enter Tryd.func65, Tryd.ntmps65
    go_wp2
    go_ret
    exact fin_int (by decide) ⟨yy, rfl⟩

end Go.Proofs.YtncfbljablbglaaDoor
/- The model's nodes of terms. -/
namespace Go.Proofs.YtncfbljablbglaaDoor
open Go.RowKit

set_option maxHeartbeats 8000000 in
theorem l2Node_ans {W : World} {lo : Nat} {t : Tm} {r : TV} (h : TmIn W lo t r) (hl40 : t.ty.length ≤ 1099511627776) (vars size : Int) (hv : 0 ≤ vars) (hv2 : vars ≤ 1000000) (closed : Bool) (p : Bool) (hp : p = true ↔ NodeOk size closed vars t) (x : Ext W) :
    Calls Tryd.prog 86 #[r.val t, .int .i64 vars, .int .i64 size, .bool closed] x.w (Ans W (.bool p)) := by
  have HP := Lib.hid hp
  clear hp
  obtain ⟨ra, rc, rb, rd⟩ := r
  unfold TV.val
  generalize hm : manyO t.op = m
  replace hm := Lib.hid hm
  by_cases hm1 : (t.kids.length : Int) = m
  · have fm : ((t.kids.length : Int) != m) = false := by simpa using hm1
    have HM1 := Lib.hid hm1
    clear hm1
    have HM : Hid ((t.kids.length : Int) = manyO t.op) := by rw [hm.out]; exact HM1
    by_cases h0 : t.op = 0
    · have f0 : (t.op == 0) = true := by simpa using h0
      have H0 := Lib.hid h0
      clear h0
      by_cases hn : 0 ≤ t.n ∧ t.n < vars
      · have HN := Lib.hid hn
        clear hn
        by_cases ht : TypedO t.op
        · have HT := Lib.hid ht
          clear ht
          by_cases hw : WT t.ty
          · have HW := Lib.hid hw
            clear hw
            by_cases hg : Grs size closed t.ty
            · have HG := Lib.hid hg
              clear hg
              go_enter Tryd.func86, Tryd.ntmps86
              go_wp2_with fail
              generalize hW : x.w.alloc _ = W1
              generalize hB : x.w.heap.size = B
              obtain ⟨c0, c1, c2, c3, h1, hback, yy, hy0⟩ := boxedT h x hB hW
              clear hW hB
              rw [← hy0]
              clear hy0
              obtain ⟨kr, A⟩ := h1.out
              have hrow := A.row
              have hlt := A.lt
              have hlk := A.lk
              have MANY : ∀ y : Ext W1, Calls Tryd.prog 100 #[.int .i64 t.op] y.w (Ans W1 (.int .i64 m)) := fun y => by rw [← hm.out]; exact l2Many_ans _ y
              clear A
              refine region_ext yy (by kernel_rfl) (by kernel_rfl) ?_
              repeat (go_big_quiet_step ((go_at_call 100; with_reducible exact MANY _)))
              refine wpQuiet_nil ?_
              rintro _ ⟨yy, rfl⟩
              go_wp2_with (first | (go_at_call 30; with_reducible refine Calls.mono (l1In_ans t.n 0 (vars - 1) true (by refine iff_tf ?_; dsimp only; have := HN.out; omega) _) ?_; rintro e w' ⟨rfl, yy, rfl⟩) | (go_at_call 80; with_reducible refine Calls.mono (l2Typed_ans t.op true (by refine iff_tf ?_; dsimp only; exact HT.out) _) ?_; rintro e w' ⟨rfl, yy, rfl⟩) | (go_at_call 43; with_reducible refine Calls.mono (l2Type_ans hrow hl40 true (by refine iff_tf ?_; dsimp only; exact HW.out) _) ?_; rintro e w' ⟨rfl, yy, rfl⟩) | (go_at_call 101; with_reducible refine Calls.mono (l2Graded_ans hrow hl40 size closed true (by refine iff_tf ?_; dsimp only; exact HG.out) _) ?_; rintro e w' ⟨rfl, yy, rfl⟩))
              go_ret
              exact fin_true HP (⟨HM.out, by unfold NOk; rw [if_pos H0.out]; exact HN.out, by unfold TyOk; rw [if_pos HT.out]; exact ⟨HW.out, HG.out⟩⟩) (hback yy)
            · have HG := Lib.hid hg
              clear hg
              go_enter Tryd.func86, Tryd.ntmps86
              go_wp2_with fail
              generalize hW : x.w.alloc _ = W1
              generalize hB : x.w.heap.size = B
              obtain ⟨c0, c1, c2, c3, h1, hback, yy, hy0⟩ := boxedT h x hB hW
              clear hW hB
              rw [← hy0]
              clear hy0
              obtain ⟨kr, A⟩ := h1.out
              have hrow := A.row
              have hlt := A.lt
              have hlk := A.lk
              have MANY : ∀ y : Ext W1, Calls Tryd.prog 100 #[.int .i64 t.op] y.w (Ans W1 (.int .i64 m)) := fun y => by rw [← hm.out]; exact l2Many_ans _ y
              clear A
              refine region_ext yy (by kernel_rfl) (by kernel_rfl) ?_
              repeat (go_big_quiet_step ((go_at_call 100; with_reducible exact MANY _)))
              refine wpQuiet_nil ?_
              rintro _ ⟨yy, rfl⟩
              go_wp2_with (first | (go_at_call 30; with_reducible refine Calls.mono (l1In_ans t.n 0 (vars - 1) true (by refine iff_tf ?_; dsimp only; have := HN.out; omega) _) ?_; rintro e w' ⟨rfl, yy, rfl⟩) | (go_at_call 80; with_reducible refine Calls.mono (l2Typed_ans t.op true (by refine iff_tf ?_; dsimp only; exact HT.out) _) ?_; rintro e w' ⟨rfl, yy, rfl⟩) | (go_at_call 43; with_reducible refine Calls.mono (l2Type_ans hrow hl40 true (by refine iff_tf ?_; dsimp only; exact HW.out) _) ?_; rintro e w' ⟨rfl, yy, rfl⟩) | (go_at_call 101; with_reducible refine Calls.mono (l2Graded_ans hrow hl40 size closed false (by refine iff_tf ?_; dsimp only; exact HG.out) _) ?_; rintro e w' ⟨rfl, yy, rfl⟩))
              go_ret
              exact fin_false HP (fun q => HG.out (by have := q.tok; unfold TyOk at this; rw [if_pos HT.out] at this; exact this.2)) (hback yy)
          · have HW := Lib.hid hw
            clear hw
            go_enter Tryd.func86, Tryd.ntmps86
            go_wp2_with fail
            generalize hW : x.w.alloc _ = W1
            generalize hB : x.w.heap.size = B
            obtain ⟨c0, c1, c2, c3, h1, hback, yy, hy0⟩ := boxedT h x hB hW
            clear hW hB
            rw [← hy0]
            clear hy0
            obtain ⟨kr, A⟩ := h1.out
            have hrow := A.row
            have hlt := A.lt
            have hlk := A.lk
            have MANY : ∀ y : Ext W1, Calls Tryd.prog 100 #[.int .i64 t.op] y.w (Ans W1 (.int .i64 m)) := fun y => by rw [← hm.out]; exact l2Many_ans _ y
            clear A
            refine region_ext yy (by kernel_rfl) (by kernel_rfl) ?_
            repeat (go_big_quiet_step ((go_at_call 100; with_reducible exact MANY _)))
            refine wpQuiet_nil ?_
            rintro _ ⟨yy, rfl⟩
            go_wp2_with (first | (go_at_call 30; with_reducible refine Calls.mono (l1In_ans t.n 0 (vars - 1) true (by refine iff_tf ?_; dsimp only; have := HN.out; omega) _) ?_; rintro e w' ⟨rfl, yy, rfl⟩) | (go_at_call 80; with_reducible refine Calls.mono (l2Typed_ans t.op true (by refine iff_tf ?_; dsimp only; exact HT.out) _) ?_; rintro e w' ⟨rfl, yy, rfl⟩) | (go_at_call 43; with_reducible refine Calls.mono (l2Type_ans hrow hl40 false (by refine iff_tf ?_; dsimp only; exact HW.out) _) ?_; rintro e w' ⟨rfl, yy, rfl⟩))
            go_ret
            exact fin_false HP (fun q => HW.out (by have := q.tok; unfold TyOk at this; rw [if_pos HT.out] at this; exact this.1)) (hback yy)
        · have HT := Lib.hid ht
          clear ht
          by_cases he : t.ty.length = 0
          · have fe : ((t.ty.length : Int) == 0) = true := beq_iff_eq.2 (by omega)
            have HE := Lib.hid he
            clear he
            go_enter Tryd.func86, Tryd.ntmps86
            go_wp2_with fail
            generalize hW : x.w.alloc _ = W1
            generalize hB : x.w.heap.size = B
            obtain ⟨c0, c1, c2, c3, h1, hback, yy, hy0⟩ := boxedT h x hB hW
            clear hW hB
            rw [← hy0]
            clear hy0
            obtain ⟨kr, A⟩ := h1.out
            have hrow := A.row
            have hlt := A.lt
            have hlk := A.lk
            have MANY : ∀ y : Ext W1, Calls Tryd.prog 100 #[.int .i64 t.op] y.w (Ans W1 (.int .i64 m)) := fun y => by rw [← hm.out]; exact l2Many_ans _ y
            clear A
            refine region_ext yy (by kernel_rfl) (by kernel_rfl) ?_
            repeat (go_big_quiet_step ((go_at_call 100; with_reducible exact MANY _)))
            refine wpQuiet_nil ?_
            rintro _ ⟨yy, rfl⟩
            go_wp2_with (first | (go_at_call 30; with_reducible refine Calls.mono (l1In_ans t.n 0 (vars - 1) true (by refine iff_tf ?_; dsimp only; have := HN.out; omega) _) ?_; rintro e w' ⟨rfl, yy, rfl⟩) | (go_at_call 80; with_reducible refine Calls.mono (l2Typed_ans t.op false (by refine iff_tf ?_; dsimp only; exact HT.out) _) ?_; rintro e w' ⟨rfl, yy, rfl⟩))
            go_ret
            exact fin_true HP (⟨HM.out, by unfold NOk; rw [if_pos H0.out]; exact HN.out, by unfold TyOk; rw [if_neg HT.out]; exact List.eq_nil_of_length_eq_zero HE.out⟩) (hback yy)
          · have fe : ((t.ty.length : Int) == 0) = false := beq_eq_false_iff_ne.2 (by omega)
            have HE := Lib.hid he
            clear he
            go_enter Tryd.func86, Tryd.ntmps86
            go_wp2_with fail
            generalize hW : x.w.alloc _ = W1
            generalize hB : x.w.heap.size = B
            obtain ⟨c0, c1, c2, c3, h1, hback, yy, hy0⟩ := boxedT h x hB hW
            clear hW hB
            rw [← hy0]
            clear hy0
            obtain ⟨kr, A⟩ := h1.out
            have hrow := A.row
            have hlt := A.lt
            have hlk := A.lk
            have MANY : ∀ y : Ext W1, Calls Tryd.prog 100 #[.int .i64 t.op] y.w (Ans W1 (.int .i64 m)) := fun y => by rw [← hm.out]; exact l2Many_ans _ y
            clear A
            refine region_ext yy (by kernel_rfl) (by kernel_rfl) ?_
            repeat (go_big_quiet_step ((go_at_call 100; with_reducible exact MANY _)))
            refine wpQuiet_nil ?_
            rintro _ ⟨yy, rfl⟩
            go_wp2_with (first | (go_at_call 30; with_reducible refine Calls.mono (l1In_ans t.n 0 (vars - 1) true (by refine iff_tf ?_; dsimp only; have := HN.out; omega) _) ?_; rintro e w' ⟨rfl, yy, rfl⟩) | (go_at_call 80; with_reducible refine Calls.mono (l2Typed_ans t.op false (by refine iff_tf ?_; dsimp only; exact HT.out) _) ?_; rintro e w' ⟨rfl, yy, rfl⟩))
            go_ret
            exact fin_false HP (fun q => HE.out (by have := q.tok; unfold TyOk at this; rw [if_neg HT.out] at this; rw [this]; rfl)) (hback yy)
      · have HN := Lib.hid hn
        clear hn
        go_enter Tryd.func86, Tryd.ntmps86
        go_wp2_with fail
        generalize hW : x.w.alloc _ = W1
        generalize hB : x.w.heap.size = B
        obtain ⟨c0, c1, c2, c3, h1, hback, yy, hy0⟩ := boxedT h x hB hW
        clear hW hB
        rw [← hy0]
        clear hy0
        obtain ⟨kr, A⟩ := h1.out
        have hrow := A.row
        have hlt := A.lt
        have hlk := A.lk
        have MANY : ∀ y : Ext W1, Calls Tryd.prog 100 #[.int .i64 t.op] y.w (Ans W1 (.int .i64 m)) := fun y => by rw [← hm.out]; exact l2Many_ans _ y
        clear A
        refine region_ext yy (by kernel_rfl) (by kernel_rfl) ?_
        repeat (go_big_quiet_step ((go_at_call 100; with_reducible exact MANY _)))
        refine wpQuiet_nil ?_
        rintro _ ⟨yy, rfl⟩
        go_wp2_with ((go_at_call 30; with_reducible refine Calls.mono (l1In_ans t.n 0 (vars - 1) false (by refine iff_tf ?_; dsimp only; have := HN.out; omega) _) ?_; rintro e w' ⟨rfl, yy, rfl⟩))
        go_ret
        exact fin_false HP (fun q => by have := q.nok; unfold NOk at this; rw [if_pos H0.out] at this; exact HN.out this) (hback yy)
    · have f0 : (t.op == 0) = false := by simpa using h0
      have H0 := Lib.hid h0
      clear h0
      by_cases h1 : t.op = 1
      · have f1 : (t.op == 1) = true := by simpa using h1
        have H1 := Lib.hid h1
        clear h1
        by_cases hn : 0 ≤ t.n ∧ t.n < 3
        · have HN := Lib.hid hn
          clear hn
          by_cases ht : TypedO t.op
          · have HT := Lib.hid ht
            clear ht
            by_cases hw : WT t.ty
            · have HW := Lib.hid hw
              clear hw
              by_cases hg : Grs size closed t.ty
              · have HG := Lib.hid hg
                clear hg
                go_enter Tryd.func86, Tryd.ntmps86
                go_wp2_with fail
                generalize hW : x.w.alloc _ = W1
                generalize hB : x.w.heap.size = B
                obtain ⟨c0, c1, c2, c3, h1, hback, yy, hy0⟩ := boxedT h x hB hW
                clear hW hB
                rw [← hy0]
                clear hy0
                obtain ⟨kr, A⟩ := h1.out
                have hrow := A.row
                have hlt := A.lt
                have hlk := A.lk
                have MANY : ∀ y : Ext W1, Calls Tryd.prog 100 #[.int .i64 t.op] y.w (Ans W1 (.int .i64 m)) := fun y => by rw [← hm.out]; exact l2Many_ans _ y
                clear A
                refine region_ext yy (by kernel_rfl) (by kernel_rfl) ?_
                repeat (go_big_quiet_step ((go_at_call 100; with_reducible exact MANY _)))
                refine wpQuiet_nil ?_
                rintro _ ⟨yy, rfl⟩
                go_wp2_with (first | (go_at_call 30; with_reducible refine Calls.mono (l1In_ans t.n 0 2 true (by refine iff_tf ?_; dsimp only; have := HN.out; omega) _) ?_; rintro e w' ⟨rfl, yy, rfl⟩) | (go_at_call 80; with_reducible refine Calls.mono (l2Typed_ans t.op true (by refine iff_tf ?_; dsimp only; exact HT.out) _) ?_; rintro e w' ⟨rfl, yy, rfl⟩) | (go_at_call 43; with_reducible refine Calls.mono (l2Type_ans hrow hl40 true (by refine iff_tf ?_; dsimp only; exact HW.out) _) ?_; rintro e w' ⟨rfl, yy, rfl⟩) | (go_at_call 101; with_reducible refine Calls.mono (l2Graded_ans hrow hl40 size closed true (by refine iff_tf ?_; dsimp only; exact HG.out) _) ?_; rintro e w' ⟨rfl, yy, rfl⟩))
                go_ret
                exact fin_true HP (⟨HM.out, by unfold NOk; rw [if_neg H0.out, if_pos H1.out]; exact HN.out, by unfold TyOk; rw [if_pos HT.out]; exact ⟨HW.out, HG.out⟩⟩) (hback yy)
              · have HG := Lib.hid hg
                clear hg
                go_enter Tryd.func86, Tryd.ntmps86
                go_wp2_with fail
                generalize hW : x.w.alloc _ = W1
                generalize hB : x.w.heap.size = B
                obtain ⟨c0, c1, c2, c3, h1, hback, yy, hy0⟩ := boxedT h x hB hW
                clear hW hB
                rw [← hy0]
                clear hy0
                obtain ⟨kr, A⟩ := h1.out
                have hrow := A.row
                have hlt := A.lt
                have hlk := A.lk
                have MANY : ∀ y : Ext W1, Calls Tryd.prog 100 #[.int .i64 t.op] y.w (Ans W1 (.int .i64 m)) := fun y => by rw [← hm.out]; exact l2Many_ans _ y
                clear A
                refine region_ext yy (by kernel_rfl) (by kernel_rfl) ?_
                repeat (go_big_quiet_step ((go_at_call 100; with_reducible exact MANY _)))
                refine wpQuiet_nil ?_
                rintro _ ⟨yy, rfl⟩
                go_wp2_with (first | (go_at_call 30; with_reducible refine Calls.mono (l1In_ans t.n 0 2 true (by refine iff_tf ?_; dsimp only; have := HN.out; omega) _) ?_; rintro e w' ⟨rfl, yy, rfl⟩) | (go_at_call 80; with_reducible refine Calls.mono (l2Typed_ans t.op true (by refine iff_tf ?_; dsimp only; exact HT.out) _) ?_; rintro e w' ⟨rfl, yy, rfl⟩) | (go_at_call 43; with_reducible refine Calls.mono (l2Type_ans hrow hl40 true (by refine iff_tf ?_; dsimp only; exact HW.out) _) ?_; rintro e w' ⟨rfl, yy, rfl⟩) | (go_at_call 101; with_reducible refine Calls.mono (l2Graded_ans hrow hl40 size closed false (by refine iff_tf ?_; dsimp only; exact HG.out) _) ?_; rintro e w' ⟨rfl, yy, rfl⟩))
                go_ret
                exact fin_false HP (fun q => HG.out (by have := q.tok; unfold TyOk at this; rw [if_pos HT.out] at this; exact this.2)) (hback yy)
            · have HW := Lib.hid hw
              clear hw
              go_enter Tryd.func86, Tryd.ntmps86
              go_wp2_with fail
              generalize hW : x.w.alloc _ = W1
              generalize hB : x.w.heap.size = B
              obtain ⟨c0, c1, c2, c3, h1, hback, yy, hy0⟩ := boxedT h x hB hW
              clear hW hB
              rw [← hy0]
              clear hy0
              obtain ⟨kr, A⟩ := h1.out
              have hrow := A.row
              have hlt := A.lt
              have hlk := A.lk
              have MANY : ∀ y : Ext W1, Calls Tryd.prog 100 #[.int .i64 t.op] y.w (Ans W1 (.int .i64 m)) := fun y => by rw [← hm.out]; exact l2Many_ans _ y
              clear A
              refine region_ext yy (by kernel_rfl) (by kernel_rfl) ?_
              repeat (go_big_quiet_step ((go_at_call 100; with_reducible exact MANY _)))
              refine wpQuiet_nil ?_
              rintro _ ⟨yy, rfl⟩
              go_wp2_with (first | (go_at_call 30; with_reducible refine Calls.mono (l1In_ans t.n 0 2 true (by refine iff_tf ?_; dsimp only; have := HN.out; omega) _) ?_; rintro e w' ⟨rfl, yy, rfl⟩) | (go_at_call 80; with_reducible refine Calls.mono (l2Typed_ans t.op true (by refine iff_tf ?_; dsimp only; exact HT.out) _) ?_; rintro e w' ⟨rfl, yy, rfl⟩) | (go_at_call 43; with_reducible refine Calls.mono (l2Type_ans hrow hl40 false (by refine iff_tf ?_; dsimp only; exact HW.out) _) ?_; rintro e w' ⟨rfl, yy, rfl⟩))
              go_ret
              exact fin_false HP (fun q => HW.out (by have := q.tok; unfold TyOk at this; rw [if_pos HT.out] at this; exact this.1)) (hback yy)
          · have HT := Lib.hid ht
            clear ht
            by_cases he : t.ty.length = 0
            · have fe : ((t.ty.length : Int) == 0) = true := beq_iff_eq.2 (by omega)
              have HE := Lib.hid he
              clear he
              go_enter Tryd.func86, Tryd.ntmps86
              go_wp2_with fail
              generalize hW : x.w.alloc _ = W1
              generalize hB : x.w.heap.size = B
              obtain ⟨c0, c1, c2, c3, h1, hback, yy, hy0⟩ := boxedT h x hB hW
              clear hW hB
              rw [← hy0]
              clear hy0
              obtain ⟨kr, A⟩ := h1.out
              have hrow := A.row
              have hlt := A.lt
              have hlk := A.lk
              have MANY : ∀ y : Ext W1, Calls Tryd.prog 100 #[.int .i64 t.op] y.w (Ans W1 (.int .i64 m)) := fun y => by rw [← hm.out]; exact l2Many_ans _ y
              clear A
              refine region_ext yy (by kernel_rfl) (by kernel_rfl) ?_
              repeat (go_big_quiet_step ((go_at_call 100; with_reducible exact MANY _)))
              refine wpQuiet_nil ?_
              rintro _ ⟨yy, rfl⟩
              go_wp2_with (first | (go_at_call 30; with_reducible refine Calls.mono (l1In_ans t.n 0 2 true (by refine iff_tf ?_; dsimp only; have := HN.out; omega) _) ?_; rintro e w' ⟨rfl, yy, rfl⟩) | (go_at_call 80; with_reducible refine Calls.mono (l2Typed_ans t.op false (by refine iff_tf ?_; dsimp only; exact HT.out) _) ?_; rintro e w' ⟨rfl, yy, rfl⟩))
              go_ret
              exact fin_true HP (⟨HM.out, by unfold NOk; rw [if_neg H0.out, if_pos H1.out]; exact HN.out, by unfold TyOk; rw [if_neg HT.out]; exact List.eq_nil_of_length_eq_zero HE.out⟩) (hback yy)
            · have fe : ((t.ty.length : Int) == 0) = false := beq_eq_false_iff_ne.2 (by omega)
              have HE := Lib.hid he
              clear he
              go_enter Tryd.func86, Tryd.ntmps86
              go_wp2_with fail
              generalize hW : x.w.alloc _ = W1
              generalize hB : x.w.heap.size = B
              obtain ⟨c0, c1, c2, c3, h1, hback, yy, hy0⟩ := boxedT h x hB hW
              clear hW hB
              rw [← hy0]
              clear hy0
              obtain ⟨kr, A⟩ := h1.out
              have hrow := A.row
              have hlt := A.lt
              have hlk := A.lk
              have MANY : ∀ y : Ext W1, Calls Tryd.prog 100 #[.int .i64 t.op] y.w (Ans W1 (.int .i64 m)) := fun y => by rw [← hm.out]; exact l2Many_ans _ y
              clear A
              refine region_ext yy (by kernel_rfl) (by kernel_rfl) ?_
              repeat (go_big_quiet_step ((go_at_call 100; with_reducible exact MANY _)))
              refine wpQuiet_nil ?_
              rintro _ ⟨yy, rfl⟩
              go_wp2_with (first | (go_at_call 30; with_reducible refine Calls.mono (l1In_ans t.n 0 2 true (by refine iff_tf ?_; dsimp only; have := HN.out; omega) _) ?_; rintro e w' ⟨rfl, yy, rfl⟩) | (go_at_call 80; with_reducible refine Calls.mono (l2Typed_ans t.op false (by refine iff_tf ?_; dsimp only; exact HT.out) _) ?_; rintro e w' ⟨rfl, yy, rfl⟩))
              go_ret
              exact fin_false HP (fun q => HE.out (by have := q.tok; unfold TyOk at this; rw [if_neg HT.out] at this; rw [this]; rfl)) (hback yy)
        · have HN := Lib.hid hn
          clear hn
          go_enter Tryd.func86, Tryd.ntmps86
          go_wp2_with fail
          generalize hW : x.w.alloc _ = W1
          generalize hB : x.w.heap.size = B
          obtain ⟨c0, c1, c2, c3, h1, hback, yy, hy0⟩ := boxedT h x hB hW
          clear hW hB
          rw [← hy0]
          clear hy0
          obtain ⟨kr, A⟩ := h1.out
          have hrow := A.row
          have hlt := A.lt
          have hlk := A.lk
          have MANY : ∀ y : Ext W1, Calls Tryd.prog 100 #[.int .i64 t.op] y.w (Ans W1 (.int .i64 m)) := fun y => by rw [← hm.out]; exact l2Many_ans _ y
          clear A
          refine region_ext yy (by kernel_rfl) (by kernel_rfl) ?_
          repeat (go_big_quiet_step ((go_at_call 100; with_reducible exact MANY _)))
          refine wpQuiet_nil ?_
          rintro _ ⟨yy, rfl⟩
          go_wp2_with ((go_at_call 30; with_reducible refine Calls.mono (l1In_ans t.n 0 2 false (by refine iff_tf ?_; dsimp only; have := HN.out; omega) _) ?_; rintro e w' ⟨rfl, yy, rfl⟩))
          go_ret
          exact fin_false HP (fun q => by have := q.nok; unfold NOk at this; rw [if_neg H0.out, if_pos H1.out] at this; exact HN.out this) (hback yy)
      · have f1 : (t.op == 1) = false := by simpa using h1
        have H1 := Lib.hid h1
        clear h1
        by_cases hh : HasG t.op
        · have HH := Lib.hid hh
          clear hh
          by_cases n1 : t.n < size
          · by_cases n2 : t.n < -1
            · skip
              go_enter Tryd.func86, Tryd.ntmps86
              go_wp2_with fail
              generalize hW : x.w.alloc _ = W1
              generalize hB : x.w.heap.size = B
              obtain ⟨c0, c1, c2, c3, h1, hback, yy, hy0⟩ := boxedT h x hB hW
              clear hW hB
              rw [← hy0]
              clear hy0
              obtain ⟨kr, A⟩ := h1.out
              have hrow := A.row
              have hlt := A.lt
              have hlk := A.lk
              have MANY : ∀ y : Ext W1, Calls Tryd.prog 100 #[.int .i64 t.op] y.w (Ans W1 (.int .i64 m)) := fun y => by rw [← hm.out]; exact l2Many_ans _ y
              clear A
              refine region_ext yy (by kernel_rfl) (by kernel_rfl) ?_
              repeat (go_big_quiet_step ((go_at_call 100; with_reducible exact MANY _)))
              refine wpQuiet_nil ?_
              rintro _ ⟨yy, rfl⟩
              go_wp2_with ((go_at_call 79; with_reducible refine Calls.mono (l2Has_ans t.op true (by refine iff_tf ?_; dsimp only; exact HH.out) _) ?_; rintro e w' ⟨rfl, yy, rfl⟩))
              go_ret
              exact fin_false HP (fun q => by have := q.nok; unfold NOk at this; rw [if_neg H0.out, if_neg H1.out, if_pos HH.out] at this; omega) (hback yy)
            · cases closed with
              | true =>
                by_cases n3 : t.n < 0
                · skip
                  go_enter Tryd.func86, Tryd.ntmps86
                  go_wp2_with fail
                  generalize hW : x.w.alloc _ = W1
                  generalize hB : x.w.heap.size = B
                  obtain ⟨c0, c1, c2, c3, h1, hback, yy, hy0⟩ := boxedT h x hB hW
                  clear hW hB
                  rw [← hy0]
                  clear hy0
                  obtain ⟨kr, A⟩ := h1.out
                  have hrow := A.row
                  have hlt := A.lt
                  have hlk := A.lk
                  have MANY : ∀ y : Ext W1, Calls Tryd.prog 100 #[.int .i64 t.op] y.w (Ans W1 (.int .i64 m)) := fun y => by rw [← hm.out]; exact l2Many_ans _ y
                  clear A
                  refine region_ext yy (by kernel_rfl) (by kernel_rfl) ?_
                  repeat (go_big_quiet_step ((go_at_call 100; with_reducible exact MANY _)))
                  refine wpQuiet_nil ?_
                  rintro _ ⟨yy, rfl⟩
                  go_wp2_with ((go_at_call 79; with_reducible refine Calls.mono (l2Has_ans t.op true (by refine iff_tf ?_; dsimp only; exact HH.out) _) ?_; rintro e w' ⟨rfl, yy, rfl⟩))
                  go_ret
                  exact fin_false HP (fun q => by have := q.nok; unfold NOk at this; rw [if_neg H0.out, if_neg H1.out, if_pos HH.out] at this; have := this.2.2 rfl; omega) (hback yy)
                · have HN : Hid (t.n < size ∧ -1 ≤ t.n ∧ 0 ≤ t.n) := ⟨n1, by omega, by omega⟩
                  by_cases ht : TypedO t.op
                  · have HT := Lib.hid ht
                    clear ht
                    by_cases hw : WT t.ty
                    · have HW := Lib.hid hw
                      clear hw
                      by_cases hg : Grs size true t.ty
                      · have HG := Lib.hid hg
                        clear hg
                        go_enter Tryd.func86, Tryd.ntmps86
                        go_wp2_with fail
                        generalize hW : x.w.alloc _ = W1
                        generalize hB : x.w.heap.size = B
                        obtain ⟨c0, c1, c2, c3, h1, hback, yy, hy0⟩ := boxedT h x hB hW
                        clear hW hB
                        rw [← hy0]
                        clear hy0
                        obtain ⟨kr, A⟩ := h1.out
                        have hrow := A.row
                        have hlt := A.lt
                        have hlk := A.lk
                        have MANY : ∀ y : Ext W1, Calls Tryd.prog 100 #[.int .i64 t.op] y.w (Ans W1 (.int .i64 m)) := fun y => by rw [← hm.out]; exact l2Many_ans _ y
                        clear A
                        refine region_ext yy (by kernel_rfl) (by kernel_rfl) ?_
                        repeat (go_big_quiet_step ((go_at_call 100; with_reducible exact MANY _)))
                        refine wpQuiet_nil ?_
                        rintro _ ⟨yy, rfl⟩
                        go_wp2_with (first | (go_at_call 79; with_reducible refine Calls.mono (l2Has_ans t.op true (by refine iff_tf ?_; dsimp only; exact HH.out) _) ?_; rintro e w' ⟨rfl, yy, rfl⟩) | (go_at_call 80; with_reducible refine Calls.mono (l2Typed_ans t.op true (by refine iff_tf ?_; dsimp only; exact HT.out) _) ?_; rintro e w' ⟨rfl, yy, rfl⟩) | (go_at_call 43; with_reducible refine Calls.mono (l2Type_ans hrow hl40 true (by refine iff_tf ?_; dsimp only; exact HW.out) _) ?_; rintro e w' ⟨rfl, yy, rfl⟩) | (go_at_call 101; with_reducible refine Calls.mono (l2Graded_ans hrow hl40 size true true (by refine iff_tf ?_; dsimp only; exact HG.out) _) ?_; rintro e w' ⟨rfl, yy, rfl⟩))
                        go_ret
                        exact fin_true HP (⟨HM.out, by unfold NOk; rw [if_neg H0.out, if_neg H1.out, if_pos HH.out]; exact ⟨HN.out.1, HN.out.2.1, fun _ => HN.out.2.2⟩, by unfold TyOk; rw [if_pos HT.out]; exact ⟨HW.out, HG.out⟩⟩) (hback yy)
                      · have HG := Lib.hid hg
                        clear hg
                        go_enter Tryd.func86, Tryd.ntmps86
                        go_wp2_with fail
                        generalize hW : x.w.alloc _ = W1
                        generalize hB : x.w.heap.size = B
                        obtain ⟨c0, c1, c2, c3, h1, hback, yy, hy0⟩ := boxedT h x hB hW
                        clear hW hB
                        rw [← hy0]
                        clear hy0
                        obtain ⟨kr, A⟩ := h1.out
                        have hrow := A.row
                        have hlt := A.lt
                        have hlk := A.lk
                        have MANY : ∀ y : Ext W1, Calls Tryd.prog 100 #[.int .i64 t.op] y.w (Ans W1 (.int .i64 m)) := fun y => by rw [← hm.out]; exact l2Many_ans _ y
                        clear A
                        refine region_ext yy (by kernel_rfl) (by kernel_rfl) ?_
                        repeat (go_big_quiet_step ((go_at_call 100; with_reducible exact MANY _)))
                        refine wpQuiet_nil ?_
                        rintro _ ⟨yy, rfl⟩
                        go_wp2_with (first | (go_at_call 79; with_reducible refine Calls.mono (l2Has_ans t.op true (by refine iff_tf ?_; dsimp only; exact HH.out) _) ?_; rintro e w' ⟨rfl, yy, rfl⟩) | (go_at_call 80; with_reducible refine Calls.mono (l2Typed_ans t.op true (by refine iff_tf ?_; dsimp only; exact HT.out) _) ?_; rintro e w' ⟨rfl, yy, rfl⟩) | (go_at_call 43; with_reducible refine Calls.mono (l2Type_ans hrow hl40 true (by refine iff_tf ?_; dsimp only; exact HW.out) _) ?_; rintro e w' ⟨rfl, yy, rfl⟩) | (go_at_call 101; with_reducible refine Calls.mono (l2Graded_ans hrow hl40 size true false (by refine iff_tf ?_; dsimp only; exact HG.out) _) ?_; rintro e w' ⟨rfl, yy, rfl⟩))
                        go_ret
                        exact fin_false HP (fun q => HG.out (by have := q.tok; unfold TyOk at this; rw [if_pos HT.out] at this; exact this.2)) (hback yy)
                    · have HW := Lib.hid hw
                      clear hw
                      go_enter Tryd.func86, Tryd.ntmps86
                      go_wp2_with fail
                      generalize hW : x.w.alloc _ = W1
                      generalize hB : x.w.heap.size = B
                      obtain ⟨c0, c1, c2, c3, h1, hback, yy, hy0⟩ := boxedT h x hB hW
                      clear hW hB
                      rw [← hy0]
                      clear hy0
                      obtain ⟨kr, A⟩ := h1.out
                      have hrow := A.row
                      have hlt := A.lt
                      have hlk := A.lk
                      have MANY : ∀ y : Ext W1, Calls Tryd.prog 100 #[.int .i64 t.op] y.w (Ans W1 (.int .i64 m)) := fun y => by rw [← hm.out]; exact l2Many_ans _ y
                      clear A
                      refine region_ext yy (by kernel_rfl) (by kernel_rfl) ?_
                      repeat (go_big_quiet_step ((go_at_call 100; with_reducible exact MANY _)))
                      refine wpQuiet_nil ?_
                      rintro _ ⟨yy, rfl⟩
                      go_wp2_with (first | (go_at_call 79; with_reducible refine Calls.mono (l2Has_ans t.op true (by refine iff_tf ?_; dsimp only; exact HH.out) _) ?_; rintro e w' ⟨rfl, yy, rfl⟩) | (go_at_call 80; with_reducible refine Calls.mono (l2Typed_ans t.op true (by refine iff_tf ?_; dsimp only; exact HT.out) _) ?_; rintro e w' ⟨rfl, yy, rfl⟩) | (go_at_call 43; with_reducible refine Calls.mono (l2Type_ans hrow hl40 false (by refine iff_tf ?_; dsimp only; exact HW.out) _) ?_; rintro e w' ⟨rfl, yy, rfl⟩))
                      go_ret
                      exact fin_false HP (fun q => HW.out (by have := q.tok; unfold TyOk at this; rw [if_pos HT.out] at this; exact this.1)) (hback yy)
                  · have HT := Lib.hid ht
                    clear ht
                    by_cases he : t.ty.length = 0
                    · have fe : ((t.ty.length : Int) == 0) = true := beq_iff_eq.2 (by omega)
                      have HE := Lib.hid he
                      clear he
                      go_enter Tryd.func86, Tryd.ntmps86
                      go_wp2_with fail
                      generalize hW : x.w.alloc _ = W1
                      generalize hB : x.w.heap.size = B
                      obtain ⟨c0, c1, c2, c3, h1, hback, yy, hy0⟩ := boxedT h x hB hW
                      clear hW hB
                      rw [← hy0]
                      clear hy0
                      obtain ⟨kr, A⟩ := h1.out
                      have hrow := A.row
                      have hlt := A.lt
                      have hlk := A.lk
                      have MANY : ∀ y : Ext W1, Calls Tryd.prog 100 #[.int .i64 t.op] y.w (Ans W1 (.int .i64 m)) := fun y => by rw [← hm.out]; exact l2Many_ans _ y
                      clear A
                      refine region_ext yy (by kernel_rfl) (by kernel_rfl) ?_
                      repeat (go_big_quiet_step ((go_at_call 100; with_reducible exact MANY _)))
                      refine wpQuiet_nil ?_
                      rintro _ ⟨yy, rfl⟩
                      go_wp2_with (first | (go_at_call 79; with_reducible refine Calls.mono (l2Has_ans t.op true (by refine iff_tf ?_; dsimp only; exact HH.out) _) ?_; rintro e w' ⟨rfl, yy, rfl⟩) | (go_at_call 80; with_reducible refine Calls.mono (l2Typed_ans t.op false (by refine iff_tf ?_; dsimp only; exact HT.out) _) ?_; rintro e w' ⟨rfl, yy, rfl⟩))
                      go_ret
                      exact fin_true HP (⟨HM.out, by unfold NOk; rw [if_neg H0.out, if_neg H1.out, if_pos HH.out]; exact ⟨HN.out.1, HN.out.2.1, fun _ => HN.out.2.2⟩, by unfold TyOk; rw [if_neg HT.out]; exact List.eq_nil_of_length_eq_zero HE.out⟩) (hback yy)
                    · have fe : ((t.ty.length : Int) == 0) = false := beq_eq_false_iff_ne.2 (by omega)
                      have HE := Lib.hid he
                      clear he
                      go_enter Tryd.func86, Tryd.ntmps86
                      go_wp2_with fail
                      generalize hW : x.w.alloc _ = W1
                      generalize hB : x.w.heap.size = B
                      obtain ⟨c0, c1, c2, c3, h1, hback, yy, hy0⟩ := boxedT h x hB hW
                      clear hW hB
                      rw [← hy0]
                      clear hy0
                      obtain ⟨kr, A⟩ := h1.out
                      have hrow := A.row
                      have hlt := A.lt
                      have hlk := A.lk
                      have MANY : ∀ y : Ext W1, Calls Tryd.prog 100 #[.int .i64 t.op] y.w (Ans W1 (.int .i64 m)) := fun y => by rw [← hm.out]; exact l2Many_ans _ y
                      clear A
                      refine region_ext yy (by kernel_rfl) (by kernel_rfl) ?_
                      repeat (go_big_quiet_step ((go_at_call 100; with_reducible exact MANY _)))
                      refine wpQuiet_nil ?_
                      rintro _ ⟨yy, rfl⟩
                      go_wp2_with (first | (go_at_call 79; with_reducible refine Calls.mono (l2Has_ans t.op true (by refine iff_tf ?_; dsimp only; exact HH.out) _) ?_; rintro e w' ⟨rfl, yy, rfl⟩) | (go_at_call 80; with_reducible refine Calls.mono (l2Typed_ans t.op false (by refine iff_tf ?_; dsimp only; exact HT.out) _) ?_; rintro e w' ⟨rfl, yy, rfl⟩))
                      go_ret
                      exact fin_false HP (fun q => HE.out (by have := q.tok; unfold TyOk at this; rw [if_neg HT.out] at this; rw [this]; rfl)) (hback yy)
              | false =>
                have HN : Hid (t.n < size ∧ -1 ≤ t.n) := ⟨n1, by omega⟩
                by_cases ht : TypedO t.op
                · have HT := Lib.hid ht
                  clear ht
                  by_cases hw : WT t.ty
                  · have HW := Lib.hid hw
                    clear hw
                    by_cases hg : Grs size false t.ty
                    · have HG := Lib.hid hg
                      clear hg
                      go_enter Tryd.func86, Tryd.ntmps86
                      go_wp2_with fail
                      generalize hW : x.w.alloc _ = W1
                      generalize hB : x.w.heap.size = B
                      obtain ⟨c0, c1, c2, c3, h1, hback, yy, hy0⟩ := boxedT h x hB hW
                      clear hW hB
                      rw [← hy0]
                      clear hy0
                      obtain ⟨kr, A⟩ := h1.out
                      have hrow := A.row
                      have hlt := A.lt
                      have hlk := A.lk
                      have MANY : ∀ y : Ext W1, Calls Tryd.prog 100 #[.int .i64 t.op] y.w (Ans W1 (.int .i64 m)) := fun y => by rw [← hm.out]; exact l2Many_ans _ y
                      clear A
                      refine region_ext yy (by kernel_rfl) (by kernel_rfl) ?_
                      repeat (go_big_quiet_step ((go_at_call 100; with_reducible exact MANY _)))
                      refine wpQuiet_nil ?_
                      rintro _ ⟨yy, rfl⟩
                      go_wp2_with (first | (go_at_call 79; with_reducible refine Calls.mono (l2Has_ans t.op true (by refine iff_tf ?_; dsimp only; exact HH.out) _) ?_; rintro e w' ⟨rfl, yy, rfl⟩) | (go_at_call 80; with_reducible refine Calls.mono (l2Typed_ans t.op true (by refine iff_tf ?_; dsimp only; exact HT.out) _) ?_; rintro e w' ⟨rfl, yy, rfl⟩) | (go_at_call 43; with_reducible refine Calls.mono (l2Type_ans hrow hl40 true (by refine iff_tf ?_; dsimp only; exact HW.out) _) ?_; rintro e w' ⟨rfl, yy, rfl⟩) | (go_at_call 101; with_reducible refine Calls.mono (l2Graded_ans hrow hl40 size false true (by refine iff_tf ?_; dsimp only; exact HG.out) _) ?_; rintro e w' ⟨rfl, yy, rfl⟩))
                      go_ret
                      exact fin_true HP (⟨HM.out, by unfold NOk; rw [if_neg H0.out, if_neg H1.out, if_pos HH.out]; exact ⟨HN.out.1, HN.out.2, fun q => by cases q⟩, by unfold TyOk; rw [if_pos HT.out]; exact ⟨HW.out, HG.out⟩⟩) (hback yy)
                    · have HG := Lib.hid hg
                      clear hg
                      go_enter Tryd.func86, Tryd.ntmps86
                      go_wp2_with fail
                      generalize hW : x.w.alloc _ = W1
                      generalize hB : x.w.heap.size = B
                      obtain ⟨c0, c1, c2, c3, h1, hback, yy, hy0⟩ := boxedT h x hB hW
                      clear hW hB
                      rw [← hy0]
                      clear hy0
                      obtain ⟨kr, A⟩ := h1.out
                      have hrow := A.row
                      have hlt := A.lt
                      have hlk := A.lk
                      have MANY : ∀ y : Ext W1, Calls Tryd.prog 100 #[.int .i64 t.op] y.w (Ans W1 (.int .i64 m)) := fun y => by rw [← hm.out]; exact l2Many_ans _ y
                      clear A
                      refine region_ext yy (by kernel_rfl) (by kernel_rfl) ?_
                      repeat (go_big_quiet_step ((go_at_call 100; with_reducible exact MANY _)))
                      refine wpQuiet_nil ?_
                      rintro _ ⟨yy, rfl⟩
                      go_wp2_with (first | (go_at_call 79; with_reducible refine Calls.mono (l2Has_ans t.op true (by refine iff_tf ?_; dsimp only; exact HH.out) _) ?_; rintro e w' ⟨rfl, yy, rfl⟩) | (go_at_call 80; with_reducible refine Calls.mono (l2Typed_ans t.op true (by refine iff_tf ?_; dsimp only; exact HT.out) _) ?_; rintro e w' ⟨rfl, yy, rfl⟩) | (go_at_call 43; with_reducible refine Calls.mono (l2Type_ans hrow hl40 true (by refine iff_tf ?_; dsimp only; exact HW.out) _) ?_; rintro e w' ⟨rfl, yy, rfl⟩) | (go_at_call 101; with_reducible refine Calls.mono (l2Graded_ans hrow hl40 size false false (by refine iff_tf ?_; dsimp only; exact HG.out) _) ?_; rintro e w' ⟨rfl, yy, rfl⟩))
                      go_ret
                      exact fin_false HP (fun q => HG.out (by have := q.tok; unfold TyOk at this; rw [if_pos HT.out] at this; exact this.2)) (hback yy)
                  · have HW := Lib.hid hw
                    clear hw
                    go_enter Tryd.func86, Tryd.ntmps86
                    go_wp2_with fail
                    generalize hW : x.w.alloc _ = W1
                    generalize hB : x.w.heap.size = B
                    obtain ⟨c0, c1, c2, c3, h1, hback, yy, hy0⟩ := boxedT h x hB hW
                    clear hW hB
                    rw [← hy0]
                    clear hy0
                    obtain ⟨kr, A⟩ := h1.out
                    have hrow := A.row
                    have hlt := A.lt
                    have hlk := A.lk
                    have MANY : ∀ y : Ext W1, Calls Tryd.prog 100 #[.int .i64 t.op] y.w (Ans W1 (.int .i64 m)) := fun y => by rw [← hm.out]; exact l2Many_ans _ y
                    clear A
                    refine region_ext yy (by kernel_rfl) (by kernel_rfl) ?_
                    repeat (go_big_quiet_step ((go_at_call 100; with_reducible exact MANY _)))
                    refine wpQuiet_nil ?_
                    rintro _ ⟨yy, rfl⟩
                    go_wp2_with (first | (go_at_call 79; with_reducible refine Calls.mono (l2Has_ans t.op true (by refine iff_tf ?_; dsimp only; exact HH.out) _) ?_; rintro e w' ⟨rfl, yy, rfl⟩) | (go_at_call 80; with_reducible refine Calls.mono (l2Typed_ans t.op true (by refine iff_tf ?_; dsimp only; exact HT.out) _) ?_; rintro e w' ⟨rfl, yy, rfl⟩) | (go_at_call 43; with_reducible refine Calls.mono (l2Type_ans hrow hl40 false (by refine iff_tf ?_; dsimp only; exact HW.out) _) ?_; rintro e w' ⟨rfl, yy, rfl⟩))
                    go_ret
                    exact fin_false HP (fun q => HW.out (by have := q.tok; unfold TyOk at this; rw [if_pos HT.out] at this; exact this.1)) (hback yy)
                · have HT := Lib.hid ht
                  clear ht
                  by_cases he : t.ty.length = 0
                  · have fe : ((t.ty.length : Int) == 0) = true := beq_iff_eq.2 (by omega)
                    have HE := Lib.hid he
                    clear he
                    go_enter Tryd.func86, Tryd.ntmps86
                    go_wp2_with fail
                    generalize hW : x.w.alloc _ = W1
                    generalize hB : x.w.heap.size = B
                    obtain ⟨c0, c1, c2, c3, h1, hback, yy, hy0⟩ := boxedT h x hB hW
                    clear hW hB
                    rw [← hy0]
                    clear hy0
                    obtain ⟨kr, A⟩ := h1.out
                    have hrow := A.row
                    have hlt := A.lt
                    have hlk := A.lk
                    have MANY : ∀ y : Ext W1, Calls Tryd.prog 100 #[.int .i64 t.op] y.w (Ans W1 (.int .i64 m)) := fun y => by rw [← hm.out]; exact l2Many_ans _ y
                    clear A
                    refine region_ext yy (by kernel_rfl) (by kernel_rfl) ?_
                    repeat (go_big_quiet_step ((go_at_call 100; with_reducible exact MANY _)))
                    refine wpQuiet_nil ?_
                    rintro _ ⟨yy, rfl⟩
                    go_wp2_with (first | (go_at_call 79; with_reducible refine Calls.mono (l2Has_ans t.op true (by refine iff_tf ?_; dsimp only; exact HH.out) _) ?_; rintro e w' ⟨rfl, yy, rfl⟩) | (go_at_call 80; with_reducible refine Calls.mono (l2Typed_ans t.op false (by refine iff_tf ?_; dsimp only; exact HT.out) _) ?_; rintro e w' ⟨rfl, yy, rfl⟩))
                    go_ret
                    exact fin_true HP (⟨HM.out, by unfold NOk; rw [if_neg H0.out, if_neg H1.out, if_pos HH.out]; exact ⟨HN.out.1, HN.out.2, fun q => by cases q⟩, by unfold TyOk; rw [if_neg HT.out]; exact List.eq_nil_of_length_eq_zero HE.out⟩) (hback yy)
                  · have fe : ((t.ty.length : Int) == 0) = false := beq_eq_false_iff_ne.2 (by omega)
                    have HE := Lib.hid he
                    clear he
                    go_enter Tryd.func86, Tryd.ntmps86
                    go_wp2_with fail
                    generalize hW : x.w.alloc _ = W1
                    generalize hB : x.w.heap.size = B
                    obtain ⟨c0, c1, c2, c3, h1, hback, yy, hy0⟩ := boxedT h x hB hW
                    clear hW hB
                    rw [← hy0]
                    clear hy0
                    obtain ⟨kr, A⟩ := h1.out
                    have hrow := A.row
                    have hlt := A.lt
                    have hlk := A.lk
                    have MANY : ∀ y : Ext W1, Calls Tryd.prog 100 #[.int .i64 t.op] y.w (Ans W1 (.int .i64 m)) := fun y => by rw [← hm.out]; exact l2Many_ans _ y
                    clear A
                    refine region_ext yy (by kernel_rfl) (by kernel_rfl) ?_
                    repeat (go_big_quiet_step ((go_at_call 100; with_reducible exact MANY _)))
                    refine wpQuiet_nil ?_
                    rintro _ ⟨yy, rfl⟩
                    go_wp2_with (first | (go_at_call 79; with_reducible refine Calls.mono (l2Has_ans t.op true (by refine iff_tf ?_; dsimp only; exact HH.out) _) ?_; rintro e w' ⟨rfl, yy, rfl⟩) | (go_at_call 80; with_reducible refine Calls.mono (l2Typed_ans t.op false (by refine iff_tf ?_; dsimp only; exact HT.out) _) ?_; rintro e w' ⟨rfl, yy, rfl⟩))
                    go_ret
                    exact fin_false HP (fun q => HE.out (by have := q.tok; unfold TyOk at this; rw [if_neg HT.out] at this; rw [this]; rfl)) (hback yy)
          · skip
            go_enter Tryd.func86, Tryd.ntmps86
            go_wp2_with fail
            generalize hW : x.w.alloc _ = W1
            generalize hB : x.w.heap.size = B
            obtain ⟨c0, c1, c2, c3, h1, hback, yy, hy0⟩ := boxedT h x hB hW
            clear hW hB
            rw [← hy0]
            clear hy0
            obtain ⟨kr, A⟩ := h1.out
            have hrow := A.row
            have hlt := A.lt
            have hlk := A.lk
            have MANY : ∀ y : Ext W1, Calls Tryd.prog 100 #[.int .i64 t.op] y.w (Ans W1 (.int .i64 m)) := fun y => by rw [← hm.out]; exact l2Many_ans _ y
            clear A
            refine region_ext yy (by kernel_rfl) (by kernel_rfl) ?_
            repeat (go_big_quiet_step ((go_at_call 100; with_reducible exact MANY _)))
            refine wpQuiet_nil ?_
            rintro _ ⟨yy, rfl⟩
            go_wp2_with ((go_at_call 79; with_reducible refine Calls.mono (l2Has_ans t.op true (by refine iff_tf ?_; dsimp only; exact HH.out) _) ?_; rintro e w' ⟨rfl, yy, rfl⟩))
            go_ret
            exact fin_false HP (fun q => by have := q.nok; unfold NOk at this; rw [if_neg H0.out, if_neg H1.out, if_pos HH.out] at this; omega) (hback yy)
        · have HH := Lib.hid hh
          clear hh
          by_cases hn : t.n = 0
          · have fn : (t.n != 0) = false := by simpa using hn
            have HN := Lib.hid hn
            clear hn
            by_cases ht : TypedO t.op
            · have HT := Lib.hid ht
              clear ht
              by_cases hw : WT t.ty
              · have HW := Lib.hid hw
                clear hw
                by_cases hg : Grs size closed t.ty
                · have HG := Lib.hid hg
                  clear hg
                  go_enter Tryd.func86, Tryd.ntmps86
                  go_wp2_with fail
                  generalize hW : x.w.alloc _ = W1
                  generalize hB : x.w.heap.size = B
                  obtain ⟨c0, c1, c2, c3, h1, hback, yy, hy0⟩ := boxedT h x hB hW
                  clear hW hB
                  rw [← hy0]
                  clear hy0
                  obtain ⟨kr, A⟩ := h1.out
                  have hrow := A.row
                  have hlt := A.lt
                  have hlk := A.lk
                  have MANY : ∀ y : Ext W1, Calls Tryd.prog 100 #[.int .i64 t.op] y.w (Ans W1 (.int .i64 m)) := fun y => by rw [← hm.out]; exact l2Many_ans _ y
                  clear A
                  refine region_ext yy (by kernel_rfl) (by kernel_rfl) ?_
                  repeat (go_big_quiet_step ((go_at_call 100; with_reducible exact MANY _)))
                  refine wpQuiet_nil ?_
                  rintro _ ⟨yy, rfl⟩
                  go_wp2_with (first | (go_at_call 79; with_reducible refine Calls.mono (l2Has_ans t.op false (by refine iff_tf ?_; dsimp only; exact HH.out) _) ?_; rintro e w' ⟨rfl, yy, rfl⟩) | (go_at_call 80; with_reducible refine Calls.mono (l2Typed_ans t.op true (by refine iff_tf ?_; dsimp only; exact HT.out) _) ?_; rintro e w' ⟨rfl, yy, rfl⟩) | (go_at_call 43; with_reducible refine Calls.mono (l2Type_ans hrow hl40 true (by refine iff_tf ?_; dsimp only; exact HW.out) _) ?_; rintro e w' ⟨rfl, yy, rfl⟩) | (go_at_call 101; with_reducible refine Calls.mono (l2Graded_ans hrow hl40 size closed true (by refine iff_tf ?_; dsimp only; exact HG.out) _) ?_; rintro e w' ⟨rfl, yy, rfl⟩))
                  go_ret
                  exact fin_true HP (⟨HM.out, by unfold NOk; rw [if_neg H0.out, if_neg H1.out, if_neg HH.out]; exact HN.out, by unfold TyOk; rw [if_pos HT.out]; exact ⟨HW.out, HG.out⟩⟩) (hback yy)
                · have HG := Lib.hid hg
                  clear hg
                  go_enter Tryd.func86, Tryd.ntmps86
                  go_wp2_with fail
                  generalize hW : x.w.alloc _ = W1
                  generalize hB : x.w.heap.size = B
                  obtain ⟨c0, c1, c2, c3, h1, hback, yy, hy0⟩ := boxedT h x hB hW
                  clear hW hB
                  rw [← hy0]
                  clear hy0
                  obtain ⟨kr, A⟩ := h1.out
                  have hrow := A.row
                  have hlt := A.lt
                  have hlk := A.lk
                  have MANY : ∀ y : Ext W1, Calls Tryd.prog 100 #[.int .i64 t.op] y.w (Ans W1 (.int .i64 m)) := fun y => by rw [← hm.out]; exact l2Many_ans _ y
                  clear A
                  refine region_ext yy (by kernel_rfl) (by kernel_rfl) ?_
                  repeat (go_big_quiet_step ((go_at_call 100; with_reducible exact MANY _)))
                  refine wpQuiet_nil ?_
                  rintro _ ⟨yy, rfl⟩
                  go_wp2_with (first | (go_at_call 79; with_reducible refine Calls.mono (l2Has_ans t.op false (by refine iff_tf ?_; dsimp only; exact HH.out) _) ?_; rintro e w' ⟨rfl, yy, rfl⟩) | (go_at_call 80; with_reducible refine Calls.mono (l2Typed_ans t.op true (by refine iff_tf ?_; dsimp only; exact HT.out) _) ?_; rintro e w' ⟨rfl, yy, rfl⟩) | (go_at_call 43; with_reducible refine Calls.mono (l2Type_ans hrow hl40 true (by refine iff_tf ?_; dsimp only; exact HW.out) _) ?_; rintro e w' ⟨rfl, yy, rfl⟩) | (go_at_call 101; with_reducible refine Calls.mono (l2Graded_ans hrow hl40 size closed false (by refine iff_tf ?_; dsimp only; exact HG.out) _) ?_; rintro e w' ⟨rfl, yy, rfl⟩))
                  go_ret
                  exact fin_false HP (fun q => HG.out (by have := q.tok; unfold TyOk at this; rw [if_pos HT.out] at this; exact this.2)) (hback yy)
              · have HW := Lib.hid hw
                clear hw
                go_enter Tryd.func86, Tryd.ntmps86
                go_wp2_with fail
                generalize hW : x.w.alloc _ = W1
                generalize hB : x.w.heap.size = B
                obtain ⟨c0, c1, c2, c3, h1, hback, yy, hy0⟩ := boxedT h x hB hW
                clear hW hB
                rw [← hy0]
                clear hy0
                obtain ⟨kr, A⟩ := h1.out
                have hrow := A.row
                have hlt := A.lt
                have hlk := A.lk
                have MANY : ∀ y : Ext W1, Calls Tryd.prog 100 #[.int .i64 t.op] y.w (Ans W1 (.int .i64 m)) := fun y => by rw [← hm.out]; exact l2Many_ans _ y
                clear A
                refine region_ext yy (by kernel_rfl) (by kernel_rfl) ?_
                repeat (go_big_quiet_step ((go_at_call 100; with_reducible exact MANY _)))
                refine wpQuiet_nil ?_
                rintro _ ⟨yy, rfl⟩
                go_wp2_with (first | (go_at_call 79; with_reducible refine Calls.mono (l2Has_ans t.op false (by refine iff_tf ?_; dsimp only; exact HH.out) _) ?_; rintro e w' ⟨rfl, yy, rfl⟩) | (go_at_call 80; with_reducible refine Calls.mono (l2Typed_ans t.op true (by refine iff_tf ?_; dsimp only; exact HT.out) _) ?_; rintro e w' ⟨rfl, yy, rfl⟩) | (go_at_call 43; with_reducible refine Calls.mono (l2Type_ans hrow hl40 false (by refine iff_tf ?_; dsimp only; exact HW.out) _) ?_; rintro e w' ⟨rfl, yy, rfl⟩))
                go_ret
                exact fin_false HP (fun q => HW.out (by have := q.tok; unfold TyOk at this; rw [if_pos HT.out] at this; exact this.1)) (hback yy)
            · have HT := Lib.hid ht
              clear ht
              by_cases he : t.ty.length = 0
              · have fe : ((t.ty.length : Int) == 0) = true := beq_iff_eq.2 (by omega)
                have HE := Lib.hid he
                clear he
                go_enter Tryd.func86, Tryd.ntmps86
                go_wp2_with fail
                generalize hW : x.w.alloc _ = W1
                generalize hB : x.w.heap.size = B
                obtain ⟨c0, c1, c2, c3, h1, hback, yy, hy0⟩ := boxedT h x hB hW
                clear hW hB
                rw [← hy0]
                clear hy0
                obtain ⟨kr, A⟩ := h1.out
                have hrow := A.row
                have hlt := A.lt
                have hlk := A.lk
                have MANY : ∀ y : Ext W1, Calls Tryd.prog 100 #[.int .i64 t.op] y.w (Ans W1 (.int .i64 m)) := fun y => by rw [← hm.out]; exact l2Many_ans _ y
                clear A
                refine region_ext yy (by kernel_rfl) (by kernel_rfl) ?_
                repeat (go_big_quiet_step ((go_at_call 100; with_reducible exact MANY _)))
                refine wpQuiet_nil ?_
                rintro _ ⟨yy, rfl⟩
                go_wp2_with (first | (go_at_call 79; with_reducible refine Calls.mono (l2Has_ans t.op false (by refine iff_tf ?_; dsimp only; exact HH.out) _) ?_; rintro e w' ⟨rfl, yy, rfl⟩) | (go_at_call 80; with_reducible refine Calls.mono (l2Typed_ans t.op false (by refine iff_tf ?_; dsimp only; exact HT.out) _) ?_; rintro e w' ⟨rfl, yy, rfl⟩))
                go_ret
                exact fin_true HP (⟨HM.out, by unfold NOk; rw [if_neg H0.out, if_neg H1.out, if_neg HH.out]; exact HN.out, by unfold TyOk; rw [if_neg HT.out]; exact List.eq_nil_of_length_eq_zero HE.out⟩) (hback yy)
              · have fe : ((t.ty.length : Int) == 0) = false := beq_eq_false_iff_ne.2 (by omega)
                have HE := Lib.hid he
                clear he
                go_enter Tryd.func86, Tryd.ntmps86
                go_wp2_with fail
                generalize hW : x.w.alloc _ = W1
                generalize hB : x.w.heap.size = B
                obtain ⟨c0, c1, c2, c3, h1, hback, yy, hy0⟩ := boxedT h x hB hW
                clear hW hB
                rw [← hy0]
                clear hy0
                obtain ⟨kr, A⟩ := h1.out
                have hrow := A.row
                have hlt := A.lt
                have hlk := A.lk
                have MANY : ∀ y : Ext W1, Calls Tryd.prog 100 #[.int .i64 t.op] y.w (Ans W1 (.int .i64 m)) := fun y => by rw [← hm.out]; exact l2Many_ans _ y
                clear A
                refine region_ext yy (by kernel_rfl) (by kernel_rfl) ?_
                repeat (go_big_quiet_step ((go_at_call 100; with_reducible exact MANY _)))
                refine wpQuiet_nil ?_
                rintro _ ⟨yy, rfl⟩
                go_wp2_with (first | (go_at_call 79; with_reducible refine Calls.mono (l2Has_ans t.op false (by refine iff_tf ?_; dsimp only; exact HH.out) _) ?_; rintro e w' ⟨rfl, yy, rfl⟩) | (go_at_call 80; with_reducible refine Calls.mono (l2Typed_ans t.op false (by refine iff_tf ?_; dsimp only; exact HT.out) _) ?_; rintro e w' ⟨rfl, yy, rfl⟩))
                go_ret
                exact fin_false HP (fun q => HE.out (by have := q.tok; unfold TyOk at this; rw [if_neg HT.out] at this; rw [this]; rfl)) (hback yy)
          · have fn : (t.n != 0) = true := by simpa using hn
            have HN := Lib.hid hn
            clear hn
            go_enter Tryd.func86, Tryd.ntmps86
            go_wp2_with fail
            generalize hW : x.w.alloc _ = W1
            generalize hB : x.w.heap.size = B
            obtain ⟨c0, c1, c2, c3, h1, hback, yy, hy0⟩ := boxedT h x hB hW
            clear hW hB
            rw [← hy0]
            clear hy0
            obtain ⟨kr, A⟩ := h1.out
            have hrow := A.row
            have hlt := A.lt
            have hlk := A.lk
            have MANY : ∀ y : Ext W1, Calls Tryd.prog 100 #[.int .i64 t.op] y.w (Ans W1 (.int .i64 m)) := fun y => by rw [← hm.out]; exact l2Many_ans _ y
            clear A
            refine region_ext yy (by kernel_rfl) (by kernel_rfl) ?_
            repeat (go_big_quiet_step ((go_at_call 100; with_reducible exact MANY _)))
            refine wpQuiet_nil ?_
            rintro _ ⟨yy, rfl⟩
            go_wp2_with ((go_at_call 79; with_reducible refine Calls.mono (l2Has_ans t.op false (by refine iff_tf ?_; dsimp only; exact HH.out) _) ?_; rintro e w' ⟨rfl, yy, rfl⟩))
            go_ret
            exact fin_false HP (fun q => by have := q.nok; unfold NOk at this; rw [if_neg H0.out, if_neg H1.out, if_neg HH.out] at this; exact HN.out this) (hback yy)
  · have fm : ((t.kids.length : Int) != m) = true := by simpa using hm1
    have HM1 := Lib.hid hm1
    clear hm1
    go_enter Tryd.func86, Tryd.ntmps86
    go_wp2_with fail
    generalize hW : x.w.alloc _ = W1
    generalize hB : x.w.heap.size = B
    obtain ⟨c0, c1, c2, c3, h1, hback, yy, hy0⟩ := boxedT h x hB hW
    clear hW hB
    rw [← hy0]
    clear hy0
    obtain ⟨kr, A⟩ := h1.out
    have hrow := A.row
    have hlt := A.lt
    have hlk := A.lk
    have MANY : ∀ y : Ext W1, Calls Tryd.prog 100 #[.int .i64 t.op] y.w (Ans W1 (.int .i64 m)) := fun y => by rw [← hm.out]; exact l2Many_ans _ y
    clear A
    refine region_ext yy (by kernel_rfl) (by kernel_rfl) ?_
    repeat (go_big_quiet_step ((go_at_call 100; with_reducible exact MANY _)))
    refine wpQuiet_nil ?_
    rintro _ ⟨yy, rfl⟩
    go_wp2_with ((fail))
    go_ret
    exact fin_false HP (fun q => HM1.out (by rw [← hm.out]; exact q.many)) (hback yy)

end Go.Proofs.YtncfbljablbglaaDoor
/- The model's terms: IsWritten, SizeOfTerm. -/
namespace Go.Proofs.YtncfbljablbglaaDoor
open Go.RowKit

set_option maxHeartbeats 4000000 in
theorem l2Term_ans (t : Tm) : ∀ {W : World} {lo : Nat} {r : TV} (_ : TmIn W lo t r) (_ : t.wt ≤ 1099511627776) (vars size : Int) (_ : 0 ≤ vars) (_ : vars + 2 * (t.sz : Int) ≤ 1000000) (closed : Bool) (p : Bool) (_ : p = true ↔ OkT size closed vars t) (x : Ext W),
    Calls Tryd.prog 63 #[r.val t, .int .i64 vars, .int .i64 size, .bool closed] x.w (Ans W (.bool p)) := by
  induction t using Tm.ind with
  | h t ih =>
    intro W lo r h hwt vars size hv0 hv1 closed p hp x
    have HP := Lib.hid hp
    have HI := Lib.hid ih
    clear hp ih
    have hsz := t.sz_pos
    have hl40 : t.ty.length ≤ 1099511627776 := by rw [t.wt_eq] at hwt; omega
    have HWT := Lib.hid hwt
    clear hwt
    by_cases hn : NodeOk size closed vars t
    · have h13 : 0 ≤ t.op ∧ t.op ≤ 12 := manyO_in (by rw [← hn.many]; omega)
      have hk3 : t.kids.length ≤ 3 := by have := hn.many; have := manyO_le t.op; omega
      have HN := Lib.hid hn
      clear hn
      have H13 := Lib.hid h13
      clear h13
      obtain ⟨ra, rc, rb, rd⟩ := r
      unfold TV.val
      go_enter Tryd.func63, Tryd.ntmps63
      go_wp2_with fail
      generalize hW : x.w.alloc _ = W1
      generalize hB : x.w.heap.size = B
      obtain ⟨c0, c1, c2, c3, h1, hback, yy, hy0⟩ := boxedT h x hB hW
      clear hW hB
      rw [← hy0]
      clear hy0
      obtain ⟨kr, A⟩ := h1.out
      have NODE : ∀ y : Ext W1, Calls Tryd.prog 86 #[(TV.mk ra rc rb rd).val t, .int .i64 vars, .int .i64 size, .bool closed] y.w (Ans W1 (.bool true)) := fun y => l2Node_ans h1 hl40 vars size hv0 (by omega) closed true (by refine iff_tf ?_; dsimp only; exact HN.out) y
      unfold TV.val at NODE
      have hlk := A.lk
      go_wp2_with (go_at_call 86; with_reducible refine Calls.mono (NODE _) ?_; rintro e w' ⟨rfl, yy, rfl⟩)
      go_loopw [9] (fun i wr => ∃ k : Nat, i = .int .i64 k ∧ k ≤ t.kids.length ∧ (∃ y : Ext W1, wr = y.w) ∧ Hid (∀ (j : Nat) u, j < k → t.kids[j]? = some u → OkT size closed (vars + addsO t.op j) u)) (fun i _ => t.kids.length - (intOf i).toNat)
      case atStart => exact ⟨0, rfl, by omega, ⟨yy, rfl⟩, fun j u hj => by omega⟩
      case round =>
        obtain ⟨k, rfl, hk, ⟨yy, rfl⟩, HU⟩ := hrel
        by_cases hlt : k < t.kids.length
        · have hlt' : (k : Int) < (t.kids.length : Int) := by omega
          obtain ⟨kid, hkid⟩ : ∃ kid, t.kids[k]? = some kid := ⟨_, List.getElem?_eq_getElem hlt⟩
          have hmem : kid ∈ t.kids := List.mem_of_getElem? hkid
          have HKID := Lib.hid hkid
          obtain ⟨b0, o0, hrb, K⟩ := A.kid k kid hkid
          have hsub := A.sub k kid hkid
          dsimp only at hrb
          subst hrb
          have d0 : ∀ y : Ext W1, y.w.cell? ⟨b0, o0 + k * 4, none⟩ = some (.int .i64 kid.op) := fun y => y.cell K.c0
          have d1 : ∀ y : Ext W1, y.w.cell? ⟨b0, o0 + k * 4 + 1, none⟩ = some (.int .i64 kid.n) := fun y => y.cell K.c1
          have d2 : ∀ y : Ext W1, y.w.cell? ⟨b0, o0 + k * 4 + 2, none⟩ = some (.slice (kr k).a kid.ty.length (kr k).c) := fun y => y.cell K.c2
          have d3 : ∀ y : Ext W1, y.w.cell? ⟨b0, o0 + k * 4 + 3, none⟩ = some (.slice (kr k).b kid.kids.length (kr k).d) := fun y => y.cell K.c3
          clear K hkid
          obtain ⟨m, hm⟩ := bool_of (OkT size closed (vars + addsO t.op k) kid)
          have HM := Lib.hid hm
          clear hm
          have ha1 := addsO_ge t.op k
          have ha2 := addsO_le t.op k
          have hks := Tm.sz_kid hmem
          have hkw := Tm.wt_kid hmem
          have ADDS : ∀ y : Ext W1, Calls Tryd.prog 65 #[.int .i64 t.op, .int .i64 k] y.w (Ans W1 (.int .i64 (addsO t.op k))) := fun y => l2Adds_ans t.op H13.out k (by omega) y
          generalize hadd : addsO t.op k = ad at *
          have C : ∀ y : Ext W1, Calls Tryd.prog 63 #[(kr k).val kid, .int .i64 (vars + ad), .int .i64 size, .bool closed] y.w (Ans W1 (.bool m)) := fun y => HI.out kid hmem hsub (by have := HWT.out; omega) (vars + ad) size (by omega) (by omega) closed m HM.out y
          unfold TV.val at C
          clear hmem hsub hkw NODE
          have HADD := Lib.hid hadd
          clear hadd
          have hw1 : vars + ad ≤ 1000000 := by omega
          cases m
          · go_wp2
            refine region_ext yy (by kernel_rfl) (by kernel_rfl) ?_
            repeat (go_big_quiet_step (first | (go_at_call 65; with_reducible exact ADDS _) | (go_at_call 63; with_reducible exact C _)))
            refine wpQuiet_nil ?_
            rintro _ ⟨yy, rfl⟩
            go_wp2
            go_ret
            exact fin_false HP (fun q => by have := HM.out.2 (HADD.out ▸ q.kid HKID.out); cases this) (hback yy)
          · go_wp2
            refine region_ext yy (by kernel_rfl) (by kernel_rfl) ?_
            repeat (go_big_quiet_step (first | (go_at_call 65; with_reducible exact ADDS _) | (go_at_call 63; with_reducible exact C _)))
            refine wpQuiet_nil ?_
            rintro _ ⟨yy, rfl⟩
            go_wp2
            go_roundw
            case rel =>
              refine ⟨k + 1, by go_num, by omega, ⟨yy, rfl⟩, fun j u hj hu => ?_⟩
              by_cases e : j = k
              · subst e
                obtain rfl := Option.some.inj (hu.symm.trans HKID.out)
                rw [HADD.out]
                exact HM.out.1 (by simp)
              · exact HU.out j u (by omega) hu
            case measure => simp [intOf]; omega
        · go_wp2
          go_ret
          exact fin_true HP (.mk _ _ HN.out (fun i u hu => HU.out i u (by have := (List.getElem?_eq_some_iff.1 hu).1; omega) hu)) (hback yy)
    · have HN := Lib.hid hn
      clear hn
      obtain ⟨ra, rc, rb, rd⟩ := r
      unfold TV.val
      go_enter Tryd.func63, Tryd.ntmps63
      go_wp2_with fail
      generalize hW : x.w.alloc _ = W1
      generalize hB : x.w.heap.size = B
      obtain ⟨c0, c1, c2, c3, h1, hback, yy, hy0⟩ := boxedT h x hB hW
      clear hW hB
      rw [← hy0]
      clear hy0
      obtain ⟨kr, A⟩ := h1.out
      have NODE : ∀ y : Ext W1, Calls Tryd.prog 86 #[(TV.mk ra rc rb rd).val t, .int .i64 vars, .int .i64 size, .bool closed] y.w (Ans W1 (.bool false)) := fun y => l2Node_ans h1 hl40 vars size hv0 (by omega) closed false (by refine iff_tf ?_; dsimp only; exact HN.out) y
      unfold TV.val at NODE
      go_wp2_with (go_at_call 86; with_reducible refine Calls.mono (NODE _) ?_; rintro e w' ⟨rfl, yy, rfl⟩)
      go_ret
      exact fin_false HP (fun q => HN.out q.node) (hback yy)

set_option maxHeartbeats 1600000 in
theorem specIsWritten_ans {W : World} {lo : Nat} {t : Tm} {r : TV} (h : TmIn W lo t r) (hwt : t.wt ≤ 1099511627776) (p : Bool) (hp : p = true ↔ Written t) (x : Ext W) :
    Calls Tryd.prog 29 #[r.val t] x.w (Ans W (.bool p)) := by
  have HP := Lib.hid hp
  clear hp
  obtain ⟨ra, rc, rb, rd⟩ := r
  unfold TV.val
  obtain ⟨m, hm⟩ := leftV_ex t 400
  have HM := Lib.hid hm
  clear hm
  by_cases hs : t.sz ≤ 400
  · have hm0 : 0 ≤ m := by rcases HM.out with h | h <;> omega
    by_cases ho : OkT 16 false 8 t
    · have HO := Lib.hid ho
      clear ho
      go_enter Tryd.func29, Tryd.ntmps29
      go_wp2_with fail
      generalize hW : x.w.alloc _ = W1
      generalize hB : x.w.heap.size = B
      obtain ⟨c0, c1, c2, c3, h1, hback, yy, hy0⟩ := boxedT h x hB hW
      clear hW hB
      rw [← hy0]
      clear hy0
      obtain ⟨kr, A⟩ := h1.out
      have LEFT : ∀ y : Ext W1, Calls Tryd.prog 62 #[(TV.mk ra rc rb rd).val t, .int .i64 400] y.w (Ans W1 (.int .i64 m)) := fun y => l2Left_ans t h1 400 (by omega) (by omega) m HM.out y
      unfold TV.val at LEFT
      have TERM : ∀ y : Ext W1, Calls Tryd.prog 63 #[(TV.mk ra rc rb rd).val t, .int .i64 8, .int .i64 16, .bool false] y.w (Ans W1 (.bool true)) := fun y => l2Term_ans t h1 hwt 8 16 (by omega) (by omega) false true (by refine iff_tf ?_; dsimp only; exact HO.out) y
      unfold TV.val at TERM
      go_wp2_with (first | (go_at_call 62; with_reducible refine Calls.mono (LEFT _) ?_; rintro e w' ⟨rfl, yy, rfl⟩) | (go_at_call 63; with_reducible refine Calls.mono (TERM _) ?_; rintro e w' ⟨rfl, yy, rfl⟩))
      go_ret
      exact fin_true HP (⟨hs, HO.out⟩) (hback yy)
    · have HO := Lib.hid ho
      clear ho
      go_enter Tryd.func29, Tryd.ntmps29
      go_wp2_with fail
      generalize hW : x.w.alloc _ = W1
      generalize hB : x.w.heap.size = B
      obtain ⟨c0, c1, c2, c3, h1, hback, yy, hy0⟩ := boxedT h x hB hW
      clear hW hB
      rw [← hy0]
      clear hy0
      obtain ⟨kr, A⟩ := h1.out
      have LEFT : ∀ y : Ext W1, Calls Tryd.prog 62 #[(TV.mk ra rc rb rd).val t, .int .i64 400] y.w (Ans W1 (.int .i64 m)) := fun y => l2Left_ans t h1 400 (by omega) (by omega) m HM.out y
      unfold TV.val at LEFT
      have TERM : ∀ y : Ext W1, Calls Tryd.prog 63 #[(TV.mk ra rc rb rd).val t, .int .i64 8, .int .i64 16, .bool false] y.w (Ans W1 (.bool false)) := fun y => l2Term_ans t h1 hwt 8 16 (by omega) (by omega) false false (by refine iff_tf ?_; dsimp only; exact HO.out) y
      unfold TV.val at TERM
      go_wp2_with (first | (go_at_call 62; with_reducible refine Calls.mono (LEFT _) ?_; rintro e w' ⟨rfl, yy, rfl⟩) | (go_at_call 63; with_reducible refine Calls.mono (TERM _) ?_; rintro e w' ⟨rfl, yy, rfl⟩))
      go_ret
      exact fin_false HP (fun q => HO.out q.2) (hback yy)

  · have hm0 : ¬ 0 ≤ m := by rcases HM.out with h | h <;> omega
    go_enter Tryd.func29, Tryd.ntmps29
    go_wp2_with fail
    generalize hW : x.w.alloc _ = W1
    generalize hB : x.w.heap.size = B
    obtain ⟨c0, c1, c2, c3, h1, hback, yy, hy0⟩ := boxedT h x hB hW
    clear hW hB
    rw [← hy0]
    clear hy0
    obtain ⟨kr, A⟩ := h1.out
    have LEFT : ∀ y : Ext W1, Calls Tryd.prog 62 #[(TV.mk ra rc rb rd).val t, .int .i64 400] y.w (Ans W1 (.int .i64 m)) := fun y => l2Left_ans t h1 400 (by omega) (by omega) m HM.out y
    unfold TV.val at LEFT
    go_wp2_with (go_at_call 62; with_reducible refine Calls.mono (LEFT _) ?_; rintro e w' ⟨rfl, yy, rfl⟩)
    go_ret
    exact fin_false HP (fun q => hs q.1) (hback yy)
end Go.Proofs.YtncfbljablbglaaDoor
