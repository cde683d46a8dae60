
/- The model's nodes of terms. -/
import Derived.Test.YtiekppegfocejaaDoorTermM
namespace Go.Proofs.YtiekppegfocejaaDoor
open Go.RowKit

set_option maxHeartbeats 8000000 in
theorem l2Node_ans {W : World} {lo : Nat} {t : Tm} {r : TV} (h : TmIn W lo t r) (hl40 : t.ty.length ≤ 1099511627776) (vars size : Int) (hv : 0 ≤ vars) (hv2 : vars ≤ 1000000) (closed : Bool) (p : Bool) (hp : p = true ↔ NodeOk size closed vars t) (x : Ext W) :
    Calls Tryd.prog 83 #[r.val t, .int .i64 vars, .int .i64 size, .bool closed] x.w (Ans W (.bool p)) := by
  have HP := Lib.hid hp
  clear hp
  obtain ⟨ra, rc, rb, rd⟩ := r
  unfold TV.val
  generalize hm : manyO t.op = m
  replace hm := Lib.hid hm
  by_cases hm1 : (t.kids.length : Int) = m
  · have fm : ((t.kids.length : Int) != m) = false := by simpa using hm1
    have HM1 := Lib.hid hm1
    clear hm1
    have HM : Hid ((t.kids.length : Int) = manyO t.op) := by rw [hm.out]; exact HM1
    by_cases h0 : t.op = 0
    · have f0 : (t.op == 0) = true := by simpa using h0
      have H0 := Lib.hid h0
      clear h0
      by_cases hn : 0 ≤ t.n ∧ t.n < vars
      · have HN := Lib.hid hn
        clear hn
        by_cases ht : TypedO t.op
        · have HT := Lib.hid ht
          clear ht
          by_cases hw : WT t.ty
          · have HW := Lib.hid hw
            clear hw
            by_cases hg : Grs size closed t.ty
            · have HG := Lib.hid hg
              clear hg
              go_enter Tryd.func83, Tryd.ntmps83
              go_wp2_with fail
              generalize hW : x.w.alloc _ = W1
              generalize hB : x.w.heap.size = B
              obtain ⟨c0, c1, c2, c3, h1, hback, yy, hy0⟩ := boxedT h x hB hW
              clear hW hB
              rw [← hy0]
              clear hy0
              obtain ⟨kr, A⟩ := h1.out
              have hrow := A.row
              have hlt := A.lt
              have hlk := A.lk
              have MANY : ∀ y : Ext W1, Calls Tryd.prog 87 #[.int .i64 t.op] y.w (Ans W1 (.int .i64 m)) := fun y => by rw [← hm.out]; exact l2Many_ans _ y
              clear A
              refine region_ext yy (by kernel_rfl) (by kernel_rfl) ?_
              repeat (go_big_quiet_step ((go_at_call 87; with_reducible exact MANY _)))
              refine wpQuiet_nil ?_
              rintro _ ⟨yy, rfl⟩
              go_wp2_with (first | (go_at_call 77; with_reducible refine Calls.mono (l1In_ans t.n 0 (vars - 1) true (by refine iff_tf ?_; dsimp only; have := HN.out; omega) _) ?_; rintro e w' ⟨rfl, yy, rfl⟩) | (go_at_call 81; with_reducible refine Calls.mono (l2Typed_ans t.op true (by refine iff_tf ?_; dsimp only; exact HT.out) _) ?_; rintro e w' ⟨rfl, yy, rfl⟩) | (go_at_call 30; with_reducible refine Calls.mono (l2Type_ans hrow hl40 true (by refine iff_tf ?_; dsimp only; exact HW.out) _) ?_; rintro e w' ⟨rfl, yy, rfl⟩) | (go_at_call 88; with_reducible refine Calls.mono (l2Graded_ans hrow hl40 size closed true (by refine iff_tf ?_; dsimp only; exact HG.out) _) ?_; rintro e w' ⟨rfl, yy, rfl⟩))
              go_ret
              exact fin_true HP (⟨HM.out, by unfold NOk; rw [if_pos H0.out]; exact HN.out, by unfold TyOk; rw [if_pos HT.out]; exact ⟨HW.out, HG.out⟩⟩) (hback yy)
            · have HG := Lib.hid hg
              clear hg
              go_enter Tryd.func83, Tryd.ntmps83
              go_wp2_with fail
              generalize hW : x.w.alloc _ = W1
              generalize hB : x.w.heap.size = B
              obtain ⟨c0, c1, c2, c3, h1, hback, yy, hy0⟩ := boxedT h x hB hW
              clear hW hB
              rw [← hy0]
              clear hy0
              obtain ⟨kr, A⟩ := h1.out
              have hrow := A.row
              have hlt := A.lt
              have hlk := A.lk
              have MANY : ∀ y : Ext W1, Calls Tryd.prog 87 #[.int .i64 t.op] y.w (Ans W1 (.int .i64 m)) := fun y => by rw [← hm.out]; exact l2Many_ans _ y
              clear A
              refine region_ext yy (by kernel_rfl) (by kernel_rfl) ?_
              repeat (go_big_quiet_step ((go_at_call 87; with_reducible exact MANY _)))
              refine wpQuiet_nil ?_
              rintro _ ⟨yy, rfl⟩
              go_wp2_with (first | (go_at_call 77; with_reducible refine Calls.mono (l1In_ans t.n 0 (vars - 1) true (by refine iff_tf ?_; dsimp only; have := HN.out; omega) _) ?_; rintro e w' ⟨rfl, yy, rfl⟩) | (go_at_call 81; with_reducible refine Calls.mono (l2Typed_ans t.op true (by refine iff_tf ?_; dsimp only; exact HT.out) _) ?_; rintro e w' ⟨rfl, yy, rfl⟩) | (go_at_call 30; with_reducible refine Calls.mono (l2Type_ans hrow hl40 true (by refine iff_tf ?_; dsimp only; exact HW.out) _) ?_; rintro e w' ⟨rfl, yy, rfl⟩) | (go_at_call 88; with_reducible refine Calls.mono (l2Graded_ans hrow hl40 size closed false (by refine iff_tf ?_; dsimp only; exact HG.out) _) ?_; rintro e w' ⟨rfl, yy, rfl⟩))
              go_ret
              exact fin_false HP (fun q => HG.out (by have := q.tok; unfold TyOk at this; rw [if_pos HT.out] at this; exact this.2)) (hback yy)
          · have HW := Lib.hid hw
            clear hw
            go_enter Tryd.func83, Tryd.ntmps83
            go_wp2_with fail
            generalize hW : x.w.alloc _ = W1
            generalize hB : x.w.heap.size = B
            obtain ⟨c0, c1, c2, c3, h1, hback, yy, hy0⟩ := boxedT h x hB hW
            clear hW hB
            rw [← hy0]
            clear hy0
            obtain ⟨kr, A⟩ := h1.out
            have hrow := A.row
            have hlt := A.lt
            have hlk := A.lk
            have MANY : ∀ y : Ext W1, Calls Tryd.prog 87 #[.int .i64 t.op] y.w (Ans W1 (.int .i64 m)) := fun y => by rw [← hm.out]; exact l2Many_ans _ y
            clear A
            refine region_ext yy (by kernel_rfl) (by kernel_rfl) ?_
            repeat (go_big_quiet_step ((go_at_call 87; with_reducible exact MANY _)))
            refine wpQuiet_nil ?_
            rintro _ ⟨yy, rfl⟩
            go_wp2_with (first | (go_at_call 77; with_reducible refine Calls.mono (l1In_ans t.n 0 (vars - 1) true (by refine iff_tf ?_; dsimp only; have := HN.out; omega) _) ?_; rintro e w' ⟨rfl, yy, rfl⟩) | (go_at_call 81; with_reducible refine Calls.mono (l2Typed_ans t.op true (by refine iff_tf ?_; dsimp only; exact HT.out) _) ?_; rintro e w' ⟨rfl, yy, rfl⟩) | (go_at_call 30; with_reducible refine Calls.mono (l2Type_ans hrow hl40 false (by refine iff_tf ?_; dsimp only; exact HW.out) _) ?_; rintro e w' ⟨rfl, yy, rfl⟩))
            go_ret
            exact fin_false HP (fun q => HW.out (by have := q.tok; unfold TyOk at this; rw [if_pos HT.out] at this; exact this.1)) (hback yy)
        · have HT := Lib.hid ht
          clear ht
          by_cases he : t.ty.length = 0
          · have fe : ((t.ty.length : Int) == 0) = true := beq_iff_eq.2 (by omega)
            have HE := Lib.hid he
            clear he
            go_enter Tryd.func83, Tryd.ntmps83
            go_wp2_with fail
            generalize hW : x.w.alloc _ = W1
            generalize hB : x.w.heap.size = B
            obtain ⟨c0, c1, c2, c3, h1, hback, yy, hy0⟩ := boxedT h x hB hW
            clear hW hB
            rw [← hy0]
            clear hy0
            obtain ⟨kr, A⟩ := h1.out
            have hrow := A.row
            have hlt := A.lt
            have hlk := A.lk
            have MANY : ∀ y : Ext W1, Calls Tryd.prog 87 #[.int .i64 t.op] y.w (Ans W1 (.int .i64 m)) := fun y => by rw [← hm.out]; exact l2Many_ans _ y
            clear A
            refine region_ext yy (by kernel_rfl) (by kernel_rfl) ?_
            repeat (go_big_quiet_step ((go_at_call 87; with_reducible exact MANY _)))
            refine wpQuiet_nil ?_
            rintro _ ⟨yy, rfl⟩
            go_wp2_with (first | (go_at_call 77; with_reducible refine Calls.mono (l1In_ans t.n 0 (vars - 1) true (by refine iff_tf ?_; dsimp only; have := HN.out; omega) _) ?_; rintro e w' ⟨rfl, yy, rfl⟩) | (go_at_call 81; with_reducible refine Calls.mono (l2Typed_ans t.op false (by refine iff_tf ?_; dsimp only; exact HT.out) _) ?_; rintro e w' ⟨rfl, yy, rfl⟩))
            go_ret
            exact fin_true HP (⟨HM.out, by unfold NOk; rw [if_pos H0.out]; exact HN.out, by unfold TyOk; rw [if_neg HT.out]; exact List.eq_nil_of_length_eq_zero HE.out⟩) (hback yy)
          · have fe : ((t.ty.length : Int) == 0) = false := beq_eq_false_iff_ne.2 (by omega)
            have HE := Lib.hid he
            clear he
            go_enter Tryd.func83, Tryd.ntmps83
            go_wp2_with fail
            generalize hW : x.w.alloc _ = W1
            generalize hB : x.w.heap.size = B
            obtain ⟨c0, c1, c2, c3, h1, hback, yy, hy0⟩ := boxedT h x hB hW
            clear hW hB
            rw [← hy0]
            clear hy0
            obtain ⟨kr, A⟩ := h1.out
            have hrow := A.row
            have hlt := A.lt
            have hlk := A.lk
            have MANY : ∀ y : Ext W1, Calls Tryd.prog 87 #[.int .i64 t.op] y.w (Ans W1 (.int .i64 m)) := fun y => by rw [← hm.out]; exact l2Many_ans _ y
            clear A
            refine region_ext yy (by kernel_rfl) (by kernel_rfl) ?_
            repeat (go_big_quiet_step ((go_at_call 87; with_reducible exact MANY _)))
            refine wpQuiet_nil ?_
            rintro _ ⟨yy, rfl⟩
            go_wp2_with (first | (go_at_call 77; with_reducible refine Calls.mono (l1In_ans t.n 0 (vars - 1) true (by refine iff_tf ?_; dsimp only; have := HN.out; omega) _) ?_; rintro e w' ⟨rfl, yy, rfl⟩) | (go_at_call 81; with_reducible refine Calls.mono (l2Typed_ans t.op false (by refine iff_tf ?_; dsimp only; exact HT.out) _) ?_; rintro e w' ⟨rfl, yy, rfl⟩))
            go_ret
            exact fin_false HP (fun q => HE.out (by have := q.tok; unfold TyOk at this; rw [if_neg HT.out] at this; rw [this]; rfl)) (hback yy)
      · have HN := Lib.hid hn
        clear hn
        go_enter Tryd.func83, Tryd.ntmps83
        go_wp2_with fail
        generalize hW : x.w.alloc _ = W1
        generalize hB : x.w.heap.size = B
        obtain ⟨c0, c1, c2, c3, h1, hback, yy, hy0⟩ := boxedT h x hB hW
        clear hW hB
        rw [← hy0]
        clear hy0
        obtain ⟨kr, A⟩ := h1.out
        have hrow := A.row
        have hlt := A.lt
        have hlk := A.lk
        have MANY : ∀ y : Ext W1, Calls Tryd.prog 87 #[.int .i64 t.op] y.w (Ans W1 (.int .i64 m)) := fun y => by rw [← hm.out]; exact l2Many_ans _ y
        clear A
        refine region_ext yy (by kernel_rfl) (by kernel_rfl) ?_
        repeat (go_big_quiet_step ((go_at_call 87; with_reducible exact MANY _)))
        refine wpQuiet_nil ?_
        rintro _ ⟨yy, rfl⟩
        go_wp2_with ((go_at_call 77; with_reducible refine Calls.mono (l1In_ans t.n 0 (vars - 1) false (by refine iff_tf ?_; dsimp only; have := HN.out; omega) _) ?_; rintro e w' ⟨rfl, yy, rfl⟩))
        go_ret
        exact fin_false HP (fun q => by have := q.nok; unfold NOk at this; rw [if_pos H0.out] at this; exact HN.out this) (hback yy)
    · have f0 : (t.op == 0) = false := by simpa using h0
      have H0 := Lib.hid h0
      clear h0
      by_cases h1 : t.op = 1
      · have f1 : (t.op == 1) = true := by simpa using h1
        have H1 := Lib.hid h1
        clear h1
        by_cases hn : 0 ≤ t.n ∧ t.n < 3
        · have HN := Lib.hid hn
          clear hn
          by_cases ht : TypedO t.op
          · have HT := Lib.hid ht
            clear ht
            by_cases hw : WT t.ty
            · have HW := Lib.hid hw
              clear hw
              by_cases hg : Grs size closed t.ty
              · have HG := Lib.hid hg
                clear hg
                go_enter Tryd.func83, Tryd.ntmps83
                go_wp2_with fail
                generalize hW : x.w.alloc _ = W1
                generalize hB : x.w.heap.size = B
                obtain ⟨c0, c1, c2, c3, h1, hback, yy, hy0⟩ := boxedT h x hB hW
                clear hW hB
                rw [← hy0]
                clear hy0
                obtain ⟨kr, A⟩ := h1.out
                have hrow := A.row
                have hlt := A.lt
                have hlk := A.lk
                have MANY : ∀ y : Ext W1, Calls Tryd.prog 87 #[.int .i64 t.op] y.w (Ans W1 (.int .i64 m)) := fun y => by rw [← hm.out]; exact l2Many_ans _ y
                clear A
                refine region_ext yy (by kernel_rfl) (by kernel_rfl) ?_
                repeat (go_big_quiet_step ((go_at_call 87; with_reducible exact MANY _)))
                refine wpQuiet_nil ?_
                rintro _ ⟨yy, rfl⟩
                go_wp2_with (first | (go_at_call 77; with_reducible refine Calls.mono (l1In_ans t.n 0 2 true (by refine iff_tf ?_; dsimp only; have := HN.out; omega) _) ?_; rintro e w' ⟨rfl, yy, rfl⟩) | (go_at_call 81; with_reducible refine Calls.mono (l2Typed_ans t.op true (by refine iff_tf ?_; dsimp only; exact HT.out) _) ?_; rintro e w' ⟨rfl, yy, rfl⟩) | (go_at_call 30; with_reducible refine Calls.mono (l2Type_ans hrow hl40 true (by refine iff_tf ?_; dsimp only; exact HW.out) _) ?_; rintro e w' ⟨rfl, yy, rfl⟩) | (go_at_call 88; with_reducible refine Calls.mono (l2Graded_ans hrow hl40 size closed true (by refine iff_tf ?_; dsimp only; exact HG.out) _) ?_; rintro e w' ⟨rfl, yy, rfl⟩))
                go_ret
                exact fin_true HP (⟨HM.out, by unfold NOk; rw [if_neg H0.out, if_pos H1.out]; exact HN.out, by unfold TyOk; rw [if_pos HT.out]; exact ⟨HW.out, HG.out⟩⟩) (hback yy)
              · have HG := Lib.hid hg
                clear hg
                go_enter Tryd.func83, Tryd.ntmps83
                go_wp2_with fail
                generalize hW : x.w.alloc _ = W1
                generalize hB : x.w.heap.size = B
                obtain ⟨c0, c1, c2, c3, h1, hback, yy, hy0⟩ := boxedT h x hB hW
                clear hW hB
                rw [← hy0]
                clear hy0
                obtain ⟨kr, A⟩ := h1.out
                have hrow := A.row
                have hlt := A.lt
                have hlk := A.lk
                have MANY : ∀ y : Ext W1, Calls Tryd.prog 87 #[.int .i64 t.op] y.w (Ans W1 (.int .i64 m)) := fun y => by rw [← hm.out]; exact l2Many_ans _ y
                clear A
                refine region_ext yy (by kernel_rfl) (by kernel_rfl) ?_
                repeat (go_big_quiet_step ((go_at_call 87; with_reducible exact MANY _)))
                refine wpQuiet_nil ?_
                rintro _ ⟨yy, rfl⟩
                go_wp2_with (first | (go_at_call 77; with_reducible refine Calls.mono (l1In_ans t.n 0 2 true (by refine iff_tf ?_; dsimp only; have := HN.out; omega) _) ?_; rintro e w' ⟨rfl, yy, rfl⟩) | (go_at_call 81; with_reducible refine Calls.mono (l2Typed_ans t.op true (by refine iff_tf ?_; dsimp only; exact HT.out) _) ?_; rintro e w' ⟨rfl, yy, rfl⟩) | (go_at_call 30; with_reducible refine Calls.mono (l2Type_ans hrow hl40 true (by refine iff_tf ?_; dsimp only; exact HW.out) _) ?_; rintro e w' ⟨rfl, yy, rfl⟩) | (go_at_call 88; with_reducible refine Calls.mono (l2Graded_ans hrow hl40 size closed false (by refine iff_tf ?_; dsimp only; exact HG.out) _) ?_; rintro e w' ⟨rfl, yy, rfl⟩))
                go_ret
                exact fin_false HP (fun q => HG.out (by have := q.tok; unfold TyOk at this; rw [if_pos HT.out] at this; exact this.2)) (hback yy)
            · have HW := Lib.hid hw
              clear hw
              go_enter Tryd.func83, Tryd.ntmps83
              go_wp2_with fail
              generalize hW : x.w.alloc _ = W1
              generalize hB : x.w.heap.size = B
              obtain ⟨c0, c1, c2, c3, h1, hback, yy, hy0⟩ := boxedT h x hB hW
              clear hW hB
              rw [← hy0]
              clear hy0
              obtain ⟨kr, A⟩ := h1.out
              have hrow := A.row
              have hlt := A.lt
              have hlk := A.lk
              have MANY : ∀ y : Ext W1, Calls Tryd.prog 87 #[.int .i64 t.op] y.w (Ans W1 (.int .i64 m)) := fun y => by rw [← hm.out]; exact l2Many_ans _ y
              clear A
              refine region_ext yy (by kernel_rfl) (by kernel_rfl) ?_
              repeat (go_big_quiet_step ((go_at_call 87; with_reducible exact MANY _)))
              refine wpQuiet_nil ?_
              rintro _ ⟨yy, rfl⟩
              go_wp2_with (first | (go_at_call 77; with_reducible refine Calls.mono (l1In_ans t.n 0 2 true (by refine iff_tf ?_; dsimp only; have := HN.out; omega) _) ?_; rintro e w' ⟨rfl, yy, rfl⟩) | (go_at_call 81; with_reducible refine Calls.mono (l2Typed_ans t.op true (by refine iff_tf ?_; dsimp only; exact HT.out) _) ?_; rintro e w' ⟨rfl, yy, rfl⟩) | (go_at_call 30; with_reducible refine Calls.mono (l2Type_ans hrow hl40 false (by refine iff_tf ?_; dsimp only; exact HW.out) _) ?_; rintro e w' ⟨rfl, yy, rfl⟩))
              go_ret
              exact fin_false HP (fun q => HW.out (by have := q.tok; unfold TyOk at this; rw [if_pos HT.out] at this; exact this.1)) (hback yy)
          · have HT := Lib.hid ht
            clear ht
            by_cases he : t.ty.length = 0
            · have fe : ((t.ty.length : Int) == 0) = true := beq_iff_eq.2 (by omega)
              have HE := Lib.hid he
              clear he
              go_enter Tryd.func83, Tryd.ntmps83
              go_wp2_with fail
              generalize hW : x.w.alloc _ = W1
              generalize hB : x.w.heap.size = B
              obtain ⟨c0, c1, c2, c3, h1, hback, yy, hy0⟩ := boxedT h x hB hW
              clear hW hB
              rw [← hy0]
              clear hy0
              obtain ⟨kr, A⟩ := h1.out
              have hrow := A.row
              have hlt := A.lt
              have hlk := A.lk
              have MANY : ∀ y : Ext W1, Calls Tryd.prog 87 #[.int .i64 t.op] y.w (Ans W1 (.int .i64 m)) := fun y => by rw [← hm.out]; exact l2Many_ans _ y
              clear A
              refine region_ext yy (by kernel_rfl) (by kernel_rfl) ?_
              repeat (go_big_quiet_step ((go_at_call 87; with_reducible exact MANY _)))
              refine wpQuiet_nil ?_
              rintro _ ⟨yy, rfl⟩
              go_wp2_with (first | (go_at_call 77; with_reducible refine Calls.mono (l1In_ans t.n 0 2 true (by refine iff_tf ?_; dsimp only; have := HN.out; omega) _) ?_; rintro e w' ⟨rfl, yy, rfl⟩) | (go_at_call 81; with_reducible refine Calls.mono (l2Typed_ans t.op false (by refine iff_tf ?_; dsimp only; exact HT.out) _) ?_; rintro e w' ⟨rfl, yy, rfl⟩))
              go_ret
              exact fin_true HP (⟨HM.out, by unfold NOk; rw [if_neg H0.out, if_pos H1.out]; exact HN.out, by unfold TyOk; rw [if_neg HT.out]; exact List.eq_nil_of_length_eq_zero HE.out⟩) (hback yy)
            · have fe : ((t.ty.length : Int) == 0) = false := beq_eq_false_iff_ne.2 (by omega)
              have HE := Lib.hid he
              clear he
              go_enter Tryd.func83, Tryd.ntmps83
              go_wp2_with fail
              generalize hW : x.w.alloc _ = W1
              generalize hB : x.w.heap.size = B
              obtain ⟨c0, c1, c2, c3, h1, hback, yy, hy0⟩ := boxedT h x hB hW
              clear hW hB
              rw [← hy0]
              clear hy0
              obtain ⟨kr, A⟩ := h1.out
              have hrow := A.row
              have hlt := A.lt
              have hlk := A.lk
              have MANY : ∀ y : Ext W1, Calls Tryd.prog 87 #[.int .i64 t.op] y.w (Ans W1 (.int .i64 m)) := fun y => by rw [← hm.out]; exact l2Many_ans _ y
              clear A
              refine region_ext yy (by kernel_rfl) (by kernel_rfl) ?_
              repeat (go_big_quiet_step ((go_at_call 87; with_reducible exact MANY _)))
              refine wpQuiet_nil ?_
              rintro _ ⟨yy, rfl⟩
              go_wp2_with (first | (go_at_call 77; with_reducible refine Calls.mono (l1In_ans t.n 0 2 true (by refine iff_tf ?_; dsimp only; have := HN.out; omega) _) ?_; rintro e w' ⟨rfl, yy, rfl⟩) | (go_at_call 81; with_reducible refine Calls.mono (l2Typed_ans t.op false (by refine iff_tf ?_; dsimp only; exact HT.out) _) ?_; rintro e w' ⟨rfl, yy, rfl⟩))
              go_ret
              exact fin_false HP (fun q => HE.out (by have := q.tok; unfold TyOk at this; rw [if_neg HT.out] at this; rw [this]; rfl)) (hback yy)
        · have HN := Lib.hid hn
          clear hn
          go_enter Tryd.func83, Tryd.ntmps83
          go_wp2_with fail
          generalize hW : x.w.alloc _ = W1
          generalize hB : x.w.heap.size = B
          obtain ⟨c0, c1, c2, c3, h1, hback, yy, hy0⟩ := boxedT h x hB hW
          clear hW hB
          rw [← hy0]
          clear hy0
          obtain ⟨kr, A⟩ := h1.out
          have hrow := A.row
          have hlt := A.lt
          have hlk := A.lk
          have MANY : ∀ y : Ext W1, Calls Tryd.prog 87 #[.int .i64 t.op] y.w (Ans W1 (.int .i64 m)) := fun y => by rw [← hm.out]; exact l2Many_ans _ y
          clear A
          refine region_ext yy (by kernel_rfl) (by kernel_rfl) ?_
          repeat (go_big_quiet_step ((go_at_call 87; with_reducible exact MANY _)))
          refine wpQuiet_nil ?_
          rintro _ ⟨yy, rfl⟩
          go_wp2_with ((go_at_call 77; with_reducible refine Calls.mono (l1In_ans t.n 0 2 false (by refine iff_tf ?_; dsimp only; have := HN.out; omega) _) ?_; rintro e w' ⟨rfl, yy, rfl⟩))
          go_ret
          exact fin_false HP (fun q => by have := q.nok; unfold NOk at this; rw [if_neg H0.out, if_pos H1.out] at this; exact HN.out this) (hback yy)
      · have f1 : (t.op == 1) = false := by simpa using h1
        have H1 := Lib.hid h1
        clear h1
        by_cases hh : HasG t.op
        · have HH := Lib.hid hh
          clear hh
          by_cases n1 : t.n < size
          · by_cases n2 : t.n < -1
            · skip
              go_enter Tryd.func83, Tryd.ntmps83
              go_wp2_with fail
              generalize hW : x.w.alloc _ = W1
              generalize hB : x.w.heap.size = B
              obtain ⟨c0, c1, c2, c3, h1, hback, yy, hy0⟩ := boxedT h x hB hW
              clear hW hB
              rw [← hy0]
              clear hy0
              obtain ⟨kr, A⟩ := h1.out
              have hrow := A.row
              have hlt := A.lt
              have hlk := A.lk
              have MANY : ∀ y : Ext W1, Calls Tryd.prog 87 #[.int .i64 t.op] y.w (Ans W1 (.int .i64 m)) := fun y => by rw [← hm.out]; exact l2Many_ans _ y
              clear A
              refine region_ext yy (by kernel_rfl) (by kernel_rfl) ?_
              repeat (go_big_quiet_step ((go_at_call 87; with_reducible exact MANY _)))
              refine wpQuiet_nil ?_
              rintro _ ⟨yy, rfl⟩
              go_wp2_with ((go_at_call 80; with_reducible refine Calls.mono (l2Has_ans t.op true (by refine iff_tf ?_; dsimp only; exact HH.out) _) ?_; rintro e w' ⟨rfl, yy, rfl⟩))
              go_ret
              exact fin_false HP (fun q => by have := q.nok; unfold NOk at this; rw [if_neg H0.out, if_neg H1.out, if_pos HH.out] at this; omega) (hback yy)
            · cases closed with
              | true =>
                by_cases n3 : t.n < 0
                · skip
                  go_enter Tryd.func83, Tryd.ntmps83
                  go_wp2_with fail
                  generalize hW : x.w.alloc _ = W1
                  generalize hB : x.w.heap.size = B
                  obtain ⟨c0, c1, c2, c3, h1, hback, yy, hy0⟩ := boxedT h x hB hW
                  clear hW hB
                  rw [← hy0]
                  clear hy0
                  obtain ⟨kr, A⟩ := h1.out
                  have hrow := A.row
                  have hlt := A.lt
                  have hlk := A.lk
                  have MANY : ∀ y : Ext W1, Calls Tryd.prog 87 #[.int .i64 t.op] y.w (Ans W1 (.int .i64 m)) := fun y => by rw [← hm.out]; exact l2Many_ans _ y
                  clear A
                  refine region_ext yy (by kernel_rfl) (by kernel_rfl) ?_
                  repeat (go_big_quiet_step ((go_at_call 87; with_reducible exact MANY _)))
                  refine wpQuiet_nil ?_
                  rintro _ ⟨yy, rfl⟩
                  go_wp2_with ((go_at_call 80; with_reducible refine Calls.mono (l2Has_ans t.op true (by refine iff_tf ?_; dsimp only; exact HH.out) _) ?_; rintro e w' ⟨rfl, yy, rfl⟩))
                  go_ret
                  exact fin_false HP (fun q => by have := q.nok; unfold NOk at this; rw [if_neg H0.out, if_neg H1.out, if_pos HH.out] at this; have := this.2.2 rfl; omega) (hback yy)
                · have HN : Hid (t.n < size ∧ -1 ≤ t.n ∧ 0 ≤ t.n) := ⟨n1, by omega, by omega⟩
                  by_cases ht : TypedO t.op
                  · have HT := Lib.hid ht
                    clear ht
                    by_cases hw : WT t.ty
                    · have HW := Lib.hid hw
                      clear hw
                      by_cases hg : Grs size true t.ty
                      · have HG := Lib.hid hg
                        clear hg
                        go_enter Tryd.func83, Tryd.ntmps83
                        go_wp2_with fail
                        generalize hW : x.w.alloc _ = W1
                        generalize hB : x.w.heap.size = B
                        obtain ⟨c0, c1, c2, c3, h1, hback, yy, hy0⟩ := boxedT h x hB hW
                        clear hW hB
                        rw [← hy0]
                        clear hy0
                        obtain ⟨kr, A⟩ := h1.out
                        have hrow := A.row
                        have hlt := A.lt
                        have hlk := A.lk
                        have MANY : ∀ y : Ext W1, Calls Tryd.prog 87 #[.int .i64 t.op] y.w (Ans W1 (.int .i64 m)) := fun y => by rw [← hm.out]; exact l2Many_ans _ y
                        clear A
                        refine region_ext yy (by kernel_rfl) (by kernel_rfl) ?_
                        repeat (go_big_quiet_step ((go_at_call 87; with_reducible exact MANY _)))
                        refine wpQuiet_nil ?_
                        rintro _ ⟨yy, rfl⟩
                        go_wp2_with (first | (go_at_call 80; with_reducible refine Calls.mono (l2Has_ans t.op true (by refine iff_tf ?_; dsimp only; exact HH.out) _) ?_; rintro e w' ⟨rfl, yy, rfl⟩) | (go_at_call 81; with_reducible refine Calls.mono (l2Typed_ans t.op true (by refine iff_tf ?_; dsimp only; exact HT.out) _) ?_; rintro e w' ⟨rfl, yy, rfl⟩) | (go_at_call 30; with_reducible refine Calls.mono (l2Type_ans hrow hl40 true (by refine iff_tf ?_; dsimp only; exact HW.out) _) ?_; rintro e w' ⟨rfl, yy, rfl⟩) | (go_at_call 88; with_reducible refine Calls.mono (l2Graded_ans hrow hl40 size true true (by refine iff_tf ?_; dsimp only; exact HG.out) _) ?_; rintro e w' ⟨rfl, yy, rfl⟩))
                        go_ret
                        exact fin_true HP (⟨HM.out, by unfold NOk; rw [if_neg H0.out, if_neg H1.out, if_pos HH.out]; exact ⟨HN.out.1, HN.out.2.1, fun _ => HN.out.2.2⟩, by unfold TyOk; rw [if_pos HT.out]; exact ⟨HW.out, HG.out⟩⟩) (hback yy)
                      · have HG := Lib.hid hg
                        clear hg
                        go_enter Tryd.func83, Tryd.ntmps83
                        go_wp2_with fail
                        generalize hW : x.w.alloc _ = W1
                        generalize hB : x.w.heap.size = B
                        obtain ⟨c0, c1, c2, c3, h1, hback, yy, hy0⟩ := boxedT h x hB hW
                        clear hW hB
                        rw [← hy0]
                        clear hy0
                        obtain ⟨kr, A⟩ := h1.out
                        have hrow := A.row
                        have hlt := A.lt
                        have hlk := A.lk
                        have MANY : ∀ y : Ext W1, Calls Tryd.prog 87 #[.int .i64 t.op] y.w (Ans W1 (.int .i64 m)) := fun y => by rw [← hm.out]; exact l2Many_ans _ y
                        clear A
                        refine region_ext yy (by kernel_rfl) (by kernel_rfl) ?_
                        repeat (go_big_quiet_step ((go_at_call 87; with_reducible exact MANY _)))
                        refine wpQuiet_nil ?_
                        rintro _ ⟨yy, rfl⟩
                        go_wp2_with (first | (go_at_call 80; with_reducible refine Calls.mono (l2Has_ans t.op true (by refine iff_tf ?_; dsimp only; exact HH.out) _) ?_; rintro e w' ⟨rfl, yy, rfl⟩) | (go_at_call 81; with_reducible refine Calls.mono (l2Typed_ans t.op true (by refine iff_tf ?_; dsimp only; exact HT.out) _) ?_; rintro e w' ⟨rfl, yy, rfl⟩) | (go_at_call 30; with_reducible refine Calls.mono (l2Type_ans hrow hl40 true (by refine iff_tf ?_; dsimp only; exact HW.out) _) ?_; rintro e w' ⟨rfl, yy, rfl⟩) | (go_at_call 88; with_reducible refine Calls.mono (l2Graded_ans hrow hl40 size true false (by refine iff_tf ?_; dsimp only; exact HG.out) _) ?_; rintro e w' ⟨rfl, yy, rfl⟩))
                        go_ret
                        exact fin_false HP (fun q => HG.out (by have := q.tok; unfold TyOk at this; rw [if_pos HT.out] at this; exact this.2)) (hback yy)
                    · have HW := Lib.hid hw
                      clear hw
                      go_enter Tryd.func83, Tryd.ntmps83
                      go_wp2_with fail
                      generalize hW : x.w.alloc _ = W1
                      generalize hB : x.w.heap.size = B
                      obtain ⟨c0, c1, c2, c3, h1, hback, yy, hy0⟩ := boxedT h x hB hW
                      clear hW hB
                      rw [← hy0]
                      clear hy0
                      obtain ⟨kr, A⟩ := h1.out
                      have hrow := A.row
                      have hlt := A.lt
                      have hlk := A.lk
                      have MANY : ∀ y : Ext W1, Calls Tryd.prog 87 #[.int .i64 t.op] y.w (Ans W1 (.int .i64 m)) := fun y => by rw [← hm.out]; exact l2Many_ans _ y
                      clear A
                      refine region_ext yy (by kernel_rfl) (by kernel_rfl) ?_
                      repeat (go_big_quiet_step ((go_at_call 87; with_reducible exact MANY _)))
                      refine wpQuiet_nil ?_
                      rintro _ ⟨yy, rfl⟩
                      go_wp2_with (first | (go_at_call 80; with_reducible refine Calls.mono (l2Has_ans t.op true (by refine iff_tf ?_; dsimp only; exact HH.out) _) ?_; rintro e w' ⟨rfl, yy, rfl⟩) | (go_at_call 81; with_reducible refine Calls.mono (l2Typed_ans t.op true (by refine iff_tf ?_; dsimp only; exact HT.out) _) ?_; rintro e w' ⟨rfl, yy, rfl⟩) | (go_at_call 30; with_reducible refine Calls.mono (l2Type_ans hrow hl40 false (by refine iff_tf ?_; dsimp only; exact HW.out) _) ?_; rintro e w' ⟨rfl, yy, rfl⟩))
                      go_ret
                      exact fin_false HP (fun q => HW.out (by have := q.tok; unfold TyOk at this; rw [if_pos HT.out] at this; exact this.1)) (hback yy)
                  · have HT := Lib.hid ht
                    clear ht
                    by_cases he : t.ty.length = 0
                    · have fe : ((t.ty.length : Int) == 0) = true := beq_iff_eq.2 (by omega)
                      have HE := Lib.hid he
                      clear he
                      go_enter Tryd.func83, Tryd.ntmps83
                      go_wp2_with fail
                      generalize hW : x.w.alloc _ = W1
                      generalize hB : x.w.heap.size = B
                      obtain ⟨c0, c1, c2, c3, h1, hback, yy, hy0⟩ := boxedT h x hB hW
                      clear hW hB
                      rw [← hy0]
                      clear hy0
                      obtain ⟨kr, A⟩ := h1.out
                      have hrow := A.row
                      have hlt := A.lt
                      have hlk := A.lk
                      have MANY : ∀ y : Ext W1, Calls Tryd.prog 87 #[.int .i64 t.op] y.w (Ans W1 (.int .i64 m)) := fun y => by rw [← hm.out]; exact l2Many_ans _ y
                      clear A
                      refine region_ext yy (by kernel_rfl) (by kernel_rfl) ?_
                      repeat (go_big_quiet_step ((go_at_call 87; with_reducible exact MANY _)))
                      refine wpQuiet_nil ?_
                      rintro _ ⟨yy, rfl⟩
                      go_wp2_with (first | (go_at_call 80; with_reducible refine Calls.mono (l2Has_ans t.op true (by refine iff_tf ?_; dsimp only; exact HH.out) _) ?_; rintro e w' ⟨rfl, yy, rfl⟩) | (go_at_call 81; with_reducible refine Calls.mono (l2Typed_ans t.op false (by refine iff_tf ?_; dsimp only; exact HT.out) _) ?_; rintro e w' ⟨rfl, yy, rfl⟩))
                      go_ret
                      exact fin_true HP (⟨HM.out, by unfold NOk; rw [if_neg H0.out, if_neg H1.out, if_pos HH.out]; exact ⟨HN.out.1, HN.out.2.1, fun _ => HN.out.2.2⟩, by unfold TyOk; rw [if_neg HT.out]; exact List.eq_nil_of_length_eq_zero HE.out⟩) (hback yy)
                    · have fe : ((t.ty.length : Int) == 0) = false := beq_eq_false_iff_ne.2 (by omega)
                      have HE := Lib.hid he
                      clear he
                      go_enter Tryd.func83, Tryd.ntmps83
                      go_wp2_with fail
                      generalize hW : x.w.alloc _ = W1
                      generalize hB : x.w.heap.size = B
                      obtain ⟨c0, c1, c2, c3, h1, hback, yy, hy0⟩ := boxedT h x hB hW
                      clear hW hB
                      rw [← hy0]
                      clear hy0
                      obtain ⟨kr, A⟩ := h1.out
                      have hrow := A.row
                      have hlt := A.lt
                      have hlk := A.lk
                      have MANY : ∀ y : Ext W1, Calls Tryd.prog 87 #[.int .i64 t.op] y.w (Ans W1 (.int .i64 m)) := fun y => by rw [← hm.out]; exact l2Many_ans _ y
                      clear A
                      refine region_ext yy (by kernel_rfl) (by kernel_rfl) ?_
                      repeat (go_big_quiet_step ((go_at_call 87; with_reducible exact MANY _)))
                      refine wpQuiet_nil ?_
                      rintro _ ⟨yy, rfl⟩
                      go_wp2_with (first | (go_at_call 80; with_reducible refine Calls.mono (l2Has_ans t.op true (by refine iff_tf ?_; dsimp only; exact HH.out) _) ?_; rintro e w' ⟨rfl, yy, rfl⟩) | (go_at_call 81; with_reducible refine Calls.mono (l2Typed_ans t.op false (by refine iff_tf ?_; dsimp only; exact HT.out) _) ?_; rintro e w' ⟨rfl, yy, rfl⟩))
                      go_ret
                      exact fin_false HP (fun q => HE.out (by have := q.tok; unfold TyOk at this; rw [if_neg HT.out] at this; rw [this]; rfl)) (hback yy)
              | false =>
                have HN : Hid (t.n < size ∧ -1 ≤ t.n) := ⟨n1, by omega⟩
                by_cases ht : TypedO t.op
                · have HT := Lib.hid ht
                  clear ht
                  by_cases hw : WT t.ty
                  · have HW := Lib.hid hw
                    clear hw
                    by_cases hg : Grs size false t.ty
                    · have HG := Lib.hid hg
                      clear hg
                      go_enter Tryd.func83, Tryd.ntmps83
                      go_wp2_with fail
                      generalize hW : x.w.alloc _ = W1
                      generalize hB : x.w.heap.size = B
                      obtain ⟨c0, c1, c2, c3, h1, hback, yy, hy0⟩ := boxedT h x hB hW
                      clear hW hB
                      rw [← hy0]
                      clear hy0
                      obtain ⟨kr, A⟩ := h1.out
                      have hrow := A.row
                      have hlt := A.lt
                      have hlk := A.lk
                      have MANY : ∀ y : Ext W1, Calls Tryd.prog 87 #[.int .i64 t.op] y.w (Ans W1 (.int .i64 m)) := fun y => by rw [← hm.out]; exact l2Many_ans _ y
                      clear A
                      refine region_ext yy (by kernel_rfl) (by kernel_rfl) ?_
                      repeat (go_big_quiet_step ((go_at_call 87; with_reducible exact MANY _)))
                      refine wpQuiet_nil ?_
                      rintro _ ⟨yy, rfl⟩
                      go_wp2_with (first | (go_at_call 80; with_reducible refine Calls.mono (l2Has_ans t.op true (by refine iff_tf ?_; dsimp only; exact HH.out) _) ?_; rintro e w' ⟨rfl, yy, rfl⟩) | (go_at_call 81; with_reducible refine Calls.mono (l2Typed_ans t.op true (by refine iff_tf ?_; dsimp only; exact HT.out) _) ?_; rintro e w' ⟨rfl, yy, rfl⟩) | (go_at_call 30; with_reducible refine Calls.mono (l2Type_ans hrow hl40 true (by refine iff_tf ?_; dsimp only; exact HW.out) _) ?_; rintro e w' ⟨rfl, yy, rfl⟩) | (go_at_call 88; with_reducible refine Calls.mono (l2Graded_ans hrow hl40 size false true (by refine iff_tf ?_; dsimp only; exact HG.out) _) ?_; rintro e w' ⟨rfl, yy, rfl⟩))
                      go_ret
                      exact fin_true HP (⟨HM.out, by unfold NOk; rw [if_neg H0.out, if_neg H1.out, if_pos HH.out]; exact ⟨HN.out.1, HN.out.2, fun q => by cases q⟩, by unfold TyOk; rw [if_pos HT.out]; exact ⟨HW.out, HG.out⟩⟩) (hback yy)
                    · have HG := Lib.hid hg
                      clear hg
                      go_enter Tryd.func83, Tryd.ntmps83
                      go_wp2_with fail
                      generalize hW : x.w.alloc _ = W1
                      generalize hB : x.w.heap.size = B
                      obtain ⟨c0, c1, c2, c3, h1, hback, yy, hy0⟩ := boxedT h x hB hW
                      clear hW hB
                      rw [← hy0]
                      clear hy0
                      obtain ⟨kr, A⟩ := h1.out
                      have hrow := A.row
                      have hlt := A.lt
                      have hlk := A.lk
                      have MANY : ∀ y : Ext W1, Calls Tryd.prog 87 #[.int .i64 t.op] y.w (Ans W1 (.int .i64 m)) := fun y => by rw [← hm.out]; exact l2Many_ans _ y
                      clear A
                      refine region_ext yy (by kernel_rfl) (by kernel_rfl) ?_
                      repeat (go_big_quiet_step ((go_at_call 87; with_reducible exact MANY _)))
                      refine wpQuiet_nil ?_
                      rintro _ ⟨yy, rfl⟩
                      go_wp2_with (first | (go_at_call 80; with_reducible refine Calls.mono (l2Has_ans t.op true (by refine iff_tf ?_; dsimp only; exact HH.out) _) ?_; rintro e w' ⟨rfl, yy, rfl⟩) | (go_at_call 81; with_reducible refine Calls.mono (l2Typed_ans t.op true (by refine iff_tf ?_; dsimp only; exact HT.out) _) ?_; rintro e w' ⟨rfl, yy, rfl⟩) | (go_at_call 30; with_reducible refine Calls.mono (l2Type_ans hrow hl40 true (by refine iff_tf ?_; dsimp only; exact HW.out) _) ?_; rintro e w' ⟨rfl, yy, rfl⟩) | (go_at_call 88; with_reducible refine Calls.mono (l2Graded_ans hrow hl40 size false false (by refine iff_tf ?_; dsimp only; exact HG.out) _) ?_; rintro e w' ⟨rfl, yy, rfl⟩))
                      go_ret
                      exact fin_false HP (fun q => HG.out (by have := q.tok; unfold TyOk at this; rw [if_pos HT.out] at this; exact this.2)) (hback yy)
                  · have HW := Lib.hid hw
                    clear hw
                    go_enter Tryd.func83, Tryd.ntmps83
                    go_wp2_with fail
                    generalize hW : x.w.alloc _ = W1
                    generalize hB : x.w.heap.size = B
                    obtain ⟨c0, c1, c2, c3, h1, hback, yy, hy0⟩ := boxedT h x hB hW
                    clear hW hB
                    rw [← hy0]
                    clear hy0
                    obtain ⟨kr, A⟩ := h1.out
                    have hrow := A.row
                    have hlt := A.lt
                    have hlk := A.lk
                    have MANY : ∀ y : Ext W1, Calls Tryd.prog 87 #[.int .i64 t.op] y.w (Ans W1 (.int .i64 m)) := fun y => by rw [← hm.out]; exact l2Many_ans _ y
                    clear A
                    refine region_ext yy (by kernel_rfl) (by kernel_rfl) ?_
                    repeat (go_big_quiet_step ((go_at_call 87; with_reducible exact MANY _)))
                    refine wpQuiet_nil ?_
                    rintro _ ⟨yy, rfl⟩
                    go_wp2_with (first | (go_at_call 80; with_reducible refine Calls.mono (l2Has_ans t.op true (by refine iff_tf ?_; dsimp only; exact HH.out) _) ?_; rintro e w' ⟨rfl, yy, rfl⟩) | (go_at_call 81; with_reducible refine Calls.mono (l2Typed_ans t.op true (by refine iff_tf ?_; dsimp only; exact HT.out) _) ?_; rintro e w' ⟨rfl, yy, rfl⟩) | (go_at_call 30; with_reducible refine Calls.mono (l2Type_ans hrow hl40 false (by refine iff_tf ?_; dsimp only; exact HW.out) _) ?_; rintro e w' ⟨rfl, yy, rfl⟩))
                    go_ret
                    exact fin_false HP (fun q => HW.out (by have := q.tok; unfold TyOk at this; rw [if_pos HT.out] at this; exact this.1)) (hback yy)
                · have HT := Lib.hid ht
                  clear ht
                  by_cases he : t.ty.length = 0
                  · have fe : ((t.ty.length : Int) == 0) = true := beq_iff_eq.2 (by omega)
                    have HE := Lib.hid he
                    clear he
                    go_enter Tryd.func83, Tryd.ntmps83
                    go_wp2_with fail
                    generalize hW : x.w.alloc _ = W1
                    generalize hB : x.w.heap.size = B
                    obtain ⟨c0, c1, c2, c3, h1, hback, yy, hy0⟩ := boxedT h x hB hW
                    clear hW hB
                    rw [← hy0]
                    clear hy0
                    obtain ⟨kr, A⟩ := h1.out
                    have hrow := A.row
                    have hlt := A.lt
                    have hlk := A.lk
                    have MANY : ∀ y : Ext W1, Calls Tryd.prog 87 #[.int .i64 t.op] y.w (Ans W1 (.int .i64 m)) := fun y => by rw [← hm.out]; exact l2Many_ans _ y
                    clear A
                    refine region_ext yy (by kernel_rfl) (by kernel_rfl) ?_
                    repeat (go_big_quiet_step ((go_at_call 87; with_reducible exact MANY _)))
                    refine wpQuiet_nil ?_
                    rintro _ ⟨yy, rfl⟩
                    go_wp2_with (first | (go_at_call 80; with_reducible refine Calls.mono (l2Has_ans t.op true (by refine iff_tf ?_; dsimp only; exact HH.out) _) ?_; rintro e w' ⟨rfl, yy, rfl⟩) | (go_at_call 81; with_reducible refine Calls.mono (l2Typed_ans t.op false (by refine iff_tf ?_; dsimp only; exact HT.out) _) ?_; rintro e w' ⟨rfl, yy, rfl⟩))
                    go_ret
                    exact fin_true HP (⟨HM.out, by unfold NOk; rw [if_neg H0.out, if_neg H1.out, if_pos HH.out]; exact ⟨HN.out.1, HN.out.2, fun q => by cases q⟩, by unfold TyOk; rw [if_neg HT.out]; exact List.eq_nil_of_length_eq_zero HE.out⟩) (hback yy)
                  · have fe : ((t.ty.length : Int) == 0) = false := beq_eq_false_iff_ne.2 (by omega)
                    have HE := Lib.hid he
                    clear he
                    go_enter Tryd.func83, Tryd.ntmps83
                    go_wp2_with fail
                    generalize hW : x.w.alloc _ = W1
                    generalize hB : x.w.heap.size = B
                    obtain ⟨c0, c1, c2, c3, h1, hback, yy, hy0⟩ := boxedT h x hB hW
                    clear hW hB
                    rw [← hy0]
                    clear hy0
                    obtain ⟨kr, A⟩ := h1.out
                    have hrow := A.row
                    have hlt := A.lt
                    have hlk := A.lk
                    have MANY : ∀ y : Ext W1, Calls Tryd.prog 87 #[.int .i64 t.op] y.w (Ans W1 (.int .i64 m)) := fun y => by rw [← hm.out]; exact l2Many_ans _ y
                    clear A
                    refine region_ext yy (by kernel_rfl) (by kernel_rfl) ?_
                    repeat (go_big_quiet_step ((go_at_call 87; with_reducible exact MANY _)))
                    refine wpQuiet_nil ?_
                    rintro _ ⟨yy, rfl⟩
                    go_wp2_with (first | (go_at_call 80; with_reducible refine Calls.mono (l2Has_ans t.op true (by refine iff_tf ?_; dsimp only; exact HH.out) _) ?_; rintro e w' ⟨rfl, yy, rfl⟩) | (go_at_call 81; with_reducible refine Calls.mono (l2Typed_ans t.op false (by refine iff_tf ?_; dsimp only; exact HT.out) _) ?_; rintro e w' ⟨rfl, yy, rfl⟩))
                    go_ret
                    exact fin_false HP (fun q => HE.out (by have := q.tok; unfold TyOk at this; rw [if_neg HT.out] at this; rw [this]; rfl)) (hback yy)
          · skip
            go_enter Tryd.func83, Tryd.ntmps83
            go_wp2_with fail
            generalize hW : x.w.alloc _ = W1
            generalize hB : x.w.heap.size = B
            obtain ⟨c0, c1, c2, c3, h1, hback, yy, hy0⟩ := boxedT h x hB hW
            clear hW hB
            rw [← hy0]
            clear hy0
            obtain ⟨kr, A⟩ := h1.out
            have hrow := A.row
            have hlt := A.lt
            have hlk := A.lk
            have MANY : ∀ y : Ext W1, Calls Tryd.prog 87 #[.int .i64 t.op] y.w (Ans W1 (.int .i64 m)) := fun y => by rw [← hm.out]; exact l2Many_ans _ y
            clear A
            refine region_ext yy (by kernel_rfl) (by kernel_rfl) ?_
            repeat (go_big_quiet_step ((go_at_call 87; with_reducible exact MANY _)))
            refine wpQuiet_nil ?_
            rintro _ ⟨yy, rfl⟩
            go_wp2_with ((go_at_call 80; with_reducible refine Calls.mono (l2Has_ans t.op true (by refine iff_tf ?_; dsimp only; exact HH.out) _) ?_; rintro e w' ⟨rfl, yy, rfl⟩))
            go_ret
            exact fin_false HP (fun q => by have := q.nok; unfold NOk at this; rw [if_neg H0.out, if_neg H1.out, if_pos HH.out] at this; omega) (hback yy)
        · have HH := Lib.hid hh
          clear hh
          by_cases hn : t.n = 0
          · have fn : (t.n != 0) = false := by simpa using hn
            have HN := Lib.hid hn
            clear hn
            by_cases ht : TypedO t.op
            · have HT := Lib.hid ht
              clear ht
              by_cases hw : WT t.ty
              · have HW := Lib.hid hw
                clear hw
                by_cases hg : Grs size closed t.ty
                · have HG := Lib.hid hg
                  clear hg
                  go_enter Tryd.func83, Tryd.ntmps83
                  go_wp2_with fail
                  generalize hW : x.w.alloc _ = W1
                  generalize hB : x.w.heap.size = B
                  obtain ⟨c0, c1, c2, c3, h1, hback, yy, hy0⟩ := boxedT h x hB hW
                  clear hW hB
                  rw [← hy0]
                  clear hy0
                  obtain ⟨kr, A⟩ := h1.out
                  have hrow := A.row
                  have hlt := A.lt
                  have hlk := A.lk
                  have MANY : ∀ y : Ext W1, Calls Tryd.prog 87 #[.int .i64 t.op] y.w (Ans W1 (.int .i64 m)) := fun y => by rw [← hm.out]; exact l2Many_ans _ y
                  clear A
                  refine region_ext yy (by kernel_rfl) (by kernel_rfl) ?_
                  repeat (go_big_quiet_step ((go_at_call 87; with_reducible exact MANY _)))
                  refine wpQuiet_nil ?_
                  rintro _ ⟨yy, rfl⟩
                  go_wp2_with (first | (go_at_call 80; with_reducible refine Calls.mono (l2Has_ans t.op false (by refine iff_tf ?_; dsimp only; exact HH.out) _) ?_; rintro e w' ⟨rfl, yy, rfl⟩) | (go_at_call 81; with_reducible refine Calls.mono (l2Typed_ans t.op true (by refine iff_tf ?_; dsimp only; exact HT.out) _) ?_; rintro e w' ⟨rfl, yy, rfl⟩) | (go_at_call 30; with_reducible refine Calls.mono (l2Type_ans hrow hl40 true (by refine iff_tf ?_; dsimp only; exact HW.out) _) ?_; rintro e w' ⟨rfl, yy, rfl⟩) | (go_at_call 88; with_reducible refine Calls.mono (l2Graded_ans hrow hl40 size closed true (by refine iff_tf ?_; dsimp only; exact HG.out) _) ?_; rintro e w' ⟨rfl, yy, rfl⟩))
                  go_ret
                  exact fin_true HP (⟨HM.out, by unfold NOk; rw [if_neg H0.out, if_neg H1.out, if_neg HH.out]; exact HN.out, by unfold TyOk; rw [if_pos HT.out]; exact ⟨HW.out, HG.out⟩⟩) (hback yy)
                · have HG := Lib.hid hg
                  clear hg
                  go_enter Tryd.func83, Tryd.ntmps83
                  go_wp2_with fail
                  generalize hW : x.w.alloc _ = W1
                  generalize hB : x.w.heap.size = B
                  obtain ⟨c0, c1, c2, c3, h1, hback, yy, hy0⟩ := boxedT h x hB hW
                  clear hW hB
                  rw [← hy0]
                  clear hy0
                  obtain ⟨kr, A⟩ := h1.out
                  have hrow := A.row
                  have hlt := A.lt
                  have hlk := A.lk
                  have MANY : ∀ y : Ext W1, Calls Tryd.prog 87 #[.int .i64 t.op] y.w (Ans W1 (.int .i64 m)) := fun y => by rw [← hm.out]; exact l2Many_ans _ y
                  clear A
                  refine region_ext yy (by kernel_rfl) (by kernel_rfl) ?_
                  repeat (go_big_quiet_step ((go_at_call 87; with_reducible exact MANY _)))
                  refine wpQuiet_nil ?_
                  rintro _ ⟨yy, rfl⟩
                  go_wp2_with (first | (go_at_call 80; with_reducible refine Calls.mono (l2Has_ans t.op false (by refine iff_tf ?_; dsimp only; exact HH.out) _) ?_; rintro e w' ⟨rfl, yy, rfl⟩) | (go_at_call 81; with_reducible refine Calls.mono (l2Typed_ans t.op true (by refine iff_tf ?_; dsimp only; exact HT.out) _) ?_; rintro e w' ⟨rfl, yy, rfl⟩) | (go_at_call 30; with_reducible refine Calls.mono (l2Type_ans hrow hl40 true (by refine iff_tf ?_; dsimp only; exact HW.out) _) ?_; rintro e w' ⟨rfl, yy, rfl⟩) | (go_at_call 88; with_reducible refine Calls.mono (l2Graded_ans hrow hl40 size closed false (by refine iff_tf ?_; dsimp only; exact HG.out) _) ?_; rintro e w' ⟨rfl, yy, rfl⟩))
                  go_ret
                  exact fin_false HP (fun q => HG.out (by have := q.tok; unfold TyOk at this; rw [if_pos HT.out] at this; exact this.2)) (hback yy)
              · have HW := Lib.hid hw
                clear hw
                go_enter Tryd.func83, Tryd.ntmps83
                go_wp2_with fail
                generalize hW : x.w.alloc _ = W1
                generalize hB : x.w.heap.size = B
                obtain ⟨c0, c1, c2, c3, h1, hback, yy, hy0⟩ := boxedT h x hB hW
                clear hW hB
                rw [← hy0]
                clear hy0
                obtain ⟨kr, A⟩ := h1.out
                have hrow := A.row
                have hlt := A.lt
                have hlk := A.lk
                have MANY : ∀ y : Ext W1, Calls Tryd.prog 87 #[.int .i64 t.op] y.w (Ans W1 (.int .i64 m)) := fun y => by rw [← hm.out]; exact l2Many_ans _ y
                clear A
                refine region_ext yy (by kernel_rfl) (by kernel_rfl) ?_
                repeat (go_big_quiet_step ((go_at_call 87; with_reducible exact MANY _)))
                refine wpQuiet_nil ?_
                rintro _ ⟨yy, rfl⟩
                go_wp2_with (first | (go_at_call 80; with_reducible refine Calls.mono (l2Has_ans t.op false (by refine iff_tf ?_; dsimp only; exact HH.out) _) ?_; rintro e w' ⟨rfl, yy, rfl⟩) | (go_at_call 81; with_reducible refine Calls.mono (l2Typed_ans t.op true (by refine iff_tf ?_; dsimp only; exact HT.out) _) ?_; rintro e w' ⟨rfl, yy, rfl⟩) | (go_at_call 30; with_reducible refine Calls.mono (l2Type_ans hrow hl40 false (by refine iff_tf ?_; dsimp only; exact HW.out) _) ?_; rintro e w' ⟨rfl, yy, rfl⟩))
                go_ret
                exact fin_false HP (fun q => HW.out (by have := q.tok; unfold TyOk at this; rw [if_pos HT.out] at this; exact this.1)) (hback yy)
            · have HT := Lib.hid ht
              clear ht
              by_cases he : t.ty.length = 0
              · have fe : ((t.ty.length : Int) == 0) = true := beq_iff_eq.2 (by omega)
                have HE := Lib.hid he
                clear he
                go_enter Tryd.func83, Tryd.ntmps83
                go_wp2_with fail
                generalize hW : x.w.alloc _ = W1
                generalize hB : x.w.heap.size = B
                obtain ⟨c0, c1, c2, c3, h1, hback, yy, hy0⟩ := boxedT h x hB hW
                clear hW hB
                rw [← hy0]
                clear hy0
                obtain ⟨kr, A⟩ := h1.out
                have hrow := A.row
                have hlt := A.lt
                have hlk := A.lk
                have MANY : ∀ y : Ext W1, Calls Tryd.prog 87 #[.int .i64 t.op] y.w (Ans W1 (.int .i64 m)) := fun y => by rw [← hm.out]; exact l2Many_ans _ y
                clear A
                refine region_ext yy (by kernel_rfl) (by kernel_rfl) ?_
                repeat (go_big_quiet_step ((go_at_call 87; with_reducible exact MANY _)))
                refine wpQuiet_nil ?_
                rintro _ ⟨yy, rfl⟩
                go_wp2_with (first | (go_at_call 80; with_reducible refine Calls.mono (l2Has_ans t.op false (by refine iff_tf ?_; dsimp only; exact HH.out) _) ?_; rintro e w' ⟨rfl, yy, rfl⟩) | (go_at_call 81; with_reducible refine Calls.mono (l2Typed_ans t.op false (by refine iff_tf ?_; dsimp only; exact HT.out) _) ?_; rintro e w' ⟨rfl, yy, rfl⟩))
                go_ret
                exact fin_true HP (⟨HM.out, by unfold NOk; rw [if_neg H0.out, if_neg H1.out, if_neg HH.out]; exact HN.out, by unfold TyOk; rw [if_neg HT.out]; exact List.eq_nil_of_length_eq_zero HE.out⟩) (hback yy)
              · have fe : ((t.ty.length : Int) == 0) = false := beq_eq_false_iff_ne.2 (by omega)
                have HE := Lib.hid he
                clear he
                go_enter Tryd.func83, Tryd.ntmps83
                go_wp2_with fail
                generalize hW : x.w.alloc _ = W1
                generalize hB : x.w.heap.size = B
                obtain ⟨c0, c1, c2, c3, h1, hback, yy, hy0⟩ := boxedT h x hB hW
                clear hW hB
                rw [← hy0]
                clear hy0
                obtain ⟨kr, A⟩ := h1.out
                have hrow := A.row
                have hlt := A.lt
                have hlk := A.lk
                have MANY : ∀ y : Ext W1, Calls Tryd.prog 87 #[.int .i64 t.op] y.w (Ans W1 (.int .i64 m)) := fun y => by rw [← hm.out]; exact l2Many_ans _ y
                clear A
                refine region_ext yy (by kernel_rfl) (by kernel_rfl) ?_
                repeat (go_big_quiet_step ((go_at_call 87; with_reducible exact MANY _)))
                refine wpQuiet_nil ?_
                rintro _ ⟨yy, rfl⟩
                go_wp2_with (first | (go_at_call 80; with_reducible refine Calls.mono (l2Has_ans t.op false (by refine iff_tf ?_; dsimp only; exact HH.out) _) ?_; rintro e w' ⟨rfl, yy, rfl⟩) | (go_at_call 81; with_reducible refine Calls.mono (l2Typed_ans t.op false (by refine iff_tf ?_; dsimp only; exact HT.out) _) ?_; rintro e w' ⟨rfl, yy, rfl⟩))
                go_ret
                exact fin_false HP (fun q => HE.out (by have := q.tok; unfold TyOk at this; rw [if_neg HT.out] at this; rw [this]; rfl)) (hback yy)
          · have fn : (t.n != 0) = true := by simpa using hn
            have HN := Lib.hid hn
            clear hn
            go_enter Tryd.func83, Tryd.ntmps83
            go_wp2_with fail
            generalize hW : x.w.alloc _ = W1
            generalize hB : x.w.heap.size = B
            obtain ⟨c0, c1, c2, c3, h1, hback, yy, hy0⟩ := boxedT h x hB hW
            clear hW hB
            rw [← hy0]
            clear hy0
            obtain ⟨kr, A⟩ := h1.out
            have hrow := A.row
            have hlt := A.lt
            have hlk := A.lk
            have MANY : ∀ y : Ext W1, Calls Tryd.prog 87 #[.int .i64 t.op] y.w (Ans W1 (.int .i64 m)) := fun y => by rw [← hm.out]; exact l2Many_ans _ y
            clear A
            refine region_ext yy (by kernel_rfl) (by kernel_rfl) ?_
            repeat (go_big_quiet_step ((go_at_call 87; with_reducible exact MANY _)))
            refine wpQuiet_nil ?_
            rintro _ ⟨yy, rfl⟩
            go_wp2_with ((go_at_call 80; with_reducible refine Calls.mono (l2Has_ans t.op false (by refine iff_tf ?_; dsimp only; exact HH.out) _) ?_; rintro e w' ⟨rfl, yy, rfl⟩))
            go_ret
            exact fin_false HP (fun q => by have := q.nok; unfold NOk at this; rw [if_neg H0.out, if_neg H1.out, if_neg HH.out] at this; exact HN.out this) (hback yy)
  · have fm : ((t.kids.length : Int) != m) = true := by simpa using hm1
    have HM1 := Lib.hid hm1
    clear hm1
    go_enter Tryd.func83, Tryd.ntmps83
    go_wp2_with fail
    generalize hW : x.w.alloc _ = W1
    generalize hB : x.w.heap.size = B
    obtain ⟨c0, c1, c2, c3, h1, hback, yy, hy0⟩ := boxedT h x hB hW
    clear hW hB
    rw [← hy0]
    clear hy0
    obtain ⟨kr, A⟩ := h1.out
    have hrow := A.row
    have hlt := A.lt
    have hlk := A.lk
    have MANY : ∀ y : Ext W1, Calls Tryd.prog 87 #[.int .i64 t.op] y.w (Ans W1 (.int .i64 m)) := fun y => by rw [← hm.out]; exact l2Many_ans _ y
    clear A
    refine region_ext yy (by kernel_rfl) (by kernel_rfl) ?_
    repeat (go_big_quiet_step ((go_at_call 87; with_reducible exact MANY _)))
    refine wpQuiet_nil ?_
    rintro _ ⟨yy, rfl⟩
    go_wp2_with ((fail))
    go_ret
    exact fin_false HP (fun q => HM1.out (by rw [← hm.out]; exact q.many)) (hback yy)

end Go.Proofs.YtiekppegfocejaaDoor
