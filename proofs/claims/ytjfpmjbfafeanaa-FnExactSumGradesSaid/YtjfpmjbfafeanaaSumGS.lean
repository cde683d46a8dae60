/- The model's sum of a list of grades. -/
import Derived.Test.YtjfpmjbfafeanaaSysB
import Derived.Test.YtjfpmjbfafeanaaSumG
namespace Go.Proofs.Ytjfpmjbfafeanaa
open Go.RowKit

set_option maxHeartbeats 4000000 in
theorem specSumGrades_ans {W : World} {r : Ref} {s : Sys} (h : SysIn W r s) {a : Option Addr} {c : Nat} {l : List Int} (hr : Row W (Value.int .i64) a l) (hl : l.length ≤ 1099511627776) (v : Int) (hv : OutSum s l v) (x : Ext W) :
    Calls Try.prog 32 #[r.val s, .slice a l.length c] x.w (Ans W (.int .i64 v)) := by
  unfold Ref.val
  rcases hv with ⟨is, hG, hv⟩ | ⟨hn, hv⟩
  · have t := is.tab
    have h2 := t.lo
    have h16 := t.hi
    have HV := Lib.hid hv
    have IS := Lib.hid is
    have HG := Lib.hid hG
    clear hv is hG
    go_enter Try.func32, Try.ntmps32
    go_wp2_with fail
    generalize hW : x.w.alloc _ = W1
    generalize hB : x.w.heap.size = B
    have hrow : Row W1 (Value.int .i64) a l := by rw [← hW]; exact hr.ext (x.alloc _)
    obtain ⟨c0, c1, c2, c3, h1, hback, yy, hy0⟩ := boxed h x hB hW
    clear hW hB
    rw [← hy0]
    clear hy0
    have HR : ∀ z : Ext W1, Row z.w (Value.int .i64) a l := fun z => by obtain ⟨u, hu⟩ := hback z; rw [hu]; exact hr.ext u
    (with_reducible refine Calls.mono (specIsSystem_ans h1 true (by refine iff_tf ?_; dsimp only; exact IS.out) _) ?_)
    rintro e w' ⟨rfl, yy, rfl⟩
    go_wp2_with fail
    go_loopw [6, 5] (fun i v wr => ∃ k : Nat, i = .int .i64 k ∧ v = .int .i64 (s.sumL (l.take k)) ∧ k ≤ l.length ∧ (∃ y : Ext W1, wr = y.w) ∧ Hid (∀ i g, i < k → l[i]? = some g → G s g)) (fun i _ _ => l.length - (intOf i).toNat)
    case atStart => exact ⟨0, rfl, rfl, by omega, ⟨yy, rfl⟩, fun i g hi _ => by omega⟩
    case round =>
      obtain ⟨k, rfl, rfl, hk, ⟨yy, rfl⟩, hA⟩ := hrel
      by_cases hlt : k < l.length
      · skip
        obtain ⟨b1, o1, rfl, hc⟩ := hrow.at hlt
        have hlt' : (k : Int) < (l.length : Int) := by omega
        have hcell : ∀ y : Ext W1, y.w.cell? ⟨b1, o1 + k, none⟩ = some (.int .i64 l[k]) := fun y => y.cell (hc k _ (List.getElem?_eq_getElem hlt))
        have HK : Hid (l[k]? = some l[k]) := List.getElem?_eq_getElem hlt
        have hGs : G s (s.sumL (l.take k)) := sumL_G t _ (fun g hg => by
          obtain ⟨i, hi, e⟩ := List.mem_take_iff_getElem.1 hg
          exact hA.out i g (by omega) (by rw [← e, List.getElem?_eq_getElem (by omega)]))
        clear hc
        generalize l[k] = u at *
        have hw : IntKind.i64.wrap (s.n - 1) = s.n - 1 := IntWalk.i64_in _ (by omega)
        by_cases hu : 0 ≤ u ∧ u ≤ s.n - 1
        · have E1 : InB u 0 (s.n - 1) true := by unfold InB; simpa using hu
          have hGk : G s u := ⟨hu.1, by omega⟩
          have HU := Lib.hid hu
          clear hu
          go_wp2_with fail
          refine region_ext yy (by kernel_rfl) (by kernel_rfl) ?_
          repeat (go_big_quiet_step ((go_at_call 59; with_reducible exact l1In_is (by assumption) _)))
          refine wpQuiet_nil ?_
          rintro _ ⟨yy, rfl⟩
          go_wp2_with fail
          refine region_ext yy (by kernel_rfl) (by kernel_rfl) ?_
          repeat (go_big_quiet_step ((go_at_call 62; with_reducible exact l1Add_ans h1 t (by assumption) (by assumption) _)))
          refine wpQuiet_nil ?_
          rintro _ ⟨yy, rfl⟩
          go_wp2_with fail
          go_roundw
          case rel =>
            refine ⟨k + 1, by go_num, by rw [sumL_take HK.out], by omega, ⟨yy, rfl⟩, fun i g hi hg => ?_⟩
            by_cases e : i = k
            · subst e; have := HK.out; rw [hg] at this; cases this; exact hGk
            · exact hA.out i g (by omega) hg
          case measure => simp [intOf]; omega
        · have E1 : InB u 0 (s.n - 1) false := by unfold InB; simp only [Bool.false_eq_true, false_iff]; exact hu
          have HU := Lib.hid hu
          clear hu
          go_wp2_with fail
          refine region_ext yy (by kernel_rfl) (by kernel_rfl) ?_
          repeat (go_big_quiet_step ((go_at_call 59; with_reducible exact l1In_is (by assumption) _)))
          refine wpQuiet_nil ?_
          rintro _ ⟨yy, rfl⟩
          go_wp2_with fail
          go_ret
          exact absurd (HG.out u (List.mem_of_getElem? HK.out)) (fun q => HU.out ⟨q.1, by have := q.2; omega⟩)
      · go_wp2
        go_ret
        exact fin_int (by rw [HV.out, List.take_of_length_le (by omega)]) (hback yy)
  · have HV := Lib.hid hv
    have HN := Lib.hid hn
    clear hv hn
    by_cases is : IsSys s
    · have t := is.tab
      have h2 := t.lo
      have h16 := t.hi
      have IS := Lib.hid is
      clear is
      go_enter Try.func32, Try.ntmps32
      go_wp2_with fail
      generalize hW : x.w.alloc _ = W1
      generalize hB : x.w.heap.size = B
      have hrow : Row W1 (Value.int .i64) a l := by rw [← hW]; exact hr.ext (x.alloc _)
      obtain ⟨c0, c1, c2, c3, h1, hback, yy, hy0⟩ := boxed h x hB hW
      clear hW hB
      rw [← hy0]
      clear hy0
      have HR : ∀ z : Ext W1, Row z.w (Value.int .i64) a l := fun z => by obtain ⟨u, hu⟩ := hback z; rw [hu]; exact hr.ext u
      (with_reducible refine Calls.mono (specIsSystem_ans h1 true (by refine iff_tf ?_; dsimp only; exact IS.out) _) ?_)
      rintro e w' ⟨rfl, yy, rfl⟩
      go_wp2_with fail
      go_loopw [6, 5] (fun i v wr => ∃ k : Nat, i = .int .i64 k ∧ v = .int .i64 (s.sumL (l.take k)) ∧ k ≤ l.length ∧ (∃ y : Ext W1, wr = y.w) ∧ Hid (∀ i g, i < k → l[i]? = some g → G s g)) (fun i _ _ => l.length - (intOf i).toNat)
      case atStart => exact ⟨0, rfl, rfl, by omega, ⟨yy, rfl⟩, fun i g hi _ => by omega⟩
      case round =>
        obtain ⟨k, rfl, rfl, hk, ⟨yy, rfl⟩, hA⟩ := hrel
        by_cases hlt : k < l.length
        · skip
          obtain ⟨b1, o1, rfl, hc⟩ := hrow.at hlt
          have hlt' : (k : Int) < (l.length : Int) := by omega
          have hcell : ∀ y : Ext W1, y.w.cell? ⟨b1, o1 + k, none⟩ = some (.int .i64 l[k]) := fun y => y.cell (hc k _ (List.getElem?_eq_getElem hlt))
          have HK : Hid (l[k]? = some l[k]) := List.getElem?_eq_getElem hlt
          have hGs : G s (s.sumL (l.take k)) := sumL_G t _ (fun g hg => by
            obtain ⟨i, hi, e⟩ := List.mem_take_iff_getElem.1 hg
            exact hA.out i g (by omega) (by rw [← e, List.getElem?_eq_getElem (by omega)]))
          clear hc
          generalize l[k] = u at *
          have hw : IntKind.i64.wrap (s.n - 1) = s.n - 1 := IntWalk.i64_in _ (by omega)
          by_cases hu : 0 ≤ u ∧ u ≤ s.n - 1
          · have E1 : InB u 0 (s.n - 1) true := by unfold InB; simpa using hu
            have hGk : G s u := ⟨hu.1, by omega⟩
            have HU := Lib.hid hu
            clear hu
            go_wp2_with fail
            refine region_ext yy (by kernel_rfl) (by kernel_rfl) ?_
            repeat (go_big_quiet_step ((go_at_call 59; with_reducible exact l1In_is (by assumption) _)))
            refine wpQuiet_nil ?_
            rintro _ ⟨yy, rfl⟩
            go_wp2_with fail
            refine region_ext yy (by kernel_rfl) (by kernel_rfl) ?_
            repeat (go_big_quiet_step ((go_at_call 62; with_reducible exact l1Add_ans h1 t (by assumption) (by assumption) _)))
            refine wpQuiet_nil ?_
            rintro _ ⟨yy, rfl⟩
            go_wp2_with fail
            go_roundw
            case rel =>
              refine ⟨k + 1, by go_num, by rw [sumL_take HK.out], by omega, ⟨yy, rfl⟩, fun i g hi hg => ?_⟩
              by_cases e : i = k
              · subst e; have := HK.out; rw [hg] at this; cases this; exact hGk
              · exact hA.out i g (by omega) hg
            case measure => simp [intOf]; omega
          · have E1 : InB u 0 (s.n - 1) false := by unfold InB; simp only [Bool.false_eq_true, false_iff]; exact hu
            have HU := Lib.hid hu
            clear hu
            go_wp2_with fail
            refine region_ext yy (by kernel_rfl) (by kernel_rfl) ?_
            repeat (go_big_quiet_step ((go_at_call 59; with_reducible exact l1In_is (by assumption) _)))
            refine wpQuiet_nil ?_
            rintro _ ⟨yy, rfl⟩
            go_wp2_with fail
            go_ret
            exact fin_int HV.out.symm (hback yy)
        · go_wp2
          go_ret
          exact absurd ⟨IS.out, fun g hg => (by obtain ⟨i, hi, e⟩ := List.mem_iff_getElem.1 hg; exact hA.out i g (by omega) (by rw [List.getElem?_eq_getElem hi, e]))⟩ HN.out
    · have IS := Lib.hid is
      clear is
      go_enter Try.func32, Try.ntmps32
      go_wp2_with fail
      generalize hW : x.w.alloc _ = W1
      generalize hB : x.w.heap.size = B
      have hrow : Row W1 (Value.int .i64) a l := by rw [← hW]; exact hr.ext (x.alloc _)
      obtain ⟨c0, c1, c2, c3, h1, hback, yy, hy0⟩ := boxed h x hB hW
      clear hW hB
      rw [← hy0]
      clear hy0
      have HR : ∀ z : Ext W1, Row z.w (Value.int .i64) a l := fun z => by obtain ⟨u, hu⟩ := hback z; rw [hu]; exact hr.ext u
      (with_reducible refine Calls.mono (specIsSystem_ans h1 false (by refine iff_tf ?_; dsimp only; exact IS.out) _) ?_)
      rintro e w' ⟨rfl, yy, rfl⟩
      go_wp2_with fail
      go_ret
      exact fin_int HV.out.symm (hback yy)

end Go.Proofs.Ytjfpmjbfafeanaa
