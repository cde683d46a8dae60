
/- The program's nodes of terms. -/
import Derived.Test.YtiekppegfocejaaDoorTermI
namespace Go.Proofs.YtiekppegfocejaaDoor
open Go.RowKit

theorem allows_iff {size : Int} (hs : 0 ≤ size) (opn : Bool) (n : Int) : Allows size opn n ↔ (n < size ∧ -1 ≤ n ∧ ((!opn) = true → 0 ≤ n)) := by
  unfold Allows
  cases opn <;> simp <;> omega
set_option maxHeartbeats 8000000 in
theorem allowsNode_ans {W : World} (F : Forms W) (TF : TForms W) {lo : Nat} {t : Tm} {r : TV} (h : TmIn W lo t r) (size : Int) (hs : 0 ≤ size) (opn : Bool) (vars : Int) (p : Bool) (hp : p = true ↔ NodeOk size (!opn) vars t) (x : Ext W) :
    Calls Tryd.prog 84 #[.agg #[.int .i64 size, .bool opn], r.val t, .int .i64 vars] x.w (Ans W (.bool p)) := by
  have HP := Lib.hid hp
  clear hp
  obtain ⟨ra, rc, rb, rd⟩ := r
  unfold TV.val
  by_cases hop : 0 ≤ t.op ∧ t.op < 13
  · generalize hm : manyO t.op = m
    replace hm := Lib.hid hm
    obtain ⟨j, hj⟩ : ∃ j : Nat, t.op = (j : Int) := ⟨t.op.toNat, by omega⟩
    have hj12 : j ≤ 12 := by omega
    have hj12' : (j : Int) < 13 := by omega
    have HOP := Lib.hid hop
    clear hop
    replace hj := Lib.hid hj
    obtain ⟨gr, hgr⟩ : ∃ gr, decide (HasG j) = gr := ⟨_, rfl⟩
    obtain ⟨ty, hty⟩ : ∃ ty, decide (TypedO j) = ty := ⟨_, rfl⟩
    replace hgr := Lib.hid hgr
    replace hty := Lib.hid hty
    go_enter Tryd.func84, Tryd.ntmps84
    go_wp2_with fail
    generalize hW : (x.w.alloc _).alloc _ = W1
    generalize hB : x.w.heap.size = B
    obtain ⟨e0, e1, c0, c1, c2, c3, h1, hback, yy, hy0⟩ := boxedRT h x hB hW
    clear hW hB
    have FF := F.on hback
    have TT := TF.on hback
    rw [← hy0]
    clear hy0
    obtain ⟨kr, A⟩ := h1.out
    have hrow := A.row
    have hlt := A.lt
    have hlk := A.lk
    clear A
    obtain ⟨q0, q1, q2, q3, q4, q5, q6⟩ := TT.at hj12
    have t0 : ∀ y : Ext W1, y.w.cell? ⟨0, j * 7, none⟩ = some (.string (wordO j)) := fun y => y.cell q0
    have t1 : ∀ y : Ext W1, y.w.cell? ⟨0, j * 7 + 1, none⟩ = some (.int .i64 m) := fun y => by rw [← hm.out, hj.out]; exact y.cell q1
    have t2 := fun y : Ext W1 => y.cell q2
    have t3 := fun y : Ext W1 => y.cell q3
    have t4 := fun y : Ext W1 => y.cell q4
    have t5 : ∀ y : Ext W1, y.w.cell? ⟨0, j * 7 + 5, none⟩ = some (.bool gr) := fun y => by rw [← hgr.out]; exact y.cell q5
    have t6 : ∀ y : Ext W1, y.w.cell? ⟨0, j * 7 + 6, none⟩ = some (.bool ty) := fun y => by rw [← hty.out]; exact y.cell q6
    clear q0 q1 q2 q3 q4 q5 q6 TT
    generalize addsO _ 0 = ad0 at *
    generalize (if j = 9 then (0 : Int) else addsO _ 1) = ad1 at *
    generalize (if j = 9 then (0 : Int) else addsO _ 2) = ad2 at *
    generalize wordO j = wd at *
    replace c0 : ∀ y : Ext W1, y.w.cell? ⟨B + 1, 0, none⟩ = some (.int .i64 j) := fun y => by rw [← hj.out]; exact c0 y
    go_upto_region 4 with (go_at_call 86; with_reducible refine Calls.mono (inRange_ans t.op 13 true (by refine iff_tf ?_; dsimp only; have := HOP.out; omega) _) ?_; rintro e w' ⟨rfl, yy, rfl⟩)
    generalize hW2 : yy.w.alloc _ = W2
    generalize hB2 : yy.w.heap.size = B2
    obtain ⟨u0, u1, u2, u3, u4, u5, u6, hb2, zz, hz0⟩ := boxed7 yy hB2 hW2
    clear hW2 hB2
    have l0 := lift_fact yy hb2 e0
    have l1 := lift_fact yy hb2 e1
    have k0 := lift_fact yy hb2 c0
    have k1 := lift_fact yy hb2 c1
    have k2 := lift_fact yy hb2 c2
    have k3 := lift_fact yy hb2 c3
    have hbz : ∀ y : Ext W2, ∃ z : Ext W, y.w = z.w := lift_back yy hb2 hback
    have FZ := F.on hbz
    have hrowz : Row W2 (Value.int .i64) ra t.ty := by obtain ⟨z, hz⟩ := hb2 (Ext.self _); have hz : W2 = z.w := hz; rw [hz]; exact (hrow.ext yy).ext z
    rw [← hz0]
    clear hz0
    by_cases hm1 : (t.kids.length : Int) = m
    · have fm : ((t.kids.length : Int) != m) = false := by simpa using hm1
      have HM1 := Lib.hid hm1
      clear hm1
      have HM : Hid ((t.kids.length : Int) = manyO t.op) := by rw [hm.out]; exact HM1.out
      cases ty with
      | true =>
        have HTY : Hid (TypedO t.op) := by rw [hj.out]; exact (of_decide_eq_true hty.out : TypedO j)
        by_cases ht : RuleP size opn t.ty
        · have HT := Lib.hid ht
          clear ht
          have TOK : Hid (TyOk size (!opn) t.op t.ty) := by show TyOk _ _ _ _; unfold TyOk; rw [if_pos HTY.out]; exact ⟨HT.out.1, (ruleP_grs hs opn t.ty).1 HT.out.2⟩
          by_cases h0 : t.op = 0
          · have f0 : ((j : Int) == 0) = true := by rw [← hj.out]; simpa using h0
            have H0 := Lib.hid h0
            clear h0
            by_cases hn : 0 ≤ t.n ∧ t.n < vars
            · have HN := Lib.hid hn
              clear hn
              go_wp2_with (first | (fail) | (go_at_call 65; with_reducible refine Calls.mono (allowsType_ans FZ hrowz size opn true (by refine iff_tf ?_; dsimp only; exact HT.out) zz) ?_; rintro e w' ⟨rfl, zz, rfl⟩) | (go_at_call 86; with_reducible refine Calls.mono (inRange_ans t.n vars true (by refine iff_tf ?_; dsimp only; have := HN.out; omega) zz) ?_; rintro e w' ⟨rfl, zz, rfl⟩))
              go_ret
              refine fin_true HP ⟨HM.out, ?_, TOK.out⟩ (hbz zz)
              unfold NOk
              rw [if_pos H0.out]
              exact HN.out
            · have HN := Lib.hid hn
              clear hn
              go_wp2_with (first | (fail) | (go_at_call 65; with_reducible refine Calls.mono (allowsType_ans FZ hrowz size opn true (by refine iff_tf ?_; dsimp only; exact HT.out) zz) ?_; rintro e w' ⟨rfl, zz, rfl⟩) | (go_at_call 86; with_reducible refine Calls.mono (inRange_ans t.n vars false (by refine iff_tf ?_; dsimp only; have := HN.out; omega) zz) ?_; rintro e w' ⟨rfl, zz, rfl⟩))
              go_ret
              refine fin_false HP (fun q => ?_) (hbz zz)
              have := q.nok
              unfold NOk at this
              rw [if_pos H0.out] at this
              exact HN.out this
          · have f0 : ((j : Int) == 0) = false := by rw [← hj.out]; simpa using h0
            have H0 := Lib.hid h0
            clear h0
            by_cases h1 : t.op = 1
            · have f1 : ((j : Int) == 1) = true := by rw [← hj.out]; simpa using h1
              have H1 := Lib.hid h1
              clear h1
              by_cases hn : 0 ≤ t.n ∧ t.n < 3
              · have HN := Lib.hid hn
                clear hn
                go_wp2_with (first | (fail) | (go_at_call 65; with_reducible refine Calls.mono (allowsType_ans FZ hrowz size opn true (by refine iff_tf ?_; dsimp only; exact HT.out) zz) ?_; rintro e w' ⟨rfl, zz, rfl⟩) | (go_at_call 86; with_reducible refine Calls.mono (inRange_ans t.n 3 true (by refine iff_tf ?_; dsimp only; have := HN.out; omega) zz) ?_; rintro e w' ⟨rfl, zz, rfl⟩))
                go_ret
                refine fin_true HP ⟨HM.out, ?_, TOK.out⟩ (hbz zz)
                unfold NOk
                rw [if_neg H0.out, if_pos H1.out]
                exact HN.out
              · have HN := Lib.hid hn
                clear hn
                go_wp2_with (first | (fail) | (go_at_call 65; with_reducible refine Calls.mono (allowsType_ans FZ hrowz size opn true (by refine iff_tf ?_; dsimp only; exact HT.out) zz) ?_; rintro e w' ⟨rfl, zz, rfl⟩) | (go_at_call 86; with_reducible refine Calls.mono (inRange_ans t.n 3 false (by refine iff_tf ?_; dsimp only; have := HN.out; omega) zz) ?_; rintro e w' ⟨rfl, zz, rfl⟩))
                go_ret
                refine fin_false HP (fun q => ?_) (hbz zz)
                have := q.nok
                unfold NOk at this
                rw [if_neg H0.out, if_pos H1.out] at this
                exact HN.out this
            · have f1 : ((j : Int) == 1) = false := by rw [← hj.out]; simpa using h1
              have H1 := Lib.hid h1
              clear h1
              cases gr with
              | true =>
                have HGR : Hid (HasG t.op) := by rw [hj.out]; exact (of_decide_eq_true hgr.out : HasG j)
                by_cases hn : Allows size opn t.n
                · have HN := Lib.hid hn
                  clear hn
                  go_wp2_with (first | (fail) | (go_at_call 65; with_reducible refine Calls.mono (allowsType_ans FZ hrowz size opn true (by refine iff_tf ?_; dsimp only; exact HT.out) zz) ?_; rintro e w' ⟨rfl, zz, rfl⟩) | (go_at_call 82; with_reducible refine Calls.mono (allows_ans size opn t.n true (by refine iff_tf ?_; dsimp only; exact HN.out) zz) ?_; rintro e w' ⟨rfl, zz, rfl⟩))
                  go_ret
                  refine fin_true HP ⟨HM.out, ?_, TOK.out⟩ (hbz zz)
                  unfold NOk
                  rw [if_neg H0.out, if_neg H1.out, if_pos HGR.out]
                  exact (allows_iff hs opn t.n).1 HN.out
                · have HN := Lib.hid hn
                  clear hn
                  go_wp2_with (first | (fail) | (go_at_call 65; with_reducible refine Calls.mono (allowsType_ans FZ hrowz size opn true (by refine iff_tf ?_; dsimp only; exact HT.out) zz) ?_; rintro e w' ⟨rfl, zz, rfl⟩) | (go_at_call 82; with_reducible refine Calls.mono (allows_ans size opn t.n false (by refine iff_tf ?_; dsimp only; exact HN.out) zz) ?_; rintro e w' ⟨rfl, zz, rfl⟩))
                  go_ret
                  refine fin_false HP (fun q => ?_) (hbz zz)
                  have := q.nok
                  unfold NOk at this
                  rw [if_neg H0.out, if_neg H1.out, if_pos HGR.out] at this
                  exact HN.out ((allows_iff hs opn t.n).2 this)
              | false =>
                have HGR : Hid (¬ HasG t.op) := by rw [hj.out]; exact (of_decide_eq_false hgr.out : ¬ HasG j)
                by_cases hn : t.n = 0
                · have fn : (t.n == 0) = true := by simpa using hn
                  have HN := Lib.hid hn
                  clear hn
                  go_wp2_with (first | (fail) | (go_at_call 65; with_reducible refine Calls.mono (allowsType_ans FZ hrowz size opn true (by refine iff_tf ?_; dsimp only; exact HT.out) zz) ?_; rintro e w' ⟨rfl, zz, rfl⟩))
                  go_ret
                  refine fin_true HP ⟨HM.out, ?_, TOK.out⟩ (hbz zz)
                  unfold NOk
                  rw [if_neg H0.out, if_neg H1.out, if_neg HGR.out]
                  exact HN.out
                · have fn : (t.n == 0) = false := by simpa using hn
                  have HN := Lib.hid hn
                  clear hn
                  go_wp2_with (first | (fail) | (go_at_call 65; with_reducible refine Calls.mono (allowsType_ans FZ hrowz size opn true (by refine iff_tf ?_; dsimp only; exact HT.out) zz) ?_; rintro e w' ⟨rfl, zz, rfl⟩))
                  go_ret
                  refine fin_false HP (fun q => ?_) (hbz zz)
                  have := q.nok
                  unfold NOk at this
                  rw [if_neg H0.out, if_neg H1.out, if_neg HGR.out] at this
                  exact HN.out this
        · have HT := Lib.hid ht
          clear ht
          go_wp2_with (first | (fail) | (go_at_call 65; with_reducible refine Calls.mono (allowsType_ans FZ hrowz size opn false (by refine iff_tf ?_; dsimp only; exact HT.out) zz) ?_; rintro e w' ⟨rfl, zz, rfl⟩))
          go_ret
          exact fin_false HP (fun q => HT.out (by have := q.tok; unfold TyOk at this; rw [if_pos HTY.out] at this; exact ⟨this.1, (ruleP_grs hs opn t.ty).2 this.2⟩)) (hbz zz)
      | false =>
        have HTY : Hid (¬ TypedO t.op) := by rw [hj.out]; exact (of_decide_eq_false hty.out : ¬ TypedO j)
        by_cases he : t.ty.length = 0
        · have fe : ¬ (0 : Int) < (t.ty.length : Int) := by omega
          have HE := Lib.hid he
          clear he
          have TOK : Hid (TyOk size (!opn) t.op t.ty) := by show TyOk _ _ _ _; unfold TyOk; rw [if_neg HTY.out]; exact List.eq_nil_of_length_eq_zero HE.out
          by_cases h0 : t.op = 0
          · have f0 : ((j : Int) == 0) = true := by rw [← hj.out]; simpa using h0
            have H0 := Lib.hid h0
            clear h0
            by_cases hn : 0 ≤ t.n ∧ t.n < vars
            · have HN := Lib.hid hn
              clear hn
              go_wp2_with (first | (fail) | (go_at_call 86; with_reducible refine Calls.mono (inRange_ans t.n vars true (by refine iff_tf ?_; dsimp only; have := HN.out; omega) zz) ?_; rintro e w' ⟨rfl, zz, rfl⟩))
              go_ret
              refine fin_true HP ⟨HM.out, ?_, TOK.out⟩ (hbz zz)
              unfold NOk
              rw [if_pos H0.out]
              exact HN.out
            · have HN := Lib.hid hn
              clear hn
              go_wp2_with (first | (fail) | (go_at_call 86; with_reducible refine Calls.mono (inRange_ans t.n vars false (by refine iff_tf ?_; dsimp only; have := HN.out; omega) zz) ?_; rintro e w' ⟨rfl, zz, rfl⟩))
              go_ret
              refine fin_false HP (fun q => ?_) (hbz zz)
              have := q.nok
              unfold NOk at this
              rw [if_pos H0.out] at this
              exact HN.out this
          · have f0 : ((j : Int) == 0) = false := by rw [← hj.out]; simpa using h0
            have H0 := Lib.hid h0
            clear h0
            by_cases h1 : t.op = 1
            · have f1 : ((j : Int) == 1) = true := by rw [← hj.out]; simpa using h1
              have H1 := Lib.hid h1
              clear h1
              by_cases hn : 0 ≤ t.n ∧ t.n < 3
              · have HN := Lib.hid hn
                clear hn
                go_wp2_with (first | (fail) | (go_at_call 86; with_reducible refine Calls.mono (inRange_ans t.n 3 true (by refine iff_tf ?_; dsimp only; have := HN.out; omega) zz) ?_; rintro e w' ⟨rfl, zz, rfl⟩))
                go_ret
                refine fin_true HP ⟨HM.out, ?_, TOK.out⟩ (hbz zz)
                unfold NOk
                rw [if_neg H0.out, if_pos H1.out]
                exact HN.out
              · have HN := Lib.hid hn
                clear hn
                go_wp2_with (first | (fail) | (go_at_call 86; with_reducible refine Calls.mono (inRange_ans t.n 3 false (by refine iff_tf ?_; dsimp only; have := HN.out; omega) zz) ?_; rintro e w' ⟨rfl, zz, rfl⟩))
                go_ret
                refine fin_false HP (fun q => ?_) (hbz zz)
                have := q.nok
                unfold NOk at this
                rw [if_neg H0.out, if_pos H1.out] at this
                exact HN.out this
            · have f1 : ((j : Int) == 1) = false := by rw [← hj.out]; simpa using h1
              have H1 := Lib.hid h1
              clear h1
              cases gr with
              | true =>
                have HGR : Hid (HasG t.op) := by rw [hj.out]; exact (of_decide_eq_true hgr.out : HasG j)
                by_cases hn : Allows size opn t.n
                · have HN := Lib.hid hn
                  clear hn
                  go_wp2_with (first | (fail) | (go_at_call 82; with_reducible refine Calls.mono (allows_ans size opn t.n true (by refine iff_tf ?_; dsimp only; exact HN.out) zz) ?_; rintro e w' ⟨rfl, zz, rfl⟩))
                  go_ret
                  refine fin_true HP ⟨HM.out, ?_, TOK.out⟩ (hbz zz)
                  unfold NOk
                  rw [if_neg H0.out, if_neg H1.out, if_pos HGR.out]
                  exact (allows_iff hs opn t.n).1 HN.out
                · have HN := Lib.hid hn
                  clear hn
                  go_wp2_with (first | (fail) | (go_at_call 82; with_reducible refine Calls.mono (allows_ans size opn t.n false (by refine iff_tf ?_; dsimp only; exact HN.out) zz) ?_; rintro e w' ⟨rfl, zz, rfl⟩))
                  go_ret
                  refine fin_false HP (fun q => ?_) (hbz zz)
                  have := q.nok
                  unfold NOk at this
                  rw [if_neg H0.out, if_neg H1.out, if_pos HGR.out] at this
                  exact HN.out ((allows_iff hs opn t.n).2 this)
              | false =>
                have HGR : Hid (¬ HasG t.op) := by rw [hj.out]; exact (of_decide_eq_false hgr.out : ¬ HasG j)
                by_cases hn : t.n = 0
                · have fn : (t.n == 0) = true := by simpa using hn
                  have HN := Lib.hid hn
                  clear hn
                  go_wp2_with (first | (fail))
                  go_ret
                  refine fin_true HP ⟨HM.out, ?_, TOK.out⟩ (hbz zz)
                  unfold NOk
                  rw [if_neg H0.out, if_neg H1.out, if_neg HGR.out]
                  exact HN.out
                · have fn : (t.n == 0) = false := by simpa using hn
                  have HN := Lib.hid hn
                  clear hn
                  go_wp2_with (first | (fail))
                  go_ret
                  refine fin_false HP (fun q => ?_) (hbz zz)
                  have := q.nok
                  unfold NOk at this
                  rw [if_neg H0.out, if_neg H1.out, if_neg HGR.out] at this
                  exact HN.out this
        · have fe : (0 : Int) < (t.ty.length : Int) := by omega
          have HE := Lib.hid he
          clear he
          go_wp2_with fail
          go_ret
          exact fin_false HP (fun q => HE.out (by have := q.tok; unfold TyOk at this; rw [if_neg HTY.out] at this; rw [this]; rfl)) (hbz zz)
    · have fm : ((t.kids.length : Int) != m) = true := by simpa using hm1
      have HM1 := Lib.hid hm1
      clear hm1
      go_wp2_with fail
      go_ret
      exact fin_false HP (fun q => HM1.out (by rw [← hm.out]; exact q.many)) (hbz zz)
  · have HOP := Lib.hid hop
    clear hop
    go_enter Tryd.func84, Tryd.ntmps84
    go_wp2_with fail
    generalize hW : (x.w.alloc _).alloc _ = W1
    generalize hB : x.w.heap.size = B
    obtain ⟨e0, e1, c0, c1, c2, c3, h1, hback, yy, hy0⟩ := boxedRT h x hB hW
    clear hW hB
    have FF := F.on hback
    have TT := TF.on hback
    rw [← hy0]
    clear hy0
    obtain ⟨kr, A⟩ := h1.out
    have hrow := A.row
    have hlt := A.lt
    have hlk := A.lk
    clear A
    go_wp2_with (go_at_call 86; with_reducible refine Calls.mono (inRange_ans t.op 13 false (by refine iff_tf ?_; dsimp only; have := HOP.out; omega) _) ?_; rintro e w' ⟨rfl, yy, rfl⟩)
    go_ret
    exact fin_false HP (fun q => by have := q.many; have := manyO_in (op := t.op) (by omega); have := HOP.out; omega) (hback yy)

end Go.Proofs.YtiekppegfocejaaDoor
