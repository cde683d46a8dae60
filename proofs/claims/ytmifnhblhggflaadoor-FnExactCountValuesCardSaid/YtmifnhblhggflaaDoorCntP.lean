
/- How many values a type has, by the program. -/
import Derived.Test.YtmifnhblhggflaaDoorPartP
namespace Go.Proofs.YtmifnhblhggflaaDoor
open Go.RowKit

theorem form_some {W : World} (F : Forms W) (c k : Int) (hk : codeF c = k) : ∃ (f0 : ByteArray) (f2 f3 : Int) (f4 f6 : Bool), ∀ y : Ext W, Calls Tryd.prog 123 #[.int .i64 c] y.w (Ans W (.tuple #[.agg #[.string f0, .int .i64 k, .int .i64 f2, .int .i64 f3, .bool f4], .int .i64 (gF c), .bool f6])) := by
  subst hk
  exact ⟨_, _, _, _, _, fun y => formOf_ans F c y⟩
theorem codeF_bx {c : Int} (h : Bx c) : codeF c = 19 := by
  unfold Bx at h
  unfold codeF
  rw [if_neg (by omega), if_neg (by omega), if_neg (by unfold Arr; omega), if_pos (by unfold Bx; omega)]
theorem codeF_arr {c : Int} (h : Arr c) : codeF c = 3 := by
  unfold Arr at h
  unfold codeF
  rw [if_neg (by omega), if_neg (by omega), if_pos (by unfold Arr; omega)]

/-- One of two values with what belongs to it. -/
inductive Either (va : Value) (ka : Int) (vb : Value) (kb : Int) : Value → Int → Prop
  | a : Either va ka vb kb va ka
  | b : Either va ka vb kb vb kb
theorem row_at {w : World} {g : Nat} {l : List Value} (h : Row w id (some ⟨g, 0, none⟩) l) (i : Nat) (v : Value) (hi : l[i]? = some v) : w.cell? ⟨g, i, none⟩ = some v := by
  rcases h with rfl | ⟨b', o', e, hc⟩
  · simp at hi
  · cases e
    have := hc i v hi
    simpa using this

set_option maxHeartbeats 8000000 in
theorem countOf_ans (T : Ty) : ∀ (_ : T.Ok) (_ : T.Data) {W : World} (_ : Forms W) {b o c : Nat} (_ : Row W (Value.int .i64) (some ⟨b, o, none⟩) T.enc) (_ : T.enc.length ≤ 40) (_ : T.enc.length ≤ c) (x : Ext W),
    Calls Tryd.prog 86 #[.slice (some ⟨b, o, none⟩) T.enc.length c] x.w (Ans W (.int .i64 T.cnt)) := by
  induction T with
  | leaf =>
    intro hok hd W F b o c hr hl hc x
    obtain ⟨yy, hyy⟩ : ∃ y : Ext W, x = y := ⟨x, rfl⟩
    rw [hyy]
    clear hyy
    obtain ⟨f0, f2, f3, f4, f6, FOC⟩ := form_some F (0) 0 rfl
    have PWC : ∀ y1 : Ext W, Calls Tryd.prog 58 #[.slice (some ⟨b, o, none⟩) Ty.leaf.enc.length c] y1.w (NewRow y1.w 23 22 id (sls b (o + 1) [])) := fun y1 => partsWithin_ans (W := y1.w) (F.ext y1) (cc := 0) (ps := []) (by simp) (l := Ty.leaf.enc) rfl (hr.ext y1) (by omega) hc (Ext.self y1.w)
    have m0 : ∀ y : Ext W, y.w.cell? ⟨b, o, none⟩ = some (.int .i64 (0)) := fun y => y.cell (row_head hr (l' := []) rfl)
    have hlp : 0 < Ty.leaf.enc.length := Ty.enc_pos _
    have hlen := Ty.len_leaf
    generalize Ty.leaf.enc.length = len at *
    clear hr hok hd hl hc hlen
    have hlp' : (0 : Int) < (len : Int) := by omega
    rw [show Ty.leaf.cnt = 3 from rfl]
    go_enter Tryd.func86, Tryd.ntmps86
    go_wp2_with (go_at_call 123; (with_reducible refine Calls.mono (FOC _) ?_); rintro e w' ⟨rfl, yy, rfl⟩)
    generalize hY : yy.w.alloc _ = Y1
    have bY := new_blk hY
    obtain ⟨y1, hy1⟩ : ∃ y : Ext W, y.w = Y1 := ⟨yy.alloc _, hY⟩
    generalize yy.w.heap.size = B1 at *
    clear hY yy FOC
    rw [← hy1] at bY ⊢
    clear hy1 Y1
    refine Calls.mono (PWC y1) ?_
    clear PWC m0
    rintro e w' ⟨v, zz, rfl, rfl, own⟩
    have m1 : ∀ u : Ext zz.w, u.w.cell? ⟨B1, 1, none⟩ = some (.int .i64 0) := fun u => blk_cell ((zz.trans u).blk bY) 1
    clear bY own
    obtain ⟨yy, hyy⟩ : ∃ u : Ext zz.w, u.w = zz.w := ⟨Ext.self _, rfl⟩
    rw [← hyy]
    clear hyy
    go_wp2_with fail
    go_ret
    exact ⟨rfl, y1.trans (zz.trans yy), rfl⟩
  | two cc A B ihA ihB =>
    intro hok hd W F b o c hr hl hc x
    obtain ⟨yy, hyy⟩ : ∃ y : Ext W, x = y := ⟨x, rfl⟩
    rw [hyy]
    clear hyy
    have hA := A.enc_pos
    have hB := B.enc_pos
    have hlen := Ty.len_two cc A B
    have CA : ∀ y : Ext W, Calls Tryd.prog 86 #[.slice (some ⟨b, o + 1, none⟩) A.enc.length A.enc.length] y.w (Ans y.w (.int .i64 A.cnt)) := fun y => ihA hok.2.1 hd.2.1 (F.ext y) ((row_two1 hr).ext y) (by omega) (Nat.le_refl _) (Ext.self y.w)
    have CB : ∀ y : Ext W, Calls Tryd.prog 86 #[.slice (some ⟨b, o + 1 + A.enc.length, none⟩) B.enc.length B.enc.length] y.w (Ans y.w (.int .i64 B.cnt)) := fun y => ihB hok.2.2 hd.2.2 (F.ext y) ((show Row W (Value.int .i64) (some ⟨b, o + 1 + A.enc.length, none⟩) B.enc from by rw [Nat.add_assoc]; exact row_two2 hr).ext y) (by omega) (Nat.le_refl _) (Ext.self y.w)
    replace CA := Lib.hid CA
    replace CB := Lib.hid CB
    have hcnt := Ty.cnt_le hl
    have hd1 := hd.1
    rcases hd1 with rfl | rfl
    · obtain ⟨f0, f2, f3, f4, f6, FOC⟩ := form_some F (1) 1 rfl
      have PWC : ∀ y1 : Ext W, Calls Tryd.prog 58 #[.slice (some ⟨b, o, none⟩) (Ty.two 1 A B).enc.length c] y1.w (NewRow y1.w 23 22 id (sls b (o + 1) [A, B])) := fun y1 => partsWithin_ans (W := y1.w) (F.ext y1) (cc := 1) (ps := [A, B]) (by intro t ht; simp at ht; rcases ht with rfl | rfl; exact hok.2.1; exact hok.2.2) (l := (Ty.two 1 A B).enc) (by simp [Ty.enc, Ty.encs]) (hr.ext y1) (by omega) hc (Ext.self y1.w)
      have m0 : ∀ y : Ext W, y.w.cell? ⟨b, o, none⟩ = some (.int .i64 (1)) := fun y => y.cell (row_head hr (l' := A.enc ++ B.enc) rfl)
      have hlp : 0 < (Ty.two 1 A B).enc.length := Ty.enc_pos _
      have ec : (Ty.two 1 A B).cnt = A.cnt * B.cnt := rfl
      rw [ec] at hcnt ⊢
      clear ec
      have hw : IntKind.i64.wrap ((A.cnt : Int) * (B.cnt : Int)) = (A.cnt : Int) * (B.cnt : Int) := IntWalk.i64_in _ (by rw [← Int.natCast_mul]; omega)
      rw [Int.natCast_mul]
      generalize (Ty.two 1 A B).enc.length = len at *
      clear hr hok hd hl hc hcnt hA hB hlen ihA ihB
      have hlp' : (0 : Int) < (len : Int) := by omega
      go_enter Tryd.func86, Tryd.ntmps86
      go_wp2_with (go_at_call 123; (with_reducible refine Calls.mono (FOC _) ?_); rintro e w' ⟨rfl, yy, rfl⟩)
      generalize hY : yy.w.alloc _ = Y1
      have bY := new_blk hY
      obtain ⟨y1, hy1⟩ : ∃ y : Ext W, y.w = Y1 := ⟨yy.alloc _, hY⟩
      generalize yy.w.heap.size = B1 at *
      clear hY yy FOC
      rw [← hy1] at bY ⊢
      clear hy1 Y1
      refine Calls.mono (PWC y1) ?_
      clear PWC m0
      rintro e w' ⟨v, zz, rfl, rfl, own⟩
      obtain ⟨g, c1, rfl, row, hcap, _⟩ := own_some own (by simp [sls])
      have m1 : ∀ u : Ext zz.w, u.w.cell? ⟨B1, 1, none⟩ = some (.int .i64 1) := fun u => blk_cell ((zz.trans u).blk bY) 1
      have g0 : ∀ u : Ext zz.w, u.w.cell? ⟨g, 0, none⟩ = some (.slice (some ⟨b, o + 1, none⟩) A.enc.length A.enc.length) := fun u => u.cell (row_at row 0 _ rfl)
      have g1 : ∀ u : Ext zz.w, u.w.cell? ⟨g, 1, none⟩ = some (.slice (some ⟨b, o + 1 + A.enc.length, none⟩) B.enc.length B.enc.length) := fun u => u.cell (row_at row 1 _ rfl)
      clear bY own row hcap
      rw [show (sls b (o + 1) [A, B]).length = 2 from rfl]
      have CC : ∀ (u : Ext zz.w) (v : Value) (k : Int), Either (.slice (some ⟨b, o + 1, none⟩) A.enc.length A.enc.length) A.cnt (.slice (some ⟨b, o + 1 + A.enc.length, none⟩) B.enc.length B.enc.length) B.cnt v k → Calls Tryd.prog 86 #[v] u.w (Ans zz.w (.int .i64 k)) := fun u v k hv => by
        cases hv with
        | a => exact Calls.mono (CA.out (y1.trans (zz.trans u))) fun _ _ q => ans_lift (z := u) q
        | b => exact Calls.mono (CB.out (y1.trans (zz.trans u))) fun _ _ q => ans_lift (z := u) q
      have HA : Either (.slice (some ⟨b, o + 1, none⟩) A.enc.length A.enc.length) A.cnt (.slice (some ⟨b, o + 1 + A.enc.length, none⟩) B.enc.length B.enc.length) B.cnt (.slice (some ⟨b, o + 1, none⟩) A.enc.length A.enc.length) A.cnt := .a
      have HB : Either (.slice (some ⟨b, o + 1, none⟩) A.enc.length A.enc.length) A.cnt (.slice (some ⟨b, o + 1 + A.enc.length, none⟩) B.enc.length B.enc.length) B.cnt (.slice (some ⟨b, o + 1 + A.enc.length, none⟩) B.enc.length B.enc.length) B.cnt := .b
      obtain ⟨yy, hyy⟩ : ∃ u : Ext zz.w, u.w = zz.w := ⟨Ext.self _, rfl⟩
      rw [← hyy]
      clear hyy
      go_wp2_with fail
      refine region_ext yy (by kernel_rfl) (by kernel_rfl) ?_
      repeat (go_big_quiet_step ((go_at_call 86; with_reducible exact CC _ _ _ (by assumption))))
      refine wpQuiet_nil ?_
      rintro _ ⟨yy, rfl⟩
      go_wp2_with fail
      go_ret
      exact ⟨rfl, y1.trans (zz.trans yy), rfl⟩
    · obtain ⟨f0, f2, f3, f4, f6, FOC⟩ := form_some F (2) 2 rfl
      have PWC : ∀ y1 : Ext W, Calls Tryd.prog 58 #[.slice (some ⟨b, o, none⟩) (Ty.two 2 A B).enc.length c] y1.w (NewRow y1.w 23 22 id (sls b (o + 1) [A, B])) := fun y1 => partsWithin_ans (W := y1.w) (F.ext y1) (cc := 2) (ps := [A, B]) (by intro t ht; simp at ht; rcases ht with rfl | rfl; exact hok.2.1; exact hok.2.2) (l := (Ty.two 2 A B).enc) (by simp [Ty.enc, Ty.encs]) (hr.ext y1) (by omega) hc (Ext.self y1.w)
      have m0 : ∀ y : Ext W, y.w.cell? ⟨b, o, none⟩ = some (.int .i64 (2)) := fun y => y.cell (row_head hr (l' := A.enc ++ B.enc) rfl)
      have hlp : 0 < (Ty.two 2 A B).enc.length := Ty.enc_pos _
      have ec : (Ty.two 2 A B).cnt = A.cnt + B.cnt := rfl
      rw [ec] at hcnt ⊢
      clear ec
      have hw : IntKind.i64.wrap ((A.cnt : Int) + (B.cnt : Int)) = (A.cnt : Int) + (B.cnt : Int) := IntWalk.i64_in _ (by omega)
      rw [show ((A.cnt + B.cnt : Nat) : Int) = (A.cnt : Int) + (B.cnt : Int) by omega]
      generalize (Ty.two 2 A B).enc.length = len at *
      clear hr hok hd hl hc hcnt hA hB hlen ihA ihB
      have hlp' : (0 : Int) < (len : Int) := by omega
      go_enter Tryd.func86, Tryd.ntmps86
      go_wp2_with (go_at_call 123; (with_reducible refine Calls.mono (FOC _) ?_); rintro e w' ⟨rfl, yy, rfl⟩)
      generalize hY : yy.w.alloc _ = Y1
      have bY := new_blk hY
      obtain ⟨y1, hy1⟩ : ∃ y : Ext W, y.w = Y1 := ⟨yy.alloc _, hY⟩
      generalize yy.w.heap.size = B1 at *
      clear hY yy FOC
      rw [← hy1] at bY ⊢
      clear hy1 Y1
      refine Calls.mono (PWC y1) ?_
      clear PWC m0
      rintro e w' ⟨v, zz, rfl, rfl, own⟩
      obtain ⟨g, c1, rfl, row, hcap, _⟩ := own_some own (by simp [sls])
      have m1 : ∀ u : Ext zz.w, u.w.cell? ⟨B1, 1, none⟩ = some (.int .i64 2) := fun u => blk_cell ((zz.trans u).blk bY) 1
      have g0 : ∀ u : Ext zz.w, u.w.cell? ⟨g, 0, none⟩ = some (.slice (some ⟨b, o + 1, none⟩) A.enc.length A.enc.length) := fun u => u.cell (row_at row 0 _ rfl)
      have g1 : ∀ u : Ext zz.w, u.w.cell? ⟨g, 1, none⟩ = some (.slice (some ⟨b, o + 1 + A.enc.length, none⟩) B.enc.length B.enc.length) := fun u => u.cell (row_at row 1 _ rfl)
      clear bY own row hcap
      rw [show (sls b (o + 1) [A, B]).length = 2 from rfl]
      have CC : ∀ (u : Ext zz.w) (v : Value) (k : Int), Either (.slice (some ⟨b, o + 1, none⟩) A.enc.length A.enc.length) A.cnt (.slice (some ⟨b, o + 1 + A.enc.length, none⟩) B.enc.length B.enc.length) B.cnt v k → Calls Tryd.prog 86 #[v] u.w (Ans zz.w (.int .i64 k)) := fun u v k hv => by
        cases hv with
        | a => exact Calls.mono (CA.out (y1.trans (zz.trans u))) fun _ _ q => ans_lift (z := u) q
        | b => exact Calls.mono (CB.out (y1.trans (zz.trans u))) fun _ _ q => ans_lift (z := u) q
      have HA : Either (.slice (some ⟨b, o + 1, none⟩) A.enc.length A.enc.length) A.cnt (.slice (some ⟨b, o + 1 + A.enc.length, none⟩) B.enc.length B.enc.length) B.cnt (.slice (some ⟨b, o + 1, none⟩) A.enc.length A.enc.length) A.cnt := .a
      have HB : Either (.slice (some ⟨b, o + 1, none⟩) A.enc.length A.enc.length) A.cnt (.slice (some ⟨b, o + 1 + A.enc.length, none⟩) B.enc.length B.enc.length) B.cnt (.slice (some ⟨b, o + 1 + A.enc.length, none⟩) B.enc.length B.enc.length) B.cnt := .b
      obtain ⟨yy, hyy⟩ : ∃ u : Ext zz.w, u.w = zz.w := ⟨Ext.self _, rfl⟩
      rw [← hyy]
      clear hyy
      go_wp2_with fail
      refine region_ext yy (by kernel_rfl) (by kernel_rfl) ?_
      repeat (go_big_quiet_step ((go_at_call 86; with_reducible exact CC _ _ _ (by assumption))))
      refine wpQuiet_nil ?_
      rintro _ ⟨yy, rfl⟩
      go_wp2_with fail
      go_ret
      exact ⟨rfl, y1.trans (zz.trans yy), rfl⟩
  | one cc A ihA =>
    intro hok hd W F b o c hr hl hc x
    obtain ⟨yy, hyy⟩ : ∃ y : Ext W, x = y := ⟨x, rfl⟩
    rw [hyy]
    clear hyy
    have hA := A.enc_pos
    have hlen := Ty.len_one cc A
    have hbx := Ty.bx_of hok.1
    have CA : ∀ y : Ext W, Calls Tryd.prog 86 #[.slice (some ⟨b, o + 1, none⟩) A.enc.length A.enc.length] y.w (Ans y.w (.int .i64 A.cnt)) := fun y => ihA hok.2 hd (F.ext y) ((row_one hr).ext y) (by omega) (Nat.le_refl _) (Ext.self y.w)
    replace CA := Lib.hid CA
    obtain ⟨f0, f2, f3, f4, f6, FOC⟩ := form_some F (cc) 19 (codeF_bx hbx)
    have PWC : ∀ y1 : Ext W, Calls Tryd.prog 58 #[.slice (some ⟨b, o, none⟩) (Ty.one cc A).enc.length c] y1.w (NewRow y1.w 23 22 id (sls b (o + 1) [A])) := fun y1 => partsWithin_ans (W := y1.w) (F.ext y1) (cc := cc) (ps := [A]) (by intro t ht; simp at ht; subst ht; exact hok.2) (l := (Ty.one cc A).enc) (by simp [Ty.enc, Ty.encs]) (hr.ext y1) (by omega) hc (Ext.self y1.w)
    have m0 : ∀ y : Ext W, y.w.cell? ⟨b, o, none⟩ = some (.int .i64 (cc)) := fun y => y.cell (row_head hr (l' := A.enc) rfl)
    have hlp : 0 < (Ty.one cc A).enc.length := Ty.enc_pos _
    rw [show (Ty.one cc A).cnt = A.cnt from rfl]
    generalize (Ty.one cc A).enc.length = len at *
    clear hr hok hd hl hc hA hlen ihA hbx
    have hlp' : (0 : Int) < (len : Int) := by omega
    go_enter Tryd.func86, Tryd.ntmps86
    go_wp2_with (go_at_call 123; (with_reducible refine Calls.mono (FOC _) ?_); rintro e w' ⟨rfl, yy, rfl⟩)
    generalize hY : yy.w.alloc _ = Y1
    have bY := new_blk hY
    obtain ⟨y1, hy1⟩ : ∃ y : Ext W, y.w = Y1 := ⟨yy.alloc _, hY⟩
    generalize yy.w.heap.size = B1 at *
    clear hY yy FOC
    rw [← hy1] at bY ⊢
    clear hy1 Y1
    refine Calls.mono (PWC y1) ?_
    clear PWC m0
    rintro e w' ⟨v, zz, rfl, rfl, own⟩
    obtain ⟨g, c1, rfl, row, hcap, _⟩ := own_some own (by simp [sls])
    have m1 : ∀ u : Ext zz.w, u.w.cell? ⟨B1, 1, none⟩ = some (.int .i64 19) := fun u => blk_cell ((zz.trans u).blk bY) 1
    have g0 : ∀ u : Ext zz.w, u.w.cell? ⟨g, 0, none⟩ = some (.slice (some ⟨b, o + 1, none⟩) A.enc.length A.enc.length) := fun u => u.cell (row_at row 0 _ rfl)
    clear bY own row hcap
    rw [show (sls b (o + 1) [A]).length = 1 from rfl]
    obtain ⟨yy, hyy⟩ : ∃ u : Ext zz.w, u.w = zz.w := ⟨Ext.self _, rfl⟩
    rw [← hyy]
    clear hyy
    go_wp2_with fail
    refine Calls.mono (CA.out (y1.trans (zz.trans yy))) ?_
    rintro e w' ⟨rfl, uu, rfl⟩
    go_wp2_with fail
    go_ret
    exact ⟨rfl, y1.trans (zz.trans (yy.trans uu)), rfl⟩
end Go.Proofs.YtmifnhblhggflaaDoor
