/- Texts of one claim, laid together: CntP, CntTop. -/
import Derived.Test.YtoefeijnnnioeaaDoorGS
import Derived.Test.YtoefeijnnnioeaaDoorGD
set_option linter.unusedVariables false
set_option linter.unusedSimpArgs false

/- How many values a type has, by the program. -/
namespace Go.Proofs.YtoefeijnnnioeaaDoor
open Go.RowKit

theorem form_some {W : World} (F : Forms W) (c k : Int) (hk : codeF c = k) (hc : c ≤ 36 := by first | decide | (have h9 := ‹Bx _›; unfold Bx at h9; omega)) : ∃ (f0 : ByteArray) (f2 f3 : Int) (f4 f6 : Bool), ∀ y : Ext W, Calls Tryd.prog 114 #[.int .i64 c] y.w (Ans W (.tuple #[.agg #[.string f0, .int .i64 k, .int .i64 f2, .int .i64 f3, .bool f4], .int .i64 (gF c), .bool f6])) := by
  subst hk
  exact ⟨_, _, _, _, _, fun y => formOf_ans F c hc y⟩
theorem codeF_bx {c : Int} (h : Bx c) : codeF c = 19 := by
  unfold Bx at h
  unfold codeF
  rw [if_neg (by omega), if_neg (by omega), if_neg (by unfold Arr; omega), if_pos (by unfold Bx; omega)]
theorem codeF_arr {c : Int} (h : Arr c) : codeF c = 3 := by
  unfold Arr at h
  unfold codeF
  rw [if_neg (by omega), if_neg (by omega), if_pos (by unfold Arr; omega)]

/-- One of two values with what belongs to it. -/
inductive Either (va : Value) (ka : Int) (vb : Value) (kb : Int) : Value → Int → Prop
  | a : Either va ka vb kb va ka
  | b : Either va ka vb kb vb kb
theorem row_at {w : World} {g : Nat} {l : List Value} (h : Row w id (some ⟨g, 0, none⟩) l) (i : Nat) (v : Value) (hi : l[i]? = some v) : w.cell? ⟨g, i, none⟩ = some v := by
  rcases h with rfl | ⟨b', o', e, hc⟩
  · simp at hi
  · cases e
    have := hc i v hi
    simpa using this

namespace Ty
/-- How many values, where those that differ in boxes of grades outside S alone count as one. -/
def cntA (S : Int → Bool) : Ty → Nat | leaf => 3 | two c a b => if c = 1 then a.cntA S * b.cntA S else a.cntA S + b.cntA S | one c a => if S (gradeOf c) then a.cntA S else 1
theorem cntA_le (S : Int → Bool) (t : Ty) : t.cntA S ≤ t.cnt := by
  induction t with
  | leaf => exact Nat.le_refl _
  | two c a b iha ihb =>
    simp only [cntA, cnt]
    split
    · exact Nat.mul_le_mul iha ihb
    · omega
  | one c a ih =>
    have := a.cnt_pos
    simp only [cntA, cnt]
    split
    · exact ih
    · omega
theorem cntA_all {S : Int → Bool} (h : ∀ g, S g = true) (t : Ty) : t.cntA S = t.cnt := by
  induction t with
  | leaf => rfl
  | two c a b iha ihb => simp only [cntA, cnt, iha, ihb]
  | one c a ih => simp only [cntA, cnt, h, if_true, ih]
/-- No grade of a box is open. -/
def Cl : Ty → Prop | leaf => True | two _ a b => a.Cl ∧ b.Cl | one c a => 0 ≤ gradeOf c ∧ a.Cl
theorem cl_of {n : Int} {t : Ty} (h : t.Ok) (hg : Grs n true t.enc) : t.Cl := by
  induction t with
  | leaf => trivial
  | two c a b iha ihb => exact ⟨iha h.2.1 fun u hu => hg u (by simp [enc, hu]), ihb h.2.2 fun u hu => hg u (by simp [enc, hu])⟩
  | one c a ih => exact ⟨(hg c (by simp [enc]) (.inr (bx_of h.1))).2 rfl, ih h.2 fun u hu => hg u (by simp [enc, hu])⟩
end Ty
theorem gF_bx {c : Int} (h : Bx c) : gF c = gradeOf c := by unfold gF; rw [if_pos (.inr h)]
theorem gradeOf_bx {c : Int} (h : Bx c) : gradeOf c ≤ 15 := gradeOf_le (.inr h)

set_option maxHeartbeats 8000000 in
theorem countApart_ans {S : Int → Bool} {sv : Int} (HS : ∀ g : Int, 0 ≤ g → g ≤ 15 → ∀ (U : World) (y : Ext U), Calls Tryd.prog 183 #[.int .u32 sv, .int .i64 g] y.w (Ans U (.bool (S g)))) (T : Ty) : ∀ (_ : T.Ok) (_ : T.Data) (_ : T.Cl) {W : World} (_ : Forms W) {b o c : Nat} (_ : Row W (Value.int .i64) (some ⟨b, o, none⟩) T.enc) (_ : T.enc.length ≤ 40) (_ : T.enc.length ≤ c) (x : Ext W),
    Calls Tryd.prog 168 #[.int .u32 sv, .slice (some ⟨b, o, none⟩) T.enc.length c] x.w (Ans W (.int .i64 (T.cntA S))) := by
  induction T with
  | leaf =>
    intro hok hd hcl W F b o c hr hl hc x
    obtain ⟨yy, hyy⟩ : ∃ y : Ext W, x = y := ⟨x, rfl⟩
    rw [hyy]
    clear hyy
    obtain ⟨f0, f2, f3, f4, f6, FOC⟩ := form_some F (0) 0 rfl
    have PWC : ∀ y1 : Ext W, Calls Tryd.prog 131 #[.slice (some ⟨b, o, none⟩) Ty.leaf.enc.length c] y1.w (NewRow y1.w 51 22 id (sls b (o + 1) [])) := fun y1 => partsWithin_ans (W := y1.w) (F.ext y1) (cc := 0) (ps := []) (by simp) (l := Ty.leaf.enc) rfl (hr.ext y1) (by omega) (Ty.le36 hok) hc (Ext.self y1.w)
    have m0 : ∀ y : Ext W, y.w.cell? ⟨b, o, none⟩ = some (.int .i64 (0)) := fun y => y.cell (row_head hr (l' := []) rfl)
    have hlp : 0 < Ty.leaf.enc.length := Ty.enc_pos _
    have hlen := Ty.len_leaf
    generalize Ty.leaf.enc.length = len at *
    clear hr hok hd hcl hl hc hlen
    have hlp' : (0 : Int) < (len : Int) := by omega
    rw [show Ty.leaf.cntA S = 3 from rfl]
    go_enter Tryd.func168, Tryd.ntmps168
    go_wp2_with (go_at_call 114; (with_reducible refine Calls.mono (FOC _) ?_); rintro e w' ⟨rfl, yy, rfl⟩)
    generalize hY : yy.w.alloc _ = Y1
    have bY := new_blk hY
    obtain ⟨y1, hy1⟩ : ∃ y : Ext W, y.w = Y1 := ⟨yy.alloc _, hY⟩
    generalize yy.w.heap.size = B1 at *
    clear hY yy FOC
    rw [← hy1] at bY ⊢
    clear hy1 Y1
    refine Calls.mono (PWC y1) ?_
    clear PWC m0
    rintro e w' ⟨v, zz, rfl, rfl, own⟩
    have m1 : ∀ u : Ext zz.w, u.w.cell? ⟨B1, 1, none⟩ = some (.int .i64 0) := fun u => blk_cell ((zz.trans u).blk bY) 1
    clear bY own
    obtain ⟨yy, hyy⟩ : ∃ u : Ext zz.w, u.w = zz.w := ⟨Ext.self _, rfl⟩
    rw [← hyy]
    clear hyy
    go_wp2_with fail
    go_ret
    exact ⟨rfl, y1.trans (zz.trans yy), rfl⟩
  | two cc A B ihA ihB =>
    intro hok hd hcl W F b o c hr hl hc x
    obtain ⟨yy, hyy⟩ : ∃ y : Ext W, x = y := ⟨x, rfl⟩
    rw [hyy]
    clear hyy
    have hA := A.enc_pos
    have hB := B.enc_pos
    have hlen := Ty.len_two cc A B
    have CA : ∀ y : Ext W, Calls Tryd.prog 168 #[.int .u32 sv, .slice (some ⟨b, o + 1, none⟩) A.enc.length A.enc.length] y.w (Ans y.w (.int .i64 (A.cntA S))) := fun y => ihA hok.2.1 hd.2.1 hcl.1 (F.ext y) ((row_two1 hr).ext y) (by omega) (Nat.le_refl _) (Ext.self y.w)
    have CB : ∀ y : Ext W, Calls Tryd.prog 168 #[.int .u32 sv, .slice (some ⟨b, o + 1 + A.enc.length, none⟩) B.enc.length B.enc.length] y.w (Ans y.w (.int .i64 (B.cntA S))) := fun y => ihB hok.2.2 hd.2.2 hcl.2 (F.ext y) ((show Row W (Value.int .i64) (some ⟨b, o + 1 + A.enc.length, none⟩) B.enc from by rw [Nat.add_assoc]; exact row_two2 hr).ext y) (by omega) (Nat.le_refl _) (Ext.self y.w)
    replace CA := Lib.hid CA
    replace CB := Lib.hid CB
    have hcnt := fun c => Nat.le_trans ((Ty.two c A B).cntA_le S) (Ty.cnt_le (t := Ty.two c A B) (by simpa [Ty.enc] using hl))
    have hd1 := hd.1
    rcases hd1 with rfl | rfl
    · obtain ⟨f0, f2, f3, f4, f6, FOC⟩ := form_some F (1) 1 rfl
      have PWC : ∀ y1 : Ext W, Calls Tryd.prog 131 #[.slice (some ⟨b, o, none⟩) (Ty.two 1 A B).enc.length c] y1.w (NewRow y1.w 51 22 id (sls b (o + 1) [A, B])) := fun y1 => partsWithin_ans (W := y1.w) (F.ext y1) (cc := 1) (ps := [A, B]) (by intro t ht; simp at ht; rcases ht with rfl | rfl; exact hok.2.1; exact hok.2.2) (l := (Ty.two 1 A B).enc) (by simp [Ty.enc, Ty.encs]) (hr.ext y1) (by omega) (Ty.le36 hok) hc (Ext.self y1.w)
      have m0 : ∀ y : Ext W, y.w.cell? ⟨b, o, none⟩ = some (.int .i64 (1)) := fun y => y.cell (row_head hr (l' := A.enc ++ B.enc) rfl)
      have hlp : 0 < (Ty.two 1 A B).enc.length := Ty.enc_pos _
      have ec : (Ty.two 1 A B).cntA S = (A.cntA S) * (B.cntA S) := rfl
      replace hcnt := hcnt 1
      rw [ec] at hcnt ⊢
      clear ec
      have hw : IntKind.i64.wrap (((A.cntA S) : Int) * ((B.cntA S) : Int)) = ((A.cntA S) : Int) * ((B.cntA S) : Int) := IntWalk.i64_in _ (by rw [← Int.natCast_mul]; omega)
      rw [Int.natCast_mul]
      generalize (Ty.two 1 A B).enc.length = len at *
      clear hr hok hd hcl hl hc hcnt hA hB hlen ihA ihB
      have hlp' : (0 : Int) < (len : Int) := by omega
      go_enter Tryd.func168, Tryd.ntmps168
      go_wp2_with (go_at_call 114; (with_reducible refine Calls.mono (FOC _) ?_); rintro e w' ⟨rfl, yy, rfl⟩)
      generalize hY : yy.w.alloc _ = Y1
      have bY := new_blk hY
      obtain ⟨y1, hy1⟩ : ∃ y : Ext W, y.w = Y1 := ⟨yy.alloc _, hY⟩
      generalize yy.w.heap.size = B1 at *
      clear hY yy FOC
      rw [← hy1] at bY ⊢
      clear hy1 Y1
      refine Calls.mono (PWC y1) ?_
      clear PWC m0
      rintro e w' ⟨v, zz, rfl, rfl, own⟩
      obtain ⟨g, c1, rfl, row, hcap, _⟩ := own_some own (by simp [sls])
      have m1 : ∀ u : Ext zz.w, u.w.cell? ⟨B1, 1, none⟩ = some (.int .i64 1) := fun u => blk_cell ((zz.trans u).blk bY) 1
      have g0 : ∀ u : Ext zz.w, u.w.cell? ⟨g, 0, none⟩ = some (.slice (some ⟨b, o + 1, none⟩) A.enc.length A.enc.length) := fun u => u.cell (row_at row 0 _ rfl)
      have g1 : ∀ u : Ext zz.w, u.w.cell? ⟨g, 1, none⟩ = some (.slice (some ⟨b, o + 1 + A.enc.length, none⟩) B.enc.length B.enc.length) := fun u => u.cell (row_at row 1 _ rfl)
      clear bY own row hcap
      rw [show (sls b (o + 1) [A, B]).length = 2 from rfl]
      have CC : ∀ (u : Ext zz.w) (v : Value) (k : Int), Either (.slice (some ⟨b, o + 1, none⟩) A.enc.length A.enc.length) (A.cntA S) (.slice (some ⟨b, o + 1 + A.enc.length, none⟩) B.enc.length B.enc.length) (B.cntA S) v k → Calls Tryd.prog 168 #[.int .u32 sv, v] u.w (Ans zz.w (.int .i64 k)) := fun u v k hv => by
        cases hv with
        | a => exact Calls.mono (CA.out (y1.trans (zz.trans u))) fun _ _ q => ans_lift (z := u) q
        | b => exact Calls.mono (CB.out (y1.trans (zz.trans u))) fun _ _ q => ans_lift (z := u) q
      have HA : Either (.slice (some ⟨b, o + 1, none⟩) A.enc.length A.enc.length) (A.cntA S) (.slice (some ⟨b, o + 1 + A.enc.length, none⟩) B.enc.length B.enc.length) (B.cntA S) (.slice (some ⟨b, o + 1, none⟩) A.enc.length A.enc.length) (A.cntA S) := .a
      have HB : Either (.slice (some ⟨b, o + 1, none⟩) A.enc.length A.enc.length) (A.cntA S) (.slice (some ⟨b, o + 1 + A.enc.length, none⟩) B.enc.length B.enc.length) (B.cntA S) (.slice (some ⟨b, o + 1 + A.enc.length, none⟩) B.enc.length B.enc.length) (B.cntA S) := .b
      obtain ⟨yy, hyy⟩ : ∃ u : Ext zz.w, u.w = zz.w := ⟨Ext.self _, rfl⟩
      rw [← hyy]
      clear hyy
      go_wp2_with fail
      refine region_ext yy (by kernel_rfl) (by kernel_rfl) ?_
      repeat (go_big_quiet_step ((go_at_call 168; with_reducible exact CC _ _ _ (by assumption))))
      refine wpQuiet_nil ?_
      rintro _ ⟨yy, rfl⟩
      go_wp2_with fail
      go_ret
      exact ⟨rfl, y1.trans (zz.trans yy), rfl⟩
    · obtain ⟨f0, f2, f3, f4, f6, FOC⟩ := form_some F (2) 2 rfl
      have PWC : ∀ y1 : Ext W, Calls Tryd.prog 131 #[.slice (some ⟨b, o, none⟩) (Ty.two 2 A B).enc.length c] y1.w (NewRow y1.w 51 22 id (sls b (o + 1) [A, B])) := fun y1 => partsWithin_ans (W := y1.w) (F.ext y1) (cc := 2) (ps := [A, B]) (by intro t ht; simp at ht; rcases ht with rfl | rfl; exact hok.2.1; exact hok.2.2) (l := (Ty.two 2 A B).enc) (by simp [Ty.enc, Ty.encs]) (hr.ext y1) (by omega) (Ty.le36 hok) hc (Ext.self y1.w)
      have m0 : ∀ y : Ext W, y.w.cell? ⟨b, o, none⟩ = some (.int .i64 (2)) := fun y => y.cell (row_head hr (l' := A.enc ++ B.enc) rfl)
      have hlp : 0 < (Ty.two 2 A B).enc.length := Ty.enc_pos _
      have ec : (Ty.two 2 A B).cntA S = (A.cntA S) + (B.cntA S) := rfl
      replace hcnt := hcnt 2
      rw [ec] at hcnt ⊢
      clear ec
      have hw : IntKind.i64.wrap (((A.cntA S) : Int) + ((B.cntA S) : Int)) = ((A.cntA S) : Int) + ((B.cntA S) : Int) := IntWalk.i64_in _ (by omega)
      rw [show (((A.cntA S) + (B.cntA S) : Nat) : Int) = ((A.cntA S) : Int) + ((B.cntA S) : Int) by omega]
      generalize (Ty.two 2 A B).enc.length = len at *
      clear hr hok hd hcl hl hc hcnt hA hB hlen ihA ihB
      have hlp' : (0 : Int) < (len : Int) := by omega
      go_enter Tryd.func168, Tryd.ntmps168
      go_wp2_with (go_at_call 114; (with_reducible refine Calls.mono (FOC _) ?_); rintro e w' ⟨rfl, yy, rfl⟩)
      generalize hY : yy.w.alloc _ = Y1
      have bY := new_blk hY
      obtain ⟨y1, hy1⟩ : ∃ y : Ext W, y.w = Y1 := ⟨yy.alloc _, hY⟩
      generalize yy.w.heap.size = B1 at *
      clear hY yy FOC
      rw [← hy1] at bY ⊢
      clear hy1 Y1
      refine Calls.mono (PWC y1) ?_
      clear PWC m0
      rintro e w' ⟨v, zz, rfl, rfl, own⟩
      obtain ⟨g, c1, rfl, row, hcap, _⟩ := own_some own (by simp [sls])
      have m1 : ∀ u : Ext zz.w, u.w.cell? ⟨B1, 1, none⟩ = some (.int .i64 2) := fun u => blk_cell ((zz.trans u).blk bY) 1
      have g0 : ∀ u : Ext zz.w, u.w.cell? ⟨g, 0, none⟩ = some (.slice (some ⟨b, o + 1, none⟩) A.enc.length A.enc.length) := fun u => u.cell (row_at row 0 _ rfl)
      have g1 : ∀ u : Ext zz.w, u.w.cell? ⟨g, 1, none⟩ = some (.slice (some ⟨b, o + 1 + A.enc.length, none⟩) B.enc.length B.enc.length) := fun u => u.cell (row_at row 1 _ rfl)
      clear bY own row hcap
      rw [show (sls b (o + 1) [A, B]).length = 2 from rfl]
      have CC : ∀ (u : Ext zz.w) (v : Value) (k : Int), Either (.slice (some ⟨b, o + 1, none⟩) A.enc.length A.enc.length) (A.cntA S) (.slice (some ⟨b, o + 1 + A.enc.length, none⟩) B.enc.length B.enc.length) (B.cntA S) v k → Calls Tryd.prog 168 #[.int .u32 sv, v] u.w (Ans zz.w (.int .i64 k)) := fun u v k hv => by
        cases hv with
        | a => exact Calls.mono (CA.out (y1.trans (zz.trans u))) fun _ _ q => ans_lift (z := u) q
        | b => exact Calls.mono (CB.out (y1.trans (zz.trans u))) fun _ _ q => ans_lift (z := u) q
      have HA : Either (.slice (some ⟨b, o + 1, none⟩) A.enc.length A.enc.length) (A.cntA S) (.slice (some ⟨b, o + 1 + A.enc.length, none⟩) B.enc.length B.enc.length) (B.cntA S) (.slice (some ⟨b, o + 1, none⟩) A.enc.length A.enc.length) (A.cntA S) := .a
      have HB : Either (.slice (some ⟨b, o + 1, none⟩) A.enc.length A.enc.length) (A.cntA S) (.slice (some ⟨b, o + 1 + A.enc.length, none⟩) B.enc.length B.enc.length) (B.cntA S) (.slice (some ⟨b, o + 1 + A.enc.length, none⟩) B.enc.length B.enc.length) (B.cntA S) := .b
      obtain ⟨yy, hyy⟩ : ∃ u : Ext zz.w, u.w = zz.w := ⟨Ext.self _, rfl⟩
      rw [← hyy]
      clear hyy
      go_wp2_with fail
      refine region_ext yy (by kernel_rfl) (by kernel_rfl) ?_
      repeat (go_big_quiet_step ((go_at_call 168; with_reducible exact CC _ _ _ (by assumption))))
      refine wpQuiet_nil ?_
      rintro _ ⟨yy, rfl⟩
      go_wp2_with fail
      go_ret
      exact ⟨rfl, y1.trans (zz.trans yy), rfl⟩
  | one cc A ihA =>
    intro hok hd hcl W F b o c hr hl hc x
    obtain ⟨yy, hyy⟩ : ∃ y : Ext W, x = y := ⟨x, rfl⟩
    rw [hyy]
    clear hyy
    have hA := A.enc_pos
    have hlen := Ty.len_one cc A
    have hbx := Ty.bx_of hok.1
    have CA : ∀ y : Ext W, Calls Tryd.prog 168 #[.int .u32 sv, .slice (some ⟨b, o + 1, none⟩) A.enc.length A.enc.length] y.w (Ans y.w (.int .i64 (A.cntA S))) := fun y => ihA hok.2 hd hcl.2 (F.ext y) ((row_one hr).ext y) (by omega) (Nat.le_refl _) (Ext.self y.w)
    replace CA := Lib.hid CA
    obtain ⟨f0, f2, f3, f4, f6, FOC⟩ := form_some F (cc) 19 (codeF_bx hbx)
    have PWC : ∀ y1 : Ext W, Calls Tryd.prog 131 #[.slice (some ⟨b, o, none⟩) (Ty.one cc A).enc.length c] y1.w (NewRow y1.w 51 22 id (sls b (o + 1) [A])) := fun y1 => partsWithin_ans (W := y1.w) (F.ext y1) (cc := cc) (ps := [A]) (by intro t ht; simp at ht; subst ht; exact hok.2) (l := (Ty.one cc A).enc) (by simp [Ty.enc, Ty.encs]) (hr.ext y1) (by omega) (Ty.le36 hok) hc (Ext.self y1.w)
    have m0 : ∀ y : Ext W, y.w.cell? ⟨b, o, none⟩ = some (.int .i64 (cc)) := fun y => y.cell (row_head hr (l' := A.enc) rfl)
    have hlp : 0 < (Ty.one cc A).enc.length := Ty.enc_pos _
    have ec : (Ty.one cc A).cntA S = if S (gradeOf cc) then A.cntA S else 1 := rfl
    rw [ec]
    rw [gF_bx hbx] at FOC
    have HH : ∀ (U : World) (y : Ext U), Calls Tryd.prog 183 #[.int .u32 sv, .int .i64 (gradeOf cc)] y.w (Ans U (.bool (S (gradeOf cc)))) := fun U y => HS (gradeOf cc) hcl.1 (gradeOf_bx hbx) U y
    generalize gradeOf cc = gg at *
    clear ec HS hbx
    generalize (Ty.one cc A).enc.length = len at *
    clear hr hok hd hcl hl hc hA hlen ihA
    have hlp' : (0 : Int) < (len : Int) := by omega
    cases hS : S gg with
    | true =>
      rw [hS] at HH
      rw [if_pos rfl]
      go_enter Tryd.func168, Tryd.ntmps168
      go_wp2_with (go_at_call 114; (with_reducible refine Calls.mono (FOC _) ?_); rintro e w' ⟨rfl, yy, rfl⟩)
      generalize hY : yy.w.alloc _ = Y1
      have bY := new_blk hY
      obtain ⟨y1, hy1⟩ : ∃ y : Ext W, y.w = Y1 := ⟨yy.alloc _, hY⟩
      generalize yy.w.heap.size = B1 at *
      clear hY yy FOC
      rw [← hy1] at bY ⊢
      clear hy1 Y1
      refine Calls.mono (PWC y1) ?_
      clear PWC m0
      rintro e w' ⟨v, zz, rfl, rfl, own⟩
      obtain ⟨g, c1, rfl, row, hcap, _⟩ := own_some own (by simp [sls])
      have m1 : ∀ u : Ext zz.w, u.w.cell? ⟨B1, 1, none⟩ = some (.int .i64 19) := fun u => blk_cell ((zz.trans u).blk bY) 1
      have g0 : ∀ u : Ext zz.w, u.w.cell? ⟨g, 0, none⟩ = some (.slice (some ⟨b, o + 1, none⟩) A.enc.length A.enc.length) := fun u => u.cell (row_at row 0 _ rfl)
      clear bY own row hcap
      rw [show (sls b (o + 1) [A]).length = 1 from rfl]
      obtain ⟨yy, hyy⟩ : ∃ u : Ext zz.w, u.w = zz.w := ⟨Ext.self _, rfl⟩
      rw [← hyy]
      clear hyy
      go_wp2_with ((go_at_call 183; (with_reducible refine Calls.mono (HH _ yy) ?_); rintro e w' ⟨rfl, yh, rfl⟩))
      refine Calls.mono (CA.out (y1.trans (zz.trans yh))) ?_
      rintro e w' ⟨rfl, uu, rfl⟩
      go_wp2_with fail
      go_ret
      exact ⟨rfl, y1.trans (zz.trans (yh.trans uu)), rfl⟩
    | false =>
      rw [hS] at HH
      rw [if_neg (by simp)]
      go_enter Tryd.func168, Tryd.ntmps168
      go_wp2_with (go_at_call 114; (with_reducible refine Calls.mono (FOC _) ?_); rintro e w' ⟨rfl, yy, rfl⟩)
      generalize hY : yy.w.alloc _ = Y1
      have bY := new_blk hY
      obtain ⟨y1, hy1⟩ : ∃ y : Ext W, y.w = Y1 := ⟨yy.alloc _, hY⟩
      generalize yy.w.heap.size = B1 at *
      clear hY yy FOC
      rw [← hy1] at bY ⊢
      clear hy1 Y1
      refine Calls.mono (PWC y1) ?_
      clear PWC m0
      rintro e w' ⟨v, zz, rfl, rfl, own⟩
      obtain ⟨g, c1, rfl, row, hcap, _⟩ := own_some own (by simp [sls])
      have m1 : ∀ u : Ext zz.w, u.w.cell? ⟨B1, 1, none⟩ = some (.int .i64 19) := fun u => blk_cell ((zz.trans u).blk bY) 1
      have g0 : ∀ u : Ext zz.w, u.w.cell? ⟨g, 0, none⟩ = some (.slice (some ⟨b, o + 1, none⟩) A.enc.length A.enc.length) := fun u => u.cell (row_at row 0 _ rfl)
      clear bY own row hcap
      rw [show (sls b (o + 1) [A]).length = 1 from rfl]
      obtain ⟨yy, hyy⟩ : ∃ u : Ext zz.w, u.w = zz.w := ⟨Ext.self _, rfl⟩
      rw [← hyy]
      clear hyy
      go_wp2_with ((go_at_call 183; (with_reducible refine Calls.mono (HH _ yy) ?_); rintro e w' ⟨rfl, yh, rfl⟩))
      go_ret
      exact ⟨rfl, y1.trans (zz.trans yh), rfl⟩

theorem bit_all : ∀ n : Nat, n < 16 → (65535 : Nat).testBit n = true := by decide
theorem countOf_ans (T : Ty) (hok : T.Ok) (hd : T.Data) (hcl : T.Cl) {W : World} (F : Forms W) {b o c : Nat} (hr : Row W (Value.int .i64) (some ⟨b, o, none⟩) T.enc) (hl : T.enc.length ≤ 40) (hc : T.enc.length ≤ c) (x : Ext W) :
    Calls Tryd.prog 132 #[.slice (some ⟨b, o, none⟩) T.enc.length c] x.w (Ans W (.int .i64 T.cnt)) := by
  have C := countApart_ans (S := fun _ => true) (sv := 65535) (fun g h0 h1 U y => by
    obtain ⟨n, rfl⟩ := Int.eq_ofNat_of_zero_le h0
    have := has_ans 65535 n (by omega) (by omega) y
    rw [bit_all n (by omega)] at this
    exact this) T hok hd hcl F hr hl hc x
  rw [Ty.cntA_all (fun _ => rfl)] at C
  go_enter Tryd.func132, Tryd.ntmps132
  go_wp2_with fail
  refine Calls.mono C ?_
  rintro e w' ⟨rfl, y, rfl⟩
  go_wp2_with fail
  go_ret
  exact ⟨rfl, y, rfl⟩
end Go.Proofs.YtoefeijnnnioeaaDoor

/- CountValues, of the program and of the model. -/
namespace Go.Proofs.YtoefeijnnnioeaaDoor
open Go.RowKit

/-- What CountValues answers. -/
def CntV (s : Sys) (l : List Int) (v : Int) : Prop := (IsDataP s l ∧ ∃ T : Ty, T.Ok ∧ T.Data ∧ l = T.enc ∧ ((T.cnt ≤ 300 ∧ v = T.cnt) ∨ (300 < T.cnt ∧ v = -1))) ∨ (¬ IsDataP s l ∧ v = -1)
theorem IsDataP.tree {s : Sys} {l : List Int} (h : IsDataP s l) : ∃ T : Ty, T.Ok ∧ T.Data ∧ l = T.enc ∧ T.enc.length ≤ 40 := by
  obtain ⟨T, h1, h2⟩ := h.1.2.1.tree
  refine ⟨T, h1, Ty.data_of h1 (by rw [← h2]; exact h.2), h2, ?_⟩
  rw [← h2]
  exact h.1.2.1.1
theorem cntV_ex (s : Sys) (l : List Int) : ∃ v, CntV s l v := by
  by_cases h : IsDataP s l
  · obtain ⟨T, h1, h2, h3, h4⟩ := h.tree
    by_cases hc : T.cnt ≤ 300
    · exact ⟨_, .inl ⟨h, T, h1, h2, h3, .inl ⟨hc, rfl⟩⟩⟩
    · exact ⟨_, .inl ⟨h, T, h1, h2, h3, .inr ⟨by omega, rfl⟩⟩⟩
  · exact ⟨-1, .inr ⟨h, rfl⟩⟩

set_option maxHeartbeats 4000000 in
theorem countValues_ans {W : World} (FO : Forms W) {r : Ref} {s : Sys} (h : SysIn W r s) {b o c : Nat} {l : List Int} (hl : l.length ≤ 1099511627776) {a : Option Addr} (hr : Row W (Value.int .i64) a l) (hw : CodesB l) (hc : l.length ≤ c) (ha : l ≠ [] → a = some ⟨b, o, none⟩) (v : Int) (hv : CntV s l v) (x : Ext W) :
    Calls Tryd.prog 101 #[r.val s, .slice a l.length c] x.w (Ans W (.int .i64 v)) := by
  unfold Ref.val
  rcases hv with ⟨hd, T, hok, hdt, rfl, hv⟩ | ⟨hd, rfl⟩
  · have HD := Lib.hid hd
    have hl40 : T.enc.length ≤ 40 := hd.1.2.1.1
    have hcl : T.Cl := Ty.cl_of hok hd.1.2.2
    obtain rfl : a = some ⟨b, o, none⟩ := ha (by exact fun e => by have := T.enc_pos; rw [e] at this; simp at this)
    clear hd ha
    go_enter Tryd.func101, Tryd.ntmps101
    go_wp2_with fail
    generalize hW : x.w.alloc _ = W1
    generalize hB : x.w.heap.size = B
    obtain ⟨c0, c1, c2, c3, h1, hback, yy, hy0⟩ := boxed h x hB hW
    have hrow : Row W1 (Value.int .i64) (some ⟨b, o, none⟩) T.enc := by rw [← hW]; exact hr.ext (x.alloc _)
    have FF : Forms W1 := by rw [← hW]; exact FO.ext (x.alloc _)
    clear hW hB
    rw [← hy0]
    clear hy0
    have CT : ∀ y : Ext W1, Calls Tryd.prog 132 #[.slice (some ⟨b, o, none⟩) T.enc.length c] y.w (Ans W1 (.int .i64 (T.cnt : Nat))) := fun y => by
      exact Calls.mono (countOf_ans T hok hdt hcl (FF.ext y) (hrow.ext y) hl40 hc (Ext.self y.w)) fun _ _ q => ans_lift (z := y) q
    have HOK := Lib.hid hok
    have HDT := Lib.hid hdt
    clear hok hdt hl40
    rcases hv with ⟨hv, rfl⟩ | ⟨hv, rfl⟩
    · have hv' : ¬ (300 : Int) < (T.cnt : Int) := by omega
      go_wp2_with (first | (go_at_call 80; with_reducible refine Calls.mono (isData_ans h1 FF hrow hw hl true (by refine iff_tf ?_; dsimp only; exact HD.out) _) ?_; rintro e w' ⟨rfl, yy, rfl⟩) | (go_at_call 132; (with_reducible refine Calls.mono (CT _) ?_); rintro e w' ⟨rfl, yy, rfl⟩))
      go_ret
      exact ⟨rfl, hback yy⟩
    · have hv' : (300 : Int) < (T.cnt : Int) := by omega
      go_wp2_with (first | (go_at_call 80; with_reducible refine Calls.mono (isData_ans h1 FF hrow hw hl true (by refine iff_tf ?_; dsimp only; exact HD.out) _) ?_; rintro e w' ⟨rfl, yy, rfl⟩) | (go_at_call 132; (with_reducible refine Calls.mono (CT _) ?_); rintro e w' ⟨rfl, yy, rfl⟩))
      go_ret
      exact ⟨rfl, hback yy⟩
  · have HD := Lib.hid hd
    clear hd
    go_enter Tryd.func101, Tryd.ntmps101
    go_wp2_with fail
    generalize hW : x.w.alloc _ = W1
    generalize hB : x.w.heap.size = B
    obtain ⟨c0, c1, c2, c3, h1, hback, yy, hy0⟩ := boxed h x hB hW
    have hrow : Row W1 (Value.int .i64) a l := by rw [← hW]; exact hr.ext (x.alloc _)
    have FF : Forms W1 := by rw [← hW]; exact FO.ext (x.alloc _)
    clear hW hB
    rw [← hy0]
    clear hy0
    go_wp2_with (go_at_call 80; with_reducible refine Calls.mono (isData_ans h1 FF hrow hw hl false (by refine iff_tf ?_; dsimp only; exact HD.out) _) ?_; rintro e w' ⟨rfl, yy, rfl⟩)
    go_ret
    exact ⟨rfl, hback yy⟩

set_option maxHeartbeats 4000000 in
theorem specCountValues_ans {W : World} {r : Ref} {s : Sys} (h : SysIn W r s) {b o c : Nat} {l : List Int} (hl : l.length ≤ 1099511627776) {a : Option Addr} (hr : Row W (Value.int .i64) a l) (hc : l.length ≤ c) (ha : l ≠ [] → a = some ⟨b, o, none⟩) (v : Int) (hv : CntV s l v) (x : Ext W) :
    Calls Tryd.prog 98 #[r.val s, .slice a l.length c] x.w (Ans W (.int .i64 v)) := by
  unfold Ref.val
  rcases hv with ⟨hd, T, hok, hdt, rfl, hv⟩ | ⟨hd, rfl⟩
  · have HD := Lib.hid hd
    have hl40 : T.enc.length ≤ 40 := hd.1.2.1.1
    obtain rfl : a = some ⟨b, o, none⟩ := ha (by exact fun e => by have := T.enc_pos; rw [e] at this; simp at this)
    clear hd ha
    go_enter Tryd.func98, Tryd.ntmps98
    go_wp2_with fail
    generalize hW : x.w.alloc _ = W1
    generalize hB : x.w.heap.size = B
    obtain ⟨c0, c1, c2, c3, h1, hback, yy, hy0⟩ := boxed h x hB hW
    have hrow : Row W1 (Value.int .i64) (some ⟨b, o, none⟩) T.enc := by rw [← hW]; exact hr.ext (x.alloc _)
    clear hW hB
    rw [← hy0]
    clear hy0
    have CT : ∀ y : Ext W1, Calls Tryd.prog 145 #[.slice (some ⟨b, o, none⟩) T.enc.length c] y.w (Ans W1 (.int .i64 (T.cap : Nat))) := fun y => by
      exact Calls.mono (l5Count_ans T hok hdt (hrow.ext y) hl40 hc (Ext.self y.w)) fun _ _ q => ans_lift (z := y) q
    have HOK := Lib.hid hok
    have HDT := Lib.hid hdt
    clear hok hdt hl40
    rcases hv with ⟨hv, rfl⟩ | ⟨hv, rfl⟩
    · have he : T.cap = T.cnt := by unfold Ty.cap; omega
      rw [he] at CT
      have hv' : ¬ (300 : Int) < (T.cnt : Int) := by omega
      clear he
      go_wp2_with (first | (go_at_call 76; with_reducible refine Calls.mono (specIsData_ans h1 hrow hl true (by refine iff_tf ?_; dsimp only; exact HD.out) _) ?_; rintro e w' ⟨rfl, yy, rfl⟩) | (go_at_call 145; (with_reducible refine Calls.mono (CT _) ?_); rintro e w' ⟨rfl, yy, rfl⟩))
      go_ret
      exact ⟨rfl, hback yy⟩
    · have he : T.cap = 301 := by unfold Ty.cap; omega
      rw [he] at CT
      clear he
      go_wp2_with (first | (go_at_call 76; with_reducible refine Calls.mono (specIsData_ans h1 hrow hl true (by refine iff_tf ?_; dsimp only; exact HD.out) _) ?_; rintro e w' ⟨rfl, yy, rfl⟩) | (go_at_call 145; (with_reducible refine Calls.mono (CT _) ?_); rintro e w' ⟨rfl, yy, rfl⟩))
      go_ret
      exact ⟨rfl, hback yy⟩
  · have HD := Lib.hid hd
    clear hd
    go_enter Tryd.func98, Tryd.ntmps98
    go_wp2_with fail
    generalize hW : x.w.alloc _ = W1
    generalize hB : x.w.heap.size = B
    obtain ⟨c0, c1, c2, c3, h1, hback, yy, hy0⟩ := boxed h x hB hW
    have hrow : Row W1 (Value.int .i64) a l := by rw [← hW]; exact hr.ext (x.alloc _)
    clear hW hB
    rw [← hy0]
    clear hy0
    go_wp2_with (go_at_call 76; with_reducible refine Calls.mono (specIsData_ans h1 hrow hl false (by refine iff_tf ?_; dsimp only; exact HD.out) _) ?_; rintro e w' ⟨rfl, yy, rfl⟩)
    go_ret
    exact ⟨rfl, hback yy⟩

end Go.Proofs.YtoefeijnnnioeaaDoor
