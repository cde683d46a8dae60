
/- PlaceOf, of the program and of the model. -/
import Derived.Test.YtoefeijnnnioeaaDoorKPlcAtS
import Derived.Test.YtoefeijnnnioeaaDoorKValTop
import Derived.Test.YtoefeijnnnioeaaDoorKAtM
import Derived.Test.YtoefeijnnnioeaaDoorKSameA
set_option linter.unusedVariables false
set_option linter.unusedSimpArgs false
namespace Go.Proofs.YtoefeijnnnioeaaDoor
open Go.RowKit

set_option maxRecDepth 100000 in
set_option maxHeartbeats 8000000 in
theorem placeTop_ans {W : World} (FO : Forms W) (TF : TForms W) {r : Ref} {s : Sys} (h : SysIn W r s) {b o c : Nat} {l : List Int} (hl : l.length ≤ 1099511627776) {a : Option Addr} (hr : Row W (Value.int .i64) a l) (hw : CodesB l) (hc : l.length ≤ c) (ha : l ≠ [] → a = some ⟨b, o, none⟩)
    {lo : Nat} {t : Tm} {q : TV} (k : TmIn W lo t q) (hTB : TmB t) (v : Int) (hv : PlaceV s l t v) (x : Ext W) :
    Calls Tryd.prog 52 #[r.val s, .slice a l.length c, q.val t] x.w (Ans W (.int .i64 v)) := by
  obtain ⟨ta, tc, tb, td⟩ := q
  unfold Ref.val TV.val
  obtain ⟨n, hv, ho⟩ := hv
  have HV := Lib.hid hv
  have HA := Lib.hid ha
  clear hv ha
  rcases ho with ⟨hn, ht, hd, T, hok, hdt, hcl, rfl, hl40, h300, hnT, rfl⟩ | ⟨hno, rfl⟩
  · obtain ⟨b0, o0, rfl, -⟩ := hr.at T.enc_pos
    have HT := Lib.hid ht
    have HD := Lib.hid hd
    have HNT := Lib.hid hnT
    clear ht hd hnT
    go_enter Tryd.func52, Tryd.ntmps52
    go_upto_region 1 with fail
    generalize hW : (x.w.alloc _).alloc _ = W1
    generalize hB : x.w.heap.size = B
    have hb1 := boxedST h k x hB hW
    obtain ⟨c0, c1, c2, c3, d0, d1, d2, d3, h1, k1, hback, yy, hy0⟩ := hb1
    have hrow : Row W1 (Value.int .i64) (some ⟨b0, o0, none⟩) T.enc := by obtain ⟨z, hz⟩ := hback yy; rw [hy0] at hz; rw [hz]; exact hr.ext z
    have FF : Forms W1 := FO.on hback
    have TT : TForms W1 := TF.on hback
    clear hW hB
    rw [← hy0]
    clear hy0
    have CV : ∀ y : Ext W1, Calls Tryd.prog 101 #[r.val s, .slice (some ⟨b0, o0, none⟩) T.enc.length c] y.w (Ans W1 (.int .i64 n)) := fun y => countValues_ans FF (b := b) (o := o) h1 hl hrow hw hc HA.out n HV.out y
    unfold Ref.val at CV
    have TC : ∀ y : Ext W1, Calls Tryd.prog 81 #[r.val s, (TV.mk ta tc tb td).val t, .int .i64 0] y.w (Ans W1 (.bool true)) := fun y => isTerm_ans FF TT h1 k1 hTB 0 true (by refine iff_tf ?_; dsimp only; exact HT.out) y
    unfold Ref.val TV.val at TC
    have VC : ∀ y : Ext W1, Calls Tryd.prog 82 #[.slice (some ⟨b0, o0, none⟩) T.enc.length c, (TV.mk ta tc tb td).val t] y.w (Ans W1 (.int .i64 (Ty.placeI (T.place t)))) := fun y => Calls.mono (placeOf_ans T hok hdt hcl (FF.ext y) (hrow.ext y) hl40 hc (k1.ext y) HT.out.2.2.2 (Ext.self y.w)) fun _ _ q => ans_lift (z := y) q
    unfold TV.val at VC
    have f1 : decide (n < 0) = false := by rw [decide_eq_false_iff_not]; omega
    go_wp2_with (first | (go_at_call 101; (with_reducible refine Calls.mono (CV _) ?_); rintro e w' ⟨rfl, yy, rfl⟩) | (go_at_call 81; (with_reducible refine Calls.mono (TC _) ?_); rintro e w' ⟨rfl, yy, rfl⟩) | (go_at_call 82; (with_reducible refine Calls.mono (VC _) ?_); rintro e w' ⟨rfl, yy, rfl⟩))
    go_ret
    exact ⟨rfl, hback yy⟩
  · by_cases hn : 0 ≤ n
    · have HT : Hid (¬ IsTermP s t 0) := fun z => hno ⟨hn, z⟩
      clear hno
      go_enter Tryd.func52, Tryd.ntmps52
      go_upto_region 1 with fail
      generalize hW : (x.w.alloc _).alloc _ = W1
      generalize hB : x.w.heap.size = B
      have hb1 := boxedST h k x hB hW
      obtain ⟨c0, c1, c2, c3, d0, d1, d2, d3, h1, k1, hback, yy, hy0⟩ := hb1
      have hrow : Row W1 (Value.int .i64) a l := by obtain ⟨z, hz⟩ := hback yy; rw [hy0] at hz; rw [hz]; exact hr.ext z
      have FF : Forms W1 := FO.on hback
      have TT : TForms W1 := TF.on hback
      clear hW hB
      rw [← hy0]
      clear hy0
      have CV : ∀ y : Ext W1, Calls Tryd.prog 101 #[r.val s, .slice a l.length c] y.w (Ans W1 (.int .i64 n)) := fun y => countValues_ans FF (b := b) (o := o) h1 hl hrow hw hc HA.out n HV.out y
      unfold Ref.val at CV
      have TC : ∀ y : Ext W1, Calls Tryd.prog 81 #[r.val s, (TV.mk ta tc tb td).val t, .int .i64 0] y.w (Ans W1 (.bool false)) := fun y => isTerm_ans FF TT h1 k1 hTB 0 false (by refine iff_tf ?_; dsimp only; exact HT.out) y
      unfold Ref.val TV.val at TC
      have f1 : decide (n < 0) = false := by rw [decide_eq_false_iff_not]; omega
      go_wp2_with (first | (go_at_call 101; (with_reducible refine Calls.mono (CV _) ?_); rintro e w' ⟨rfl, yy, rfl⟩) | (go_at_call 81; (with_reducible refine Calls.mono (TC _) ?_); rintro e w' ⟨rfl, yy, rfl⟩))
      go_ret
      exact ⟨rfl, hback yy⟩
    · clear hno
      go_enter Tryd.func52, Tryd.ntmps52
      go_upto_region 1 with fail
      generalize hW : (x.w.alloc _).alloc _ = W1
      generalize hB : x.w.heap.size = B
      have hb1 := boxedST h k x hB hW
      obtain ⟨c0, c1, c2, c3, d0, d1, d2, d3, h1, k1, hback, yy, hy0⟩ := hb1
      have hrow : Row W1 (Value.int .i64) a l := by obtain ⟨z, hz⟩ := hback yy; rw [hy0] at hz; rw [hz]; exact hr.ext z
      have FF : Forms W1 := FO.on hback
      have TT : TForms W1 := TF.on hback
      clear hW hB
      rw [← hy0]
      clear hy0
      have CV : ∀ y : Ext W1, Calls Tryd.prog 101 #[r.val s, .slice a l.length c] y.w (Ans W1 (.int .i64 n)) := fun y => countValues_ans FF (b := b) (o := o) h1 hl hrow hw hc HA.out n HV.out y
      unfold Ref.val at CV
      have f1 : n < 0 := by omega
      go_wp2_with ((go_at_call 101; (with_reducible refine Calls.mono (CV _) ?_); rintro e w' ⟨rfl, yy, rfl⟩))
      go_ret
      exact ⟨rfl, hback yy⟩

set_option maxRecDepth 100000 in
set_option maxHeartbeats 8000000 in
theorem specPlaceOf_ans {W : World} {r : Ref} {s : Sys} (h : SysIn W r s) {b o c : Nat} {l : List Int} (hl : l.length ≤ 1099511627776) {a : Option Addr} (hr : Row W (Value.int .i64) a l) (hc : l.length ≤ c) (ha : l ≠ [] → a = some ⟨b, o, none⟩)
    {lo : Nat} {t : Tm} {q : TV} (k : TmIn W lo t q) (hwt : t.wt ≤ 1099511627776) (v : Int) (hv : PlaceV s l t v) (x : Ext W) :
    Calls Tryd.prog 51 #[r.val s, .slice a l.length c, q.val t] x.w (Ans W (.int .i64 v)) := by
  obtain ⟨ta, tc, tb, td⟩ := q
  unfold Ref.val TV.val
  obtain ⟨n, hv, ho⟩ := hv
  have HV := Lib.hid hv
  have HA := Lib.hid ha
  clear hv ha
  rcases ho with ⟨hn, ht, hd, T, hok, hdt, hcl, rfl, hl40, h300, hnT, rfl⟩ | ⟨hno, rfl⟩
  · obtain ⟨b0, o0, rfl, -⟩ := hr.at T.enc_pos
    have HT := Lib.hid ht
    have HD := Lib.hid hd
    have HNT := Lib.hid hnT
    clear ht hd hnT
    cases hpl : T.place t with
    | none =>
      have HIS : Hid (¬ IsValP s T.enc t) := fun z => by have := isVal_yes hok z; rw [hpl] at this; cases this
      rw [show Ty.placeI none = -1 from rfl]
      clear hpl
      go_enter Tryd.func51, Tryd.ntmps51
      go_upto_region 1 with fail
      generalize hW : (x.w.alloc _).alloc _ = W1
      generalize hB : x.w.heap.size = B
      have hb1 := boxedST h k x hB hW
      obtain ⟨c0, c1, c2, c3, d0, d1, d2, d3, h1, k1, hback, yy, hy0⟩ := hb1
      have hrow : Row W1 (Value.int .i64) (some ⟨b0, o0, none⟩) T.enc := by obtain ⟨z, hz⟩ := hback yy; rw [hy0] at hz; rw [hz]; exact hr.ext z
      clear hW hB
      rw [← hy0]
      clear hy0
      have CV : ∀ y : Ext W1, Calls Tryd.prog 98 #[r.val s, .slice (some ⟨b0, o0, none⟩) T.enc.length c] y.w (Ans W1 (.int .i64 n)) := fun y => specCountValues_ans (b := b) (o := o) h1 hl hrow hc HA.out n HV.out y
      unfold Ref.val at CV
      have TC : ∀ y : Ext W1, Calls Tryd.prog 29 #[r.val s, .slice (some ⟨b0, o0, none⟩) T.enc.length c, (TV.mk ta tc tb td).val t] y.w (Ans W1 (.bool false)) := fun y => specIsValue_ans (b := b) (o := o) h1 hl hrow hc HA.out k1 hwt false (by simpa using HIS.out) y
      unfold Ref.val TV.val at TC
      go_wp2_with (first | (go_at_call 98; (with_reducible refine Calls.mono (CV _) ?_); rintro e w' ⟨rfl, yy, rfl⟩) | (go_at_call 29; (with_reducible refine Calls.mono (TC _) ?_); rintro e w' ⟨rfl, yy, rfl⟩))
      go_ret
      exact ⟨rfl, hback yy⟩
    | some pl =>
      have PLC : Hid (pl < T.cnt) := T.place_lt HT.out.2.2.2 hpl
      have ATP : Hid (T.at_ pl = t) := (T.at_place hdt HT.out.2.2.2 hpl).symm
      have NEP : Hid (∀ j, j < pl → T.at_ j ≠ t) := fun j hj e => by
        have h1 := T.place_at hdt (k := j) (Nat.lt_trans hj PLC.out)
        rw [e, hpl] at h1
        have := Option.some.inj h1
        omega
      have HIS : Hid (IsValP s T.enc t) := ⟨HD.out, HT.out, T, hok, hdt, rfl, by rw [hpl]; rfl⟩
      rw [show Ty.placeI (some pl) = (pl : Int) from rfl]
      clear hpl
      go_enter Tryd.func51, Tryd.ntmps51
      go_upto_region 1 with fail
      generalize hW : (x.w.alloc _).alloc _ = W1
      generalize hB : x.w.heap.size = B
      have hb1 := boxedST h k x hB hW
      obtain ⟨c0, c1, c2, c3, d0, d1, d2, d3, h1, k1, hback, yy, hy0⟩ := hb1
      have hrow : Row W1 (Value.int .i64) (some ⟨b0, o0, none⟩) T.enc := by obtain ⟨z, hz⟩ := hback yy; rw [hy0] at hz; rw [hz]; exact hr.ext z
      clear hW hB
      rw [← hy0]
      clear hy0
      have CV : ∀ y : Ext W1, Calls Tryd.prog 98 #[r.val s, .slice (some ⟨b0, o0, none⟩) T.enc.length c] y.w (Ans W1 (.int .i64 n)) := fun y => specCountValues_ans (b := b) (o := o) h1 hl hrow hc HA.out n HV.out y
      unfold Ref.val at CV
      have TC : ∀ y : Ext W1, Calls Tryd.prog 29 #[r.val s, .slice (some ⟨b0, o0, none⟩) T.enc.length c, (TV.mk ta tc tb td).val t] y.w (Ans W1 (.bool true)) := fun y => specIsValue_ans (b := b) (o := o) h1 hl hrow hc HA.out k1 hwt true (by simpa using HIS.out) y
      unfold Ref.val TV.val at TC
      have AT : Hid (∀ (y : Ext W1) (i : Nat), i < T.cnt → Calls Tryd.prog 99 #[.slice (some ⟨b0, o0, none⟩) T.enc.length c, .int .i64 i] y.w (NewTmO y.w (T.at_ i))) := fun y i hi => l5At_ans T hok hdt hi (by omega) (hrow.ext y) hl40 hc (Ext.self y.w)
      have EQ : Hid (∀ (y : Ext W1) (i : Nat) (z : TV) (lo' : Nat) (b : Bool), TmIn y.w lo' (T.at_ i) z → (b = true ↔ T.at_ i = t) → Calls Tryd.prog 104 #[z.val (T.at_ i), (TV.mk ta tc tb td).val t] y.w (Ans y.w (.bool b))) := fun y i z lo' b hz hb => l2Equal_ans (T.at_ i) hz (k1.ext y) (by have := T.at_wt i hl40; omega) b hb (Ext.self y.w)
      unfold TV.val at EQ
      have hpc : pl < T.cnt := PLC.out
      have hnp : n = (T.cnt : Int) := HNT.out
      have DD : Hid (∀ w', (∃ y : Ext W1, w' = y.w) → w'.cell? ⟨B + 1, 0, none⟩ = some (.int .i64 t.op) ∧ w'.cell? ⟨B + 1, 1, none⟩ = some (.int .i64 t.n) ∧ w'.cell? ⟨B + 1, 2, none⟩ = some (.slice ta t.ty.length tc) ∧ w'.cell? ⟨B + 1, 3, none⟩ = some (.slice tb t.kids.length td)) := by rintro w' ⟨y, rfl⟩; exact ⟨d0 y, d1 y, d2 y, d3 y⟩
      clear hok hdt hcl
      go_wp2_with (first | (go_at_call 98; (with_reducible refine Calls.mono (CV _) ?_); rintro e w' ⟨rfl, yy, rfl⟩) | (go_at_call 29; (with_reducible refine Calls.mono (TC _) ?_); rintro e w' ⟨rfl, yy, rfl⟩))
      clear CV TC c0 c1 c2 c3 d0 d1 d2 d3
      go_loopw [8] (fun i wr => ∃ j : Nat, i = .int .i64 j ∧ j ≤ pl ∧ ∃ y : Ext W1, wr = y.w) (fun i _ => pl - (intOf i).toNat)
      case atStart => exact ⟨0, rfl, by omega, yy, rfl⟩
      case round =>
        obtain ⟨j, rfl, hj, yy, rfl⟩ := hrel
        have hlt : (j : Int) < n := by omega
        have A := AT.out yy.drew j (by omega)
        unfold NewTmO TV.val at A
        by_cases hjp : j = pl
        · subst hjp
          have hcell := DD.out
          go_wp2_with fail
          go_region_held3 (fun w' => w'.cell? ⟨B + 1, 0, none⟩ = some (.int .i64 t.op) ∧ w'.cell? ⟨B + 1, 1, none⟩ = some (.int .i64 t.n) ∧ w'.cell? ⟨B + 1, 2, none⟩ = some (.slice ta t.ty.length tc) ∧ w'.cell? ⟨B + 1, 3, none⟩ = some (.slice tb t.kids.length td)) ((refine DD.out _ ?_; first | exact ⟨yy, rfl⟩ | exact ⟨yy.drew, rfl⟩ | exact ⟨yy.drew.trans u1, rfl⟩ | exact ⟨(yy.drew.trans u1).trans u2, rfl⟩))
            (first | (go_at_call 99; refine Calls.mono A ?_; rintro e w' ⟨rz, BZ, u1, rfl, rfl, own1, -⟩) | (go_at_call 104; refine Calls.mono (EQ.out (yy.drew.trans u1) j rz 0 true (own1.tm (fun g _ => Nat.zero_le g)) (by simp [ATP.out])) ?_; rintro e w' ⟨rfl, u2, rfl⟩))
          go_wp2_with fail
          go_ret
          exact ⟨rfl, hback ((yy.drew.trans u1).trans u2)⟩
        · have hne : T.at_ j ≠ t := NEP.out j (by omega)
          have hcell := DD.out
          go_wp2_with fail
          go_region_held3 (fun w' => w'.cell? ⟨B + 1, 0, none⟩ = some (.int .i64 t.op) ∧ w'.cell? ⟨B + 1, 1, none⟩ = some (.int .i64 t.n) ∧ w'.cell? ⟨B + 1, 2, none⟩ = some (.slice ta t.ty.length tc) ∧ w'.cell? ⟨B + 1, 3, none⟩ = some (.slice tb t.kids.length td)) ((refine DD.out _ ?_; first | exact ⟨yy, rfl⟩ | exact ⟨yy.drew, rfl⟩ | exact ⟨yy.drew.trans u1, rfl⟩ | exact ⟨(yy.drew.trans u1).trans u2, rfl⟩))
            (first | (go_at_call 99; refine Calls.mono A ?_; rintro e w' ⟨rz, BZ, u1, rfl, rfl, own1, -⟩) | (go_at_call 104; refine Calls.mono (EQ.out (yy.drew.trans u1) j rz 0 false (own1.tm (fun g _ => Nat.zero_le g)) (by simp [hne])) ?_; rintro e w' ⟨rfl, u2, rfl⟩))
          go_wp2_with fail
          go_roundw
          case rel => exact ⟨j + 1, by go_num, by omega, (yy.drew.trans u1).trans u2, rfl⟩
          case measure => simp [intOf]; omega
  · by_cases hn : 0 ≤ n
    · have HT : Hid (¬ IsTermP s t 0) := fun z => hno ⟨hn, z⟩
      clear hno
      have HIS : Hid (¬ IsValP s l t) := fun z => HT.out z.2.1
      go_enter Tryd.func51, Tryd.ntmps51
      go_upto_region 1 with fail
      generalize hW : (x.w.alloc _).alloc _ = W1
      generalize hB : x.w.heap.size = B
      have hb1 := boxedST h k x hB hW
      obtain ⟨c0, c1, c2, c3, d0, d1, d2, d3, h1, k1, hback, yy, hy0⟩ := hb1
      have hrow : Row W1 (Value.int .i64) a l := by obtain ⟨z, hz⟩ := hback yy; rw [hy0] at hz; rw [hz]; exact hr.ext z
      clear hW hB
      rw [← hy0]
      clear hy0
      have CV : ∀ y : Ext W1, Calls Tryd.prog 98 #[r.val s, .slice a l.length c] y.w (Ans W1 (.int .i64 n)) := fun y => specCountValues_ans (b := b) (o := o) h1 hl hrow hc HA.out n HV.out y
      unfold Ref.val at CV
      have TC : ∀ y : Ext W1, Calls Tryd.prog 29 #[r.val s, .slice a l.length c, (TV.mk ta tc tb td).val t] y.w (Ans W1 (.bool false)) := fun y => specIsValue_ans (b := b) (o := o) h1 hl hrow hc HA.out k1 hwt false (by simpa using HIS.out) y
      unfold Ref.val TV.val at TC
      go_wp2_with (first | (go_at_call 98; (with_reducible refine Calls.mono (CV _) ?_); rintro e w' ⟨rfl, yy, rfl⟩) | (go_at_call 29; (with_reducible refine Calls.mono (TC _) ?_); rintro e w' ⟨rfl, yy, rfl⟩))
      go_ret
      exact ⟨rfl, hback yy⟩
    · clear hno
      by_cases hiv : IsValP s l t
      · have HIS := Lib.hid hiv
        clear hiv
        go_enter Tryd.func51, Tryd.ntmps51
        go_upto_region 1 with fail
        generalize hW : (x.w.alloc _).alloc _ = W1
        generalize hB : x.w.heap.size = B
        have hb1 := boxedST h k x hB hW
        obtain ⟨c0, c1, c2, c3, d0, d1, d2, d3, h1, k1, hback, yy, hy0⟩ := hb1
        have hrow : Row W1 (Value.int .i64) a l := by obtain ⟨z, hz⟩ := hback yy; rw [hy0] at hz; rw [hz]; exact hr.ext z
        clear hW hB
        rw [← hy0]
        clear hy0
        have CV : ∀ y : Ext W1, Calls Tryd.prog 98 #[r.val s, .slice a l.length c] y.w (Ans W1 (.int .i64 n)) := fun y => specCountValues_ans (b := b) (o := o) h1 hl hrow hc HA.out n HV.out y
        unfold Ref.val at CV
        have TC : ∀ y : Ext W1, Calls Tryd.prog 29 #[r.val s, .slice a l.length c, (TV.mk ta tc tb td).val t] y.w (Ans W1 (.bool true)) := fun y => specIsValue_ans (b := b) (o := o) h1 hl hrow hc HA.out k1 hwt true (by simpa using HIS.out) y
        unfold Ref.val TV.val at TC
        have f1 : ¬ (0 : Int) < n := by omega
        go_wp2_with (first | (go_at_call 98; (with_reducible refine Calls.mono (CV _) ?_); rintro e w' ⟨rfl, yy, rfl⟩) | (go_at_call 29; (with_reducible refine Calls.mono (TC _) ?_); rintro e w' ⟨rfl, yy, rfl⟩))
        go_loopw [8] (fun i wr => i = .int .i64 0 ∧ ∃ y : Ext W1, wr = y.w) (fun _ _ => 0)
        case atStart => exact ⟨rfl, yy, rfl⟩
        case round =>
          obtain ⟨rfl, yy, rfl⟩ := hrel
          go_wp2_with fail
          go_ret
          exact ⟨rfl, hback yy⟩
      · have HIS := Lib.hid hiv
        clear hiv
        go_enter Tryd.func51, Tryd.ntmps51
        go_upto_region 1 with fail
        generalize hW : (x.w.alloc _).alloc _ = W1
        generalize hB : x.w.heap.size = B
        have hb1 := boxedST h k x hB hW
        obtain ⟨c0, c1, c2, c3, d0, d1, d2, d3, h1, k1, hback, yy, hy0⟩ := hb1
        have hrow : Row W1 (Value.int .i64) a l := by obtain ⟨z, hz⟩ := hback yy; rw [hy0] at hz; rw [hz]; exact hr.ext z
        clear hW hB
        rw [← hy0]
        clear hy0
        have CV : ∀ y : Ext W1, Calls Tryd.prog 98 #[r.val s, .slice a l.length c] y.w (Ans W1 (.int .i64 n)) := fun y => specCountValues_ans (b := b) (o := o) h1 hl hrow hc HA.out n HV.out y
        unfold Ref.val at CV
        have TC : ∀ y : Ext W1, Calls Tryd.prog 29 #[r.val s, .slice a l.length c, (TV.mk ta tc tb td).val t] y.w (Ans W1 (.bool false)) := fun y => specIsValue_ans (b := b) (o := o) h1 hl hrow hc HA.out k1 hwt false (by simpa using HIS.out) y
        unfold Ref.val TV.val at TC
        go_wp2_with (first | (go_at_call 98; (with_reducible refine Calls.mono (CV _) ?_); rintro e w' ⟨rfl, yy, rfl⟩) | (go_at_call 29; (with_reducible refine Calls.mono (TC _) ?_); rintro e w' ⟨rfl, yy, rfl⟩))
        go_ret
        exact ⟨rfl, hback yy⟩

end Go.Proofs.YtoefeijnnnioeaaDoor
