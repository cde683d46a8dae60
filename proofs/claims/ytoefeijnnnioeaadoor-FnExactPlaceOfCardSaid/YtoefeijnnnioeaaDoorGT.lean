/- Texts of one claim, laid together: PlaceA, PlaceB1, PlaceB2, PlaceB3, PlaceB4, PlaceC1, PlaceC2, PlaceC3, PlaceC4, PlaceC5, PlaceC6, PlaceD, PlaceP. -/
import Derived.Test.YtoefeijnnnioeaaDoorGW
import Derived.Test.YtoefeijnnnioeaaDoorGA
import Derived.Deep.RegionHeld3
import Derived.RegionTactic
import Derived.Deep.Cut
import Derived.Test.YtoefeijnnnioeaaDoorKSameA
set_option linter.unusedVariables false
set_option linter.unusedSimpArgs false

/- Places of values, by the program: leaves. -/
set_option linter.unusedVariables false
namespace Go.Proofs.YtoefeijnnnioeaaDoor
open Go.RowKit

/-- One of two values with what belongs to it, of two arguments. -/
inductive Either2 (va wa : Value) (ka : Int) (vb wb : Value) (kb : Int) : Value → Value → Int → Prop
  | a : Either2 va wa ka vb wb kb va wa ka
  | b : Either2 va wa ka vb wb kb vb wb kb
theorem placeI_none : Ty.placeI none = -1 := rfl
theorem placeI_some (p : Nat) : Ty.placeI (some p) = p := rfl

theorem NodeOk.ty40' {size vars : Int} {closed : Bool} {t : Tm} (h : NodeOk size closed vars t) : t.ty.length ≤ 40 := by
  have := h.tok
  unfold TyOk at this
  split at this
  · exact this.1.1
  · rw [this]; simp

set_option maxRecDepth 100000 in
set_option maxHeartbeats 16000000 in
theorem placeLeaf (hok : Ty.leaf.Ok) (hd : Ty.leaf.Data) (hcl : Ty.leaf.Cl) {W : World} (FO : Forms W) {b o c : Nat} (hr : Row W (Value.int .i64) (some ⟨b, o, none⟩) Ty.leaf.enc) (hl : Ty.leaf.enc.length ≤ 40) (hc : Ty.leaf.enc.length ≤ c)
    {lo : Nat} {v : Tm} {r : TV} (hv : TmIn W lo v r) {size vars : Int} {closed : Bool} (ok : OkT size closed vars v) (x : Ext W) :
    Calls Tryd.prog 82 #[.slice (some ⟨b, o, none⟩) Ty.leaf.enc.length c, r.val v] x.w (Ans W (.int .i64 (Ty.placeI (Ty.leaf.place v)))) := by
  obtain ⟨ra, rc, rb, rd⟩ := r
  unfold TV.val
  by_cases ho : v.op = 1
  · have hn : (0 : Int) ≤ v.n := by
      have := ok.node.nok
      unfold NOk at this
      rw [if_neg (by omega), if_pos ho] at this
      exact this.1
    rw [Ty.place_leaf ho, show Ty.placeI (some v.n.toNat) = v.n from by simp only [Ty.placeI]; omega]
    have HO := Lib.hid ho
    clear ho hn
    go_enter Tryd.func82, Tryd.ntmps82
    go_upto_region 1 with fail
    generalize hW : x.w.alloc _ = W1
    generalize hB : x.w.heap.size = BQ
    obtain ⟨c0, c1, c2, c3, h1, hback, yy, hy0⟩ := boxedT hv x hB hW
    have hr1 : Row W1 (Value.int .i64) (some ⟨b, o, none⟩) Ty.leaf.enc := by rw [← hW]; exact hr.ext (x.alloc _)
    have F1 : Forms W1 := by rw [← hW]; exact FO.ext (x.alloc _)
    clear hW hB
    rw [← hy0]
    clear hy0
    obtain ⟨f0, f2, f3, f4, f6, FOC⟩ := form_some F1 (0) 0 rfl
    have PWC : ∀ y1 : Ext W1, Calls Tryd.prog 131 #[.slice (some ⟨b, o, none⟩) Ty.leaf.enc.length c] y1.w (NewRow y1.w 51 22 id (sls b (o + 1) [])) := fun y1 => partsWithin_ans (W := y1.w) (F1.ext y1) (cc := 0) (ps := []) (by simp) (l := Ty.leaf.enc) rfl (hr1.ext y1) (by omega) (Ty.le36 hok) hc (Ext.self y1.w)
    have m0 : ∀ y : Ext W1, y.w.cell? ⟨b, o, none⟩ = some (.int .i64 (0)) := fun y => y.cell (row_head hr1 (l' := []) rfl)
    have hlen := Ty.len_leaf
    have hlp : 0 < Ty.leaf.enc.length := Ty.enc_pos _
    generalize Ty.leaf.enc.length = len at *
    clear hr hlen hok hd hcl hl hc hr1 hv h1 ok 
    have hlp' : (0 : Int) < (len : Int) := by omega
    have f1 : (v.op == 1) = true := by rw [HO.out]; decide
    go_wp2_with (go_at_call 114; (with_reducible refine Calls.mono (FOC _) ?_); rintro e w' ⟨rfl, yy, rfl⟩)
    generalize hY : yy.w.alloc _ = Y1
    have bY := new_blk hY
    obtain ⟨y1, hy1⟩ : ∃ y : Ext W1, y.w = Y1 := ⟨yy.alloc _, hY⟩
    generalize yy.w.heap.size = B1 at *
    clear hY yy FOC
    rw [← hy1] at bY ⊢
    clear hy1 Y1
    refine Calls.mono (PWC y1) ?_
    clear PWC m0
    rintro e w' ⟨pv, zz, rfl, rfl, own⟩
    have m1 : ∀ u : Ext zz.w, u.w.cell? ⟨B1, 1, none⟩ = some (.int .i64 0) := fun u => blk_cell ((zz.trans u).blk bY) 1
    clear bY own
    obtain ⟨yy, hyy⟩ : ∃ u : Ext zz.w, u.w = zz.w := ⟨Ext.self _, rfl⟩
    rw [← hyy]
    clear hyy
    have n0 : ∀ u : Ext zz.w, u.w.cell? ⟨BQ, 0, none⟩ = some (.int .i64 v.op) := fun u => c0 (y1.trans (zz.trans u))
    have n1 : ∀ u : Ext zz.w, u.w.cell? ⟨BQ, 1, none⟩ = some (.int .i64 v.n) := fun u => c1 (y1.trans (zz.trans u))
    have n2 : ∀ u : Ext zz.w, u.w.cell? ⟨BQ, 2, none⟩ = some (.slice ra v.ty.length rc) := fun u => c2 (y1.trans (zz.trans u))
    have n3 : ∀ u : Ext zz.w, u.w.cell? ⟨BQ, 3, none⟩ = some (.slice rb v.kids.length rd) := fun u => c3 (y1.trans (zz.trans u))
    clear c0 c1 c2 c3
    go_wp2_with fail
    go_ret
    exact ⟨rfl, hback (y1.trans (zz.trans yy))⟩
  · rw [Ty.place_leaf_no ho, show Ty.placeI none = -1 from rfl]
    have HO := Lib.hid ho
    clear ho
    go_enter Tryd.func82, Tryd.ntmps82
    go_upto_region 1 with fail
    generalize hW : x.w.alloc _ = W1
    generalize hB : x.w.heap.size = BQ
    obtain ⟨c0, c1, c2, c3, h1, hback, yy, hy0⟩ := boxedT hv x hB hW
    have hr1 : Row W1 (Value.int .i64) (some ⟨b, o, none⟩) Ty.leaf.enc := by rw [← hW]; exact hr.ext (x.alloc _)
    have F1 : Forms W1 := by rw [← hW]; exact FO.ext (x.alloc _)
    clear hW hB
    rw [← hy0]
    clear hy0
    obtain ⟨f0, f2, f3, f4, f6, FOC⟩ := form_some F1 (0) 0 rfl
    have PWC : ∀ y1 : Ext W1, Calls Tryd.prog 131 #[.slice (some ⟨b, o, none⟩) Ty.leaf.enc.length c] y1.w (NewRow y1.w 51 22 id (sls b (o + 1) [])) := fun y1 => partsWithin_ans (W := y1.w) (F1.ext y1) (cc := 0) (ps := []) (by simp) (l := Ty.leaf.enc) rfl (hr1.ext y1) (by omega) (Ty.le36 hok) hc (Ext.self y1.w)
    have m0 : ∀ y : Ext W1, y.w.cell? ⟨b, o, none⟩ = some (.int .i64 (0)) := fun y => y.cell (row_head hr1 (l' := []) rfl)
    have hlen := Ty.len_leaf
    have hlp : 0 < Ty.leaf.enc.length := Ty.enc_pos _
    generalize Ty.leaf.enc.length = len at *
    clear hr hlen hok hd hcl hl hc hr1 hv h1 ok 
    have hlp' : (0 : Int) < (len : Int) := by omega
    have f1 : (v.op == 1) = false := by have := HO.out; rw [beq_eq_false_iff_ne]; exact this
    go_wp2_with (go_at_call 114; (with_reducible refine Calls.mono (FOC _) ?_); rintro e w' ⟨rfl, yy, rfl⟩)
    generalize hY : yy.w.alloc _ = Y1
    have bY := new_blk hY
    obtain ⟨y1, hy1⟩ : ∃ y : Ext W1, y.w = Y1 := ⟨yy.alloc _, hY⟩
    generalize yy.w.heap.size = B1 at *
    clear hY yy FOC
    rw [← hy1] at bY ⊢
    clear hy1 Y1
    refine Calls.mono (PWC y1) ?_
    clear PWC m0
    rintro e w' ⟨pv, zz, rfl, rfl, own⟩
    have m1 : ∀ u : Ext zz.w, u.w.cell? ⟨B1, 1, none⟩ = some (.int .i64 0) := fun u => blk_cell ((zz.trans u).blk bY) 1
    clear bY own
    obtain ⟨yy, hyy⟩ : ∃ u : Ext zz.w, u.w = zz.w := ⟨Ext.self _, rfl⟩
    rw [← hyy]
    clear hyy
    have n0 : ∀ u : Ext zz.w, u.w.cell? ⟨BQ, 0, none⟩ = some (.int .i64 v.op) := fun u => c0 (y1.trans (zz.trans u))
    have n1 : ∀ u : Ext zz.w, u.w.cell? ⟨BQ, 1, none⟩ = some (.int .i64 v.n) := fun u => c1 (y1.trans (zz.trans u))
    have n2 : ∀ u : Ext zz.w, u.w.cell? ⟨BQ, 2, none⟩ = some (.slice ra v.ty.length rc) := fun u => c2 (y1.trans (zz.trans u))
    have n3 : ∀ u : Ext zz.w, u.w.cell? ⟨BQ, 3, none⟩ = some (.slice rb v.kids.length rd) := fun u => c3 (y1.trans (zz.trans u))
    clear c0 c1 c2 c3
    go_upto_region 9 with fail
    refine region_ext yy (by kernel_rfl) (by kernel_rfl) ?_
    repeat (go_big_quiet_step (fail))
    refine wpQuiet_nil ?_
    rintro _ ⟨yy, rfl⟩
    go_upto_region 11 with fail
    refine region_ext yy (by kernel_rfl) (by kernel_rfl) ?_
    repeat (go_big_quiet_step (fail))
    refine wpQuiet_nil ?_
    rintro _ ⟨yy, rfl⟩
    go_wp2_with fail
    go_ret
    exact ⟨rfl, hback (y1.trans (zz.trans yy))⟩

end Go.Proofs.YtoefeijnnnioeaaDoor

/- Places of values, by the program: pairs. -/
set_option linter.unusedVariables false
namespace Go.Proofs.YtoefeijnnnioeaaDoor
open Go.RowKit

set_option maxRecDepth 100000 in
set_option maxHeartbeats 16000000 in
theorem placePair_n {A B : Ty} (ihA : A.Ok → A.Data → A.Cl → ∀ {W : World} (_ : Forms W) {b o c : Nat} (_ : Row W (Value.int .i64) (some ⟨b, o, none⟩) A.enc) (_ : A.enc.length ≤ 40) (_ : A.enc.length ≤ c) {lo : Nat} {v : Tm} {r : TV} (_ : TmIn W lo v r) {size vars : Int} {closed : Bool} (_ : OkT size closed vars v) (x : Ext W), Calls Tryd.prog 82 #[.slice (some ⟨b, o, none⟩) A.enc.length c, r.val v] x.w (Ans W (.int .i64 (Ty.placeI (A.place v))))) (ihB : B.Ok → B.Data → B.Cl → ∀ {W : World} (_ : Forms W) {b o c : Nat} (_ : Row W (Value.int .i64) (some ⟨b, o, none⟩) B.enc) (_ : B.enc.length ≤ 40) (_ : B.enc.length ≤ c) {lo : Nat} {v : Tm} {r : TV} (_ : TmIn W lo v r) {size vars : Int} {closed : Bool} (_ : OkT size closed vars v) (x : Ext W), Calls Tryd.prog 82 #[.slice (some ⟨b, o, none⟩) B.enc.length c, r.val v] x.w (Ans W (.int .i64 (Ty.placeI (B.place v))))) (hok : (Ty.two 1 A B).Ok) (hd : (Ty.two 1 A B).Data) (hcl : (Ty.two 1 A B).Cl) {W : World} (FO : Forms W) {b o c : Nat} (hr : Row W (Value.int .i64) (some ⟨b, o, none⟩) (Ty.two 1 A B).enc) (hl : (Ty.two 1 A B).enc.length ≤ 40) (hc : (Ty.two 1 A B).enc.length ≤ c)
    {lo : Nat} {v : Tm} {r : TV} (hv : TmIn W lo v r) {size vars : Int} {closed : Bool} (ok : OkT size closed vars v) (ho : v.op = 4) {k0 k1 : Tm} (hk : v.kids = [k0, k1]) (hoa : A.place k0 = none) (ob : Option Nat) (hob : B.place k1 = ob) (x : Ext W) :
    Calls Tryd.prog 82 #[.slice (some ⟨b, o, none⟩) (Ty.two 1 A B).enc.length c, r.val v] x.w (Ans W (.int .i64 (-1))) := by
  obtain ⟨ra, rc, rb, rd⟩ := r
  unfold TV.val
  obtain ⟨qb, hqb⟩ : ∃ z, z = Ty.placeI ob := ⟨_, rfl⟩
  have HQB := Lib.hid hqb
  clear hqb
  have hA := A.enc_pos
  have hB := B.enc_pos
  have hlen := Ty.len_two 1 A B
  have ok0 := ok.kid (i := 0) (k := k0) (by rw [hk]; rfl)
  have ok1 := ok.kid (i := 1) (k := k1) (by rw [hk]; rfl)
  have HO := Lib.hid ho
  have HK := Lib.hid hk
  have HOA := Lib.hid hoa
  have HOB := Lib.hid hob
  clear ho hk hoa hob
  go_enter Tryd.func82, Tryd.ntmps82
  go_upto_region 1 with fail
  generalize hW : x.w.alloc _ = W1
  generalize hB : x.w.heap.size = BQ
  obtain ⟨c0, c1, c2, c3, h1, hback, yy, hy0⟩ := boxedT hv x hB hW
  have hr1 : Row W1 (Value.int .i64) (some ⟨b, o, none⟩) (Ty.two 1 A B).enc := by rw [← hW]; exact hr.ext (x.alloc _)
  have F1 : Forms W1 := by rw [← hW]; exact FO.ext (x.alloc _)
  clear hW hB
  rw [← hy0]
  clear hy0
  have CA : Hid (∀ (y : Ext W1) (k : Tm) (r : TV), TmIn W1 lo k r → (∃ vs, OkT size closed vs k) → Calls Tryd.prog 82 #[.slice (some ⟨b, o + 1, none⟩) A.enc.length A.enc.length, r.val k] y.w (Ans y.w (.int .i64 (Ty.placeI (A.place k))))) := fun y k r hk ⟨vs, okk⟩ => ihA hok.2.1 hd.2.1 hcl.1 (F1.ext y) ((row_two1 hr1).ext y) (by omega) (Nat.le_refl _) (hk.ext y) okk (Ext.self y.w)
  have CB : Hid (∀ (y : Ext W1) (k : Tm) (r : TV), TmIn W1 lo k r → (∃ vs, OkT size closed vs k) → Calls Tryd.prog 82 #[.slice (some ⟨b, o + 1 + A.enc.length, none⟩) B.enc.length B.enc.length, r.val k] y.w (Ans y.w (.int .i64 (Ty.placeI (B.place k))))) := fun y k r hk ⟨vs, okk⟩ => ihB hok.2.2 hd.2.2 hcl.2 (F1.ext y) ((show Row W1 (Value.int .i64) (some ⟨b, o + 1 + A.enc.length, none⟩) B.enc from by rw [Nat.add_assoc]; exact row_two2 hr1).ext y) (by omega) (Nat.le_refl _) (hk.ext y) okk (Ext.self y.w)
  have CNB : Hid (∀ y : Ext W1, Calls Tryd.prog 132 #[.slice (some ⟨b, o + 1 + A.enc.length, none⟩) B.enc.length B.enc.length] y.w (Ans y.w (.int .i64 B.cnt))) := fun y => countOf_ans B hok.2.2 hd.2.2 hcl.2 (F1.ext y) ((show Row W1 (Value.int .i64) (some ⟨b, o + 1 + A.enc.length, none⟩) B.enc from by rw [Nat.add_assoc]; exact row_two2 hr1).ext y) (by omega) (Nat.le_refl _) (Ext.self y.w)
  obtain ⟨kr, AT⟩ := h1.out
  obtain ⟨f0, f2, f3, f4, f6, FOC⟩ := form_some F1 (1) 1 rfl
  have PWC : ∀ y1 : Ext W1, Calls Tryd.prog 131 #[.slice (some ⟨b, o, none⟩) (Ty.two 1 A B).enc.length c] y1.w (NewRow y1.w 51 22 id (sls b (o + 1) [A, B])) := fun y1 => partsWithin_ans (W := y1.w) (F1.ext y1) (cc := 1) (ps := [A, B]) (by intro t ht; simp at ht; rcases ht with rfl | rfl; exact hok.2.1; exact hok.2.2) (l := (Ty.two 1 A B).enc) (by simp [Ty.enc, Ty.encs]) (hr1.ext y1) (by omega) (Ty.le36 hok) hc (Ext.self y1.w)
  have m0 : ∀ y : Ext W1, y.w.cell? ⟨b, o, none⟩ = some (.int .i64 (1)) := fun y => y.cell (row_head hr1 (l' := A.enc ++ B.enc) rfl)
  have hlk : v.kids.length = 2 := by rw [HK.out]; rfl
  have hlk' : (v.kids.length : Int) = 2 := by rw [hlk]; rfl
  have okk0 : Hid (∃ vs, OkT size closed vs k0) := ⟨_, ok0⟩
  have okk1 : Hid (∃ vs, OkT size closed vs k1) := ⟨_, ok1⟩
  have hlp : 0 < (Ty.two 1 A B).enc.length := Ty.enc_pos _
  generalize (Ty.two 1 A B).enc.length = len at *
  clear hr hok hd hcl hl hc hr1 hv h1 ok hA hB hlen ihA ihB ok0 ok1
  have hlp' : (0 : Int) < (len : Int) := by omega
  have f1 : (v.op == 1) = false := by rw [HO.out]; decide
  have f4 : (v.op == 4) = true := by rw [HO.out]; decide
  have f6 : (v.op == 6) = false := by rw [HO.out]; decide
  have f7 : (v.op == 7) = false := by rw [HO.out]; decide
  have f11 : (v.op == 11) = false := by rw [HO.out]; decide
  go_wp2_with (go_at_call 114; (with_reducible refine Calls.mono (FOC _) ?_); rintro e w' ⟨rfl, yy, rfl⟩)
  generalize hY : yy.w.alloc _ = Y1
  have bY := new_blk hY
  obtain ⟨y1, hy1⟩ : ∃ y : Ext W1, y.w = Y1 := ⟨yy.alloc _, hY⟩
  generalize yy.w.heap.size = B1 at *
  clear hY yy FOC
  rw [← hy1] at bY ⊢
  clear hy1 Y1
  refine Calls.mono (PWC y1) ?_
  clear PWC m0
  rintro e w' ⟨pv, zz, rfl, rfl, own⟩
  obtain ⟨g, gc, rfl, row, hcap, _⟩ := own_some own (by simp [sls])
  have m1 : ∀ u : Ext zz.w, u.w.cell? ⟨B1, 1, none⟩ = some (.int .i64 1) := fun u => blk_cell ((zz.trans u).blk bY) 1
  have g0 : ∀ u : Ext zz.w, u.w.cell? ⟨g, 0, none⟩ = some (.slice (some ⟨b, o + 1, none⟩) A.enc.length A.enc.length) := fun u => u.cell (row_at row 0 _ rfl)
  have g1 : ∀ u : Ext zz.w, u.w.cell? ⟨g, 1, none⟩ = some (.slice (some ⟨b, o + 1 + A.enc.length, none⟩) B.enc.length B.enc.length) := fun u => u.cell (row_at row 1 _ rfl)
  clear bY own row hcap
  rw [show (sls b (o + 1) [A, B]).length = 2 from rfl]
  obtain ⟨yy, hyy⟩ : ∃ u : Ext zz.w, u.w = zz.w := ⟨Ext.self _, rfl⟩
  rw [← hyy]
  clear hyy
  have n0 : ∀ u : Ext zz.w, u.w.cell? ⟨BQ, 0, none⟩ = some (.int .i64 v.op) := fun u => c0 (y1.trans (zz.trans u))
  have n1 : ∀ u : Ext zz.w, u.w.cell? ⟨BQ, 1, none⟩ = some (.int .i64 v.n) := fun u => c1 (y1.trans (zz.trans u))
  have n2 : ∀ u : Ext zz.w, u.w.cell? ⟨BQ, 2, none⟩ = some (.slice ra v.ty.length rc) := fun u => c2 (y1.trans (zz.trans u))
  have n3 : ∀ u : Ext zz.w, u.w.cell? ⟨BQ, 3, none⟩ = some (.slice rb v.kids.length rd) := fun u => c3 (y1.trans (zz.trans u))
  clear c0 c1 c2 c3
  obtain ⟨bb, oo, hrb, KK⟩ := AT.kid 0 k0 (by rw [HK.out]; rfl)
  have hs0 := AT.sub 0 k0 (by rw [HK.out]; rfl)
  dsimp only at hrb
  obtain ⟨kb, hkb⟩ : ∃ z, z = bb := ⟨_, rfl⟩
  obtain ⟨ko, hko⟩ : ∃ z, z = oo := ⟨_, rfl⟩
  rw [← hkb, ← hko] at KK hrb
  clear hkb hko bb oo
  have HR := hrb
  clear hrb
  have d00 : ∀ u : Ext zz.w, u.w.cell? ⟨kb, ko, none⟩ = some (.int .i64 k0.op) := fun u => by have := (y1.trans (zz.trans u)).cell KK.c0; simpa using this
  have d01 : ∀ u : Ext zz.w, u.w.cell? ⟨kb, ko + 1, none⟩ = some (.int .i64 k0.n) := fun u => by have := (y1.trans (zz.trans u)).cell KK.c1; simpa using this
  have d02 : ∀ u : Ext zz.w, u.w.cell? ⟨kb, ko + 2, none⟩ = some (.slice (kr 0).a k0.ty.length (kr 0).c) := fun u => by have := (y1.trans (zz.trans u)).cell KK.c2; simpa using this
  have d03 : ∀ u : Ext zz.w, u.w.cell? ⟨kb, ko + 3, none⟩ = some (.slice (kr 0).b k0.kids.length (kr 0).d) := fun u => by have := (y1.trans (zz.trans u)).cell KK.c3; simpa using this
  clear KK
  obtain ⟨bb, oo, hrb, KK⟩ := AT.kid 1 k1 (by rw [HK.out]; rfl)
  have hs1 := AT.sub 1 k1 (by rw [HK.out]; rfl)
  dsimp only at hrb
  rw [HR] at hrb
  obtain ⟨rfl, rfl⟩ : kb = bb ∧ ko = oo := by cases hrb; exact ⟨rfl, rfl⟩
  clear hrb
  have d10 : ∀ u : Ext zz.w, u.w.cell? ⟨kb, ko + 4, none⟩ = some (.int .i64 k1.op) := fun u => by have := (y1.trans (zz.trans u)).cell KK.c0; simpa using this
  have d11 : ∀ u : Ext zz.w, u.w.cell? ⟨kb, ko + 5, none⟩ = some (.int .i64 k1.n) := fun u => by have := (y1.trans (zz.trans u)).cell KK.c1; simpa using this
  have d12 : ∀ u : Ext zz.w, u.w.cell? ⟨kb, ko + 6, none⟩ = some (.slice (kr 1).a k1.ty.length (kr 1).c) := fun u => by have := (y1.trans (zz.trans u)).cell KK.c2; simpa using this
  have d13 : ∀ u : Ext zz.w, u.w.cell? ⟨kb, ko + 7, none⟩ = some (.slice (kr 1).b k1.kids.length (kr 1).d) := fun u => by have := (y1.trans (zz.trans u)).cell KK.c3; simpa using this
  clear KK
  have m3 : ∀ u : Ext zz.w, u.w.cell? ⟨BQ, 3, none⟩ = some (.slice (some ⟨kb, ko, none⟩) 2 rd) := fun u => by rw [n3 u, HR, hlk]
  clear n3 hlk hlk' HR AT
  have CC : ∀ (u : Ext zz.w) (v w : Value) (k : Int), Either2 (.slice (some ⟨b, o + 1, none⟩) A.enc.length A.enc.length) (.agg #[.int .i64 k0.op, .int .i64 k0.n, .slice (kr 0).a k0.ty.length (kr 0).c, .slice (kr 0).b k0.kids.length (kr 0).d]) (-1) (.slice (some ⟨b, o + 1 + A.enc.length, none⟩) B.enc.length B.enc.length) (.agg #[.int .i64 k1.op, .int .i64 k1.n, .slice (kr 1).a k1.ty.length (kr 1).c, .slice (kr 1).b k1.kids.length (kr 1).d]) qb v w k → Calls Tryd.prog 82 #[v, w] u.w (Ans zz.w (.int .i64 k)) := fun u v w k hv => by
    cases hv with
    | a => have := CA.out (y1.trans (zz.trans u)) k0 (kr 0) hs0 okk0.out; rw [HOA.out] at this; exact Calls.mono this fun _ _ q => ans_lift (z := u) q
    | b => have := CB.out (y1.trans (zz.trans u)) k1 (kr 1) hs1 okk1.out; rw [HOB.out, ← HQB.out] at this; exact Calls.mono this fun _ _ q => ans_lift (z := u) q
  have HA : Either2 (.slice (some ⟨b, o + 1, none⟩) A.enc.length A.enc.length) (.agg #[.int .i64 k0.op, .int .i64 k0.n, .slice (kr 0).a k0.ty.length (kr 0).c, .slice (kr 0).b k0.kids.length (kr 0).d]) (-1) (.slice (some ⟨b, o + 1 + A.enc.length, none⟩) B.enc.length B.enc.length) (.agg #[.int .i64 k1.op, .int .i64 k1.n, .slice (kr 1).a k1.ty.length (kr 1).c, .slice (kr 1).b k1.kids.length (kr 1).d]) qb (.slice (some ⟨b, o + 1, none⟩) A.enc.length A.enc.length) (.agg #[.int .i64 k0.op, .int .i64 k0.n, .slice (kr 0).a k0.ty.length (kr 0).c, .slice (kr 0).b k0.kids.length (kr 0).d]) (-1) := .a
  have HB : Either2 (.slice (some ⟨b, o + 1, none⟩) A.enc.length A.enc.length) (.agg #[.int .i64 k0.op, .int .i64 k0.n, .slice (kr 0).a k0.ty.length (kr 0).c, .slice (kr 0).b k0.kids.length (kr 0).d]) (-1) (.slice (some ⟨b, o + 1 + A.enc.length, none⟩) B.enc.length B.enc.length) (.agg #[.int .i64 k1.op, .int .i64 k1.n, .slice (kr 1).a k1.ty.length (kr 1).c, .slice (kr 1).b k1.kids.length (kr 1).d]) qb (.slice (some ⟨b, o + 1 + A.enc.length, none⟩) B.enc.length B.enc.length) (.agg #[.int .i64 k1.op, .int .i64 k1.n, .slice (kr 1).a k1.ty.length (kr 1).c, .slice (kr 1).b k1.kids.length (kr 1).d]) qb := .b
  clear hs0 hs1
  go_upto_region 6 with fail
  refine region_ext yy (by kernel_rfl) (by kernel_rfl) ?_
  repeat (go_big_quiet_step ((go_at_call 82; with_reducible exact CC _ _ _ _ (by assumption))))
  refine wpQuiet_nil ?_
  rintro _ ⟨yy, rfl⟩
  clear CC HA HB m3 n1 n2 d00 d01 d02 d03 d10 d11 d12 d13
  go_wp2_with fail
  go_ret
  exact ⟨rfl, hback (y1.trans (zz.trans yy))⟩

end Go.Proofs.YtoefeijnnnioeaaDoor

/- Places of values, by the program: pairs. -/
set_option linter.unusedVariables false
namespace Go.Proofs.YtoefeijnnnioeaaDoor
open Go.RowKit

set_option maxRecDepth 100000 in
set_option maxHeartbeats 16000000 in
theorem placePair_sn {A B : Ty} (ihA : A.Ok → A.Data → A.Cl → ∀ {W : World} (_ : Forms W) {b o c : Nat} (_ : Row W (Value.int .i64) (some ⟨b, o, none⟩) A.enc) (_ : A.enc.length ≤ 40) (_ : A.enc.length ≤ c) {lo : Nat} {v : Tm} {r : TV} (_ : TmIn W lo v r) {size vars : Int} {closed : Bool} (_ : OkT size closed vars v) (x : Ext W), Calls Tryd.prog 82 #[.slice (some ⟨b, o, none⟩) A.enc.length c, r.val v] x.w (Ans W (.int .i64 (Ty.placeI (A.place v))))) (ihB : B.Ok → B.Data → B.Cl → ∀ {W : World} (_ : Forms W) {b o c : Nat} (_ : Row W (Value.int .i64) (some ⟨b, o, none⟩) B.enc) (_ : B.enc.length ≤ 40) (_ : B.enc.length ≤ c) {lo : Nat} {v : Tm} {r : TV} (_ : TmIn W lo v r) {size vars : Int} {closed : Bool} (_ : OkT size closed vars v) (x : Ext W), Calls Tryd.prog 82 #[.slice (some ⟨b, o, none⟩) B.enc.length c, r.val v] x.w (Ans W (.int .i64 (Ty.placeI (B.place v))))) (hok : (Ty.two 1 A B).Ok) (hd : (Ty.two 1 A B).Data) (hcl : (Ty.two 1 A B).Cl) {W : World} (FO : Forms W) {b o c : Nat} (hr : Row W (Value.int .i64) (some ⟨b, o, none⟩) (Ty.two 1 A B).enc) (hl : (Ty.two 1 A B).enc.length ≤ 40) (hc : (Ty.two 1 A B).enc.length ≤ c)
    {lo : Nat} {v : Tm} {r : TV} (hv : TmIn W lo v r) {size vars : Int} {closed : Bool} (ok : OkT size closed vars v) (ho : v.op = 4) {k0 k1 : Tm} (hk : v.kids = [k0, k1]) (pa : Nat) (hoa : A.place k0 = some pa) (hob : B.place k1 = none) (x : Ext W) :
    Calls Tryd.prog 82 #[.slice (some ⟨b, o, none⟩) (Ty.two 1 A B).enc.length c, r.val v] x.w (Ans W (.int .i64 (-1))) := by
  obtain ⟨ra, rc, rb, rd⟩ := r
  unfold TV.val
  have hp0 : (0 : Int) ≤ (pa : Int) := by omega
  have hA := A.enc_pos
  have hB := B.enc_pos
  have hlen := Ty.len_two 1 A B
  have ok0 := ok.kid (i := 0) (k := k0) (by rw [hk]; rfl)
  have ok1 := ok.kid (i := 1) (k := k1) (by rw [hk]; rfl)
  have HO := Lib.hid ho
  have HK := Lib.hid hk
  have HOA := Lib.hid hoa
  have HOB := Lib.hid hob
  clear ho hk hoa hob
  go_enter Tryd.func82, Tryd.ntmps82
  go_upto_region 1 with fail
  generalize hW : x.w.alloc _ = W1
  generalize hB : x.w.heap.size = BQ
  obtain ⟨c0, c1, c2, c3, h1, hback, yy, hy0⟩ := boxedT hv x hB hW
  have hr1 : Row W1 (Value.int .i64) (some ⟨b, o, none⟩) (Ty.two 1 A B).enc := by rw [← hW]; exact hr.ext (x.alloc _)
  have F1 : Forms W1 := by rw [← hW]; exact FO.ext (x.alloc _)
  clear hW hB
  rw [← hy0]
  clear hy0
  have CA : Hid (∀ (y : Ext W1) (k : Tm) (r : TV), TmIn W1 lo k r → (∃ vs, OkT size closed vs k) → Calls Tryd.prog 82 #[.slice (some ⟨b, o + 1, none⟩) A.enc.length A.enc.length, r.val k] y.w (Ans y.w (.int .i64 (Ty.placeI (A.place k))))) := fun y k r hk ⟨vs, okk⟩ => ihA hok.2.1 hd.2.1 hcl.1 (F1.ext y) ((row_two1 hr1).ext y) (by omega) (Nat.le_refl _) (hk.ext y) okk (Ext.self y.w)
  have CB : Hid (∀ (y : Ext W1) (k : Tm) (r : TV), TmIn W1 lo k r → (∃ vs, OkT size closed vs k) → Calls Tryd.prog 82 #[.slice (some ⟨b, o + 1 + A.enc.length, none⟩) B.enc.length B.enc.length, r.val k] y.w (Ans y.w (.int .i64 (Ty.placeI (B.place k))))) := fun y k r hk ⟨vs, okk⟩ => ihB hok.2.2 hd.2.2 hcl.2 (F1.ext y) ((show Row W1 (Value.int .i64) (some ⟨b, o + 1 + A.enc.length, none⟩) B.enc from by rw [Nat.add_assoc]; exact row_two2 hr1).ext y) (by omega) (Nat.le_refl _) (hk.ext y) okk (Ext.self y.w)
  have CNB : Hid (∀ y : Ext W1, Calls Tryd.prog 132 #[.slice (some ⟨b, o + 1 + A.enc.length, none⟩) B.enc.length B.enc.length] y.w (Ans y.w (.int .i64 B.cnt))) := fun y => countOf_ans B hok.2.2 hd.2.2 hcl.2 (F1.ext y) ((show Row W1 (Value.int .i64) (some ⟨b, o + 1 + A.enc.length, none⟩) B.enc from by rw [Nat.add_assoc]; exact row_two2 hr1).ext y) (by omega) (Nat.le_refl _) (Ext.self y.w)
  obtain ⟨kr, AT⟩ := h1.out
  obtain ⟨f0, f2, f3, f4, f6, FOC⟩ := form_some F1 (1) 1 rfl
  have PWC : ∀ y1 : Ext W1, Calls Tryd.prog 131 #[.slice (some ⟨b, o, none⟩) (Ty.two 1 A B).enc.length c] y1.w (NewRow y1.w 51 22 id (sls b (o + 1) [A, B])) := fun y1 => partsWithin_ans (W := y1.w) (F1.ext y1) (cc := 1) (ps := [A, B]) (by intro t ht; simp at ht; rcases ht with rfl | rfl; exact hok.2.1; exact hok.2.2) (l := (Ty.two 1 A B).enc) (by simp [Ty.enc, Ty.encs]) (hr1.ext y1) (by omega) (Ty.le36 hok) hc (Ext.self y1.w)
  have m0 : ∀ y : Ext W1, y.w.cell? ⟨b, o, none⟩ = some (.int .i64 (1)) := fun y => y.cell (row_head hr1 (l' := A.enc ++ B.enc) rfl)
  have hlk : v.kids.length = 2 := by rw [HK.out]; rfl
  have hlk' : (v.kids.length : Int) = 2 := by rw [hlk]; rfl
  have okk0 : Hid (∃ vs, OkT size closed vs k0) := ⟨_, ok0⟩
  have okk1 : Hid (∃ vs, OkT size closed vs k1) := ⟨_, ok1⟩
  have hlp : 0 < (Ty.two 1 A B).enc.length := Ty.enc_pos _
  generalize (Ty.two 1 A B).enc.length = len at *
  clear hr hok hd hcl hl hc hr1 hv h1 ok hA hB hlen ihA ihB ok0 ok1
  have hlp' : (0 : Int) < (len : Int) := by omega
  have f1 : (v.op == 1) = false := by rw [HO.out]; decide
  have f4 : (v.op == 4) = true := by rw [HO.out]; decide
  have f6 : (v.op == 6) = false := by rw [HO.out]; decide
  have f7 : (v.op == 7) = false := by rw [HO.out]; decide
  have f11 : (v.op == 11) = false := by rw [HO.out]; decide
  go_wp2_with (go_at_call 114; (with_reducible refine Calls.mono (FOC _) ?_); rintro e w' ⟨rfl, yy, rfl⟩)
  generalize hY : yy.w.alloc _ = Y1
  have bY := new_blk hY
  obtain ⟨y1, hy1⟩ : ∃ y : Ext W1, y.w = Y1 := ⟨yy.alloc _, hY⟩
  generalize yy.w.heap.size = B1 at *
  clear hY yy FOC
  rw [← hy1] at bY ⊢
  clear hy1 Y1
  refine Calls.mono (PWC y1) ?_
  clear PWC m0
  rintro e w' ⟨pv, zz, rfl, rfl, own⟩
  obtain ⟨g, gc, rfl, row, hcap, _⟩ := own_some own (by simp [sls])
  have m1 : ∀ u : Ext zz.w, u.w.cell? ⟨B1, 1, none⟩ = some (.int .i64 1) := fun u => blk_cell ((zz.trans u).blk bY) 1
  have g0 : ∀ u : Ext zz.w, u.w.cell? ⟨g, 0, none⟩ = some (.slice (some ⟨b, o + 1, none⟩) A.enc.length A.enc.length) := fun u => u.cell (row_at row 0 _ rfl)
  have g1 : ∀ u : Ext zz.w, u.w.cell? ⟨g, 1, none⟩ = some (.slice (some ⟨b, o + 1 + A.enc.length, none⟩) B.enc.length B.enc.length) := fun u => u.cell (row_at row 1 _ rfl)
  clear bY own row hcap
  rw [show (sls b (o + 1) [A, B]).length = 2 from rfl]
  obtain ⟨yy, hyy⟩ : ∃ u : Ext zz.w, u.w = zz.w := ⟨Ext.self _, rfl⟩
  rw [← hyy]
  clear hyy
  have n0 : ∀ u : Ext zz.w, u.w.cell? ⟨BQ, 0, none⟩ = some (.int .i64 v.op) := fun u => c0 (y1.trans (zz.trans u))
  have n1 : ∀ u : Ext zz.w, u.w.cell? ⟨BQ, 1, none⟩ = some (.int .i64 v.n) := fun u => c1 (y1.trans (zz.trans u))
  have n2 : ∀ u : Ext zz.w, u.w.cell? ⟨BQ, 2, none⟩ = some (.slice ra v.ty.length rc) := fun u => c2 (y1.trans (zz.trans u))
  have n3 : ∀ u : Ext zz.w, u.w.cell? ⟨BQ, 3, none⟩ = some (.slice rb v.kids.length rd) := fun u => c3 (y1.trans (zz.trans u))
  clear c0 c1 c2 c3
  obtain ⟨bb, oo, hrb, KK⟩ := AT.kid 0 k0 (by rw [HK.out]; rfl)
  have hs0 := AT.sub 0 k0 (by rw [HK.out]; rfl)
  dsimp only at hrb
  obtain ⟨kb, hkb⟩ : ∃ z, z = bb := ⟨_, rfl⟩
  obtain ⟨ko, hko⟩ : ∃ z, z = oo := ⟨_, rfl⟩
  rw [← hkb, ← hko] at KK hrb
  clear hkb hko bb oo
  have HR := hrb
  clear hrb
  have d00 : ∀ u : Ext zz.w, u.w.cell? ⟨kb, ko, none⟩ = some (.int .i64 k0.op) := fun u => by have := (y1.trans (zz.trans u)).cell KK.c0; simpa using this
  have d01 : ∀ u : Ext zz.w, u.w.cell? ⟨kb, ko + 1, none⟩ = some (.int .i64 k0.n) := fun u => by have := (y1.trans (zz.trans u)).cell KK.c1; simpa using this
  have d02 : ∀ u : Ext zz.w, u.w.cell? ⟨kb, ko + 2, none⟩ = some (.slice (kr 0).a k0.ty.length (kr 0).c) := fun u => by have := (y1.trans (zz.trans u)).cell KK.c2; simpa using this
  have d03 : ∀ u : Ext zz.w, u.w.cell? ⟨kb, ko + 3, none⟩ = some (.slice (kr 0).b k0.kids.length (kr 0).d) := fun u => by have := (y1.trans (zz.trans u)).cell KK.c3; simpa using this
  clear KK
  obtain ⟨bb, oo, hrb, KK⟩ := AT.kid 1 k1 (by rw [HK.out]; rfl)
  have hs1 := AT.sub 1 k1 (by rw [HK.out]; rfl)
  dsimp only at hrb
  rw [HR] at hrb
  obtain ⟨rfl, rfl⟩ : kb = bb ∧ ko = oo := by cases hrb; exact ⟨rfl, rfl⟩
  clear hrb
  have d10 : ∀ u : Ext zz.w, u.w.cell? ⟨kb, ko + 4, none⟩ = some (.int .i64 k1.op) := fun u => by have := (y1.trans (zz.trans u)).cell KK.c0; simpa using this
  have d11 : ∀ u : Ext zz.w, u.w.cell? ⟨kb, ko + 5, none⟩ = some (.int .i64 k1.n) := fun u => by have := (y1.trans (zz.trans u)).cell KK.c1; simpa using this
  have d12 : ∀ u : Ext zz.w, u.w.cell? ⟨kb, ko + 6, none⟩ = some (.slice (kr 1).a k1.ty.length (kr 1).c) := fun u => by have := (y1.trans (zz.trans u)).cell KK.c2; simpa using this
  have d13 : ∀ u : Ext zz.w, u.w.cell? ⟨kb, ko + 7, none⟩ = some (.slice (kr 1).b k1.kids.length (kr 1).d) := fun u => by have := (y1.trans (zz.trans u)).cell KK.c3; simpa using this
  clear KK
  have m3 : ∀ u : Ext zz.w, u.w.cell? ⟨BQ, 3, none⟩ = some (.slice (some ⟨kb, ko, none⟩) 2 rd) := fun u => by rw [n3 u, HR, hlk]
  clear n3 hlk hlk' HR AT
  have CC : ∀ (u : Ext zz.w) (v w : Value) (k : Int), Either2 (.slice (some ⟨b, o + 1, none⟩) A.enc.length A.enc.length) (.agg #[.int .i64 k0.op, .int .i64 k0.n, .slice (kr 0).a k0.ty.length (kr 0).c, .slice (kr 0).b k0.kids.length (kr 0).d]) (pa : Int) (.slice (some ⟨b, o + 1 + A.enc.length, none⟩) B.enc.length B.enc.length) (.agg #[.int .i64 k1.op, .int .i64 k1.n, .slice (kr 1).a k1.ty.length (kr 1).c, .slice (kr 1).b k1.kids.length (kr 1).d]) (-1) v w k → Calls Tryd.prog 82 #[v, w] u.w (Ans zz.w (.int .i64 k)) := fun u v w k hv => by
    cases hv with
    | a => have := CA.out (y1.trans (zz.trans u)) k0 (kr 0) hs0 okk0.out; rw [HOA.out] at this; exact Calls.mono this fun _ _ q => ans_lift (z := u) q
    | b => have := CB.out (y1.trans (zz.trans u)) k1 (kr 1) hs1 okk1.out; rw [HOB.out] at this; exact Calls.mono this fun _ _ q => ans_lift (z := u) q
  have HA : Either2 (.slice (some ⟨b, o + 1, none⟩) A.enc.length A.enc.length) (.agg #[.int .i64 k0.op, .int .i64 k0.n, .slice (kr 0).a k0.ty.length (kr 0).c, .slice (kr 0).b k0.kids.length (kr 0).d]) (pa : Int) (.slice (some ⟨b, o + 1 + A.enc.length, none⟩) B.enc.length B.enc.length) (.agg #[.int .i64 k1.op, .int .i64 k1.n, .slice (kr 1).a k1.ty.length (kr 1).c, .slice (kr 1).b k1.kids.length (kr 1).d]) (-1) (.slice (some ⟨b, o + 1, none⟩) A.enc.length A.enc.length) (.agg #[.int .i64 k0.op, .int .i64 k0.n, .slice (kr 0).a k0.ty.length (kr 0).c, .slice (kr 0).b k0.kids.length (kr 0).d]) (pa : Int) := .a
  have HB : Either2 (.slice (some ⟨b, o + 1, none⟩) A.enc.length A.enc.length) (.agg #[.int .i64 k0.op, .int .i64 k0.n, .slice (kr 0).a k0.ty.length (kr 0).c, .slice (kr 0).b k0.kids.length (kr 0).d]) (pa : Int) (.slice (some ⟨b, o + 1 + A.enc.length, none⟩) B.enc.length B.enc.length) (.agg #[.int .i64 k1.op, .int .i64 k1.n, .slice (kr 1).a k1.ty.length (kr 1).c, .slice (kr 1).b k1.kids.length (kr 1).d]) (-1) (.slice (some ⟨b, o + 1 + A.enc.length, none⟩) B.enc.length B.enc.length) (.agg #[.int .i64 k1.op, .int .i64 k1.n, .slice (kr 1).a k1.ty.length (kr 1).c, .slice (kr 1).b k1.kids.length (kr 1).d]) (-1) := .b
  clear hs0 hs1
  go_upto_region 6 with fail
  refine region_ext yy (by kernel_rfl) (by kernel_rfl) ?_
  repeat (go_big_quiet_step ((go_at_call 82; with_reducible exact CC _ _ _ _ (by assumption))))
  refine wpQuiet_nil ?_
  rintro _ ⟨yy, rfl⟩
  clear CC HA HB m3 n1 n2 d00 d01 d02 d03 d10 d11 d12 d13
  go_wp2_with fail
  go_ret
  exact ⟨rfl, hback (y1.trans (zz.trans yy))⟩

end Go.Proofs.YtoefeijnnnioeaaDoor

/- Places of values, by the program: pairs. -/
set_option linter.unusedVariables false
namespace Go.Proofs.YtoefeijnnnioeaaDoor
open Go.RowKit

set_option maxRecDepth 100000 in
set_option maxHeartbeats 16000000 in
theorem placePair_ss {A B : Ty} (ihA : A.Ok → A.Data → A.Cl → ∀ {W : World} (_ : Forms W) {b o c : Nat} (_ : Row W (Value.int .i64) (some ⟨b, o, none⟩) A.enc) (_ : A.enc.length ≤ 40) (_ : A.enc.length ≤ c) {lo : Nat} {v : Tm} {r : TV} (_ : TmIn W lo v r) {size vars : Int} {closed : Bool} (_ : OkT size closed vars v) (x : Ext W), Calls Tryd.prog 82 #[.slice (some ⟨b, o, none⟩) A.enc.length c, r.val v] x.w (Ans W (.int .i64 (Ty.placeI (A.place v))))) (ihB : B.Ok → B.Data → B.Cl → ∀ {W : World} (_ : Forms W) {b o c : Nat} (_ : Row W (Value.int .i64) (some ⟨b, o, none⟩) B.enc) (_ : B.enc.length ≤ 40) (_ : B.enc.length ≤ c) {lo : Nat} {v : Tm} {r : TV} (_ : TmIn W lo v r) {size vars : Int} {closed : Bool} (_ : OkT size closed vars v) (x : Ext W), Calls Tryd.prog 82 #[.slice (some ⟨b, o, none⟩) B.enc.length c, r.val v] x.w (Ans W (.int .i64 (Ty.placeI (B.place v))))) (hok : (Ty.two 1 A B).Ok) (hd : (Ty.two 1 A B).Data) (hcl : (Ty.two 1 A B).Cl) {W : World} (FO : Forms W) {b o c : Nat} (hr : Row W (Value.int .i64) (some ⟨b, o, none⟩) (Ty.two 1 A B).enc) (hl : (Ty.two 1 A B).enc.length ≤ 40) (hc : (Ty.two 1 A B).enc.length ≤ c)
    {lo : Nat} {v : Tm} {r : TV} (hv : TmIn W lo v r) {size vars : Int} {closed : Bool} (ok : OkT size closed vars v) (ho : v.op = 4) {k0 k1 : Tm} (hk : v.kids = [k0, k1]) (pa pb : Nat) (hoa : A.place k0 = some pa) (hob : B.place k1 = some pb) (x : Ext W) :
    Calls Tryd.prog 82 #[.slice (some ⟨b, o, none⟩) (Ty.two 1 A B).enc.length c, r.val v] x.w (Ans W (.int .i64 ((pa : Int) * (B.cnt : Int) + (pb : Int)))) := by
  obtain ⟨ra, rc, rb, rd⟩ := r
  unfold TV.val
  have lta : pa < A.cnt := Ty.place_lt A (ok.kid (i := 0) (k := k0) (by rw [hk]; rfl)) hoa
  have ltb : pb < B.cnt := Ty.place_lt B (ok.kid (i := 1) (k := k1) (by rw [hk]; rfl)) hob
  have hcc : A.cnt * B.cnt ≤ 3486784401 := Ty.cnt_le hl
  have hprod : (pa + 1) * B.cnt ≤ A.cnt * B.cnt := Nat.mul_le_mul_right _ (by omega)
  rw [Nat.add_mul] at hprod
  have WR1 : Hid (IntKind.i64.wrap ((pa : Int) * (B.cnt : Int)) = (pa : Int) * (B.cnt : Int)) := IntWalk.i64_in _ (by rw [← Int.natCast_mul]; omega)
  have WR2 : Hid (IntKind.i64.wrap ((pa : Int) * (B.cnt : Int) + (pb : Int)) = (pa : Int) * (B.cnt : Int) + (pb : Int)) := IntWalk.i64_in _ (by rw [← Int.natCast_mul]; omega)
  have hp0 : (0 : Int) ≤ (pa : Int) := by omega
  have hp1 : (0 : Int) ≤ (pb : Int) := by omega
  clear lta ltb hcc hprod
  have hA := A.enc_pos
  have hB := B.enc_pos
  have hlen := Ty.len_two 1 A B
  have ok0 := ok.kid (i := 0) (k := k0) (by rw [hk]; rfl)
  have ok1 := ok.kid (i := 1) (k := k1) (by rw [hk]; rfl)
  have HO := Lib.hid ho
  have HK := Lib.hid hk
  have HOA := Lib.hid hoa
  have HOB := Lib.hid hob
  clear ho hk hoa hob
  go_enter Tryd.func82, Tryd.ntmps82
  go_upto_region 1 with fail
  generalize hW : x.w.alloc _ = W1
  generalize hB : x.w.heap.size = BQ
  obtain ⟨c0, c1, c2, c3, h1, hback, yy, hy0⟩ := boxedT hv x hB hW
  have hr1 : Row W1 (Value.int .i64) (some ⟨b, o, none⟩) (Ty.two 1 A B).enc := by rw [← hW]; exact hr.ext (x.alloc _)
  have F1 : Forms W1 := by rw [← hW]; exact FO.ext (x.alloc _)
  clear hW hB
  rw [← hy0]
  clear hy0
  have CA : Hid (∀ (y : Ext W1) (k : Tm) (r : TV), TmIn W1 lo k r → (∃ vs, OkT size closed vs k) → Calls Tryd.prog 82 #[.slice (some ⟨b, o + 1, none⟩) A.enc.length A.enc.length, r.val k] y.w (Ans y.w (.int .i64 (Ty.placeI (A.place k))))) := fun y k r hk ⟨vs, okk⟩ => ihA hok.2.1 hd.2.1 hcl.1 (F1.ext y) ((row_two1 hr1).ext y) (by omega) (Nat.le_refl _) (hk.ext y) okk (Ext.self y.w)
  have CB : Hid (∀ (y : Ext W1) (k : Tm) (r : TV), TmIn W1 lo k r → (∃ vs, OkT size closed vs k) → Calls Tryd.prog 82 #[.slice (some ⟨b, o + 1 + A.enc.length, none⟩) B.enc.length B.enc.length, r.val k] y.w (Ans y.w (.int .i64 (Ty.placeI (B.place k))))) := fun y k r hk ⟨vs, okk⟩ => ihB hok.2.2 hd.2.2 hcl.2 (F1.ext y) ((show Row W1 (Value.int .i64) (some ⟨b, o + 1 + A.enc.length, none⟩) B.enc from by rw [Nat.add_assoc]; exact row_two2 hr1).ext y) (by omega) (Nat.le_refl _) (hk.ext y) okk (Ext.self y.w)
  have CNB : Hid (∀ y : Ext W1, Calls Tryd.prog 132 #[.slice (some ⟨b, o + 1 + A.enc.length, none⟩) B.enc.length B.enc.length] y.w (Ans y.w (.int .i64 B.cnt))) := fun y => countOf_ans B hok.2.2 hd.2.2 hcl.2 (F1.ext y) ((show Row W1 (Value.int .i64) (some ⟨b, o + 1 + A.enc.length, none⟩) B.enc from by rw [Nat.add_assoc]; exact row_two2 hr1).ext y) (by omega) (Nat.le_refl _) (Ext.self y.w)
  obtain ⟨kr, AT⟩ := h1.out
  obtain ⟨f0, f2, f3, f4, f6, FOC⟩ := form_some F1 (1) 1 rfl
  have PWC : ∀ y1 : Ext W1, Calls Tryd.prog 131 #[.slice (some ⟨b, o, none⟩) (Ty.two 1 A B).enc.length c] y1.w (NewRow y1.w 51 22 id (sls b (o + 1) [A, B])) := fun y1 => partsWithin_ans (W := y1.w) (F1.ext y1) (cc := 1) (ps := [A, B]) (by intro t ht; simp at ht; rcases ht with rfl | rfl; exact hok.2.1; exact hok.2.2) (l := (Ty.two 1 A B).enc) (by simp [Ty.enc, Ty.encs]) (hr1.ext y1) (by omega) (Ty.le36 hok) hc (Ext.self y1.w)
  have m0 : ∀ y : Ext W1, y.w.cell? ⟨b, o, none⟩ = some (.int .i64 (1)) := fun y => y.cell (row_head hr1 (l' := A.enc ++ B.enc) rfl)
  have hlk : v.kids.length = 2 := by rw [HK.out]; rfl
  have hlk' : (v.kids.length : Int) = 2 := by rw [hlk]; rfl
  have okk0 : Hid (∃ vs, OkT size closed vs k0) := ⟨_, ok0⟩
  have okk1 : Hid (∃ vs, OkT size closed vs k1) := ⟨_, ok1⟩
  have hlp : 0 < (Ty.two 1 A B).enc.length := Ty.enc_pos _
  generalize (Ty.two 1 A B).enc.length = len at *
  clear hr hok hd hcl hl hc hr1 hv h1 ok hA hB hlen ihA ihB ok0 ok1
  have hlp' : (0 : Int) < (len : Int) := by omega
  have f1 : (v.op == 1) = false := by rw [HO.out]; decide
  have f4 : (v.op == 4) = true := by rw [HO.out]; decide
  have f6 : (v.op == 6) = false := by rw [HO.out]; decide
  have f7 : (v.op == 7) = false := by rw [HO.out]; decide
  have f11 : (v.op == 11) = false := by rw [HO.out]; decide
  go_wp2_with (go_at_call 114; (with_reducible refine Calls.mono (FOC _) ?_); rintro e w' ⟨rfl, yy, rfl⟩)
  generalize hY : yy.w.alloc _ = Y1
  have bY := new_blk hY
  obtain ⟨y1, hy1⟩ : ∃ y : Ext W1, y.w = Y1 := ⟨yy.alloc _, hY⟩
  generalize yy.w.heap.size = B1 at *
  clear hY yy FOC
  rw [← hy1] at bY ⊢
  clear hy1 Y1
  refine Calls.mono (PWC y1) ?_
  clear PWC m0
  rintro e w' ⟨pv, zz, rfl, rfl, own⟩
  obtain ⟨g, gc, rfl, row, hcap, _⟩ := own_some own (by simp [sls])
  have m1 : ∀ u : Ext zz.w, u.w.cell? ⟨B1, 1, none⟩ = some (.int .i64 1) := fun u => blk_cell ((zz.trans u).blk bY) 1
  have g0 : ∀ u : Ext zz.w, u.w.cell? ⟨g, 0, none⟩ = some (.slice (some ⟨b, o + 1, none⟩) A.enc.length A.enc.length) := fun u => u.cell (row_at row 0 _ rfl)
  have g1 : ∀ u : Ext zz.w, u.w.cell? ⟨g, 1, none⟩ = some (.slice (some ⟨b, o + 1 + A.enc.length, none⟩) B.enc.length B.enc.length) := fun u => u.cell (row_at row 1 _ rfl)
  clear bY own row hcap
  rw [show (sls b (o + 1) [A, B]).length = 2 from rfl]
  obtain ⟨yy, hyy⟩ : ∃ u : Ext zz.w, u.w = zz.w := ⟨Ext.self _, rfl⟩
  rw [← hyy]
  clear hyy
  have n0 : ∀ u : Ext zz.w, u.w.cell? ⟨BQ, 0, none⟩ = some (.int .i64 v.op) := fun u => c0 (y1.trans (zz.trans u))
  have n1 : ∀ u : Ext zz.w, u.w.cell? ⟨BQ, 1, none⟩ = some (.int .i64 v.n) := fun u => c1 (y1.trans (zz.trans u))
  have n2 : ∀ u : Ext zz.w, u.w.cell? ⟨BQ, 2, none⟩ = some (.slice ra v.ty.length rc) := fun u => c2 (y1.trans (zz.trans u))
  have n3 : ∀ u : Ext zz.w, u.w.cell? ⟨BQ, 3, none⟩ = some (.slice rb v.kids.length rd) := fun u => c3 (y1.trans (zz.trans u))
  clear c0 c1 c2 c3
  obtain ⟨bb, oo, hrb, KK⟩ := AT.kid 0 k0 (by rw [HK.out]; rfl)
  have hs0 := AT.sub 0 k0 (by rw [HK.out]; rfl)
  dsimp only at hrb
  obtain ⟨kb, hkb⟩ : ∃ z, z = bb := ⟨_, rfl⟩
  obtain ⟨ko, hko⟩ : ∃ z, z = oo := ⟨_, rfl⟩
  rw [← hkb, ← hko] at KK hrb
  clear hkb hko bb oo
  have HR := hrb
  clear hrb
  have d00 : ∀ u : Ext zz.w, u.w.cell? ⟨kb, ko, none⟩ = some (.int .i64 k0.op) := fun u => by have := (y1.trans (zz.trans u)).cell KK.c0; simpa using this
  have d01 : ∀ u : Ext zz.w, u.w.cell? ⟨kb, ko + 1, none⟩ = some (.int .i64 k0.n) := fun u => by have := (y1.trans (zz.trans u)).cell KK.c1; simpa using this
  have d02 : ∀ u : Ext zz.w, u.w.cell? ⟨kb, ko + 2, none⟩ = some (.slice (kr 0).a k0.ty.length (kr 0).c) := fun u => by have := (y1.trans (zz.trans u)).cell KK.c2; simpa using this
  have d03 : ∀ u : Ext zz.w, u.w.cell? ⟨kb, ko + 3, none⟩ = some (.slice (kr 0).b k0.kids.length (kr 0).d) := fun u => by have := (y1.trans (zz.trans u)).cell KK.c3; simpa using this
  clear KK
  obtain ⟨bb, oo, hrb, KK⟩ := AT.kid 1 k1 (by rw [HK.out]; rfl)
  have hs1 := AT.sub 1 k1 (by rw [HK.out]; rfl)
  dsimp only at hrb
  rw [HR] at hrb
  obtain ⟨rfl, rfl⟩ : kb = bb ∧ ko = oo := by cases hrb; exact ⟨rfl, rfl⟩
  clear hrb
  have d10 : ∀ u : Ext zz.w, u.w.cell? ⟨kb, ko + 4, none⟩ = some (.int .i64 k1.op) := fun u => by have := (y1.trans (zz.trans u)).cell KK.c0; simpa using this
  have d11 : ∀ u : Ext zz.w, u.w.cell? ⟨kb, ko + 5, none⟩ = some (.int .i64 k1.n) := fun u => by have := (y1.trans (zz.trans u)).cell KK.c1; simpa using this
  have d12 : ∀ u : Ext zz.w, u.w.cell? ⟨kb, ko + 6, none⟩ = some (.slice (kr 1).a k1.ty.length (kr 1).c) := fun u => by have := (y1.trans (zz.trans u)).cell KK.c2; simpa using this
  have d13 : ∀ u : Ext zz.w, u.w.cell? ⟨kb, ko + 7, none⟩ = some (.slice (kr 1).b k1.kids.length (kr 1).d) := fun u => by have := (y1.trans (zz.trans u)).cell KK.c3; simpa using this
  clear KK
  have m3 : ∀ u : Ext zz.w, u.w.cell? ⟨BQ, 3, none⟩ = some (.slice (some ⟨kb, ko, none⟩) 2 rd) := fun u => by rw [n3 u, HR, hlk]
  clear n3 hlk hlk' HR AT
  have CC : ∀ (u : Ext zz.w) (v w : Value) (k : Int), Either2 (.slice (some ⟨b, o + 1, none⟩) A.enc.length A.enc.length) (.agg #[.int .i64 k0.op, .int .i64 k0.n, .slice (kr 0).a k0.ty.length (kr 0).c, .slice (kr 0).b k0.kids.length (kr 0).d]) (pa : Int) (.slice (some ⟨b, o + 1 + A.enc.length, none⟩) B.enc.length B.enc.length) (.agg #[.int .i64 k1.op, .int .i64 k1.n, .slice (kr 1).a k1.ty.length (kr 1).c, .slice (kr 1).b k1.kids.length (kr 1).d]) (pb : Int) v w k → Calls Tryd.prog 82 #[v, w] u.w (Ans zz.w (.int .i64 k)) := fun u v w k hv => by
    cases hv with
    | a => have := CA.out (y1.trans (zz.trans u)) k0 (kr 0) hs0 okk0.out; rw [HOA.out] at this; exact Calls.mono this fun _ _ q => ans_lift (z := u) q
    | b => have := CB.out (y1.trans (zz.trans u)) k1 (kr 1) hs1 okk1.out; rw [HOB.out] at this; exact Calls.mono this fun _ _ q => ans_lift (z := u) q
  have HA : Either2 (.slice (some ⟨b, o + 1, none⟩) A.enc.length A.enc.length) (.agg #[.int .i64 k0.op, .int .i64 k0.n, .slice (kr 0).a k0.ty.length (kr 0).c, .slice (kr 0).b k0.kids.length (kr 0).d]) (pa : Int) (.slice (some ⟨b, o + 1 + A.enc.length, none⟩) B.enc.length B.enc.length) (.agg #[.int .i64 k1.op, .int .i64 k1.n, .slice (kr 1).a k1.ty.length (kr 1).c, .slice (kr 1).b k1.kids.length (kr 1).d]) (pb : Int) (.slice (some ⟨b, o + 1, none⟩) A.enc.length A.enc.length) (.agg #[.int .i64 k0.op, .int .i64 k0.n, .slice (kr 0).a k0.ty.length (kr 0).c, .slice (kr 0).b k0.kids.length (kr 0).d]) (pa : Int) := .a
  have HB : Either2 (.slice (some ⟨b, o + 1, none⟩) A.enc.length A.enc.length) (.agg #[.int .i64 k0.op, .int .i64 k0.n, .slice (kr 0).a k0.ty.length (kr 0).c, .slice (kr 0).b k0.kids.length (kr 0).d]) (pa : Int) (.slice (some ⟨b, o + 1 + A.enc.length, none⟩) B.enc.length B.enc.length) (.agg #[.int .i64 k1.op, .int .i64 k1.n, .slice (kr 1).a k1.ty.length (kr 1).c, .slice (kr 1).b k1.kids.length (kr 1).d]) (pb : Int) (.slice (some ⟨b, o + 1 + A.enc.length, none⟩) B.enc.length B.enc.length) (.agg #[.int .i64 k1.op, .int .i64 k1.n, .slice (kr 1).a k1.ty.length (kr 1).c, .slice (kr 1).b k1.kids.length (kr 1).d]) (pb : Int) := .b
  clear hs0 hs1
  go_upto_region 6 with fail
  refine region_ext yy (by kernel_rfl) (by kernel_rfl) ?_
  repeat (go_big_quiet_step ((go_at_call 82; with_reducible exact CC _ _ _ _ (by assumption))))
  refine wpQuiet_nil ?_
  rintro _ ⟨yy, rfl⟩
  clear CC HA HB m3 n1 n2 d00 d01 d02 d03 d10 d11 d12 d13
  have hw1 := WR1.out
  have hw2 := WR2.out
  go_wp2_with (go_at_call 132; refine Calls.mono (CNB.out (y1.trans (zz.trans yy))) ?_; rintro e w' ⟨rfl, y5, rfl⟩)
  go_ret
  exact ⟨rfl, hback (y1.trans (zz.trans (yy.trans y5)))⟩

end Go.Proofs.YtoefeijnnnioeaaDoor

/- Places of values, by the program: pairs. -/
set_option linter.unusedVariables false
namespace Go.Proofs.YtoefeijnnnioeaaDoor
open Go.RowKit

set_option maxRecDepth 100000 in
set_option maxHeartbeats 16000000 in
theorem placePair_no {A B : Ty} (hok : (Ty.two 1 A B).Ok) (hd : (Ty.two 1 A B).Data) (hcl : (Ty.two 1 A B).Cl) {W : World} (FO : Forms W) {b o c : Nat} (hr : Row W (Value.int .i64) (some ⟨b, o, none⟩) (Ty.two 1 A B).enc) (hl : (Ty.two 1 A B).enc.length ≤ 40) (hc : (Ty.two 1 A B).enc.length ≤ c)
    {lo : Nat} {v : Tm} {r : TV} (hv : TmIn W lo v r) {size vars : Int} {closed : Bool} (ok : OkT size closed vars v) (ho : v.op ≠ 4) (x : Ext W) :
    Calls Tryd.prog 82 #[.slice (some ⟨b, o, none⟩) (Ty.two 1 A B).enc.length c, r.val v] x.w (Ans W (.int .i64 (-1))) := by
  obtain ⟨ra, rc, rb, rd⟩ := r
  unfold TV.val
  have hA := A.enc_pos
  have hB := B.enc_pos
  have hlen := Ty.len_two 1 A B
  have HO := Lib.hid ho
  clear ho
  go_enter Tryd.func82, Tryd.ntmps82
  go_upto_region 1 with fail
  generalize hW : x.w.alloc _ = W1
  generalize hB : x.w.heap.size = BQ
  obtain ⟨c0, c1, c2, c3, h1, hback, yy, hy0⟩ := boxedT hv x hB hW
  have hr1 : Row W1 (Value.int .i64) (some ⟨b, o, none⟩) (Ty.two 1 A B).enc := by rw [← hW]; exact hr.ext (x.alloc _)
  have F1 : Forms W1 := by rw [← hW]; exact FO.ext (x.alloc _)
  clear hW hB
  rw [← hy0]
  clear hy0
  obtain ⟨f0, f2, f3, f4, f6, FOC⟩ := form_some F1 (1) 1 rfl
  have PWC : ∀ y1 : Ext W1, Calls Tryd.prog 131 #[.slice (some ⟨b, o, none⟩) (Ty.two 1 A B).enc.length c] y1.w (NewRow y1.w 51 22 id (sls b (o + 1) [A, B])) := fun y1 => partsWithin_ans (W := y1.w) (F1.ext y1) (cc := 1) (ps := [A, B]) (by intro t ht; simp at ht; rcases ht with rfl | rfl; exact hok.2.1; exact hok.2.2) (l := (Ty.two 1 A B).enc) (by simp [Ty.enc, Ty.encs]) (hr1.ext y1) (by omega) (Ty.le36 hok) hc (Ext.self y1.w)
  have m0 : ∀ y : Ext W1, y.w.cell? ⟨b, o, none⟩ = some (.int .i64 (1)) := fun y => y.cell (row_head hr1 (l' := A.enc ++ B.enc) rfl)
  have hlp : 0 < (Ty.two 1 A B).enc.length := Ty.enc_pos _
  generalize (Ty.two 1 A B).enc.length = len at *
  clear hr hok hd hcl hl hc hr1 hv h1 ok hA hB hlen
  have hlp' : (0 : Int) < (len : Int) := by omega
  have f4 : (v.op == 4) = false := by have := HO.out; rw [beq_eq_false_iff_ne]; exact this
  go_wp2_with (go_at_call 114; (with_reducible refine Calls.mono (FOC _) ?_); rintro e w' ⟨rfl, yy, rfl⟩)
  generalize hY : yy.w.alloc _ = Y1
  have bY := new_blk hY
  obtain ⟨y1, hy1⟩ : ∃ y : Ext W1, y.w = Y1 := ⟨yy.alloc _, hY⟩
  generalize yy.w.heap.size = B1 at *
  clear hY yy FOC
  rw [← hy1] at bY ⊢
  clear hy1 Y1
  refine Calls.mono (PWC y1) ?_
  clear PWC m0
  rintro e w' ⟨pv, zz, rfl, rfl, own⟩
  obtain ⟨g, gc, rfl, row, hcap, _⟩ := own_some own (by simp [sls])
  have m1 : ∀ u : Ext zz.w, u.w.cell? ⟨B1, 1, none⟩ = some (.int .i64 1) := fun u => blk_cell ((zz.trans u).blk bY) 1
  have g0 : ∀ u : Ext zz.w, u.w.cell? ⟨g, 0, none⟩ = some (.slice (some ⟨b, o + 1, none⟩) A.enc.length A.enc.length) := fun u => u.cell (row_at row 0 _ rfl)
  have g1 : ∀ u : Ext zz.w, u.w.cell? ⟨g, 1, none⟩ = some (.slice (some ⟨b, o + 1 + A.enc.length, none⟩) B.enc.length B.enc.length) := fun u => u.cell (row_at row 1 _ rfl)
  clear bY own row hcap
  rw [show (sls b (o + 1) [A, B]).length = 2 from rfl]
  obtain ⟨yy, hyy⟩ : ∃ u : Ext zz.w, u.w = zz.w := ⟨Ext.self _, rfl⟩
  rw [← hyy]
  clear hyy
  have n0 : ∀ u : Ext zz.w, u.w.cell? ⟨BQ, 0, none⟩ = some (.int .i64 v.op) := fun u => c0 (y1.trans (zz.trans u))
  have n1 : ∀ u : Ext zz.w, u.w.cell? ⟨BQ, 1, none⟩ = some (.int .i64 v.n) := fun u => c1 (y1.trans (zz.trans u))
  have n2 : ∀ u : Ext zz.w, u.w.cell? ⟨BQ, 2, none⟩ = some (.slice ra v.ty.length rc) := fun u => c2 (y1.trans (zz.trans u))
  have n3 : ∀ u : Ext zz.w, u.w.cell? ⟨BQ, 3, none⟩ = some (.slice rb v.kids.length rd) := fun u => c3 (y1.trans (zz.trans u))
  clear c0 c1 c2 c3
  go_upto_region 9 with fail
  refine region_ext yy (by kernel_rfl) (by kernel_rfl) ?_
  repeat (go_big_quiet_step (fail))
  refine wpQuiet_nil ?_
  rintro _ ⟨yy, rfl⟩
  go_upto_region 11 with fail
  refine region_ext yy (by kernel_rfl) (by kernel_rfl) ?_
  repeat (go_big_quiet_step (fail))
  refine wpQuiet_nil ?_
  rintro _ ⟨yy, rfl⟩
  go_wp2_with fail
  go_ret
  exact ⟨rfl, hback (y1.trans (zz.trans yy))⟩

end Go.Proofs.YtoefeijnnnioeaaDoor

/- Places of values, by the program: sums. -/
set_option linter.unusedVariables false
namespace Go.Proofs.YtoefeijnnnioeaaDoor
open Go.RowKit

set_option maxRecDepth 100000 in
set_option maxHeartbeats 16000000 in
theorem placeSum_left {A B : Ty} (ihA : A.Ok → A.Data → A.Cl → ∀ {W : World} (_ : Forms W) {b o c : Nat} (_ : Row W (Value.int .i64) (some ⟨b, o, none⟩) A.enc) (_ : A.enc.length ≤ 40) (_ : A.enc.length ≤ c) {lo : Nat} {v : Tm} {r : TV} (_ : TmIn W lo v r) {size vars : Int} {closed : Bool} (_ : OkT size closed vars v) (x : Ext W), Calls Tryd.prog 82 #[.slice (some ⟨b, o, none⟩) A.enc.length c, r.val v] x.w (Ans W (.int .i64 (Ty.placeI (A.place v))))) (hok : (Ty.two 2 A B).Ok) (hd : (Ty.two 2 A B).Data) (hcl : (Ty.two 2 A B).Cl) {W : World} (FO : Forms W) {b o c : Nat} (hr : Row W (Value.int .i64) (some ⟨b, o, none⟩) (Ty.two 2 A B).enc) (hl : (Ty.two 2 A B).enc.length ≤ 40) (hc : (Ty.two 2 A B).enc.length ≤ c)
    {lo : Nat} {v : Tm} {r : TV} (hv : TmIn W lo v r) {size vars : Int} {closed : Bool} (ok : OkT size closed vars v) (ho : v.op = 6) (ht : v.ty = B.enc) {k0 : Tm} (hk : v.kids = [k0]) (oa : Option Nat) (hoa : A.place k0 = oa) (x : Ext W) :
    Calls Tryd.prog 82 #[.slice (some ⟨b, o, none⟩) (Ty.two 2 A B).enc.length c, r.val v] x.w (Ans W (.int .i64 (Ty.placeI oa))) := by
  obtain ⟨ra, rc, rb, rd⟩ := r
  unfold TV.val
  have hA := A.enc_pos
  have hB := B.enc_pos
  have hlen := Ty.len_two 2 A B
  have ok0 := ok.kid (i := 0) (k := k0) (by rw [hk]; rfl)
  have HK := Lib.hid hk
  have HOA := Lib.hid hoa
  clear hk hoa
  have HO := Lib.hid ho
  have HT := Lib.hid ht
  clear ho ht
  have hvl : v.ty.length ≤ 40 := NodeOk.ty40' ok.node
  go_enter Tryd.func82, Tryd.ntmps82
  go_upto_region 1 with fail
  generalize hW : x.w.alloc _ = W1
  generalize hB : x.w.heap.size = BQ
  obtain ⟨c0, c1, c2, c3, h1, hback, yy, hy0⟩ := boxedT hv x hB hW
  have hr1 : Row W1 (Value.int .i64) (some ⟨b, o, none⟩) (Ty.two 2 A B).enc := by rw [← hW]; exact hr.ext (x.alloc _)
  have F1 : Forms W1 := by rw [← hW]; exact FO.ext (x.alloc _)
  clear hW hB
  rw [← hy0]
  clear hy0
  have CA : Hid (∀ (y : Ext W1) (k : Tm) (r : TV), TmIn W1 lo k r → (∃ vs, OkT size closed vs k) → Calls Tryd.prog 82 #[.slice (some ⟨b, o + 1, none⟩) A.enc.length A.enc.length, r.val k] y.w (Ans y.w (.int .i64 (Ty.placeI (A.place k))))) := fun y k r hk ⟨vs, okk⟩ => ihA hok.2.1 hd.2.1 hcl.1 (F1.ext y) ((row_two1 hr1).ext y) (by omega) (Nat.le_refl _) (hk.ext y) okk (Ext.self y.w)
  obtain ⟨kr, AT⟩ := h1.out
  have EQ : Hid (∀ y : Ext W1, Calls Tryd.prog 133 #[.slice ra v.ty.length rc, .slice (some ⟨b, o + 1 + A.enc.length, none⟩) B.enc.length B.enc.length] y.w (Ans y.w (.bool true))) := fun y => slicesEqual_ans (AT.row.ext y) ((show Row W1 (Value.int .i64) (some ⟨b, o + 1 + A.enc.length, none⟩) B.enc from by rw [Nat.add_assoc]; exact row_two2 hr1).ext y) (by omega) true (by refine iff_tf ?_; exact HT.out) (Ext.self y.w)
  obtain ⟨f0, f2, f3, f4, f6, FOC⟩ := form_some F1 (2) 2 rfl
  have PWC : ∀ y1 : Ext W1, Calls Tryd.prog 131 #[.slice (some ⟨b, o, none⟩) (Ty.two 2 A B).enc.length c] y1.w (NewRow y1.w 51 22 id (sls b (o + 1) [A, B])) := fun y1 => partsWithin_ans (W := y1.w) (F1.ext y1) (cc := 2) (ps := [A, B]) (by intro t ht; simp at ht; rcases ht with rfl | rfl; exact hok.2.1; exact hok.2.2) (l := (Ty.two 2 A B).enc) (by simp [Ty.enc, Ty.encs]) (hr1.ext y1) (by omega) (Ty.le36 hok) hc (Ext.self y1.w)
  have m0 : ∀ y : Ext W1, y.w.cell? ⟨b, o, none⟩ = some (.int .i64 (2)) := fun y => y.cell (row_head hr1 (l' := A.enc ++ B.enc) rfl)
  have hlk : v.kids.length = 1 := by rw [HK.out]; rfl
  have hlk' : (v.kids.length : Int) = 1 := by rw [hlk]; rfl
  have okk0 : Hid (∃ vs, OkT size closed vs k0) := ⟨_, ok0⟩
  have hlp : 0 < (Ty.two 2 A B).enc.length := Ty.enc_pos _
  generalize (Ty.two 2 A B).enc.length = len at *
  clear hr hok hd hcl hl hc hr1 hv h1 ok hA hB hlen hvl ok0 ihA
  have hlp' : (0 : Int) < (len : Int) := by omega
  have f1 : (v.op == 1) = false := by rw [HO.out]; decide
  have f4 : (v.op == 4) = false := by rw [HO.out]; decide
  have f6 : (v.op == 6) = true := by rw [HO.out]; decide
  have f7 : (v.op == 7) = false := by rw [HO.out]; decide
  have f11 : (v.op == 11) = false := by rw [HO.out]; decide
  go_wp2_with (go_at_call 114; (with_reducible refine Calls.mono (FOC _) ?_); rintro e w' ⟨rfl, yy, rfl⟩)
  generalize hY : yy.w.alloc _ = Y1
  have bY := new_blk hY
  obtain ⟨y1, hy1⟩ : ∃ y : Ext W1, y.w = Y1 := ⟨yy.alloc _, hY⟩
  generalize yy.w.heap.size = B1 at *
  clear hY yy FOC
  rw [← hy1] at bY ⊢
  clear hy1 Y1
  refine Calls.mono (PWC y1) ?_
  clear PWC m0
  rintro e w' ⟨pv, zz, rfl, rfl, own⟩
  obtain ⟨g, gc, rfl, row, hcap, _⟩ := own_some own (by simp [sls])
  have m1 : ∀ u : Ext zz.w, u.w.cell? ⟨B1, 1, none⟩ = some (.int .i64 2) := fun u => blk_cell ((zz.trans u).blk bY) 1
  have g0 : ∀ u : Ext zz.w, u.w.cell? ⟨g, 0, none⟩ = some (.slice (some ⟨b, o + 1, none⟩) A.enc.length A.enc.length) := fun u => u.cell (row_at row 0 _ rfl)
  have g1 : ∀ u : Ext zz.w, u.w.cell? ⟨g, 1, none⟩ = some (.slice (some ⟨b, o + 1 + A.enc.length, none⟩) B.enc.length B.enc.length) := fun u => u.cell (row_at row 1 _ rfl)
  clear bY own row hcap
  rw [show (sls b (o + 1) [A, B]).length = 2 from rfl]
  obtain ⟨yy, hyy⟩ : ∃ u : Ext zz.w, u.w = zz.w := ⟨Ext.self _, rfl⟩
  rw [← hyy]
  clear hyy
  have n0 : ∀ u : Ext zz.w, u.w.cell? ⟨BQ, 0, none⟩ = some (.int .i64 v.op) := fun u => c0 (y1.trans (zz.trans u))
  have n1 : ∀ u : Ext zz.w, u.w.cell? ⟨BQ, 1, none⟩ = some (.int .i64 v.n) := fun u => c1 (y1.trans (zz.trans u))
  have n2 : ∀ u : Ext zz.w, u.w.cell? ⟨BQ, 2, none⟩ = some (.slice ra v.ty.length rc) := fun u => c2 (y1.trans (zz.trans u))
  have n3 : ∀ u : Ext zz.w, u.w.cell? ⟨BQ, 3, none⟩ = some (.slice rb v.kids.length rd) := fun u => c3 (y1.trans (zz.trans u))
  clear c0 c1 c2 c3
  obtain ⟨bb, oo, hrb, KK⟩ := AT.kid 0 k0 (by rw [HK.out]; rfl)
  have hs0 := AT.sub 0 k0 (by rw [HK.out]; rfl)
  dsimp only at hrb
  obtain ⟨kb, hkb⟩ : ∃ z, z = bb := ⟨_, rfl⟩
  obtain ⟨ko, hko⟩ : ∃ z, z = oo := ⟨_, rfl⟩
  rw [← hkb, ← hko] at KK hrb
  clear hkb hko bb oo
  have HR := hrb
  clear hrb
  have d00 : ∀ u : Ext zz.w, u.w.cell? ⟨kb, ko, none⟩ = some (.int .i64 k0.op) := fun u => by have := (y1.trans (zz.trans u)).cell KK.c0; simpa using this
  have d01 : ∀ u : Ext zz.w, u.w.cell? ⟨kb, ko + 1, none⟩ = some (.int .i64 k0.n) := fun u => by have := (y1.trans (zz.trans u)).cell KK.c1; simpa using this
  have d02 : ∀ u : Ext zz.w, u.w.cell? ⟨kb, ko + 2, none⟩ = some (.slice (kr 0).a k0.ty.length (kr 0).c) := fun u => by have := (y1.trans (zz.trans u)).cell KK.c2; simpa using this
  have d03 : ∀ u : Ext zz.w, u.w.cell? ⟨kb, ko + 3, none⟩ = some (.slice (kr 0).b k0.kids.length (kr 0).d) := fun u => by have := (y1.trans (zz.trans u)).cell KK.c3; simpa using this
  clear KK
  have m3 : ∀ u : Ext zz.w, u.w.cell? ⟨BQ, 3, none⟩ = some (.slice (some ⟨kb, ko, none⟩) 1 rd) := fun u => by rw [n3 u, HR, hlk]
  clear n3 hlk hlk' HR AT
  have CC : ∀ (u : Ext zz.w), Calls Tryd.prog 82 #[(.slice (some ⟨b, o + 1, none⟩) A.enc.length A.enc.length), (.agg #[.int .i64 k0.op, .int .i64 k0.n, .slice (kr 0).a k0.ty.length (kr 0).c, .slice (kr 0).b k0.kids.length (kr 0).d])] u.w (Ans zz.w (.int .i64 (Ty.placeI oa))) := fun u => by
    have := CA.out (y1.trans (zz.trans u)) k0 (kr 0) hs0 okk0.out
    rw [HOA.out] at this
    exact Calls.mono this fun _ _ q => ans_lift (z := u) q
  clear hs0
  have EE : ∀ u : Ext zz.w, Calls Tryd.prog 133 #[.slice ra v.ty.length rc, .slice (some ⟨b, o + 1 + A.enc.length, none⟩) B.enc.length B.enc.length] u.w (Ans zz.w (.bool true)) := fun u => Calls.mono (EQ.out (y1.trans (zz.trans u))) fun _ _ q => ans_lift (z := u) q
  go_upto_region 9 with fail
  refine region_ext yy (by kernel_rfl) (by kernel_rfl) ?_
  repeat (go_big_quiet_step ((go_at_call 133; with_reducible exact EE _)))
  refine wpQuiet_nil ?_
  rintro _ ⟨yy, rfl⟩
  generalize Ty.placeI oa = res at *
  go_upto_region 10 with fail
  refine region_ext yy (by kernel_rfl) (by kernel_rfl) ?_
  repeat (go_big_quiet_step ((go_at_call 82; with_reducible exact CC _)))
  refine wpQuiet_nil ?_
  rintro _ ⟨yy, rfl⟩
  go_wp2_with fail
  go_ret
  exact ⟨rfl, hback (y1.trans (zz.trans yy))⟩

end Go.Proofs.YtoefeijnnnioeaaDoor

/- Places of values, by the program: sums. -/
set_option linter.unusedVariables false
namespace Go.Proofs.YtoefeijnnnioeaaDoor
open Go.RowKit

set_option maxRecDepth 100000 in
set_option maxHeartbeats 16000000 in
theorem placeSum_left_no {A B : Ty} (hok : (Ty.two 2 A B).Ok) (hd : (Ty.two 2 A B).Data) (hcl : (Ty.two 2 A B).Cl) {W : World} (FO : Forms W) {b o c : Nat} (hr : Row W (Value.int .i64) (some ⟨b, o, none⟩) (Ty.two 2 A B).enc) (hl : (Ty.two 2 A B).enc.length ≤ 40) (hc : (Ty.two 2 A B).enc.length ≤ c)
    {lo : Nat} {v : Tm} {r : TV} (hv : TmIn W lo v r) {size vars : Int} {closed : Bool} (ok : OkT size closed vars v) (ho : v.op = 6) (ht : ¬ v.ty = B.enc) (x : Ext W) :
    Calls Tryd.prog 82 #[.slice (some ⟨b, o, none⟩) (Ty.two 2 A B).enc.length c, r.val v] x.w (Ans W (.int .i64 (-1))) := by
  obtain ⟨ra, rc, rb, rd⟩ := r
  unfold TV.val
  have hA := A.enc_pos
  have hB := B.enc_pos
  have hlen := Ty.len_two 2 A B
  have HO := Lib.hid ho
  have HT := Lib.hid ht
  clear ho ht
  have hvl : v.ty.length ≤ 40 := NodeOk.ty40' ok.node
  go_enter Tryd.func82, Tryd.ntmps82
  go_upto_region 1 with fail
  generalize hW : x.w.alloc _ = W1
  generalize hB : x.w.heap.size = BQ
  obtain ⟨c0, c1, c2, c3, h1, hback, yy, hy0⟩ := boxedT hv x hB hW
  have hr1 : Row W1 (Value.int .i64) (some ⟨b, o, none⟩) (Ty.two 2 A B).enc := by rw [← hW]; exact hr.ext (x.alloc _)
  have F1 : Forms W1 := by rw [← hW]; exact FO.ext (x.alloc _)
  clear hW hB
  rw [← hy0]
  clear hy0
  obtain ⟨kr, AT⟩ := h1.out
  have EQ : Hid (∀ y : Ext W1, Calls Tryd.prog 133 #[.slice ra v.ty.length rc, .slice (some ⟨b, o + 1 + A.enc.length, none⟩) B.enc.length B.enc.length] y.w (Ans y.w (.bool false))) := fun y => slicesEqual_ans (AT.row.ext y) ((show Row W1 (Value.int .i64) (some ⟨b, o + 1 + A.enc.length, none⟩) B.enc from by rw [Nat.add_assoc]; exact row_two2 hr1).ext y) (by omega) false (by refine iff_tf ?_; exact HT.out) (Ext.self y.w)
  obtain ⟨f0, f2, f3, f4, f6, FOC⟩ := form_some F1 (2) 2 rfl
  have PWC : ∀ y1 : Ext W1, Calls Tryd.prog 131 #[.slice (some ⟨b, o, none⟩) (Ty.two 2 A B).enc.length c] y1.w (NewRow y1.w 51 22 id (sls b (o + 1) [A, B])) := fun y1 => partsWithin_ans (W := y1.w) (F1.ext y1) (cc := 2) (ps := [A, B]) (by intro t ht; simp at ht; rcases ht with rfl | rfl; exact hok.2.1; exact hok.2.2) (l := (Ty.two 2 A B).enc) (by simp [Ty.enc, Ty.encs]) (hr1.ext y1) (by omega) (Ty.le36 hok) hc (Ext.self y1.w)
  have m0 : ∀ y : Ext W1, y.w.cell? ⟨b, o, none⟩ = some (.int .i64 (2)) := fun y => y.cell (row_head hr1 (l' := A.enc ++ B.enc) rfl)
  have hlp : 0 < (Ty.two 2 A B).enc.length := Ty.enc_pos _
  generalize (Ty.two 2 A B).enc.length = len at *
  clear hr hok hd hcl hl hc hr1 hv h1 ok hA hB hlen hvl
  have hlp' : (0 : Int) < (len : Int) := by omega
  have f1 : (v.op == 1) = false := by rw [HO.out]; decide
  have f4 : (v.op == 4) = false := by rw [HO.out]; decide
  have f6 : (v.op == 6) = true := by rw [HO.out]; decide
  have f7 : (v.op == 7) = false := by rw [HO.out]; decide
  have f11 : (v.op == 11) = false := by rw [HO.out]; decide
  go_wp2_with (go_at_call 114; (with_reducible refine Calls.mono (FOC _) ?_); rintro e w' ⟨rfl, yy, rfl⟩)
  generalize hY : yy.w.alloc _ = Y1
  have bY := new_blk hY
  obtain ⟨y1, hy1⟩ : ∃ y : Ext W1, y.w = Y1 := ⟨yy.alloc _, hY⟩
  generalize yy.w.heap.size = B1 at *
  clear hY yy FOC
  rw [← hy1] at bY ⊢
  clear hy1 Y1
  refine Calls.mono (PWC y1) ?_
  clear PWC m0
  rintro e w' ⟨pv, zz, rfl, rfl, own⟩
  obtain ⟨g, gc, rfl, row, hcap, _⟩ := own_some own (by simp [sls])
  have m1 : ∀ u : Ext zz.w, u.w.cell? ⟨B1, 1, none⟩ = some (.int .i64 2) := fun u => blk_cell ((zz.trans u).blk bY) 1
  have g0 : ∀ u : Ext zz.w, u.w.cell? ⟨g, 0, none⟩ = some (.slice (some ⟨b, o + 1, none⟩) A.enc.length A.enc.length) := fun u => u.cell (row_at row 0 _ rfl)
  have g1 : ∀ u : Ext zz.w, u.w.cell? ⟨g, 1, none⟩ = some (.slice (some ⟨b, o + 1 + A.enc.length, none⟩) B.enc.length B.enc.length) := fun u => u.cell (row_at row 1 _ rfl)
  clear bY own row hcap
  rw [show (sls b (o + 1) [A, B]).length = 2 from rfl]
  obtain ⟨yy, hyy⟩ : ∃ u : Ext zz.w, u.w = zz.w := ⟨Ext.self _, rfl⟩
  rw [← hyy]
  clear hyy
  have n0 : ∀ u : Ext zz.w, u.w.cell? ⟨BQ, 0, none⟩ = some (.int .i64 v.op) := fun u => c0 (y1.trans (zz.trans u))
  have n1 : ∀ u : Ext zz.w, u.w.cell? ⟨BQ, 1, none⟩ = some (.int .i64 v.n) := fun u => c1 (y1.trans (zz.trans u))
  have n2 : ∀ u : Ext zz.w, u.w.cell? ⟨BQ, 2, none⟩ = some (.slice ra v.ty.length rc) := fun u => c2 (y1.trans (zz.trans u))
  have n3 : ∀ u : Ext zz.w, u.w.cell? ⟨BQ, 3, none⟩ = some (.slice rb v.kids.length rd) := fun u => c3 (y1.trans (zz.trans u))
  clear c0 c1 c2 c3
  clear AT
  have EE : ∀ u : Ext zz.w, Calls Tryd.prog 133 #[.slice ra v.ty.length rc, .slice (some ⟨b, o + 1 + A.enc.length, none⟩) B.enc.length B.enc.length] u.w (Ans zz.w (.bool false)) := fun u => Calls.mono (EQ.out (y1.trans (zz.trans u))) fun _ _ q => ans_lift (z := u) q
  go_upto_region 9 with fail
  refine region_ext yy (by kernel_rfl) (by kernel_rfl) ?_
  repeat (go_big_quiet_step ((go_at_call 133; with_reducible exact EE _)))
  refine wpQuiet_nil ?_
  rintro _ ⟨yy, rfl⟩
  go_upto_region 11 with fail
  refine region_ext yy (by kernel_rfl) (by kernel_rfl) ?_
  repeat (go_big_quiet_step (fail))
  refine wpQuiet_nil ?_
  rintro _ ⟨yy, rfl⟩
  go_wp2_with fail
  go_ret
  exact ⟨rfl, hback (y1.trans (zz.trans yy))⟩

end Go.Proofs.YtoefeijnnnioeaaDoor

/- Places of values, by the program: sums. -/
set_option linter.unusedVariables false
namespace Go.Proofs.YtoefeijnnnioeaaDoor
open Go.RowKit

set_option maxRecDepth 100000 in
set_option maxHeartbeats 16000000 in
theorem placeSum_right_n {A B : Ty} (ihB : B.Ok → B.Data → B.Cl → ∀ {W : World} (_ : Forms W) {b o c : Nat} (_ : Row W (Value.int .i64) (some ⟨b, o, none⟩) B.enc) (_ : B.enc.length ≤ 40) (_ : B.enc.length ≤ c) {lo : Nat} {v : Tm} {r : TV} (_ : TmIn W lo v r) {size vars : Int} {closed : Bool} (_ : OkT size closed vars v) (x : Ext W), Calls Tryd.prog 82 #[.slice (some ⟨b, o, none⟩) B.enc.length c, r.val v] x.w (Ans W (.int .i64 (Ty.placeI (B.place v))))) (hok : (Ty.two 2 A B).Ok) (hd : (Ty.two 2 A B).Data) (hcl : (Ty.two 2 A B).Cl) {W : World} (FO : Forms W) {b o c : Nat} (hr : Row W (Value.int .i64) (some ⟨b, o, none⟩) (Ty.two 2 A B).enc) (hl : (Ty.two 2 A B).enc.length ≤ 40) (hc : (Ty.two 2 A B).enc.length ≤ c)
    {lo : Nat} {v : Tm} {r : TV} (hv : TmIn W lo v r) {size vars : Int} {closed : Bool} (ok : OkT size closed vars v) (ho : v.op = 7) (ht : v.ty = A.enc) {k0 : Tm} (hk : v.kids = [k0]) (hoa : B.place k0 = none) (x : Ext W) :
    Calls Tryd.prog 82 #[.slice (some ⟨b, o, none⟩) (Ty.two 2 A B).enc.length c, r.val v] x.w (Ans W (.int .i64 (-1))) := by
  obtain ⟨ra, rc, rb, rd⟩ := r
  unfold TV.val
  have hA := A.enc_pos
  have hB := B.enc_pos
  have hlen := Ty.len_two 2 A B
  have ok0 := ok.kid (i := 0) (k := k0) (by rw [hk]; rfl)
  have HK := Lib.hid hk
  have HOA := Lib.hid hoa
  clear hk hoa
  have HO := Lib.hid ho
  have HT := Lib.hid ht
  clear ho ht
  have hvl : v.ty.length ≤ 40 := NodeOk.ty40' ok.node
  go_enter Tryd.func82, Tryd.ntmps82
  go_upto_region 1 with fail
  generalize hW : x.w.alloc _ = W1
  generalize hB : x.w.heap.size = BQ
  obtain ⟨c0, c1, c2, c3, h1, hback, yy, hy0⟩ := boxedT hv x hB hW
  have hr1 : Row W1 (Value.int .i64) (some ⟨b, o, none⟩) (Ty.two 2 A B).enc := by rw [← hW]; exact hr.ext (x.alloc _)
  have F1 : Forms W1 := by rw [← hW]; exact FO.ext (x.alloc _)
  clear hW hB
  rw [← hy0]
  clear hy0
  have CB : Hid (∀ (y : Ext W1) (k : Tm) (r : TV), TmIn W1 lo k r → (∃ vs, OkT size closed vs k) → Calls Tryd.prog 82 #[.slice (some ⟨b, o + 1 + A.enc.length, none⟩) B.enc.length B.enc.length, r.val k] y.w (Ans y.w (.int .i64 (Ty.placeI (B.place k))))) := fun y k r hk ⟨vs, okk⟩ => ihB hok.2.2 hd.2.2 hcl.2 (F1.ext y) ((show Row W1 (Value.int .i64) (some ⟨b, o + 1 + A.enc.length, none⟩) B.enc from by rw [Nat.add_assoc]; exact row_two2 hr1).ext y) (by omega) (Nat.le_refl _) (hk.ext y) okk (Ext.self y.w)
  have CNA : Hid (∀ y : Ext W1, Calls Tryd.prog 132 #[.slice (some ⟨b, o + 1, none⟩) A.enc.length A.enc.length] y.w (Ans y.w (.int .i64 A.cnt))) := fun y => countOf_ans A hok.2.1 hd.2.1 hcl.1 (F1.ext y) ((row_two1 hr1).ext y) (by omega) (Nat.le_refl _) (Ext.self y.w)
  obtain ⟨kr, AT⟩ := h1.out
  have EQ : Hid (∀ y : Ext W1, Calls Tryd.prog 133 #[.slice ra v.ty.length rc, .slice (some ⟨b, o + 1, none⟩) A.enc.length A.enc.length] y.w (Ans y.w (.bool true))) := fun y => slicesEqual_ans (AT.row.ext y) ((row_two1 hr1).ext y) (by omega) true (by refine iff_tf ?_; exact HT.out) (Ext.self y.w)
  obtain ⟨f0, f2, f3, f4, f6, FOC⟩ := form_some F1 (2) 2 rfl
  have PWC : ∀ y1 : Ext W1, Calls Tryd.prog 131 #[.slice (some ⟨b, o, none⟩) (Ty.two 2 A B).enc.length c] y1.w (NewRow y1.w 51 22 id (sls b (o + 1) [A, B])) := fun y1 => partsWithin_ans (W := y1.w) (F1.ext y1) (cc := 2) (ps := [A, B]) (by intro t ht; simp at ht; rcases ht with rfl | rfl; exact hok.2.1; exact hok.2.2) (l := (Ty.two 2 A B).enc) (by simp [Ty.enc, Ty.encs]) (hr1.ext y1) (by omega) (Ty.le36 hok) hc (Ext.self y1.w)
  have m0 : ∀ y : Ext W1, y.w.cell? ⟨b, o, none⟩ = some (.int .i64 (2)) := fun y => y.cell (row_head hr1 (l' := A.enc ++ B.enc) rfl)
  have hlk : v.kids.length = 1 := by rw [HK.out]; rfl
  have hlk' : (v.kids.length : Int) = 1 := by rw [hlk]; rfl
  have okk0 : Hid (∃ vs, OkT size closed vs k0) := ⟨_, ok0⟩
  have hlp : 0 < (Ty.two 2 A B).enc.length := Ty.enc_pos _
  generalize (Ty.two 2 A B).enc.length = len at *
  clear hr hok hd hcl hl hc hr1 hv h1 ok hA hB hlen hvl ok0 ihB
  have hlp' : (0 : Int) < (len : Int) := by omega
  have f1 : (v.op == 1) = false := by rw [HO.out]; decide
  have f4 : (v.op == 4) = false := by rw [HO.out]; decide
  have f6 : (v.op == 6) = false := by rw [HO.out]; decide
  have f7 : (v.op == 7) = true := by rw [HO.out]; decide
  have f11 : (v.op == 11) = false := by rw [HO.out]; decide
  go_wp2_with (go_at_call 114; (with_reducible refine Calls.mono (FOC _) ?_); rintro e w' ⟨rfl, yy, rfl⟩)
  generalize hY : yy.w.alloc _ = Y1
  have bY := new_blk hY
  obtain ⟨y1, hy1⟩ : ∃ y : Ext W1, y.w = Y1 := ⟨yy.alloc _, hY⟩
  generalize yy.w.heap.size = B1 at *
  clear hY yy FOC
  rw [← hy1] at bY ⊢
  clear hy1 Y1
  refine Calls.mono (PWC y1) ?_
  clear PWC m0
  rintro e w' ⟨pv, zz, rfl, rfl, own⟩
  obtain ⟨g, gc, rfl, row, hcap, _⟩ := own_some own (by simp [sls])
  have m1 : ∀ u : Ext zz.w, u.w.cell? ⟨B1, 1, none⟩ = some (.int .i64 2) := fun u => blk_cell ((zz.trans u).blk bY) 1
  have g0 : ∀ u : Ext zz.w, u.w.cell? ⟨g, 0, none⟩ = some (.slice (some ⟨b, o + 1, none⟩) A.enc.length A.enc.length) := fun u => u.cell (row_at row 0 _ rfl)
  have g1 : ∀ u : Ext zz.w, u.w.cell? ⟨g, 1, none⟩ = some (.slice (some ⟨b, o + 1 + A.enc.length, none⟩) B.enc.length B.enc.length) := fun u => u.cell (row_at row 1 _ rfl)
  clear bY own row hcap
  rw [show (sls b (o + 1) [A, B]).length = 2 from rfl]
  obtain ⟨yy, hyy⟩ : ∃ u : Ext zz.w, u.w = zz.w := ⟨Ext.self _, rfl⟩
  rw [← hyy]
  clear hyy
  have n0 : ∀ u : Ext zz.w, u.w.cell? ⟨BQ, 0, none⟩ = some (.int .i64 v.op) := fun u => c0 (y1.trans (zz.trans u))
  have n1 : ∀ u : Ext zz.w, u.w.cell? ⟨BQ, 1, none⟩ = some (.int .i64 v.n) := fun u => c1 (y1.trans (zz.trans u))
  have n2 : ∀ u : Ext zz.w, u.w.cell? ⟨BQ, 2, none⟩ = some (.slice ra v.ty.length rc) := fun u => c2 (y1.trans (zz.trans u))
  have n3 : ∀ u : Ext zz.w, u.w.cell? ⟨BQ, 3, none⟩ = some (.slice rb v.kids.length rd) := fun u => c3 (y1.trans (zz.trans u))
  clear c0 c1 c2 c3
  obtain ⟨bb, oo, hrb, KK⟩ := AT.kid 0 k0 (by rw [HK.out]; rfl)
  have hs0 := AT.sub 0 k0 (by rw [HK.out]; rfl)
  dsimp only at hrb
  obtain ⟨kb, hkb⟩ : ∃ z, z = bb := ⟨_, rfl⟩
  obtain ⟨ko, hko⟩ : ∃ z, z = oo := ⟨_, rfl⟩
  rw [← hkb, ← hko] at KK hrb
  clear hkb hko bb oo
  have HR := hrb
  clear hrb
  have d00 : ∀ u : Ext zz.w, u.w.cell? ⟨kb, ko, none⟩ = some (.int .i64 k0.op) := fun u => by have := (y1.trans (zz.trans u)).cell KK.c0; simpa using this
  have d01 : ∀ u : Ext zz.w, u.w.cell? ⟨kb, ko + 1, none⟩ = some (.int .i64 k0.n) := fun u => by have := (y1.trans (zz.trans u)).cell KK.c1; simpa using this
  have d02 : ∀ u : Ext zz.w, u.w.cell? ⟨kb, ko + 2, none⟩ = some (.slice (kr 0).a k0.ty.length (kr 0).c) := fun u => by have := (y1.trans (zz.trans u)).cell KK.c2; simpa using this
  have d03 : ∀ u : Ext zz.w, u.w.cell? ⟨kb, ko + 3, none⟩ = some (.slice (kr 0).b k0.kids.length (kr 0).d) := fun u => by have := (y1.trans (zz.trans u)).cell KK.c3; simpa using this
  clear KK
  have m3 : ∀ u : Ext zz.w, u.w.cell? ⟨BQ, 3, none⟩ = some (.slice (some ⟨kb, ko, none⟩) 1 rd) := fun u => by rw [n3 u, HR, hlk]
  clear n3 hlk hlk' HR AT
  have CC : ∀ (u : Ext zz.w), Calls Tryd.prog 82 #[(.slice (some ⟨b, o + 1 + A.enc.length, none⟩) B.enc.length B.enc.length), (.agg #[.int .i64 k0.op, .int .i64 k0.n, .slice (kr 0).a k0.ty.length (kr 0).c, .slice (kr 0).b k0.kids.length (kr 0).d])] u.w (Ans zz.w (.int .i64 (-1))) := fun u => by
    have := CB.out (y1.trans (zz.trans u)) k0 (kr 0) hs0 okk0.out
    rw [HOA.out, placeI_none] at this
    exact Calls.mono this fun _ _ q => ans_lift (z := u) q
  clear hs0
  have EE : ∀ u : Ext zz.w, Calls Tryd.prog 133 #[.slice ra v.ty.length rc, .slice (some ⟨b, o + 1, none⟩) A.enc.length A.enc.length] u.w (Ans zz.w (.bool true)) := fun u => Calls.mono (EQ.out (y1.trans (zz.trans u))) fun _ _ q => ans_lift (z := u) q
  go_upto_region 9 with fail
  refine region_ext yy (by kernel_rfl) (by kernel_rfl) ?_
  repeat (go_big_quiet_step (fail))
  refine wpQuiet_nil ?_
  rintro _ ⟨yy, rfl⟩
  go_upto_region 11 with fail
  refine region_ext yy (by kernel_rfl) (by kernel_rfl) ?_
  repeat (go_big_quiet_step ((go_at_call 133; with_reducible exact EE _)))
  refine wpQuiet_nil ?_
  rintro _ ⟨yy, rfl⟩
  go_upto_region 12 with fail
  refine region_ext yy (by kernel_rfl) (by kernel_rfl) ?_
  repeat (go_big_quiet_step ((go_at_call 82; with_reducible exact CC _)))
  refine wpQuiet_nil ?_
  rintro _ ⟨yy, rfl⟩
  go_wp2_with fail
  go_ret
  exact ⟨rfl, hback (y1.trans (zz.trans yy))⟩

end Go.Proofs.YtoefeijnnnioeaaDoor

/- Places of values, by the program: sums. -/
set_option linter.unusedVariables false
namespace Go.Proofs.YtoefeijnnnioeaaDoor
open Go.RowKit

set_option maxRecDepth 100000 in
set_option maxHeartbeats 16000000 in
theorem placeSum_right_s {A B : Ty} (ihB : B.Ok → B.Data → B.Cl → ∀ {W : World} (_ : Forms W) {b o c : Nat} (_ : Row W (Value.int .i64) (some ⟨b, o, none⟩) B.enc) (_ : B.enc.length ≤ 40) (_ : B.enc.length ≤ c) {lo : Nat} {v : Tm} {r : TV} (_ : TmIn W lo v r) {size vars : Int} {closed : Bool} (_ : OkT size closed vars v) (x : Ext W), Calls Tryd.prog 82 #[.slice (some ⟨b, o, none⟩) B.enc.length c, r.val v] x.w (Ans W (.int .i64 (Ty.placeI (B.place v))))) (hok : (Ty.two 2 A B).Ok) (hd : (Ty.two 2 A B).Data) (hcl : (Ty.two 2 A B).Cl) {W : World} (FO : Forms W) {b o c : Nat} (hr : Row W (Value.int .i64) (some ⟨b, o, none⟩) (Ty.two 2 A B).enc) (hl : (Ty.two 2 A B).enc.length ≤ 40) (hc : (Ty.two 2 A B).enc.length ≤ c)
    {lo : Nat} {v : Tm} {r : TV} (hv : TmIn W lo v r) {size vars : Int} {closed : Bool} (ok : OkT size closed vars v) (ho : v.op = 7) (ht : v.ty = A.enc) {k0 : Tm} (hk : v.kids = [k0]) (pa : Nat) (hoa : B.place k0 = some pa) (x : Ext W) :
    Calls Tryd.prog 82 #[.slice (some ⟨b, o, none⟩) (Ty.two 2 A B).enc.length c, r.val v] x.w (Ans W (.int .i64 ((A.cnt : Int) + (pa : Int)))) := by
  obtain ⟨ra, rc, rb, rd⟩ := r
  unfold TV.val
  have lta : pa < B.cnt := Ty.place_lt B (ok.kid (i := 0) (k := k0) (by rw [hk]; rfl)) hoa
  have hcc : A.cnt + B.cnt ≤ 3486784401 := Ty.cnt_le hl
  have WR1 : Hid (IntKind.i64.wrap ((A.cnt : Int) + (pa : Int)) = (A.cnt : Int) + (pa : Int)) := IntWalk.i64_in _ (by omega)
  have hp0 : (0 : Int) ≤ (pa : Int) := by omega
  clear lta hcc
  have hA := A.enc_pos
  have hB := B.enc_pos
  have hlen := Ty.len_two 2 A B
  have ok0 := ok.kid (i := 0) (k := k0) (by rw [hk]; rfl)
  have HK := Lib.hid hk
  have HOA := Lib.hid hoa
  clear hk hoa
  have HO := Lib.hid ho
  have HT := Lib.hid ht
  clear ho ht
  have hvl : v.ty.length ≤ 40 := NodeOk.ty40' ok.node
  go_enter Tryd.func82, Tryd.ntmps82
  go_upto_region 1 with fail
  generalize hW : x.w.alloc _ = W1
  generalize hB : x.w.heap.size = BQ
  obtain ⟨c0, c1, c2, c3, h1, hback, yy, hy0⟩ := boxedT hv x hB hW
  have hr1 : Row W1 (Value.int .i64) (some ⟨b, o, none⟩) (Ty.two 2 A B).enc := by rw [← hW]; exact hr.ext (x.alloc _)
  have F1 : Forms W1 := by rw [← hW]; exact FO.ext (x.alloc _)
  clear hW hB
  rw [← hy0]
  clear hy0
  have CB : Hid (∀ (y : Ext W1) (k : Tm) (r : TV), TmIn W1 lo k r → (∃ vs, OkT size closed vs k) → Calls Tryd.prog 82 #[.slice (some ⟨b, o + 1 + A.enc.length, none⟩) B.enc.length B.enc.length, r.val k] y.w (Ans y.w (.int .i64 (Ty.placeI (B.place k))))) := fun y k r hk ⟨vs, okk⟩ => ihB hok.2.2 hd.2.2 hcl.2 (F1.ext y) ((show Row W1 (Value.int .i64) (some ⟨b, o + 1 + A.enc.length, none⟩) B.enc from by rw [Nat.add_assoc]; exact row_two2 hr1).ext y) (by omega) (Nat.le_refl _) (hk.ext y) okk (Ext.self y.w)
  have CNA : Hid (∀ y : Ext W1, Calls Tryd.prog 132 #[.slice (some ⟨b, o + 1, none⟩) A.enc.length A.enc.length] y.w (Ans y.w (.int .i64 A.cnt))) := fun y => countOf_ans A hok.2.1 hd.2.1 hcl.1 (F1.ext y) ((row_two1 hr1).ext y) (by omega) (Nat.le_refl _) (Ext.self y.w)
  obtain ⟨kr, AT⟩ := h1.out
  have EQ : Hid (∀ y : Ext W1, Calls Tryd.prog 133 #[.slice ra v.ty.length rc, .slice (some ⟨b, o + 1, none⟩) A.enc.length A.enc.length] y.w (Ans y.w (.bool true))) := fun y => slicesEqual_ans (AT.row.ext y) ((row_two1 hr1).ext y) (by omega) true (by refine iff_tf ?_; exact HT.out) (Ext.self y.w)
  obtain ⟨f0, f2, f3, f4, f6, FOC⟩ := form_some F1 (2) 2 rfl
  have PWC : ∀ y1 : Ext W1, Calls Tryd.prog 131 #[.slice (some ⟨b, o, none⟩) (Ty.two 2 A B).enc.length c] y1.w (NewRow y1.w 51 22 id (sls b (o + 1) [A, B])) := fun y1 => partsWithin_ans (W := y1.w) (F1.ext y1) (cc := 2) (ps := [A, B]) (by intro t ht; simp at ht; rcases ht with rfl | rfl; exact hok.2.1; exact hok.2.2) (l := (Ty.two 2 A B).enc) (by simp [Ty.enc, Ty.encs]) (hr1.ext y1) (by omega) (Ty.le36 hok) hc (Ext.self y1.w)
  have m0 : ∀ y : Ext W1, y.w.cell? ⟨b, o, none⟩ = some (.int .i64 (2)) := fun y => y.cell (row_head hr1 (l' := A.enc ++ B.enc) rfl)
  have hlk : v.kids.length = 1 := by rw [HK.out]; rfl
  have hlk' : (v.kids.length : Int) = 1 := by rw [hlk]; rfl
  have okk0 : Hid (∃ vs, OkT size closed vs k0) := ⟨_, ok0⟩
  have hlp : 0 < (Ty.two 2 A B).enc.length := Ty.enc_pos _
  generalize (Ty.two 2 A B).enc.length = len at *
  clear hr hok hd hcl hl hc hr1 hv h1 ok hA hB hlen hvl ok0 ihB
  have hlp' : (0 : Int) < (len : Int) := by omega
  have f1 : (v.op == 1) = false := by rw [HO.out]; decide
  have f4 : (v.op == 4) = false := by rw [HO.out]; decide
  have f6 : (v.op == 6) = false := by rw [HO.out]; decide
  have f7 : (v.op == 7) = true := by rw [HO.out]; decide
  have f11 : (v.op == 11) = false := by rw [HO.out]; decide
  go_wp2_with (go_at_call 114; (with_reducible refine Calls.mono (FOC _) ?_); rintro e w' ⟨rfl, yy, rfl⟩)
  generalize hY : yy.w.alloc _ = Y1
  have bY := new_blk hY
  obtain ⟨y1, hy1⟩ : ∃ y : Ext W1, y.w = Y1 := ⟨yy.alloc _, hY⟩
  generalize yy.w.heap.size = B1 at *
  clear hY yy FOC
  rw [← hy1] at bY ⊢
  clear hy1 Y1
  refine Calls.mono (PWC y1) ?_
  clear PWC m0
  rintro e w' ⟨pv, zz, rfl, rfl, own⟩
  obtain ⟨g, gc, rfl, row, hcap, _⟩ := own_some own (by simp [sls])
  have m1 : ∀ u : Ext zz.w, u.w.cell? ⟨B1, 1, none⟩ = some (.int .i64 2) := fun u => blk_cell ((zz.trans u).blk bY) 1
  have g0 : ∀ u : Ext zz.w, u.w.cell? ⟨g, 0, none⟩ = some (.slice (some ⟨b, o + 1, none⟩) A.enc.length A.enc.length) := fun u => u.cell (row_at row 0 _ rfl)
  have g1 : ∀ u : Ext zz.w, u.w.cell? ⟨g, 1, none⟩ = some (.slice (some ⟨b, o + 1 + A.enc.length, none⟩) B.enc.length B.enc.length) := fun u => u.cell (row_at row 1 _ rfl)
  clear bY own row hcap
  rw [show (sls b (o + 1) [A, B]).length = 2 from rfl]
  obtain ⟨yy, hyy⟩ : ∃ u : Ext zz.w, u.w = zz.w := ⟨Ext.self _, rfl⟩
  rw [← hyy]
  clear hyy
  have n0 : ∀ u : Ext zz.w, u.w.cell? ⟨BQ, 0, none⟩ = some (.int .i64 v.op) := fun u => c0 (y1.trans (zz.trans u))
  have n1 : ∀ u : Ext zz.w, u.w.cell? ⟨BQ, 1, none⟩ = some (.int .i64 v.n) := fun u => c1 (y1.trans (zz.trans u))
  have n2 : ∀ u : Ext zz.w, u.w.cell? ⟨BQ, 2, none⟩ = some (.slice ra v.ty.length rc) := fun u => c2 (y1.trans (zz.trans u))
  have n3 : ∀ u : Ext zz.w, u.w.cell? ⟨BQ, 3, none⟩ = some (.slice rb v.kids.length rd) := fun u => c3 (y1.trans (zz.trans u))
  clear c0 c1 c2 c3
  obtain ⟨bb, oo, hrb, KK⟩ := AT.kid 0 k0 (by rw [HK.out]; rfl)
  have hs0 := AT.sub 0 k0 (by rw [HK.out]; rfl)
  dsimp only at hrb
  obtain ⟨kb, hkb⟩ : ∃ z, z = bb := ⟨_, rfl⟩
  obtain ⟨ko, hko⟩ : ∃ z, z = oo := ⟨_, rfl⟩
  rw [← hkb, ← hko] at KK hrb
  clear hkb hko bb oo
  have HR := hrb
  clear hrb
  have d00 : ∀ u : Ext zz.w, u.w.cell? ⟨kb, ko, none⟩ = some (.int .i64 k0.op) := fun u => by have := (y1.trans (zz.trans u)).cell KK.c0; simpa using this
  have d01 : ∀ u : Ext zz.w, u.w.cell? ⟨kb, ko + 1, none⟩ = some (.int .i64 k0.n) := fun u => by have := (y1.trans (zz.trans u)).cell KK.c1; simpa using this
  have d02 : ∀ u : Ext zz.w, u.w.cell? ⟨kb, ko + 2, none⟩ = some (.slice (kr 0).a k0.ty.length (kr 0).c) := fun u => by have := (y1.trans (zz.trans u)).cell KK.c2; simpa using this
  have d03 : ∀ u : Ext zz.w, u.w.cell? ⟨kb, ko + 3, none⟩ = some (.slice (kr 0).b k0.kids.length (kr 0).d) := fun u => by have := (y1.trans (zz.trans u)).cell KK.c3; simpa using this
  clear KK
  have m3 : ∀ u : Ext zz.w, u.w.cell? ⟨BQ, 3, none⟩ = some (.slice (some ⟨kb, ko, none⟩) 1 rd) := fun u => by rw [n3 u, HR, hlk]
  clear n3 hlk hlk' HR AT
  have CC : ∀ (u : Ext zz.w), Calls Tryd.prog 82 #[(.slice (some ⟨b, o + 1 + A.enc.length, none⟩) B.enc.length B.enc.length), (.agg #[.int .i64 k0.op, .int .i64 k0.n, .slice (kr 0).a k0.ty.length (kr 0).c, .slice (kr 0).b k0.kids.length (kr 0).d])] u.w (Ans zz.w (.int .i64 ((pa : Int)))) := fun u => by
    have := CB.out (y1.trans (zz.trans u)) k0 (kr 0) hs0 okk0.out
    rw [HOA.out, placeI_some] at this
    exact Calls.mono this fun _ _ q => ans_lift (z := u) q
  clear hs0
  have EE : ∀ u : Ext zz.w, Calls Tryd.prog 133 #[.slice ra v.ty.length rc, .slice (some ⟨b, o + 1, none⟩) A.enc.length A.enc.length] u.w (Ans zz.w (.bool true)) := fun u => Calls.mono (EQ.out (y1.trans (zz.trans u))) fun _ _ q => ans_lift (z := u) q
  go_upto_region 9 with fail
  refine region_ext yy (by kernel_rfl) (by kernel_rfl) ?_
  repeat (go_big_quiet_step (fail))
  refine wpQuiet_nil ?_
  rintro _ ⟨yy, rfl⟩
  go_upto_region 11 with fail
  refine region_ext yy (by kernel_rfl) (by kernel_rfl) ?_
  repeat (go_big_quiet_step ((go_at_call 133; with_reducible exact EE _)))
  refine wpQuiet_nil ?_
  rintro _ ⟨yy, rfl⟩
  go_upto_region 12 with fail
  refine region_ext yy (by kernel_rfl) (by kernel_rfl) ?_
  repeat (go_big_quiet_step ((go_at_call 82; with_reducible exact CC _)))
  refine wpQuiet_nil ?_
  rintro _ ⟨yy, rfl⟩
  clear CC EE m3 n1 n2 d00 d01 d02 d03
  have hw1 := WR1.out
  go_wp2_with (go_at_call 132; refine Calls.mono (CNA.out (y1.trans (zz.trans yy))) ?_; rintro e w' ⟨rfl, y5, rfl⟩)
  go_ret
  exact ⟨rfl, hback (y1.trans (zz.trans (yy.trans y5)))⟩

end Go.Proofs.YtoefeijnnnioeaaDoor

/- Places of values, by the program: sums. -/
set_option linter.unusedVariables false
namespace Go.Proofs.YtoefeijnnnioeaaDoor
open Go.RowKit

set_option maxRecDepth 100000 in
set_option maxHeartbeats 16000000 in
theorem placeSum_right_no {A B : Ty} (hok : (Ty.two 2 A B).Ok) (hd : (Ty.two 2 A B).Data) (hcl : (Ty.two 2 A B).Cl) {W : World} (FO : Forms W) {b o c : Nat} (hr : Row W (Value.int .i64) (some ⟨b, o, none⟩) (Ty.two 2 A B).enc) (hl : (Ty.two 2 A B).enc.length ≤ 40) (hc : (Ty.two 2 A B).enc.length ≤ c)
    {lo : Nat} {v : Tm} {r : TV} (hv : TmIn W lo v r) {size vars : Int} {closed : Bool} (ok : OkT size closed vars v) (ho : v.op = 7) (ht : ¬ v.ty = A.enc) (x : Ext W) :
    Calls Tryd.prog 82 #[.slice (some ⟨b, o, none⟩) (Ty.two 2 A B).enc.length c, r.val v] x.w (Ans W (.int .i64 (-1))) := by
  obtain ⟨ra, rc, rb, rd⟩ := r
  unfold TV.val
  have hA := A.enc_pos
  have hB := B.enc_pos
  have hlen := Ty.len_two 2 A B
  have HO := Lib.hid ho
  have HT := Lib.hid ht
  clear ho ht
  have hvl : v.ty.length ≤ 40 := NodeOk.ty40' ok.node
  go_enter Tryd.func82, Tryd.ntmps82
  go_upto_region 1 with fail
  generalize hW : x.w.alloc _ = W1
  generalize hB : x.w.heap.size = BQ
  obtain ⟨c0, c1, c2, c3, h1, hback, yy, hy0⟩ := boxedT hv x hB hW
  have hr1 : Row W1 (Value.int .i64) (some ⟨b, o, none⟩) (Ty.two 2 A B).enc := by rw [← hW]; exact hr.ext (x.alloc _)
  have F1 : Forms W1 := by rw [← hW]; exact FO.ext (x.alloc _)
  clear hW hB
  rw [← hy0]
  clear hy0
  obtain ⟨kr, AT⟩ := h1.out
  have EQ : Hid (∀ y : Ext W1, Calls Tryd.prog 133 #[.slice ra v.ty.length rc, .slice (some ⟨b, o + 1, none⟩) A.enc.length A.enc.length] y.w (Ans y.w (.bool false))) := fun y => slicesEqual_ans (AT.row.ext y) ((row_two1 hr1).ext y) (by omega) false (by refine iff_tf ?_; exact HT.out) (Ext.self y.w)
  obtain ⟨f0, f2, f3, f4, f6, FOC⟩ := form_some F1 (2) 2 rfl
  have PWC : ∀ y1 : Ext W1, Calls Tryd.prog 131 #[.slice (some ⟨b, o, none⟩) (Ty.two 2 A B).enc.length c] y1.w (NewRow y1.w 51 22 id (sls b (o + 1) [A, B])) := fun y1 => partsWithin_ans (W := y1.w) (F1.ext y1) (cc := 2) (ps := [A, B]) (by intro t ht; simp at ht; rcases ht with rfl | rfl; exact hok.2.1; exact hok.2.2) (l := (Ty.two 2 A B).enc) (by simp [Ty.enc, Ty.encs]) (hr1.ext y1) (by omega) (Ty.le36 hok) hc (Ext.self y1.w)
  have m0 : ∀ y : Ext W1, y.w.cell? ⟨b, o, none⟩ = some (.int .i64 (2)) := fun y => y.cell (row_head hr1 (l' := A.enc ++ B.enc) rfl)
  have hlp : 0 < (Ty.two 2 A B).enc.length := Ty.enc_pos _
  generalize (Ty.two 2 A B).enc.length = len at *
  clear hr hok hd hcl hl hc hr1 hv h1 ok hA hB hlen hvl
  have hlp' : (0 : Int) < (len : Int) := by omega
  have f1 : (v.op == 1) = false := by rw [HO.out]; decide
  have f4 : (v.op == 4) = false := by rw [HO.out]; decide
  have f6 : (v.op == 6) = false := by rw [HO.out]; decide
  have f7 : (v.op == 7) = true := by rw [HO.out]; decide
  have f11 : (v.op == 11) = false := by rw [HO.out]; decide
  go_wp2_with (go_at_call 114; (with_reducible refine Calls.mono (FOC _) ?_); rintro e w' ⟨rfl, yy, rfl⟩)
  generalize hY : yy.w.alloc _ = Y1
  have bY := new_blk hY
  obtain ⟨y1, hy1⟩ : ∃ y : Ext W1, y.w = Y1 := ⟨yy.alloc _, hY⟩
  generalize yy.w.heap.size = B1 at *
  clear hY yy FOC
  rw [← hy1] at bY ⊢
  clear hy1 Y1
  refine Calls.mono (PWC y1) ?_
  clear PWC m0
  rintro e w' ⟨pv, zz, rfl, rfl, own⟩
  obtain ⟨g, gc, rfl, row, hcap, _⟩ := own_some own (by simp [sls])
  have m1 : ∀ u : Ext zz.w, u.w.cell? ⟨B1, 1, none⟩ = some (.int .i64 2) := fun u => blk_cell ((zz.trans u).blk bY) 1
  have g0 : ∀ u : Ext zz.w, u.w.cell? ⟨g, 0, none⟩ = some (.slice (some ⟨b, o + 1, none⟩) A.enc.length A.enc.length) := fun u => u.cell (row_at row 0 _ rfl)
  have g1 : ∀ u : Ext zz.w, u.w.cell? ⟨g, 1, none⟩ = some (.slice (some ⟨b, o + 1 + A.enc.length, none⟩) B.enc.length B.enc.length) := fun u => u.cell (row_at row 1 _ rfl)
  clear bY own row hcap
  rw [show (sls b (o + 1) [A, B]).length = 2 from rfl]
  obtain ⟨yy, hyy⟩ : ∃ u : Ext zz.w, u.w = zz.w := ⟨Ext.self _, rfl⟩
  rw [← hyy]
  clear hyy
  have n0 : ∀ u : Ext zz.w, u.w.cell? ⟨BQ, 0, none⟩ = some (.int .i64 v.op) := fun u => c0 (y1.trans (zz.trans u))
  have n1 : ∀ u : Ext zz.w, u.w.cell? ⟨BQ, 1, none⟩ = some (.int .i64 v.n) := fun u => c1 (y1.trans (zz.trans u))
  have n2 : ∀ u : Ext zz.w, u.w.cell? ⟨BQ, 2, none⟩ = some (.slice ra v.ty.length rc) := fun u => c2 (y1.trans (zz.trans u))
  have n3 : ∀ u : Ext zz.w, u.w.cell? ⟨BQ, 3, none⟩ = some (.slice rb v.kids.length rd) := fun u => c3 (y1.trans (zz.trans u))
  clear c0 c1 c2 c3
  clear AT
  have EE : ∀ u : Ext zz.w, Calls Tryd.prog 133 #[.slice ra v.ty.length rc, .slice (some ⟨b, o + 1, none⟩) A.enc.length A.enc.length] u.w (Ans zz.w (.bool false)) := fun u => Calls.mono (EQ.out (y1.trans (zz.trans u))) fun _ _ q => ans_lift (z := u) q
  go_upto_region 9 with fail
  refine region_ext yy (by kernel_rfl) (by kernel_rfl) ?_
  repeat (go_big_quiet_step (fail))
  refine wpQuiet_nil ?_
  rintro _ ⟨yy, rfl⟩
  go_upto_region 11 with fail
  refine region_ext yy (by kernel_rfl) (by kernel_rfl) ?_
  repeat (go_big_quiet_step ((go_at_call 133; with_reducible exact EE _)))
  refine wpQuiet_nil ?_
  rintro _ ⟨yy, rfl⟩
  go_wp2_with fail
  go_ret
  exact ⟨rfl, hback (y1.trans (zz.trans yy))⟩

end Go.Proofs.YtoefeijnnnioeaaDoor

/- Places of values, by the program: sums. -/
set_option linter.unusedVariables false
namespace Go.Proofs.YtoefeijnnnioeaaDoor
open Go.RowKit

set_option maxRecDepth 100000 in
set_option maxHeartbeats 16000000 in
theorem placeSum_no {A B : Ty} (hok : (Ty.two 2 A B).Ok) (hd : (Ty.two 2 A B).Data) (hcl : (Ty.two 2 A B).Cl) {W : World} (FO : Forms W) {b o c : Nat} (hr : Row W (Value.int .i64) (some ⟨b, o, none⟩) (Ty.two 2 A B).enc) (hl : (Ty.two 2 A B).enc.length ≤ 40) (hc : (Ty.two 2 A B).enc.length ≤ c)
    {lo : Nat} {v : Tm} {r : TV} (hv : TmIn W lo v r) {size vars : Int} {closed : Bool} (ok : OkT size closed vars v) (ho : v.op ≠ 6 ∧ v.op ≠ 7) (x : Ext W) :
    Calls Tryd.prog 82 #[.slice (some ⟨b, o, none⟩) (Ty.two 2 A B).enc.length c, r.val v] x.w (Ans W (.int .i64 (-1))) := by
  obtain ⟨ra, rc, rb, rd⟩ := r
  unfold TV.val
  have hA := A.enc_pos
  have hB := B.enc_pos
  have hlen := Ty.len_two 2 A B
  have HO := Lib.hid ho
  clear ho
  go_enter Tryd.func82, Tryd.ntmps82
  go_upto_region 1 with fail
  generalize hW : x.w.alloc _ = W1
  generalize hB : x.w.heap.size = BQ
  obtain ⟨c0, c1, c2, c3, h1, hback, yy, hy0⟩ := boxedT hv x hB hW
  have hr1 : Row W1 (Value.int .i64) (some ⟨b, o, none⟩) (Ty.two 2 A B).enc := by rw [← hW]; exact hr.ext (x.alloc _)
  have F1 : Forms W1 := by rw [← hW]; exact FO.ext (x.alloc _)
  clear hW hB
  rw [← hy0]
  clear hy0
  obtain ⟨f0, f2, f3, f4, f6, FOC⟩ := form_some F1 (2) 2 rfl
  have PWC : ∀ y1 : Ext W1, Calls Tryd.prog 131 #[.slice (some ⟨b, o, none⟩) (Ty.two 2 A B).enc.length c] y1.w (NewRow y1.w 51 22 id (sls b (o + 1) [A, B])) := fun y1 => partsWithin_ans (W := y1.w) (F1.ext y1) (cc := 2) (ps := [A, B]) (by intro t ht; simp at ht; rcases ht with rfl | rfl; exact hok.2.1; exact hok.2.2) (l := (Ty.two 2 A B).enc) (by simp [Ty.enc, Ty.encs]) (hr1.ext y1) (by omega) (Ty.le36 hok) hc (Ext.self y1.w)
  have m0 : ∀ y : Ext W1, y.w.cell? ⟨b, o, none⟩ = some (.int .i64 (2)) := fun y => y.cell (row_head hr1 (l' := A.enc ++ B.enc) rfl)
  have hlp : 0 < (Ty.two 2 A B).enc.length := Ty.enc_pos _
  generalize (Ty.two 2 A B).enc.length = len at *
  clear hr hok hd hcl hl hc hr1 hv h1 ok hA hB hlen
  have hlp' : (0 : Int) < (len : Int) := by omega
  have f6 : (v.op == 6) = false := by have := HO.out.1; rw [beq_eq_false_iff_ne]; exact this
  have f7 : (v.op == 7) = false := by have := HO.out.2; rw [beq_eq_false_iff_ne]; exact this
  go_wp2_with (go_at_call 114; (with_reducible refine Calls.mono (FOC _) ?_); rintro e w' ⟨rfl, yy, rfl⟩)
  generalize hY : yy.w.alloc _ = Y1
  have bY := new_blk hY
  obtain ⟨y1, hy1⟩ : ∃ y : Ext W1, y.w = Y1 := ⟨yy.alloc _, hY⟩
  generalize yy.w.heap.size = B1 at *
  clear hY yy FOC
  rw [← hy1] at bY ⊢
  clear hy1 Y1
  refine Calls.mono (PWC y1) ?_
  clear PWC m0
  rintro e w' ⟨pv, zz, rfl, rfl, own⟩
  obtain ⟨g, gc, rfl, row, hcap, _⟩ := own_some own (by simp [sls])
  have m1 : ∀ u : Ext zz.w, u.w.cell? ⟨B1, 1, none⟩ = some (.int .i64 2) := fun u => blk_cell ((zz.trans u).blk bY) 1
  have g0 : ∀ u : Ext zz.w, u.w.cell? ⟨g, 0, none⟩ = some (.slice (some ⟨b, o + 1, none⟩) A.enc.length A.enc.length) := fun u => u.cell (row_at row 0 _ rfl)
  have g1 : ∀ u : Ext zz.w, u.w.cell? ⟨g, 1, none⟩ = some (.slice (some ⟨b, o + 1 + A.enc.length, none⟩) B.enc.length B.enc.length) := fun u => u.cell (row_at row 1 _ rfl)
  clear bY own row hcap
  rw [show (sls b (o + 1) [A, B]).length = 2 from rfl]
  obtain ⟨yy, hyy⟩ : ∃ u : Ext zz.w, u.w = zz.w := ⟨Ext.self _, rfl⟩
  rw [← hyy]
  clear hyy
  have n0 : ∀ u : Ext zz.w, u.w.cell? ⟨BQ, 0, none⟩ = some (.int .i64 v.op) := fun u => c0 (y1.trans (zz.trans u))
  have n1 : ∀ u : Ext zz.w, u.w.cell? ⟨BQ, 1, none⟩ = some (.int .i64 v.n) := fun u => c1 (y1.trans (zz.trans u))
  have n2 : ∀ u : Ext zz.w, u.w.cell? ⟨BQ, 2, none⟩ = some (.slice ra v.ty.length rc) := fun u => c2 (y1.trans (zz.trans u))
  have n3 : ∀ u : Ext zz.w, u.w.cell? ⟨BQ, 3, none⟩ = some (.slice rb v.kids.length rd) := fun u => c3 (y1.trans (zz.trans u))
  clear c0 c1 c2 c3
  go_upto_region 9 with fail
  refine region_ext yy (by kernel_rfl) (by kernel_rfl) ?_
  repeat (go_big_quiet_step (fail))
  refine wpQuiet_nil ?_
  rintro _ ⟨yy, rfl⟩
  go_upto_region 11 with fail
  refine region_ext yy (by kernel_rfl) (by kernel_rfl) ?_
  repeat (go_big_quiet_step (fail))
  refine wpQuiet_nil ?_
  rintro _ ⟨yy, rfl⟩
  go_wp2_with fail
  go_ret
  exact ⟨rfl, hback (y1.trans (zz.trans yy))⟩

end Go.Proofs.YtoefeijnnnioeaaDoor

/- Places of values, by the program: boxes. -/
set_option linter.unusedVariables false
namespace Go.Proofs.YtoefeijnnnioeaaDoor
open Go.RowKit

set_option maxRecDepth 100000 in
set_option maxHeartbeats 16000000 in
theorem placeOne_yes {cc : Int} {A : Ty} (ihA : A.Ok → A.Data → A.Cl → ∀ {W : World} (_ : Forms W) {b o c : Nat} (_ : Row W (Value.int .i64) (some ⟨b, o, none⟩) A.enc) (_ : A.enc.length ≤ 40) (_ : A.enc.length ≤ c) {lo : Nat} {v : Tm} {r : TV} (_ : TmIn W lo v r) {size vars : Int} {closed : Bool} (_ : OkT size closed vars v) (x : Ext W), Calls Tryd.prog 82 #[.slice (some ⟨b, o, none⟩) A.enc.length c, r.val v] x.w (Ans W (.int .i64 (Ty.placeI (A.place v))))) (hok : (Ty.one cc A).Ok) (hd : (Ty.one cc A).Data) (hcl : (Ty.one cc A).Cl) {W : World} (FO : Forms W) {b o c : Nat} (hr : Row W (Value.int .i64) (some ⟨b, o, none⟩) (Ty.one cc A).enc) (hl : (Ty.one cc A).enc.length ≤ 40) (hc : (Ty.one cc A).enc.length ≤ c)
    {lo : Nat} {v : Tm} {r : TV} (hv : TmIn W lo v r) {size vars : Int} {closed : Bool} (ok : OkT size closed vars v) (ho : v.op = 11) (hn : v.n = gradeOf cc) {k0 : Tm} (hk : v.kids = [k0]) (oa : Option Nat) (hoa : A.place k0 = oa) (x : Ext W) :
    Calls Tryd.prog 82 #[.slice (some ⟨b, o, none⟩) (Ty.one cc A).enc.length c, r.val v] x.w (Ans W (.int .i64 (Ty.placeI oa))) := by
  obtain ⟨ra, rc, rb, rd⟩ := r
  unfold TV.val
  have hA := A.enc_pos
  have hlen := Ty.len_one cc A
  have hbx := Ty.bx_of hok.1
  have hgf : gF cc = gradeOf cc := by unfold gF; rw [if_pos (.inr hbx)]
  have ok0 := ok.kid (i := 0) (k := k0) (by rw [hk]; rfl)
  have HK := Lib.hid hk
  have HOA := Lib.hid hoa
  clear hk hoa
  have HO := Lib.hid ho
  clear ho
  have fn : (v.n == gF cc) = true := by rw [hgf]; exact beq_iff_eq.2 hn
  clear hn
  go_enter Tryd.func82, Tryd.ntmps82
  go_upto_region 1 with fail
  generalize hW : x.w.alloc _ = W1
  generalize hB : x.w.heap.size = BQ
  obtain ⟨c0, c1, c2, c3, h1, hback, yy, hy0⟩ := boxedT hv x hB hW
  have hr1 : Row W1 (Value.int .i64) (some ⟨b, o, none⟩) (Ty.one cc A).enc := by rw [← hW]; exact hr.ext (x.alloc _)
  have F1 : Forms W1 := by rw [← hW]; exact FO.ext (x.alloc _)
  clear hW hB
  rw [← hy0]
  clear hy0
  have CA : Hid (∀ (y : Ext W1) (k : Tm) (r : TV), TmIn W1 lo k r → (∃ vs, OkT size closed vs k) → Calls Tryd.prog 82 #[.slice (some ⟨b, o + 1, none⟩) A.enc.length A.enc.length, r.val k] y.w (Ans y.w (.int .i64 (Ty.placeI (A.place k))))) := fun y k r hk ⟨vs, okk⟩ => ihA hok.2 hd hcl.2 (F1.ext y) ((row_one hr1).ext y) (by omega) (Nat.le_refl _) (hk.ext y) okk (Ext.self y.w)
  obtain ⟨kr, AT⟩ := h1.out
  obtain ⟨f0, f2, f3, f4, f6, FOC⟩ := form_some F1 (cc) 19 (codeF_bx hbx)
  have PWC : ∀ y1 : Ext W1, Calls Tryd.prog 131 #[.slice (some ⟨b, o, none⟩) (Ty.one cc A).enc.length c] y1.w (NewRow y1.w 51 22 id (sls b (o + 1) [A])) := fun y1 => partsWithin_ans (W := y1.w) (F1.ext y1) (cc := cc) (ps := [A]) (by intro t ht; simp at ht; subst ht; exact hok.2) (l := (Ty.one cc A).enc) (by simp [Ty.enc, Ty.encs]) (hr1.ext y1) (by omega) (Ty.le36 hok) hc (Ext.self y1.w)
  have m0 : ∀ y : Ext W1, y.w.cell? ⟨b, o, none⟩ = some (.int .i64 (cc)) := fun y => y.cell (row_head hr1 (l' := A.enc) rfl)
  have hlk : v.kids.length = 1 := by rw [HK.out]; rfl
  have hlk' : (v.kids.length : Int) = 1 := by rw [hlk]; rfl
  have okk0 : Hid (∃ vs, OkT size closed vs k0) := ⟨_, ok0⟩
  have hlp : 0 < (Ty.one cc A).enc.length := Ty.enc_pos _
  generalize (Ty.one cc A).enc.length = len at *
  clear hr hok hd hcl hl hc hr1 hv h1 ok hA hlen hbx hgf ok0 ihA
  have hlp' : (0 : Int) < (len : Int) := by omega
  have f1 : (v.op == 1) = false := by rw [HO.out]; decide
  have f4 : (v.op == 4) = false := by rw [HO.out]; decide
  have f6 : (v.op == 6) = false := by rw [HO.out]; decide
  have f7 : (v.op == 7) = false := by rw [HO.out]; decide
  have f11 : (v.op == 11) = true := by rw [HO.out]; decide
  go_wp2_with (go_at_call 114; (with_reducible refine Calls.mono (FOC _) ?_); rintro e w' ⟨rfl, yy, rfl⟩)
  generalize hY : yy.w.alloc _ = Y1
  have bY := new_blk hY
  obtain ⟨y1, hy1⟩ : ∃ y : Ext W1, y.w = Y1 := ⟨yy.alloc _, hY⟩
  generalize yy.w.heap.size = B1 at *
  clear hY yy FOC
  rw [← hy1] at bY ⊢
  clear hy1 Y1
  refine Calls.mono (PWC y1) ?_
  clear PWC m0
  rintro e w' ⟨pv, zz, rfl, rfl, own⟩
  obtain ⟨g, gc, rfl, row, hcap, _⟩ := own_some own (by simp [sls])
  have m1 : ∀ u : Ext zz.w, u.w.cell? ⟨B1, 1, none⟩ = some (.int .i64 19) := fun u => blk_cell ((zz.trans u).blk bY) 1
  have g0 : ∀ u : Ext zz.w, u.w.cell? ⟨g, 0, none⟩ = some (.slice (some ⟨b, o + 1, none⟩) A.enc.length A.enc.length) := fun u => u.cell (row_at row 0 _ rfl)
  clear bY own row hcap
  rw [show (sls b (o + 1) [A]).length = 1 from rfl]
  obtain ⟨yy, hyy⟩ : ∃ u : Ext zz.w, u.w = zz.w := ⟨Ext.self _, rfl⟩
  rw [← hyy]
  clear hyy
  have n0 : ∀ u : Ext zz.w, u.w.cell? ⟨BQ, 0, none⟩ = some (.int .i64 v.op) := fun u => c0 (y1.trans (zz.trans u))
  have n1 : ∀ u : Ext zz.w, u.w.cell? ⟨BQ, 1, none⟩ = some (.int .i64 v.n) := fun u => c1 (y1.trans (zz.trans u))
  have n2 : ∀ u : Ext zz.w, u.w.cell? ⟨BQ, 2, none⟩ = some (.slice ra v.ty.length rc) := fun u => c2 (y1.trans (zz.trans u))
  have n3 : ∀ u : Ext zz.w, u.w.cell? ⟨BQ, 3, none⟩ = some (.slice rb v.kids.length rd) := fun u => c3 (y1.trans (zz.trans u))
  clear c0 c1 c2 c3
  obtain ⟨bb, oo, hrb, KK⟩ := AT.kid 0 k0 (by rw [HK.out]; rfl)
  have hs0 := AT.sub 0 k0 (by rw [HK.out]; rfl)
  dsimp only at hrb
  obtain ⟨kb, hkb⟩ : ∃ z, z = bb := ⟨_, rfl⟩
  obtain ⟨ko, hko⟩ : ∃ z, z = oo := ⟨_, rfl⟩
  rw [← hkb, ← hko] at KK hrb
  clear hkb hko bb oo
  have HR := hrb
  clear hrb
  have d00 : ∀ u : Ext zz.w, u.w.cell? ⟨kb, ko, none⟩ = some (.int .i64 k0.op) := fun u => by have := (y1.trans (zz.trans u)).cell KK.c0; simpa using this
  have d01 : ∀ u : Ext zz.w, u.w.cell? ⟨kb, ko + 1, none⟩ = some (.int .i64 k0.n) := fun u => by have := (y1.trans (zz.trans u)).cell KK.c1; simpa using this
  have d02 : ∀ u : Ext zz.w, u.w.cell? ⟨kb, ko + 2, none⟩ = some (.slice (kr 0).a k0.ty.length (kr 0).c) := fun u => by have := (y1.trans (zz.trans u)).cell KK.c2; simpa using this
  have d03 : ∀ u : Ext zz.w, u.w.cell? ⟨kb, ko + 3, none⟩ = some (.slice (kr 0).b k0.kids.length (kr 0).d) := fun u => by have := (y1.trans (zz.trans u)).cell KK.c3; simpa using this
  clear KK
  have m3 : ∀ u : Ext zz.w, u.w.cell? ⟨BQ, 3, none⟩ = some (.slice (some ⟨kb, ko, none⟩) 1 rd) := fun u => by rw [n3 u, HR, hlk]
  clear n3 hlk hlk' HR AT
  have CC : ∀ (u : Ext zz.w), Calls Tryd.prog 82 #[(.slice (some ⟨b, o + 1, none⟩) A.enc.length A.enc.length), (.agg #[.int .i64 k0.op, .int .i64 k0.n, .slice (kr 0).a k0.ty.length (kr 0).c, .slice (kr 0).b k0.kids.length (kr 0).d])] u.w (Ans zz.w (.int .i64 (Ty.placeI oa))) := fun u => by
    have := CA.out (y1.trans (zz.trans u)) k0 (kr 0) hs0 okk0.out
    rw [HOA.out] at this
    exact Calls.mono this fun _ _ q => ans_lift (z := u) q
  clear hs0
  generalize Ty.placeI oa = res at *
  go_upto_region 9 with fail
  refine region_ext yy (by kernel_rfl) (by kernel_rfl) ?_
  repeat (go_big_quiet_step (fail))
  refine wpQuiet_nil ?_
  rintro _ ⟨yy, rfl⟩
  go_upto_region 11 with fail
  refine region_ext yy (by kernel_rfl) (by kernel_rfl) ?_
  repeat (go_big_quiet_step (fail))
  refine wpQuiet_nil ?_
  rintro _ ⟨yy, rfl⟩
  go_upto_region 16 with fail
  refine region_ext yy (by kernel_rfl) (by kernel_rfl) ?_
  repeat (go_big_quiet_step ((go_at_call 82; with_reducible exact CC _)))
  refine wpQuiet_nil ?_
  rintro _ ⟨yy, rfl⟩
  go_wp2_with fail
  go_ret
  exact ⟨rfl, hback (y1.trans (zz.trans yy))⟩

set_option maxRecDepth 100000 in
set_option maxHeartbeats 16000000 in
theorem placeOne_no1 {cc : Int} {A : Ty} (hok : (Ty.one cc A).Ok) (hd : (Ty.one cc A).Data) (hcl : (Ty.one cc A).Cl) {W : World} (FO : Forms W) {b o c : Nat} (hr : Row W (Value.int .i64) (some ⟨b, o, none⟩) (Ty.one cc A).enc) (hl : (Ty.one cc A).enc.length ≤ 40) (hc : (Ty.one cc A).enc.length ≤ c)
    {lo : Nat} {v : Tm} {r : TV} (hv : TmIn W lo v r) {size vars : Int} {closed : Bool} (ok : OkT size closed vars v) (ho : v.op = 11) (hn : ¬ v.n = gradeOf cc) (x : Ext W) :
    Calls Tryd.prog 82 #[.slice (some ⟨b, o, none⟩) (Ty.one cc A).enc.length c, r.val v] x.w (Ans W (.int .i64 (-1))) := by
  obtain ⟨ra, rc, rb, rd⟩ := r
  unfold TV.val
  have hA := A.enc_pos
  have hlen := Ty.len_one cc A
  have hbx := Ty.bx_of hok.1
  have hgf : gF cc = gradeOf cc := by unfold gF; rw [if_pos (.inr hbx)]
  have HO := Lib.hid ho
  clear ho
  have fn : (v.n == gF cc) = false := by rw [hgf]; exact beq_eq_false_iff_ne.2 hn
  clear hn
  go_enter Tryd.func82, Tryd.ntmps82
  go_upto_region 1 with fail
  generalize hW : x.w.alloc _ = W1
  generalize hB : x.w.heap.size = BQ
  obtain ⟨c0, c1, c2, c3, h1, hback, yy, hy0⟩ := boxedT hv x hB hW
  have hr1 : Row W1 (Value.int .i64) (some ⟨b, o, none⟩) (Ty.one cc A).enc := by rw [← hW]; exact hr.ext (x.alloc _)
  have F1 : Forms W1 := by rw [← hW]; exact FO.ext (x.alloc _)
  clear hW hB
  rw [← hy0]
  clear hy0
  obtain ⟨f0, f2, f3, f4, f6, FOC⟩ := form_some F1 (cc) 19 (codeF_bx hbx)
  have PWC : ∀ y1 : Ext W1, Calls Tryd.prog 131 #[.slice (some ⟨b, o, none⟩) (Ty.one cc A).enc.length c] y1.w (NewRow y1.w 51 22 id (sls b (o + 1) [A])) := fun y1 => partsWithin_ans (W := y1.w) (F1.ext y1) (cc := cc) (ps := [A]) (by intro t ht; simp at ht; subst ht; exact hok.2) (l := (Ty.one cc A).enc) (by simp [Ty.enc, Ty.encs]) (hr1.ext y1) (by omega) (Ty.le36 hok) hc (Ext.self y1.w)
  have m0 : ∀ y : Ext W1, y.w.cell? ⟨b, o, none⟩ = some (.int .i64 (cc)) := fun y => y.cell (row_head hr1 (l' := A.enc) rfl)
  have hlp : 0 < (Ty.one cc A).enc.length := Ty.enc_pos _
  generalize (Ty.one cc A).enc.length = len at *
  clear hr hok hd hcl hl hc hr1 hv h1 ok hA hlen hbx hgf
  have hlp' : (0 : Int) < (len : Int) := by omega
  have f1 : (v.op == 1) = false := by rw [HO.out]; decide
  have f4 : (v.op == 4) = false := by rw [HO.out]; decide
  have f6 : (v.op == 6) = false := by rw [HO.out]; decide
  have f7 : (v.op == 7) = false := by rw [HO.out]; decide
  have f11 : (v.op == 11) = true := by rw [HO.out]; decide
  go_wp2_with (go_at_call 114; (with_reducible refine Calls.mono (FOC _) ?_); rintro e w' ⟨rfl, yy, rfl⟩)
  generalize hY : yy.w.alloc _ = Y1
  have bY := new_blk hY
  obtain ⟨y1, hy1⟩ : ∃ y : Ext W1, y.w = Y1 := ⟨yy.alloc _, hY⟩
  generalize yy.w.heap.size = B1 at *
  clear hY yy FOC
  rw [← hy1] at bY ⊢
  clear hy1 Y1
  refine Calls.mono (PWC y1) ?_
  clear PWC m0
  rintro e w' ⟨pv, zz, rfl, rfl, own⟩
  obtain ⟨g, gc, rfl, row, hcap, _⟩ := own_some own (by simp [sls])
  have m1 : ∀ u : Ext zz.w, u.w.cell? ⟨B1, 1, none⟩ = some (.int .i64 19) := fun u => blk_cell ((zz.trans u).blk bY) 1
  have g0 : ∀ u : Ext zz.w, u.w.cell? ⟨g, 0, none⟩ = some (.slice (some ⟨b, o + 1, none⟩) A.enc.length A.enc.length) := fun u => u.cell (row_at row 0 _ rfl)
  clear bY own row hcap
  rw [show (sls b (o + 1) [A]).length = 1 from rfl]
  obtain ⟨yy, hyy⟩ : ∃ u : Ext zz.w, u.w = zz.w := ⟨Ext.self _, rfl⟩
  rw [← hyy]
  clear hyy
  have n0 : ∀ u : Ext zz.w, u.w.cell? ⟨BQ, 0, none⟩ = some (.int .i64 v.op) := fun u => c0 (y1.trans (zz.trans u))
  have n1 : ∀ u : Ext zz.w, u.w.cell? ⟨BQ, 1, none⟩ = some (.int .i64 v.n) := fun u => c1 (y1.trans (zz.trans u))
  have n2 : ∀ u : Ext zz.w, u.w.cell? ⟨BQ, 2, none⟩ = some (.slice ra v.ty.length rc) := fun u => c2 (y1.trans (zz.trans u))
  have n3 : ∀ u : Ext zz.w, u.w.cell? ⟨BQ, 3, none⟩ = some (.slice rb v.kids.length rd) := fun u => c3 (y1.trans (zz.trans u))
  clear c0 c1 c2 c3
  go_upto_region 9 with fail
  refine region_ext yy (by kernel_rfl) (by kernel_rfl) ?_
  repeat (go_big_quiet_step (fail))
  refine wpQuiet_nil ?_
  rintro _ ⟨yy, rfl⟩
  go_upto_region 11 with fail
  refine region_ext yy (by kernel_rfl) (by kernel_rfl) ?_
  repeat (go_big_quiet_step (fail))
  refine wpQuiet_nil ?_
  rintro _ ⟨yy, rfl⟩
  go_wp2_with fail
  go_ret
  exact ⟨rfl, hback (y1.trans (zz.trans yy))⟩

set_option maxRecDepth 100000 in
set_option maxHeartbeats 16000000 in
theorem placeOne_no2 {cc : Int} {A : Ty} (hok : (Ty.one cc A).Ok) (hd : (Ty.one cc A).Data) (hcl : (Ty.one cc A).Cl) {W : World} (FO : Forms W) {b o c : Nat} (hr : Row W (Value.int .i64) (some ⟨b, o, none⟩) (Ty.one cc A).enc) (hl : (Ty.one cc A).enc.length ≤ 40) (hc : (Ty.one cc A).enc.length ≤ c)
    {lo : Nat} {v : Tm} {r : TV} (hv : TmIn W lo v r) {size vars : Int} {closed : Bool} (ok : OkT size closed vars v) (ho : v.op ≠ 11) (x : Ext W) :
    Calls Tryd.prog 82 #[.slice (some ⟨b, o, none⟩) (Ty.one cc A).enc.length c, r.val v] x.w (Ans W (.int .i64 (-1))) := by
  obtain ⟨ra, rc, rb, rd⟩ := r
  unfold TV.val
  have hA := A.enc_pos
  have hlen := Ty.len_one cc A
  have hbx := Ty.bx_of hok.1
  have hgf : gF cc = gradeOf cc := by unfold gF; rw [if_pos (.inr hbx)]
  have HO := Lib.hid ho
  clear ho
  go_enter Tryd.func82, Tryd.ntmps82
  go_upto_region 1 with fail
  generalize hW : x.w.alloc _ = W1
  generalize hB : x.w.heap.size = BQ
  obtain ⟨c0, c1, c2, c3, h1, hback, yy, hy0⟩ := boxedT hv x hB hW
  have hr1 : Row W1 (Value.int .i64) (some ⟨b, o, none⟩) (Ty.one cc A).enc := by rw [← hW]; exact hr.ext (x.alloc _)
  have F1 : Forms W1 := by rw [← hW]; exact FO.ext (x.alloc _)
  clear hW hB
  rw [← hy0]
  clear hy0
  obtain ⟨f0, f2, f3, f4, f6, FOC⟩ := form_some F1 (cc) 19 (codeF_bx hbx)
  have PWC : ∀ y1 : Ext W1, Calls Tryd.prog 131 #[.slice (some ⟨b, o, none⟩) (Ty.one cc A).enc.length c] y1.w (NewRow y1.w 51 22 id (sls b (o + 1) [A])) := fun y1 => partsWithin_ans (W := y1.w) (F1.ext y1) (cc := cc) (ps := [A]) (by intro t ht; simp at ht; subst ht; exact hok.2) (l := (Ty.one cc A).enc) (by simp [Ty.enc, Ty.encs]) (hr1.ext y1) (by omega) (Ty.le36 hok) hc (Ext.self y1.w)
  have m0 : ∀ y : Ext W1, y.w.cell? ⟨b, o, none⟩ = some (.int .i64 (cc)) := fun y => y.cell (row_head hr1 (l' := A.enc) rfl)
  have hlp : 0 < (Ty.one cc A).enc.length := Ty.enc_pos _
  generalize (Ty.one cc A).enc.length = len at *
  clear hr hok hd hcl hl hc hr1 hv h1 ok hA hlen hbx hgf
  have hlp' : (0 : Int) < (len : Int) := by omega
  have f11 : (v.op == 11) = false := by have := HO.out; rw [beq_eq_false_iff_ne]; exact this
  go_wp2_with (go_at_call 114; (with_reducible refine Calls.mono (FOC _) ?_); rintro e w' ⟨rfl, yy, rfl⟩)
  generalize hY : yy.w.alloc _ = Y1
  have bY := new_blk hY
  obtain ⟨y1, hy1⟩ : ∃ y : Ext W1, y.w = Y1 := ⟨yy.alloc _, hY⟩
  generalize yy.w.heap.size = B1 at *
  clear hY yy FOC
  rw [← hy1] at bY ⊢
  clear hy1 Y1
  refine Calls.mono (PWC y1) ?_
  clear PWC m0
  rintro e w' ⟨pv, zz, rfl, rfl, own⟩
  obtain ⟨g, gc, rfl, row, hcap, _⟩ := own_some own (by simp [sls])
  have m1 : ∀ u : Ext zz.w, u.w.cell? ⟨B1, 1, none⟩ = some (.int .i64 19) := fun u => blk_cell ((zz.trans u).blk bY) 1
  have g0 : ∀ u : Ext zz.w, u.w.cell? ⟨g, 0, none⟩ = some (.slice (some ⟨b, o + 1, none⟩) A.enc.length A.enc.length) := fun u => u.cell (row_at row 0 _ rfl)
  clear bY own row hcap
  rw [show (sls b (o + 1) [A]).length = 1 from rfl]
  obtain ⟨yy, hyy⟩ : ∃ u : Ext zz.w, u.w = zz.w := ⟨Ext.self _, rfl⟩
  rw [← hyy]
  clear hyy
  have n0 : ∀ u : Ext zz.w, u.w.cell? ⟨BQ, 0, none⟩ = some (.int .i64 v.op) := fun u => c0 (y1.trans (zz.trans u))
  have n1 : ∀ u : Ext zz.w, u.w.cell? ⟨BQ, 1, none⟩ = some (.int .i64 v.n) := fun u => c1 (y1.trans (zz.trans u))
  have n2 : ∀ u : Ext zz.w, u.w.cell? ⟨BQ, 2, none⟩ = some (.slice ra v.ty.length rc) := fun u => c2 (y1.trans (zz.trans u))
  have n3 : ∀ u : Ext zz.w, u.w.cell? ⟨BQ, 3, none⟩ = some (.slice rb v.kids.length rd) := fun u => c3 (y1.trans (zz.trans u))
  clear c0 c1 c2 c3
  go_upto_region 9 with fail
  refine region_ext yy (by kernel_rfl) (by kernel_rfl) ?_
  repeat (go_big_quiet_step (fail))
  refine wpQuiet_nil ?_
  rintro _ ⟨yy, rfl⟩
  go_upto_region 11 with fail
  refine region_ext yy (by kernel_rfl) (by kernel_rfl) ?_
  repeat (go_big_quiet_step (fail))
  refine wpQuiet_nil ?_
  rintro _ ⟨yy, rfl⟩
  go_wp2_with fail
  go_ret
  exact ⟨rfl, hback (y1.trans (zz.trans yy))⟩

end Go.Proofs.YtoefeijnnnioeaaDoor

/- Places of values, by the program. -/
namespace Go.Proofs.YtoefeijnnnioeaaDoor
open Go.RowKit

theorem placeOf_ans (T : Ty) : ∀ (_ : T.Ok) (_ : T.Data) (_ : T.Cl) {W : World} (_ : Forms W) {b o c : Nat} (_ : Row W (Value.int .i64) (some ⟨b, o, none⟩) T.enc) (_ : T.enc.length ≤ 40) (_ : T.enc.length ≤ c) {lo : Nat} {v : Tm} {r : TV} (_ : TmIn W lo v r) {size vars : Int} {closed : Bool} (_ : OkT size closed vars v) (x : Ext W),
    Calls Tryd.prog 82 #[.slice (some ⟨b, o, none⟩) T.enc.length c, r.val v] x.w (Ans W (.int .i64 (Ty.placeI (T.place v)))) := by
  induction T with
  | leaf => intro hok hd hcl W FO b o c hr hl hc lo v r hv size vars closed ok x; exact placeLeaf hok hd hcl FO hr hl hc hv ok x
  | two cc A B ihA ihB =>
    intro hok hd hcl W FO b o c hr hl hc lo v r hv size vars closed ok x
    rcases hd.1 with rfl | rfl
    · by_cases ho : v.op = 4
      · obtain ⟨k0, k1, hk⟩ : ∃ k0 k1, v.kids = [k0, k1] := len2 (by have := ok.node.many; rw [ho] at this; exact this)
        rw [Ty.place_pair ho hk]
        cases hoa : A.place k0 with
        | none => exact placePair_n ihA ihB hok hd hcl FO hr hl hc hv ok ho hk hoa (B.place k1) rfl x
        | some pa =>
          cases hob : B.place k1 with
          | none => exact placePair_sn ihA ihB hok hd hcl FO hr hl hc hv ok ho hk pa hoa hob x
          | some pb =>
            have := placePair_ss ihA ihB hok hd hcl FO hr hl hc hv ok ho hk pa pb hoa hob x
            rw [show ((pa : Int) * (B.cnt : Int) + (pb : Int)) = ((pa * B.cnt + pb : Nat) : Int) by simp] at this
            exact this
      · rw [Ty.place_pair_no ho]
        exact placePair_no hok hd hcl FO hr hl hc hv ok ho x
    · by_cases h6 : v.op = 6
      · by_cases ht : v.ty = B.enc
        · obtain ⟨k0, hk⟩ : ∃ k0, v.kids = [k0] := len1 (by have := ok.node.many; rw [h6] at this; exact this)
          rw [Ty.place_left h6 ht hk]
          exact placeSum_left ihA hok hd hcl FO hr hl hc hv ok h6 ht hk (A.place k0) rfl x
        · rw [Ty.place_sum_no (fun q => ht q.2) (fun q => by have := q.1; omega)]
          exact placeSum_left_no hok hd hcl FO hr hl hc hv ok h6 ht x
      · by_cases h7 : v.op = 7
        · by_cases ht : v.ty = A.enc
          · obtain ⟨k0, hk⟩ : ∃ k0, v.kids = [k0] := len1 (by have := ok.node.many; rw [h7] at this; exact this)
            rw [Ty.place_right h7 ht hk]
            cases hoa : B.place k0 with
            | none => exact placeSum_right_n ihB hok hd hcl FO hr hl hc hv ok h7 ht hk hoa x
            | some pa =>
              have := placeSum_right_s ihB hok hd hcl FO hr hl hc hv ok h7 ht hk pa hoa x
              rw [show ((A.cnt : Int) + (pa : Int)) = ((A.cnt + pa : Nat) : Int) by simp] at this
              exact this
          · rw [Ty.place_sum_no (fun q => h6 q.1) (fun q => ht q.2)]
            exact placeSum_right_no hok hd hcl FO hr hl hc hv ok h7 ht x
        · rw [Ty.place_sum_no (fun q => h6 q.1) (fun q => h7 q.1)]
          exact placeSum_no hok hd hcl FO hr hl hc hv ok ⟨h6, h7⟩ x
  | one cc A ihA =>
    intro hok hd hcl W FO b o c hr hl hc lo v r hv size vars closed ok x
    by_cases ho : v.op = 11
    · by_cases hn : v.n = gradeOf cc
      · obtain ⟨k0, hk⟩ : ∃ k0, v.kids = [k0] := len1 (by have := ok.node.many; rw [ho] at this; exact this)
        rw [Ty.place_box ho hn hk]
        exact placeOne_yes ihA hok hd hcl FO hr hl hc hv ok ho hn hk (A.place k0) rfl x
      · rw [Ty.place_box_no (fun q => hn q.2)]
        exact placeOne_no1 hok hd hcl FO hr hl hc hv ok ho hn x
    · rw [Ty.place_box_no (fun q => ho q.1)]
      exact placeOne_no2 hok hd hcl FO hr hl hc hv ok ho x

end Go.Proofs.YtoefeijnnnioeaaDoor
