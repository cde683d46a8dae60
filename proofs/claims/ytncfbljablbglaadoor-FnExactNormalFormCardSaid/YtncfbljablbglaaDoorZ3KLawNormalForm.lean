/- The law of NormalForm. -/
import Derived.Test.YtncfbljablbglaaDoorZ3GI
import Derived.Test.YtncfbljablbglaaDoorZ3GF
import Derived.Test.YtncfbljablbglaaDoorZ3KNormP
import Derived.Test.YtncfbljablbglaaDoorZ3KNormM
import Derived.Deep.RegionHeld3
import Derived.Deep.Cut
import Derived.RegionTactic
import Derived.Outline
set_option linter.unusedVariables false
set_option linter.unusedSimpArgs false
namespace Go.Proofs.YtncfbljablbglaaDoor
open Go.RowKit

set_option maxRecDepth 100000 in
set_option maxHeartbeats 16000000 in
theorem normalForm_law {W : World} (F : Forms W) (TF : TForms W) {lo0 : Nat} {t0 : Tm} {r0 : TV} (ht0 : TmIn W lo0 t0 r0) (hTB0 : TmB t0) (n1 : Int) :
    Calls Tryd.prog 3 #[r0.val t0, .int .i64 n1] W (LawEnd W) := by
  obtain ⟨x, hx⟩ : ∃ x : Ext W, x.w = W := ⟨Ext.self W, rfl⟩
  suffices hs : Calls Tryd.prog 3 #[r0.val t0, .int .i64 n1] x.w (LawEnd W) by rw [hx] at hs; exact hs
  clear hx
  obtain ⟨ra0, rc0, rb0, rd0⟩ := r0
  unfold TV.val
  by_cases hb0 : (1048576 : Int) < t0.wt
  · skip
    go_enter Tryd.func3, Tryd.ntmps3
    go_wp2_with fail
    have hxW := x.size
    generalize hW : x.w.alloc _ = Wb
    generalize hB : x.w.heap.size = B at *
    obtain ⟨bk0, -, bel⟩ := blocks1 hB hW
    have belW : Below W.heap.size W Wb := x.below.trans (bel.mono (by omega))
    clear hW bel hB hxW
    have h10 : TmIn Wb lo0 t0 (TV.mk ra0 rc0 rb0 rd0) := ht0.ext ⟨Wb, belW⟩
    have c00 : ∀ y : Ext Wb, y.w.cell? ⟨B, 0, none⟩ = some (.int .i64 t0.op) := fun y => blk_cell (y.blk bk0) 0
    have c01 : ∀ y : Ext Wb, y.w.cell? ⟨B, 1, none⟩ = some (.int .i64 t0.n) := fun y => blk_cell (y.blk bk0) 1
    have c02 : ∀ y : Ext Wb, y.w.cell? ⟨B, 2, none⟩ = some (.slice ra0 t0.ty.length rc0) := fun y => blk_cell (y.blk bk0) 2
    have c03 : ∀ y : Ext Wb, y.w.cell? ⟨B, 3, none⟩ = some (.slice rb0 t0.kids.length rd0) := fun y => blk_cell (y.blk bk0) 3
    have hback : ∀ y : Ext Wb, ∃ z : Ext W, y.w = z.w := fun y => ⟨⟨y.w, belW.trans (y.below.mono belW.size)⟩, rfl⟩
    obtain ⟨yy, hy0⟩ : ∃ y : Ext Wb, y.w = Wb := ⟨Ext.self Wb, rfl⟩
    rw [← hy0]
    clear hy0 belW bk0
    have SZT : ∀ y : Ext Wb, Calls Tryd.prog 8 #[(TV.mk ra0 rc0 rb0 rd0).val t0, .int .i64 1048576] y.w (Ans Wb (.int .i64 (-1))) := fun y => szTerm_ans t0 h10 1048576 (by omega) (by omega) (-1) (.inr ⟨hb0, rfl⟩) y
    unfold TV.val at SZT
    refine Calls.mono (SZT _) ?_
    rintro e w' ⟨rfl, yy, rfl⟩
    clear SZT
    go_wp2_with fail
    go_ret
    exact law_end (hback yy)
  have hwt0 : t0.wt ≤ 1048576 := by omega
  generalize hlf0 : (1048576 : Int) - t0.wt = lft0
  have hnb0 : (0 : Int) ≤ lft0 := by omega
  have hlb0 : lft0 ≤ 1048576 := by omega
  have hwu0 : t0.wt ≤ 1099511627776 := by omega
  obtain ⟨o, n, b, ho⟩ := normV_ex t0 n1
  have hwo : o.wt ≤ 1048576 := by have := ho.wt; omega
  have HO := Lib.hid ho
  clear ho
  go_enter Tryd.func3, Tryd.ntmps3
  go_wp2_with fail
  have hxW := x.size
  generalize hW : x.w.alloc _ = Wb
  generalize hB : x.w.heap.size = B at *
  obtain ⟨bk0, -, bel⟩ := blocks1 hB hW
  have belW : Below W.heap.size W Wb := x.below.trans (bel.mono (by omega))
  clear hW bel hB hxW
  have h10 : TmIn Wb lo0 t0 (TV.mk ra0 rc0 rb0 rd0) := ht0.ext ⟨Wb, belW⟩
  have c00 : ∀ y : Ext Wb, y.w.cell? ⟨B, 0, none⟩ = some (.int .i64 t0.op) := fun y => blk_cell (y.blk bk0) 0
  have c01 : ∀ y : Ext Wb, y.w.cell? ⟨B, 1, none⟩ = some (.int .i64 t0.n) := fun y => blk_cell (y.blk bk0) 1
  have c02 : ∀ y : Ext Wb, y.w.cell? ⟨B, 2, none⟩ = some (.slice ra0 t0.ty.length rc0) := fun y => blk_cell (y.blk bk0) 2
  have c03 : ∀ y : Ext Wb, y.w.cell? ⟨B, 3, none⟩ = some (.slice rb0 t0.kids.length rd0) := fun y => blk_cell (y.blk bk0) 3
  have hback : ∀ y : Ext Wb, ∃ z : Ext W, y.w = z.w := fun y => ⟨⟨y.w, belW.trans (y.below.mono belW.size)⟩, rfl⟩
  obtain ⟨yy, hy0⟩ : ∃ y : Ext Wb, y.w = Wb := ⟨Ext.self Wb, rfl⟩
  rw [← hy0]
  clear hy0 belW bk0
  have SZT : ∀ y : Ext Wb, Calls Tryd.prog 8 #[(TV.mk ra0 rc0 rb0 rd0).val t0, .int .i64 1048576] y.w (Ans Wb (.int .i64 lft0)) := fun y => szTerm_ans t0 h10 1048576 (by omega) (by omega) lft0 (.inl ⟨by omega, hlf0.symm⟩) y
  unfold TV.val at SZT
  refine Calls.mono (SZT _) ?_
  rintro e w' ⟨rfl, yy, rfl⟩
  clear SZT
  clear hlf0
  go_upto_region 5 with fail
  obtain ⟨U0, hU0⟩ : ∃ U0 : World, U0 = yy.w := ⟨_, rfl⟩
  have bel0 : Below Wb.heap.size Wb U0 := by rw [hU0]; exact yy.below
  rw [← hU0]
  clear hU0 yy
  have HKT0 : Hid (∀ w, Below Wb.heap.size Wb w → w.cell? ⟨B, 0, none⟩ = some (.int .i64 t0.op) ∧ w.cell? ⟨B, 1, none⟩ = some (.int .i64 t0.n) ∧ w.cell? ⟨B, 2, none⟩ = some (.slice ra0 t0.ty.length rc0) ∧ w.cell? ⟨B, 3, none⟩ = some (.slice rb0 t0.kids.length rd0)) := fun w q => ⟨c00 ⟨w, q⟩, c01 ⟨w, q⟩, c02 ⟨w, q⟩, c03 ⟨w, q⟩⟩
  obtain ⟨zb, hzb⟩ := hback (Ext.self Wb)
  replace hzb : Wb = zb.w := hzb
  have Fb : Forms Wb := by rw [hzb]; exact F.ext zb
  have TFb : TForms Wb := by rw [hzb]; exact TF.ext zb
  clear hzb zb
  have TO0 : Hid (∀ w, Below Wb.heap.size Wb w → Calls Tryd.prog 10 #[.agg #[.int .i64 t0.op, .int .i64 t0.n, .slice ra0 t0.ty.length rc0, .slice rb0 t0.kids.length rd0]] w (NewTmO w t0)) := fun w q => toTermO_ans t0 (r := (TV.mk ra0 rc0 rb0 rd0)) (h10.ext ⟨w, q⟩) hwt0 (Ext.self w)
  have SPC : Hid (∀ w r'0, Below Wb.heap.size Wb w → TmIn w 0 t0 r'0 → Calls Tryd.prog 9 #[TV.val r'0 t0, .int .i64 n1] w (NewTmIB w o n b)) := fun w r'0 q e0 => specNormalForm_ans e0 hwu0 n1 o n b HO.out (Ext.self w)
  have IMP : Hid (∀ w r'0, Below Wb.heap.size Wb w → TmIn w 0 t0 r'0 → Calls Tryd.prog 11 #[TV.val r'0 t0, .int .i64 n1] w (NewTmIB w o n b)) := fun w r'0 q e0 => normalForm_ans (Fb.ext ⟨w, q⟩) (TFb.ext ⟨w, q⟩) e0 hTB0 n1 o n b HO.out (Ext.self w)
  clear c00 c01 c02 c03 Fb TFb
  obtain ⟨m0, m1, m2, m3⟩ := HKT0.out U0 bel0
  have C := TO0.out U0 bel0
  go_wp2_with fail
  clear m0 m1 m2 m3
  refine Calls.mono C ?_
  clear C
  rintro e w' ⟨r10, NB1, y0, rfl, rfl, own1, -⟩
  have tn0 := own1.tm (fun g _ => Nat.zero_le g)
  clear own1
  have C := SPC.out y0.w r10 (below_ext bel0 y0) tn0
  go_wp2_with fail
  refine Calls.mono C ?_
  clear C tn0
  rintro e w' ⟨rw, NBw, y2, rfl, rfl, hnw, hlow⟩
  go_upto_region 6 with fail
  generalize hG : World.alloc _ _ = wc
  have hcut := got_new (M := U0) (b := b) (below_ext y0.below y2) hnw hG
  generalize y2.w.heap.size = DG at *
  clear hG hnw hlow
  obtain ⟨DD, rr, hpp, -, bel6, hD6, box6, tm6⟩ := hcut
  obtain rfl : DD = DG := by cases hpp; rfl
  clear hpp
  obtain ⟨U, hU⟩ : ∃ U : World, U = wc := ⟨_, rfl⟩
  rw [← hU] at bel6 box6 tm6 ⊢
  clear hU
  have belU : Below Wb.heap.size Wb U := bel0.trans (bel6.mono bel0.size)
  clear bel6 hD6
  have W6 : Hid (∀ z, Below U.heap.size U z → Box4 z DD o rr ∧ TmIn z 0 o rr) := fun z b => ⟨box6.ext ⟨z, b⟩, tm6.ext ⟨z, b⟩⟩
  have toWb : Hid (∀ z, Below U.heap.size U z → Below Wb.heap.size Wb z) := fun z b => belU.trans (b.mono belU.size)
  clear box6 tm6 bel0
  obtain ⟨L0, eL⟩ : ∃ L, L = U.heap.size := ⟨_, rfl⟩
  have hLU : U.heap.size ≤ L0 := by omega
  have bU : Below U.heap.size U U := Below.refl _ _
  -- an argument, in blocks of its own
  have C := TO0.out U (toWb.out _ bU)
  obtain ⟨m0, m1, m2, m3⟩ := HKT0.out U (toWb.out _ bU)
  go_wp2_with fail
  clear m0 m1 m2 m3
  refine Calls.mono C ?_
  clear C
  rintro e w' ⟨rx0, BX, y, rfl, rfl, own, l⟩
  replace bU := below_ext bU y
  have q := y.size
  go_upto_region 7 with fail
  generalize hV : World.alloc _ _ = Z1
  have X0 := HoldT.new own l q hV
  obtain ⟨zv, hzv⟩ : ∃ z : Ext y.w, z.w = Z1 := ⟨(Ext.self y.w).alloc _, hV⟩
  replace bU := below_ext bU zv
  have qV : y.w.heap.size < Z1.heap.size := by rw [← hV]; simp
  rw [hzv] at bU
  clear hV hzv zv own l
  rw [← eL] at X0
  generalize y.w.heap.size = DXX0 at *
  obtain ⟨L1, eL2⟩ : ∃ L, L = Z1.heap.size := ⟨_, rfl⟩
  rw [← eL2] at X0
  have hL1 : L0 ≤ L1 := by omega
  clear eL q qV y
  have eL := eL2
  clear eL2
  -- the call
  have C := IMP.out Z1 rx0 (toWb.out _ bU) X0.tm
  obtain ⟨m00, m01, m02, m03⟩ := X0.box
  go_wp2_with fail
  clear m00 m01 m02 m03
  refine Calls.mono C ?_
  clear C
  rintro e w' ⟨rg, NB, y, rfl, rfl, own, l⟩
  replace X0 := X0.ext y
  replace bU := below_ext bU y
  have q := y.size
  go_upto_region 8 with fail
  generalize hV : World.alloc _ _ = Z2
  have XG := HoldT.new own l q hV
  obtain ⟨zv, hzv⟩ : ∃ z : Ext y.w, z.w = Z2 := ⟨(Ext.self y.w).alloc _, hV⟩
  replace X0 := X0.ext zv
  replace bU := below_ext bU zv
  have qV : y.w.heap.size < Z2.heap.size := by rw [← hV]; simp
  rw [hzv] at X0 bU
  clear hV hzv zv own l
  rw [← eL] at XG
  generalize y.w.heap.size = DXXG at *
  obtain ⟨L2, eL2⟩ : ∃ L, L = Z2.heap.size := ⟨_, rfl⟩
  rw [← eL2] at XG
  have hL2 : L1 ≤ L2 := by omega
  clear eL q qV y
  have eL := eL2
  clear eL2
  clear eL
  -- it is what the model says
  obtain ⟨m0, m1, m2, m3⟩ := XG.box
  obtain ⟨n0, n1, n2, n3⟩ := (W6.out Z2 bU).1
  have C := eqTerm_ans o XG.tm (W6.out Z2 bU).2 hwo true (by simp) (Ext.self Z2)
  go_wp2_with fail
  clear m0 m1 m2 m3 n0 n1 n2 n3
  refine Calls.mono C ?_
  clear C
  rintro e w' ⟨rfl, y, rfl⟩
  replace X0 := X0.ext y
  replace XG := XG.ext y
  replace bU := below_ext bU y
  go_upto_region 10 with fail
  obtain ⟨Z3, hZ⟩ : ∃ Z : World, Z = y.w := ⟨_, rfl⟩
  rw [← hZ] at X0 XG bU ⊢
  clear hZ
  have K15 : Hid (∀ w', Below Z3.heap.size Z3 w' → (w'.cell? ⟨DXX0, 0, none⟩ = some (.int .i64 t0.op) ∧ w'.cell? ⟨DXX0, 1, none⟩ = some (.int .i64 t0.n) ∧ w'.cell? ⟨DXX0, 2, none⟩ = some (.slice rx0.a t0.ty.length rx0.c) ∧ w'.cell? ⟨DXX0, 3, none⟩ = some (.slice rx0.b t0.kids.length rx0.d)) ∧ w'.cell? ⟨B, 0, none⟩ = some (.int .i64 t0.op) ∧ w'.cell? ⟨B, 1, none⟩ = some (.int .i64 t0.n) ∧ w'.cell? ⟨B, 2, none⟩ = some (.slice ra0 t0.ty.length rc0) ∧ w'.cell? ⟨B, 3, none⟩ = some (.slice rb0 t0.kids.length rd0)) := fun w' q => ⟨X0.box.ext ⟨w', q⟩, HKT0.out w' ((toWb.out _ bU).trans (q.mono (toWb.out _ bU).size))⟩
  have C := TO0.out Z3.drew (toWb.out _ (below_drew bU))
  go_region_held3 (fun w' => (w'.cell? ⟨DXX0, 0, none⟩ = some (.int .i64 t0.op) ∧ w'.cell? ⟨DXX0, 1, none⟩ = some (.int .i64 t0.n) ∧ w'.cell? ⟨DXX0, 2, none⟩ = some (.slice rx0.a t0.ty.length rx0.c) ∧ w'.cell? ⟨DXX0, 3, none⟩ = some (.slice rx0.b t0.kids.length rx0.d)) ∧ w'.cell? ⟨B, 0, none⟩ = some (.int .i64 t0.op) ∧ w'.cell? ⟨B, 1, none⟩ = some (.int .i64 t0.n) ∧ w'.cell? ⟨B, 2, none⟩ = some (.slice ra0 t0.ty.length rc0) ∧ w'.cell? ⟨B, 3, none⟩ = some (.slice rb0 t0.kids.length rd0)) ((refine K15.out _ ?_; (with_reducible (repeat (first | exact Below.refl _ _ | refine below_drew ?_ | refine below_ext ?_ _)))))
    (first | (go_at_call 10; refine Calls.mono C ?_; rintro e w' ⟨r3, NB3, uu, rfl, rfl, hn3, -⟩) | (go_at_call 12; refine Calls.mono (eqTerm_ans t0 ((X0.tm.ext (Ext.self Z3).drew).ext uu) (hn3.tm (fun g _ => Nat.zero_le g)) hwt0 true (by simp) (Ext.self uu.w)) ?_; rintro e w' ⟨rfl, u2, rfl⟩))
  obtain ⟨y, hy⟩ : ∃ y : Ext Z3, y.w = u2.w := ⟨((Ext.self Z3).drew.trans uu).trans u2, rfl⟩
  rw [← hy]
  clear hy hn3 K15 C
  replace X0 := X0.ext y
  replace XG := XG.ext y
  replace bU := below_ext bU y
  -- the arguments are marked
  obtain ⟨Z4, hZ⟩ : ∃ Z : World, Z = y.w := ⟨_, rfl⟩
  rw [← hZ] at X0 XG bU ⊢
  clear hZ
  have hce0 := Tm.cnt_le t0
  have C := X0.mark (1) (by omega) (by omega)
  obtain ⟨m0, m1, m2, m3⟩ := X0.box
  go_wp2_with fail
  clear m0 m1 m2 m3
  refine Calls.mono C ?_
  clear C
  rintro e M0 ⟨rfl, on, -⟩
  replace XG := XG.only on (by omega)
  replace bU := on.str_below bU (by omega)
  clear X0 on
  obtain ⟨m0, m1, m2, m3⟩ := XG.box
  obtain ⟨n0, n1, n2, n3⟩ := (W6.out M0 bU).1
  have C := eqTerm_ans o XG.tm (W6.out M0 bU).2 hwo true (by simp) (Ext.self M0)
  go_wp2_with fail
  clear m0 m1 m2 m3 n0 n1 n2 n3
  refine Calls.mono C ?_
  clear C
  rintro e w' ⟨rfl, y, rfl⟩
  replace XG := XG.ext y
  replace bU := below_ext bU y
  -- the answer is marked
  have hceo := Tm.cnt_le o
  have C := XG.mark 1 (by omega) (by omega)
  obtain ⟨m0, m1, m2, m3⟩ := XG.box
  go_wp2_with fail
  clear m0 m1 m2 m3
  refine Calls.mono C ?_
  clear C
  rintro e MG ⟨rfl, on, XM⟩
  replace bU := on.str_below bU (by omega)
  clear XG on
  have C := XM.held (by omega) (by omega)
  obtain ⟨m0, m1, m2, m3⟩ := XM.box
  go_wp2_with fail
  clear m0 m1 m2 m3
  refine Calls.mono C ?_
  clear C
  rintro e w' ⟨rfl, y, rfl⟩
  replace XM := XM.ext y
  replace bU := below_ext bU y
  go_upto_region 24 with fail
  obtain ⟨U1, hU1⟩ : ∃ U1 : World, U1 = y.w := ⟨_, rfl⟩
  rw [← hU1] at XM bU ⊢
  clear hU1 y
  have bel0 := toWb.out _ bU
  obtain ⟨m0, m1, m2, m3⟩ := HKT0.out U1 bel0
  have C := TO0.out U1 bel0
  go_wp2_with fail
  clear m0 m1 m2 m3
  refine Calls.mono C ?_
  clear C
  rintro e w' ⟨r10, NB1, y0, rfl, rfl, own1, -⟩
  have tn0 := own1.tm (fun g _ => Nat.zero_le g)
  clear own1
  have C := IMP.out y0.w r10 (below_ext bel0 y0) tn0
  go_wp2_with fail
  refine Calls.mono C ?_
  clear C tn0
  rintro e w' ⟨rw, NBw, y2, rfl, rfl, hnw, hlow⟩
  go_upto_region 25 with fail
  generalize hG : World.alloc _ _ = wc
  have hcut := got_new (M := U1) (b := b) (below_ext y0.below y2) hnw hG
  generalize y2.w.heap.size = DG at *
  clear hG hnw hlow
  obtain ⟨D7, rh, hpp, -, bel7, hD7, box7, tm7⟩ := hcut
  obtain rfl : D7 = DG := by cases hpp; rfl
  clear hpp
  have XM2 : HoldT wc _ _ _ _ _ := XM.ext ⟨_, bel7⟩
  have bU2 := bU.trans (bel7.mono bU.size)
  clear hD7 bel0 XM bU
  obtain ⟨U2, hU2⟩ : ∃ U2 : World, U2 = wc := ⟨_, rfl⟩
  rw [← hU2] at box7 tm7 bU2 XM2 ⊢
  clear hU2 bel7
  obtain ⟨m0, m1, m2, m3⟩ := box7
  obtain ⟨n0, n1, n2, n3⟩ := (W6.out _ bU2).1
  have C := eqTerm_ans o tm7 (W6.out _ bU2).2 hwo true (by simp) (Ext.self U2)
  go_wp2_with fail
  clear m0 m1 m2 m3 n0 n1 n2 n3
  refine Calls.mono C ?_
  clear C tm7
  rintro e w' ⟨rfl, y8, rfl⟩
  have XM := XM2.ext y8
  have bU := below_ext bU2 y8
  have C := XM.held (by omega) (by omega)
  obtain ⟨m0, m1, m2, m3⟩ := XM.box
  go_wp2_with fail
  clear m0 m1 m2 m3
  refine Calls.mono C ?_
  clear C
  rintro e w' ⟨rfl, y9, rfl⟩
  have bU := below_ext bU y9
  go_wp2_with fail
  go_ret
  exact law_end (hback ⟨_, toWb.out _ bU⟩)

end Go.Proofs.YtncfbljablbglaaDoor
