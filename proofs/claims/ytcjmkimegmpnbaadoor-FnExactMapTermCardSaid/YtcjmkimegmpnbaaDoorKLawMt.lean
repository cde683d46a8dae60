
/- The law of MapTerm. -/
import Derived.Test.YtcjmkimegmpnbaaDoorGI
import Derived.Test.YtcjmkimegmpnbaaDoorGN
import Derived.Deep.RegionHeld3
import Derived.Deep.Cut
import Derived.RegionTactic
import Derived.Outline
namespace Go.Proofs.YtcjmkimegmpnbaaDoor
open Go.RowKit

set_option maxRecDepth 100000 in
set_option maxHeartbeats 16000000 in
theorem mapTerm_law {W : World} (F : Forms W) (TF : TForms W) {a0 : Option Addr} {p0 : Nat} {f : List Int} (h0 : Row W (Value.int .i64) a0 f) (k0 : f.length ≤ 9223372036854775807) {lo : Nat} {t : Tm} {r : TV} (h : TmIn W lo t r) :
    Calls Tryd.prog 6 #[.slice a0 f.length p0, r.val t] W (LawEnd W) := by
  obtain ⟨x, hx⟩ : ∃ x : Ext W, x.w = W := ⟨Ext.self W, rfl⟩
  suffices hs : Calls Tryd.prog 6 #[.slice a0 f.length p0, r.val t] x.w (LawEnd W) by rw [hx] at hs; exact hs
  clear hx
  obtain ⟨ra, rc, rb, rd⟩ := r
  unfold TV.val
  by_cases b0 : (1048576 : Int) < (f.length : Int)
  · go_enter Tryd.func6, Tryd.ntmps6
    go_wp2
    go_ret
    exact law_end ⟨x.alloc _, rfl⟩
  by_cases hb : (1048576 : Int) < t.wt
  · skip
    go_enter Tryd.func6, Tryd.ntmps6
    go_wp2_with fail
    generalize hW : x.w.alloc _ = Wb
    generalize hB : x.w.heap.size = B
    obtain ⟨c0, c1, c2, c3, h1, hback, yy, hy0⟩ := boxedT h x hB hW
    clear hW hB
    rw [← hy0]
    clear hy0
    have SZT : ∀ y : Ext Wb, Calls Tryd.prog 23 #[(TV.mk ra rc rb rd).val t, .int .i64 1048576] y.w (Ans Wb (.int .i64 (-1))) := fun y => szTerm_ans t h1 1048576 (by omega) (by omega) (-1) (.inr ⟨hb, rfl⟩) y
    unfold TV.val at SZT
    refine Calls.mono (SZT _) ?_
    rintro e w' ⟨rfl, yy, rfl⟩
    go_wp2_with fail
    go_ret
    exact law_end (hback yy)
  have hwt : t.wt ≤ 1048576 := by omega
  have hwt2 : t.wt ≤ 1099511627776 := by omega
  have hff : f.length ≤ 1099511627776 := by omega
  generalize hlf : (1048576 : Int) - t.wt = lft
  have hnb : (0 : Int) ≤ lft := by omega
  obtain ⟨o, b, ho⟩ := mapTmV_ex f t
  have hwo := mapTmV_wt ho
  have HO := Lib.hid ho
  clear ho
  go_enter Tryd.func6, Tryd.ntmps6
  go_wp2_with fail
  generalize hW : x.w.alloc _ = Wb
  generalize hB : x.w.heap.size = B
  obtain ⟨c0, c1, c2, c3, h1, hback, yy, hy0⟩ := boxedT h x hB hW
  clear hW hB
  rw [← hy0]
  clear hy0
  have SZT : ∀ y : Ext Wb, Calls Tryd.prog 23 #[(TV.mk ra rc rb rd).val t, .int .i64 1048576] y.w (Ans Wb (.int .i64 lft)) := fun y => szTerm_ans t h1 1048576 (by omega) (by omega) lft (.inl ⟨by omega, hlf.symm⟩) y
  unfold TV.val at SZT
  refine Calls.mono (SZT _) ?_
  rintro e w' ⟨rfl, yy, rfl⟩
  clear SZT hlf
  go_upto_region 7 with fail
  obtain ⟨U0, hU0⟩ : ∃ U0 : World, U0 = yy.w := ⟨_, rfl⟩
  have bel0 : Below Wb.heap.size Wb U0 := by rw [hU0]; exact yy.below
  rw [← hU0]
  clear hU0 yy
  have hback2 := hback
  have KT : ∀ w, Below Wb.heap.size Wb w → w.cell? ⟨B, 0, none⟩ = some (.int .i64 t.op) ∧ w.cell? ⟨B, 1, none⟩ = some (.int .i64 t.n) ∧ w.cell? ⟨B, 2, none⟩ = some (.slice ra t.ty.length rc) ∧ w.cell? ⟨B, 3, none⟩ = some (.slice rb t.kids.length rd) := fun w q => ⟨c0 ⟨w, q⟩, c1 ⟨w, q⟩, c2 ⟨w, q⟩, c3 ⟨w, q⟩⟩
  have HKT := Lib.hid KT
  obtain ⟨zb, hzb0⟩ := hback (Ext.self Wb)
  have hzb : Wb = zb.w := hzb0
  have h0b : Row Wb (Value.int .i64) a0 f := by rw [hzb]; exact h0.ext zb
  have Fb : Forms Wb := by rw [hzb]; exact F.ext zb
  have TFb : TForms Wb := by rw [hzb]; exact TF.ext zb
  clear hzb hzb0 zb
  have TO0 : Hid (∀ w, Below Wb.heap.size Wb w → Calls Tryd.prog 16 #[.slice a0 f.length p0] w (NewRow w 22 3 (Value.int .i64) f)) := fun w q => toIntS_ans (h0b.ext ⟨w, q⟩) hff (Ext.self w)
  have TO1 : Hid (∀ w, Below Wb.heap.size Wb w → Calls Tryd.prog 25 #[.agg #[.int .i64 t.op, .int .i64 t.n, .slice ra t.ty.length rc, .slice rb t.kids.length rd]] w (NewTmO w t)) := fun w q => toTermO_ans t (r := ⟨ra, rc, rb, rd⟩) (h1.ext ⟨w, q⟩) hwt (Ext.self w)
  have SPC : Hid (∀ w c (d : Nat) r', Below Wb.heap.size Wb w → Row w (Value.int .i64) c f → TmIn w 0 t r' → Calls Tryd.prog 32 #[.slice c f.length d, r'.val t] w (NewTmB w o b)) := fun w c d r' _ hr ht => specMapTerm_ans (cf := d) hr hff ht hwt2 o b HO.out (Ext.self w)
  have IMP : Hid (∀ w c (d : Nat) r', Below Wb.heap.size Wb w → Row w (Value.int .i64) c f → TmIn w 0 t r' → Calls Tryd.prog 33 #[.slice c f.length d, r'.val t] w (NewTmB w o b)) := fun w c d r' q hr ht => mapTermTop_ans (Fb.ext ⟨w, q⟩) (TFb.ext ⟨w, q⟩) (cf := d) hr hff ht o b HO.out (Ext.self w)
  clear c0 c1 c2 c3 KT h0b Fb TFb
  go_cut [6, 7] from 17 (fun s6 s7 wc => GotT U0 o b s6 s7 wc)
  case first =>
    go_region_held3 (fun w' => w'.cell? ⟨B, 0, none⟩ = some (.int .i64 t.op) ∧ w'.cell? ⟨B, 1, none⟩ = some (.int .i64 t.n) ∧ w'.cell? ⟨B, 2, none⟩ = some (.slice ra t.ty.length rc) ∧ w'.cell? ⟨B, 3, none⟩ = some (.slice rb t.kids.length rd)) ((refine HKT.out _ ?_; (with_reducible (repeat (first | exact Below.refl _ _ | exact bel0 | refine below_set ?_ ?_ | refine below_alloc ?_ _ | refine below_drew ?_ | refine below_ext ?_ _)))))
      (first | (go_at_call 16; refine Calls.mono (TO0.out _ (by (with_reducible (repeat (first | exact Below.refl _ _ | exact bel0 | refine below_set ?_ ?_ | refine below_alloc ?_ _ | refine below_drew ?_ | refine below_ext ?_ _))))) ?_; rintro e w' ⟨v, y0, rfl, rfl, own0⟩; obtain ⟨c0, d0, rfl, r0, -⟩ := owned_row own0; clear own0) | (go_at_call 25; refine Calls.mono (TO1.out _ (by (with_reducible (repeat (first | exact Below.refl _ _ | exact bel0 | refine below_set ?_ ?_ | refine below_alloc ?_ _ | refine below_drew ?_ | refine below_ext ?_ _))))) ?_; rintro e w' ⟨r1, NB1, y1, rfl, rfl, hn1, -⟩; have tn1 := hn1.tm (fun g _ => Nat.zero_le g); clear hn1) | (go_at_call 32; refine Calls.mono (SPC.out _ _ _ _ (by (with_reducible (repeat (first | exact Below.refl _ _ | exact bel0 | refine below_set ?_ ?_ | refine below_alloc ?_ _ | refine below_drew ?_ | refine below_ext ?_ _)))) (by (with_reducible (repeat (first | exact r0 | refine row_alloc ?_ _ | refine row_drew ?_ | refine Row.ext ?_ _)))) (by (with_reducible (repeat (first | exact tn1 | refine tm_alloc ?_ _ | refine tm_drew ?_ | refine TmIn.ext ?_ _))))) ?_; rintro e w' ⟨rw, NBw, y2, rfl, rfl, hnw, hlow⟩; (first | obtain ⟨n0, n1, n2, n3, p0, p1, p2, p3⟩ := zfacts (y2.blk (y1.blk (y0.blk (new_blk_drew U0 zbox)))) | obtain ⟨n0, n1, n2, n3, p0, p1, p2, p3⟩ := zfacts (y2.blk (y1.blk (new_blk_at y0.w zbox))) | obtain ⟨n0, n1, n2, n3, p0, p1, p2, p3⟩ := zfacts (y2.blk (new_blk_at y1.w zbox)) | skip)))
    · go_wp2_with fail
      go_meet
      case rel => exact got_new (by (with_reducible (repeat (first | exact Below.refl _ _ | exact bel0 | refine below_set ?_ ?_ | refine below_alloc ?_ _ | refine below_drew ?_ | refine below_ext ?_ _)))) hnw rfl
    · go_wp2_with fail
      go_meet
      case rel => exact got_set (by (with_reducible (repeat (first | exact Below.refl _ _ | exact bel0 | refine below_set ?_ ?_ | refine below_alloc ?_ _ | refine below_drew ?_ | refine below_ext ?_ _)))) (Below.size (by (with_reducible (repeat (first | exact Below.refl _ _ | exact bel0 | refine below_set ?_ ?_ | refine below_alloc ?_ _ | refine below_drew ?_ | refine below_ext ?_ _))))) (y2.blk (new_blk_at y1.w zbox)) hnw (fun g hg e => by have a := hlow g hg; simp at a; omega) rfl
    · go_wp2_with fail
      go_meet
      case rel => exact got_set (by (with_reducible (repeat (first | exact Below.refl _ _ | exact bel0 | refine below_set ?_ ?_ | refine below_alloc ?_ _ | refine below_drew ?_ | refine below_ext ?_ _)))) (Below.size (by (with_reducible (repeat (first | exact Below.refl _ _ | exact bel0 | refine below_set ?_ ?_ | refine below_alloc ?_ _ | refine below_drew ?_ | refine below_ext ?_ _))))) (y2.blk (y1.blk (new_blk_at y0.w zbox))) hnw (fun g hg e => by have a := hlow g hg; have b1 := y1.size; simp at b1; omega) rfl
    · go_wp2_with fail
      go_meet
      case rel => exact got_set (by (with_reducible (repeat (first | exact Below.refl _ _ | exact bel0 | refine below_set ?_ ?_ | refine below_alloc ?_ _ | refine below_drew ?_ | refine below_ext ?_ _)))) (Nat.le_refl _) (y2.blk (y1.blk (y0.blk (new_blk_drew U0 zbox)))) hnw (fun g hg e => by have a := hlow g hg; have b0 := y0.size; have b1 := y1.size; simp at b0; omega) rfl
  case rest =>
    obtain ⟨D6, rw6, rfl, rfl, bel6, hD6, box6, tm6⟩ := hcut
    obtain ⟨U, hU⟩ : ∃ U : World, U = wc := ⟨_, rfl⟩
    rw [← hU] at bel6 box6 tm6 ⊢
    clear hU
    have belU : Below Wb.heap.size Wb U := bel0.trans (bel6.mono bel0.size)
    clear bel6 hD6
    have W6 : Hid (∀ z, Below U.heap.size U z → Box4 z D6 o rw6 ∧ TmIn z 0 o rw6) := fun z b => ⟨box6.ext ⟨z, b⟩, tm6.ext ⟨z, b⟩⟩
    have toWb : Hid (∀ z, Below U.heap.size U z → Below Wb.heap.size Wb z) := fun z b => belU.trans (b.mono belU.size)
    clear box6 tm6 bel0
    -- the arguments, in blocks of their own
    go_wp2_with fail
    refine Calls.mono (TO0.out U belU) ?_
    rintro e w' ⟨v, y0, rfl, rfl, own0⟩
    obtain ⟨c0, d0, rfl, -, l0⟩ := owned_row own0
    have R0 : HoldR y0.w U.heap.size y0.w.heap.size c0 d0 f := HoldR.new own0 (fun p e => ⟨(l0 p e).1, (l0 p e).2⟩)
    clear own0 l0
    have bU := y0.below
    obtain ⟨m0, m1, m2, m3⟩ := HKT.out y0.w (toWb.out _ bU)
    go_wp2_with fail
    clear m0 m1 m2 m3
    refine Calls.mono (TO1.out y0.w (toWb.out _ bU)) ?_
    rintro e w' ⟨r1, B1, y1, rfl, rfl, own1, l1⟩
    have R0 := R0.ext y1
    have bU := below_ext bU y1
    have q0 := y0.size
    have q1 := y1.size
    go_upto_region 10 with fail
    generalize hV : World.alloc _ _ = V
    have T1 := HoldT.new own1 l1 q1 hV
    have qV : y1.w.heap.size < V.heap.size := by rw [← hV]; simp
    obtain ⟨zv, hzv⟩ : ∃ z : Ext y1.w, z.w = V := ⟨(Ext.self y1.w).alloc _, hV⟩
    have R0 := R0.ext zv
    have bU := below_ext bU zv
    rw [hzv] at R0 bU
    clear hV hzv zv own1 l1
    generalize y1.w.heap.size = D9 at *
    generalize y0.w.heap.size = S0 at *
    -- the call
    have C := IMP.out V c0 d0 r1 (toWb.out _ bU) R0.row T1.tm
    obtain ⟨m0, m1, m2, m3⟩ := T1.box
    go_wp2_with fail
    clear m0 m1 m2 m3
    refine Calls.mono C ?_
    clear C
    rintro e w' ⟨rg, NB, y2, rfl, rfl, own2, l2⟩
    have R0 := R0.ext y2
    have T1 := T1.ext y2
    have bU := below_ext bU y2
    have q2 := y2.size
    go_upto_region 11 with fail
    generalize hG : World.alloc _ _ = G
    have TG := HoldT.new own2 l2 q2 hG
    have qG : y2.w.heap.size < G.heap.size := by rw [← hG]; simp
    obtain ⟨zv, hzv⟩ : ∃ z : Ext y2.w, z.w = G := ⟨(Ext.self y2.w).alloc _, hG⟩
    have R0 := R0.ext zv
    have T1 := T1.ext zv
    have bU := below_ext bU zv
    rw [hzv] at R0 T1 bU
    clear hG hzv zv own2 l2
    generalize y2.w.heap.size = D10 at *
    generalize hSV : V.heap.size = SV at *
    generalize hSG : G.heap.size = SG at *
    -- it is what the model says
    obtain ⟨m0, m1, m2, m3⟩ := TG.box
    obtain ⟨n0, n1, n2, n3⟩ := (W6.out G bU).1
    have C := eqTerm_ans o TG.tm (W6.out G bU).2 (by omega) true (by simp) (Ext.self G)
    go_wp2_with fail
    clear m0 m1 m2 m3 n0 n1 n2 n3
    refine Calls.mono C ?_
    clear C
    rintro e w' ⟨rfl, y3, rfl⟩
    have R0 := R0.ext y3
    have T1 := T1.ext y3
    have TG := TG.ext y3
    have bU := below_ext bU y3
    go_wp2_with fail
    -- the arguments are as they were
    refine Calls.mono (TO0.out y3.w (toWb.out _ bU)) ?_
    rintro e w' ⟨v, y4, rfl, rfl, ow⟩
    obtain ⟨ct, dt, rfl, rt, -⟩ := owned_row ow
    clear ow
    have R0 := R0.ext y4
    have T1 := T1.ext y4
    have TG := TG.ext y4
    have bU := below_ext bU y4
    go_wp2_with fail
    refine Calls.mono (eqIntS_ans R0.row rt (by omega) true (by simp) (Ext.self y4.w)) ?_
    rintro e w' ⟨rfl, y5, rfl⟩
    clear rt
    have R0 := R0.ext y5
    have T1 := T1.ext y5
    have TG := TG.ext y5
    have bU := below_ext bU y5
    go_upto_region 15 with fail
    obtain ⟨Z, hZ⟩ : ∃ Z : World, Z = y5.w := ⟨_, rfl⟩
    rw [← hZ] at R0 T1 TG bU ⊢
    clear hZ
    have K15 : Hid (∀ w', Below Z.heap.size Z w' → (w'.cell? ⟨D9, 0, none⟩ = some (.int .i64 t.op) ∧ w'.cell? ⟨D9, 1, none⟩ = some (.int .i64 t.n) ∧ w'.cell? ⟨D9, 2, none⟩ = some (.slice r1.a t.ty.length r1.c) ∧ w'.cell? ⟨D9, 3, none⟩ = some (.slice r1.b t.kids.length r1.d)) ∧
        w'.cell? ⟨B, 0, none⟩ = some (.int .i64 t.op) ∧ w'.cell? ⟨B, 1, none⟩ = some (.int .i64 t.n) ∧ w'.cell? ⟨B, 2, none⟩ = some (.slice ra t.ty.length rc) ∧ w'.cell? ⟨B, 3, none⟩ = some (.slice rb t.kids.length rd)) := fun w' q => ⟨T1.box.ext ⟨w', q⟩, HKT.out w' ((toWb.out _ bU).trans (q.mono (toWb.out _ bU).size))⟩
    have C := TO1.out Z.drew (toWb.out _ (below_drew bU))
    go_region_held3 (fun w' => (w'.cell? ⟨D9, 0, none⟩ = some (.int .i64 t.op) ∧ w'.cell? ⟨D9, 1, none⟩ = some (.int .i64 t.n) ∧ w'.cell? ⟨D9, 2, none⟩ = some (.slice r1.a t.ty.length r1.c) ∧ w'.cell? ⟨D9, 3, none⟩ = some (.slice r1.b t.kids.length r1.d)) ∧
        w'.cell? ⟨B, 0, none⟩ = some (.int .i64 t.op) ∧ w'.cell? ⟨B, 1, none⟩ = some (.int .i64 t.n) ∧ w'.cell? ⟨B, 2, none⟩ = some (.slice ra t.ty.length rc) ∧ w'.cell? ⟨B, 3, none⟩ = some (.slice rb t.kids.length rd)) ((refine K15.out _ ?_; (with_reducible (repeat (first | exact Below.refl _ _ | refine below_drew ?_ | refine below_ext ?_ _)))))
      (first | (go_at_call 25; refine Calls.mono C ?_; rintro e w' ⟨r3, NB3, uu, rfl, rfl, hn3, -⟩) | (go_at_call 27; refine Calls.mono (eqTerm_ans t ((T1.tm.ext (Ext.self Z).drew).ext uu) (hn3.tm (fun g _ => Nat.zero_le g)) hwt true (by simp) (Ext.self uu.w)) ?_; rintro e w' ⟨rfl, u2, rfl⟩))
    -- the arguments are marked
    have R0 := R0.ext (((Ext.self Z).drew.trans uu).trans u2)
    have T1 := T1.ext (((Ext.self Z).drew.trans uu).trans u2)
    have TG := TG.ext (((Ext.self Z).drew.trans uu).trans u2)
    have bU := below_ext bU (((Ext.self Z).drew.trans uu).trans u2)
    obtain ⟨Z2, hZ2⟩ : ∃ Z2 : World, Z2 = u2.w := ⟨_, rfl⟩
    rw [show (((Ext.self Z).drew.trans uu).trans u2).w = Z2 from hZ2.symm] at R0 T1 TG bU
    rw [← hZ2]
    clear hZ2 hn3 K15
    go_wp2_with fail
    refine Calls.mono (R0.mark (by omega) 1 (by omega) (by omega)) ?_
    rintro e M0 ⟨rfl, on0⟩
    have T1 := T1.only on0 (by omega)
    have TG := TG.only on0 (by omega)
    have bU := on0.str_below bU (by omega)
    clear R0 on0
    have hce1 := Tm.cnt_le t
    have C := T1.mark (1 + f.length) (by omega) (by omega)
    obtain ⟨m0, m1, m2, m3⟩ := T1.box
    go_wp2_with fail
    clear m0 m1 m2 m3
    refine Calls.mono C ?_
    clear C
    rintro e M1 ⟨rfl, on1, -⟩
    have TG := TG.only on1 (by omega)
    have bU := on1.str_below bU (by omega)
    clear T1 on1
    obtain ⟨m0, m1, m2, m3⟩ := TG.box
    obtain ⟨n0, n1, n2, n3⟩ := (W6.out M1 bU).1
    have C := eqTerm_ans o TG.tm (W6.out M1 bU).2 (by omega) true (by simp) (Ext.self M1)
    go_wp2_with fail
    clear m0 m1 m2 m3 n0 n1 n2 n3
    refine Calls.mono C ?_
    clear C
    rintro e w' ⟨rfl, y6, rfl⟩
    have TG := TG.ext y6
    have bU := below_ext bU y6
    -- the answer is marked
    have hce2 := Tm.cnt_le o
    have C := TG.mark 1 (by omega) (by omega)
    obtain ⟨m0, m1, m2, m3⟩ := TG.box
    go_wp2_with fail
    clear m0 m1 m2 m3
    refine Calls.mono C ?_
    clear C
    rintro e M2 ⟨rfl, on2, TM⟩
    have bU := on2.str_below bU (by omega)
    clear TG on2
    have C := TM.held (by omega) (by omega)
    obtain ⟨m0, m1, m2, m3⟩ := TM.box
    go_wp2_with fail
    clear m0 m1 m2 m3
    refine Calls.mono C ?_
    clear C
    rintro e w' ⟨rfl, y7, rfl⟩
    have TM := TM.ext y7
    have bU := below_ext bU y7
    go_upto_region 30 with fail
    obtain ⟨U1, hU1⟩ : ∃ U1 : World, U1 = y7.w := ⟨_, rfl⟩
    rw [← hU1] at TM bU ⊢
    clear hU1
    have bel0 := toWb.out _ bU
    go_cut [15, 16] from 17 (fun s6 s7 wc => GotT U1 o b s6 s7 wc)
    case first =>
      go_region_held3 (fun w' => w'.cell? ⟨B, 0, none⟩ = some (.int .i64 t.op) ∧ w'.cell? ⟨B, 1, none⟩ = some (.int .i64 t.n) ∧ w'.cell? ⟨B, 2, none⟩ = some (.slice ra t.ty.length rc) ∧ w'.cell? ⟨B, 3, none⟩ = some (.slice rb t.kids.length rd)) ((refine HKT.out _ ?_; (with_reducible (repeat (first | exact Below.refl _ _ | exact bel0 | refine below_set ?_ ?_ | refine below_alloc ?_ _ | refine below_drew ?_ | refine below_ext ?_ _)))))
        (first | (go_at_call 16; refine Calls.mono (TO0.out _ (by (with_reducible (repeat (first | exact Below.refl _ _ | exact bel0 | refine below_set ?_ ?_ | refine below_alloc ?_ _ | refine below_drew ?_ | refine below_ext ?_ _))))) ?_; rintro e w' ⟨v, y0, rfl, rfl, own0⟩; obtain ⟨c0, d0, rfl, r0, -⟩ := owned_row own0; clear own0) | (go_at_call 25; refine Calls.mono (TO1.out _ (by (with_reducible (repeat (first | exact Below.refl _ _ | exact bel0 | refine below_set ?_ ?_ | refine below_alloc ?_ _ | refine below_drew ?_ | refine below_ext ?_ _))))) ?_; rintro e w' ⟨r1, NB1, y1, rfl, rfl, hn1, -⟩; have tn1 := hn1.tm (fun g _ => Nat.zero_le g); clear hn1) | (go_at_call 33; refine Calls.mono (IMP.out _ _ _ _ (by (with_reducible (repeat (first | exact Below.refl _ _ | exact bel0 | refine below_set ?_ ?_ | refine below_alloc ?_ _ | refine below_drew ?_ | refine below_ext ?_ _)))) (by (with_reducible (repeat (first | exact r0 | refine row_alloc ?_ _ | refine row_drew ?_ | refine Row.ext ?_ _)))) (by (with_reducible (repeat (first | exact tn1 | refine tm_alloc ?_ _ | refine tm_drew ?_ | refine TmIn.ext ?_ _))))) ?_; rintro e w' ⟨rw, NBw, y2, rfl, rfl, hnw, hlow⟩; (first | obtain ⟨n0, n1, n2, n3, p0, p1, p2, p3⟩ := zfacts (y2.blk (y1.blk (y0.blk (new_blk_drew U1 zbox)))) | obtain ⟨n0, n1, n2, n3, p0, p1, p2, p3⟩ := zfacts (y2.blk (y1.blk (new_blk_at y0.w zbox))) | obtain ⟨n0, n1, n2, n3, p0, p1, p2, p3⟩ := zfacts (y2.blk (new_blk_at y1.w zbox)) | skip)))
      · go_wp2_with fail
        go_meet
        case rel => exact got_new (by (with_reducible (repeat (first | exact Below.refl _ _ | exact bel0 | refine below_set ?_ ?_ | refine below_alloc ?_ _ | refine below_drew ?_ | refine below_ext ?_ _)))) hnw rfl
      · go_wp2_with fail
        go_meet
        case rel => exact got_set (by (with_reducible (repeat (first | exact Below.refl _ _ | exact bel0 | refine below_set ?_ ?_ | refine below_alloc ?_ _ | refine below_drew ?_ | refine below_ext ?_ _)))) (Below.size (by (with_reducible (repeat (first | exact Below.refl _ _ | exact bel0 | refine below_set ?_ ?_ | refine below_alloc ?_ _ | refine below_drew ?_ | refine below_ext ?_ _))))) (y2.blk (new_blk_at y1.w zbox)) hnw (fun g hg e => by have a := hlow g hg; simp at a; omega) rfl
      · go_wp2_with fail
        go_meet
        case rel => exact got_set (by (with_reducible (repeat (first | exact Below.refl _ _ | exact bel0 | refine below_set ?_ ?_ | refine below_alloc ?_ _ | refine below_drew ?_ | refine below_ext ?_ _)))) (Below.size (by (with_reducible (repeat (first | exact Below.refl _ _ | exact bel0 | refine below_set ?_ ?_ | refine below_alloc ?_ _ | refine below_drew ?_ | refine below_ext ?_ _))))) (y2.blk (y1.blk (new_blk_at y0.w zbox))) hnw (fun g hg e => by have a := hlow g hg; have b1 := y1.size; simp at b1; omega) rfl
      · go_wp2_with fail
        go_meet
        case rel => exact got_set (by (with_reducible (repeat (first | exact Below.refl _ _ | exact bel0 | refine below_set ?_ ?_ | refine below_alloc ?_ _ | refine below_drew ?_ | refine below_ext ?_ _)))) (Nat.le_refl _) (y2.blk (y1.blk (y0.blk (new_blk_drew U1 zbox)))) hnw (fun g hg e => by have a := hlow g hg; have b0 := y0.size; have b1 := y1.size; simp at b0; omega) rfl
    case rest =>
      obtain ⟨D7, rh, rfl, rfl, bel7, hD7, box7, tm7⟩ := hcut
      have TM : HoldT wc _ _ _ _ _ := TM.ext ⟨_, bel7⟩
      have bU := bU.trans (bel7.mono bU.size)
      clear hD7 bel0
      clear bel7
      obtain ⟨U2, hU2⟩ : ∃ U2 : World, U2 = wc := ⟨_, rfl⟩
      rw [← hU2] at box7 tm7 TM bU ⊢
      clear hU2
      obtain ⟨m0, m1, m2, m3⟩ := box7
      obtain ⟨n0, n1, n2, n3⟩ := (W6.out _ bU).1
      have C := eqTerm_ans o tm7 (W6.out _ bU).2 (by omega) true (by simp) (Ext.self U2)
      go_wp2_with fail
      clear m0 m1 m2 m3 n0 n1 n2 n3
      refine Calls.mono C ?_
      clear C tm7
      rintro e w' ⟨rfl, y8, rfl⟩
      have TM := TM.ext y8
      have bU := below_ext bU y8
      have C := TM.held (by omega) (by omega)
      obtain ⟨m0, m1, m2, m3⟩ := TM.box
      go_wp2_with fail
      clear m0 m1 m2 m3
      refine Calls.mono C ?_
      clear C
      rintro e w' ⟨rfl, y9, rfl⟩
      have bU := below_ext bU y9
      go_wp2_with fail
      go_ret
      exact law_end (hback ⟨_, toWb.out _ bU⟩)

end Go.Proofs.YtcjmkimegmpnbaaDoor
