
/- The law of IsSession. -/
import Derived.Test.YteffcfaoganciaaDoorKSesTo
import Derived.Test.YteffcfaoganciaaDoorGE
import Derived.Deep.RegionHeld3
import Derived.Deep.Cut
import Derived.RegionTactic
set_option linter.unusedVariables false
set_option linter.unusedSimpArgs false
namespace Go.Proofs.YteffcfaoganciaaDoor
open Go.RowKit

set_option maxRecDepth 100000 in
set_option maxHeartbeats 16000000 in
theorem isSession_law {W : World} (F : Forms W) (TF : TForms W) {lo : Nat} {s : Sys} {r : Ref} {a : Option Addr} {c : Nat} {ls : List (List Int)} {hd : Nat → Option Addr × Nat} {t : Tm} {q : TV} (h : SesIn W lo s r a ls hd t q) (hw : ∀ l ∈ ls, CodesB l) (hTB : TmB t) :
    Calls Tryd.prog 3 #[sesV s r a c ls t q] W (LawEnd W) := by
  obtain ⟨x, hx⟩ : ∃ x : Ext W, x.w = W := ⟨Ext.self W, rfl⟩
  suffices hs : Calls Tryd.prog 3 #[sesV s r a c ls t q] x.w (LawEnd W) by rw [hx] at hs; exact hs
  clear hx
  unfold sesV
  by_cases e : (1048576 : Int) < (sesWt s ls t : Nat)
  · skip
    go_enter Tryd.func3, Tryd.ntmps3
    go_wp2_with fail
    have hxW := x.size
    generalize hWb : x.w.alloc _ = Wb
    generalize hB : x.w.heap.size = B at *
    obtain ⟨b0, sB, bel⟩ := blocks1 hB hWb
    have belW : Below W.heap.size W Wb := x.below.trans (bel.mono (by omega))
    clear hWb bel
    have h1 := h.ext ⟨Wb, belW⟩
    have hback : ∀ y : Ext Wb, ∃ z : Ext W, y.w = z.w := fun y => ⟨⟨y.w, belW.trans (y.below.mono belW.size)⟩, rfl⟩
    have fa0 : ∀ y : Ext Wb, y.w.cell? ⟨B, 0, none⟩ = some (.int .i64 s.n) := fun y => blk_cell (y.blk b0) 0
    have fa1 : ∀ y : Ext Wb, y.w.cell? ⟨B, 1, none⟩ = some (.slice r.pa s.plus.length r.pc) := fun y => blk_cell (y.blk b0) 1
    have fa2 : ∀ y : Ext Wb, y.w.cell? ⟨B, 2, none⟩ = some (.slice r.ta s.times.length r.tc) := fun y => blk_cell (y.blk b0) 2
    have fa3 : ∀ y : Ext Wb, y.w.cell? ⟨B, 3, none⟩ = some (.slice r.ba s.below.length r.bc) := fun y => blk_cell (y.blk b0) 3
    have fa4 : ∀ y : Ext Wb, y.w.cell? ⟨B, 4, none⟩ = some (.slice a ls.length c) := fun y => blk_cell (y.blk b0) 4
    have fa5 : ∀ y : Ext Wb, y.w.cell? ⟨B, 5, none⟩ = some (.int .i64 t.op) := fun y => blk_cell (y.blk b0) 5
    have fa6 : ∀ y : Ext Wb, y.w.cell? ⟨B, 6, none⟩ = some (.int .i64 t.n) := fun y => blk_cell (y.blk b0) 6
    have fa7 : ∀ y : Ext Wb, y.w.cell? ⟨B, 7, none⟩ = some (.slice q.a t.ty.length q.c) := fun y => blk_cell (y.blk b0) 7
    have fa8 : ∀ y : Ext Wb, y.w.cell? ⟨B, 8, none⟩ = some (.slice q.b t.kids.length q.d) := fun y => blk_cell (y.blk b0) 8
    obtain ⟨yy, hy0⟩ : ∃ y : Ext Wb, y.w = Wb := ⟨Ext.self Wb, rfl⟩
    rw [← hy0]
    clear hy0
    have SC := szSes_ans (c := c) h1 (-1) (.inr ⟨e, rfl⟩) yy
    unfold sesV at SC
    refine Calls.mono SC ?_
    clear SC
    rintro e w' ⟨rfl, yy, rfl⟩
    go_wp2_with fail
    go_ret
    exact law_end (hback yy)
  · have sm : sesWt s ls t ≤ 1048576 := by omega
    obtain ⟨m, hm⟩ : ∃ m : Int, m = 1048576 - (sesWt s ls t : Nat) := ⟨_, rfl⟩
    have hm0 : ¬ m < 0 := by omega
    obtain ⟨p, hp⟩ := bool_of (IsSesP s ls t)
    have HP := Lib.hid hp
    clear hp
    go_enter Tryd.func3, Tryd.ntmps3
    go_wp2_with fail
    have hxW := x.size
    generalize hWb : x.w.alloc _ = Wb
    generalize hB : x.w.heap.size = B at *
    obtain ⟨b0, sB, bel⟩ := blocks1 hB hWb
    have belW : Below W.heap.size W Wb := x.below.trans (bel.mono (by omega))
    clear hWb bel
    have h1 := h.ext ⟨Wb, belW⟩
    have hback : ∀ y : Ext Wb, ∃ z : Ext W, y.w = z.w := fun y => ⟨⟨y.w, belW.trans (y.below.mono belW.size)⟩, rfl⟩
    have fa0 : ∀ y : Ext Wb, y.w.cell? ⟨B, 0, none⟩ = some (.int .i64 s.n) := fun y => blk_cell (y.blk b0) 0
    have fa1 : ∀ y : Ext Wb, y.w.cell? ⟨B, 1, none⟩ = some (.slice r.pa s.plus.length r.pc) := fun y => blk_cell (y.blk b0) 1
    have fa2 : ∀ y : Ext Wb, y.w.cell? ⟨B, 2, none⟩ = some (.slice r.ta s.times.length r.tc) := fun y => blk_cell (y.blk b0) 2
    have fa3 : ∀ y : Ext Wb, y.w.cell? ⟨B, 3, none⟩ = some (.slice r.ba s.below.length r.bc) := fun y => blk_cell (y.blk b0) 3
    have fa4 : ∀ y : Ext Wb, y.w.cell? ⟨B, 4, none⟩ = some (.slice a ls.length c) := fun y => blk_cell (y.blk b0) 4
    have fa5 : ∀ y : Ext Wb, y.w.cell? ⟨B, 5, none⟩ = some (.int .i64 t.op) := fun y => blk_cell (y.blk b0) 5
    have fa6 : ∀ y : Ext Wb, y.w.cell? ⟨B, 6, none⟩ = some (.int .i64 t.n) := fun y => blk_cell (y.blk b0) 6
    have fa7 : ∀ y : Ext Wb, y.w.cell? ⟨B, 7, none⟩ = some (.slice q.a t.ty.length q.c) := fun y => blk_cell (y.blk b0) 7
    have fa8 : ∀ y : Ext Wb, y.w.cell? ⟨B, 8, none⟩ = some (.slice q.b t.kids.length q.d) := fun y => blk_cell (y.blk b0) 8
    obtain ⟨yy, hy0⟩ : ∃ y : Ext Wb, y.w = Wb := ⟨Ext.self Wb, rfl⟩
    rw [← hy0]
    clear hy0
    have SC := szSes_ans (c := c) h1 m (.inl ⟨by omega, hm⟩) yy
    unfold sesV at SC
    refine Calls.mono SC ?_
    clear SC
    rintro e w' ⟨rfl, yy, rfl⟩
    clear hm e
    -- the model
    have TO : Hid (∀ U : World, Below Wb.heap.size Wb U → Calls Tryd.prog 14 #[.agg #[.int .i64 s.n, .slice r.pa s.plus.length r.pc, .slice r.ta s.times.length r.tc, .slice r.ba s.below.length r.bc, .slice a ls.length c, .int .i64 t.op, .int .i64 t.n, .slice q.a t.ty.length q.c, .slice q.b t.kids.length q.d]] U (fun e w' => ∃ (r1 : Ref) (a1 : Option Addr) (c1 : Nat) (hd1 : Nat → Option Addr × Nat) (q1 : TV) (y : Ext U), e = .returned (sesV s r1 a1 c1 ls t q1) ∧ w' = y.w ∧ SesIn y.w 0 s r1 a1 ls hd1 t q1)) := fun U bU => by
      have := toSes_ans (c := c) (h1.ext ⟨U, bU⟩) sm (Ext.self U)
      unfold sesV at this
      unfold sesV
      exact this
    go_wp2_with fail
    refine Calls.mono (TO.out yy.w yy.below) ?_
    rintro e w' ⟨r1, a1, c1, hd1, q1, y1, rfl, rfl, k1⟩
    unfold sesV
    go_wp2_with fail
    have SC := specIsSession_ans (c := c1) k1 sm p HP.out (Ext.self y1.w)
    unfold sesV at SC
    refine Calls.mono SC ?_
    clear SC k1
    rintro e w' ⟨rfl, y2, rfl⟩
    obtain ⟨y3, hy3⟩ : ∃ y3 : Ext Wb, y3.w = y2.w := ⟨yy.trans (y1.trans y2), rfl⟩
    rw [← hy3]
    clear hy3 y2 y1
    go_wp2_with fail
    refine Calls.mono (TO.out y3.w y3.below) ?_
    rintro e w' ⟨r2, a2, c2, hd2, q2, y4, rfl, rfl, k2⟩
    unfold sesV
    go_wp2_with fail
    generalize hW : y4.w.alloc _ = W3
    have bG := new_blk hW
    have k3 : SesIn W3 0 s r2 a2 ls hd2 t q2 := by rw [← hW]; exact k2.ext ((Ext.self y4.w).alloc _)
    have bel3 : Below Wb.heap.size Wb W3 := by rw [← hW]; exact (y3.below.trans (y4.below.mono y3.size)).alloc (Nat.le_trans y3.size y4.size) _
    generalize y4.w.heap.size = B3 at *
    clear hW k2 y4
    have d0 : ∀ y : Ext W3, y.w.cell? ⟨B3, 0, none⟩ = some (.int .i64 s.n) := fun y => blk_cell (y.blk bG) 0
    have d1 : ∀ y : Ext W3, y.w.cell? ⟨B3, 1, none⟩ = some (.slice r2.pa s.plus.length r2.pc) := fun y => blk_cell (y.blk bG) 1
    have d2 : ∀ y : Ext W3, y.w.cell? ⟨B3, 2, none⟩ = some (.slice r2.ta s.times.length r2.tc) := fun y => blk_cell (y.blk bG) 2
    have d3 : ∀ y : Ext W3, y.w.cell? ⟨B3, 3, none⟩ = some (.slice r2.ba s.below.length r2.bc) := fun y => blk_cell (y.blk bG) 3
    have d4 : ∀ y : Ext W3, y.w.cell? ⟨B3, 4, none⟩ = some (.slice a2 ls.length c2) := fun y => blk_cell (y.blk bG) 4
    have d5 : ∀ y : Ext W3, y.w.cell? ⟨B3, 5, none⟩ = some (.int .i64 t.op) := fun y => blk_cell (y.blk bG) 5
    have d6 : ∀ y : Ext W3, y.w.cell? ⟨B3, 6, none⟩ = some (.int .i64 t.n) := fun y => blk_cell (y.blk bG) 6
    have d7 : ∀ y : Ext W3, y.w.cell? ⟨B3, 7, none⟩ = some (.slice q2.a t.ty.length q2.c) := fun y => blk_cell (y.blk bG) 7
    have d8 : ∀ y : Ext W3, y.w.cell? ⟨B3, 8, none⟩ = some (.slice q2.b t.kids.length q2.d) := fun y => blk_cell (y.blk bG) 8
    have e0 : ∀ y : Ext W3, y.w.cell? ⟨B, 0, none⟩ = some (.int .i64 s.n) := fun y => fa0 ⟨y.w, bel3.trans (y.below.mono bel3.size)⟩
    have e1 : ∀ y : Ext W3, y.w.cell? ⟨B, 1, none⟩ = some (.slice r.pa s.plus.length r.pc) := fun y => fa1 ⟨y.w, bel3.trans (y.below.mono bel3.size)⟩
    have e2 : ∀ y : Ext W3, y.w.cell? ⟨B, 2, none⟩ = some (.slice r.ta s.times.length r.tc) := fun y => fa2 ⟨y.w, bel3.trans (y.below.mono bel3.size)⟩
    have e3 : ∀ y : Ext W3, y.w.cell? ⟨B, 3, none⟩ = some (.slice r.ba s.below.length r.bc) := fun y => fa3 ⟨y.w, bel3.trans (y.below.mono bel3.size)⟩
    have e4 : ∀ y : Ext W3, y.w.cell? ⟨B, 4, none⟩ = some (.slice a ls.length c) := fun y => fa4 ⟨y.w, bel3.trans (y.below.mono bel3.size)⟩
    have e5 : ∀ y : Ext W3, y.w.cell? ⟨B, 5, none⟩ = some (.int .i64 t.op) := fun y => fa5 ⟨y.w, bel3.trans (y.below.mono bel3.size)⟩
    have e6 : ∀ y : Ext W3, y.w.cell? ⟨B, 6, none⟩ = some (.int .i64 t.n) := fun y => fa6 ⟨y.w, bel3.trans (y.below.mono bel3.size)⟩
    have e7 : ∀ y : Ext W3, y.w.cell? ⟨B, 7, none⟩ = some (.slice q.a t.ty.length q.c) := fun y => fa7 ⟨y.w, bel3.trans (y.below.mono bel3.size)⟩
    have e8 : ∀ y : Ext W3, y.w.cell? ⟨B, 8, none⟩ = some (.slice q.b t.kids.length q.d) := fun y => fa8 ⟨y.w, bel3.trans (y.below.mono bel3.size)⟩
    have F3 : Forms W3 := F.ext ⟨W3, belW.trans (bel3.mono belW.size)⟩
    have TF3 : TForms W3 := TF.ext ⟨W3, belW.trans (bel3.mono belW.size)⟩
    have hbk : ∀ y : Ext W3, ∃ z : Ext W, y.w = z.w := fun y => hback ⟨y.w, bel3.trans (y.below.mono bel3.size)⟩
    have TO3 : Hid (∀ U : World, Below W3.heap.size W3 U → Below Wb.heap.size Wb U) := fun U b => bel3.trans (b.mono bel3.size)
    clear fa0 fa1 fa2 fa3 fa4 fa5 fa6 fa7 fa8
    clear hback y3
    obtain ⟨zz, hzz⟩ : ∃ u : Ext W3, u.w = W3 := ⟨Ext.self _, rfl⟩
    rw [← hzz]
    clear hzz
    go_wp2_with fail
    have IC := isSession_ans (c := c2) k3 F3 TF3 hw hTB sm p HP.out zz
    unfold sesV at IC
    refine Calls.mono IC ?_
    clear IC
    rintro e w' ⟨rfl, zz, rfl⟩
    go_wp2_with fail
    have TZ := TO.out zz.w.drew (TO3.out _ (below_drew zz.below))
    go_region_held3 (fun w' => (w'.cell? ⟨B3, 0, none⟩ = some (.int .i64 s.n) ∧ w'.cell? ⟨B3, 1, none⟩ = some (.slice r2.pa s.plus.length r2.pc) ∧ w'.cell? ⟨B3, 2, none⟩ = some (.slice r2.ta s.times.length r2.tc) ∧ w'.cell? ⟨B3, 3, none⟩ = some (.slice r2.ba s.below.length r2.bc) ∧ w'.cell? ⟨B3, 4, none⟩ = some (.slice a2 ls.length c2) ∧ w'.cell? ⟨B3, 5, none⟩ = some (.int .i64 t.op) ∧ w'.cell? ⟨B3, 6, none⟩ = some (.int .i64 t.n) ∧ w'.cell? ⟨B3, 7, none⟩ = some (.slice q2.a t.ty.length q2.c) ∧ w'.cell? ⟨B3, 8, none⟩ = some (.slice q2.b t.kids.length q2.d)) ∧ w'.cell? ⟨B, 0, none⟩ = some (.int .i64 s.n) ∧ w'.cell? ⟨B, 1, none⟩ = some (.slice r.pa s.plus.length r.pc) ∧ w'.cell? ⟨B, 2, none⟩ = some (.slice r.ta s.times.length r.tc) ∧ w'.cell? ⟨B, 3, none⟩ = some (.slice r.ba s.below.length r.bc) ∧ w'.cell? ⟨B, 4, none⟩ = some (.slice a ls.length c) ∧ w'.cell? ⟨B, 5, none⟩ = some (.int .i64 t.op) ∧ w'.cell? ⟨B, 6, none⟩ = some (.int .i64 t.n) ∧ w'.cell? ⟨B, 7, none⟩ = some (.slice q.a t.ty.length q.c) ∧ w'.cell? ⟨B, 8, none⟩ = some (.slice q.b t.kids.length q.d))
      (first | exact ⟨⟨d0 zz.drew, d1 zz.drew, d2 zz.drew, d3 zz.drew, d4 zz.drew, d5 zz.drew, d6 zz.drew, d7 zz.drew, d8 zz.drew⟩, e0 zz.drew, e1 zz.drew, e2 zz.drew, e3 zz.drew, e4 zz.drew, e5 zz.drew, e6 zz.drew, e7 zz.drew, e8 zz.drew⟩ | exact ⟨⟨d0 (zz.drew.trans uu), d1 (zz.drew.trans uu), d2 (zz.drew.trans uu), d3 (zz.drew.trans uu), d4 (zz.drew.trans uu), d5 (zz.drew.trans uu), d6 (zz.drew.trans uu), d7 (zz.drew.trans uu), d8 (zz.drew.trans uu)⟩, e0 (zz.drew.trans uu), e1 (zz.drew.trans uu), e2 (zz.drew.trans uu), e3 (zz.drew.trans uu), e4 (zz.drew.trans uu), e5 (zz.drew.trans uu), e6 (zz.drew.trans uu), e7 (zz.drew.trans uu), e8 (zz.drew.trans uu)⟩ | exact ⟨⟨d0 (zz.drew.trans (uu.trans u2)), d1 (zz.drew.trans (uu.trans u2)), d2 (zz.drew.trans (uu.trans u2)), d3 (zz.drew.trans (uu.trans u2)), d4 (zz.drew.trans (uu.trans u2)), d5 (zz.drew.trans (uu.trans u2)), d6 (zz.drew.trans (uu.trans u2)), d7 (zz.drew.trans (uu.trans u2)), d8 (zz.drew.trans (uu.trans u2))⟩, e0 (zz.drew.trans (uu.trans u2)), e1 (zz.drew.trans (uu.trans u2)), e2 (zz.drew.trans (uu.trans u2)), e3 (zz.drew.trans (uu.trans u2)), e4 (zz.drew.trans (uu.trans u2)), e5 (zz.drew.trans (uu.trans u2)), e6 (zz.drew.trans (uu.trans u2)), e7 (zz.drew.trans (uu.trans u2)), e8 (zz.drew.trans (uu.trans u2))⟩)
      (first | (go_at_call 14; (with_reducible refine Calls.mono TZ ?_); rintro e w' ⟨r5, a5, c5, hd5, q5, uu, rfl, rfl, k5⟩) | (go_at_call 16; refine Calls.mono (eqSes_ans (c := c2) (c2 := c5) (k3.ext (zz.drew.trans uu)) k5 sm (Ext.self uu.w)) ?_; rintro e w' ⟨rfl, u2, rfl⟩))
    go_wp2_with fail
    go_ret
    exact law_end (hbk (zz.drew.trans (uu.trans u2)))
end Go.Proofs.YteffcfaoganciaaDoor
