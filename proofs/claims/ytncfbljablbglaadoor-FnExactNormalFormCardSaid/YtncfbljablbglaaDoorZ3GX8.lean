/- Texts of one claim, laid together: StepSpec, RedsTop, StepP, StepM. -/
import Derived.Test.YtncfbljablbglaaDoorZ3GX0
import Derived.Test.YtncfbljablbglaaDoorZ3GX9
import Derived.Test.YtncfbljablbglaaDoorZ3KHoldL
import Derived.Test.YtncfbljablbglaaDoorZ3KDefM
import Derived.Test.YtncfbljablbglaaDoorZ3KRedsP
import Derived.Test.YtncfbljablbglaaDoorZ3KRedsM
import Derived.Test.YtncfbljablbglaaDoorZ3GH
import Derived.Test.YtncfbljablbglaaDoorZ3GG
import Derived.Test.YtncfbljablbglaaDoorZ3GX2
import Derived.Test.YtncfbljablbglaaDoorZ3GX7
set_option linter.unusedVariables false
set_option linter.unusedSimpArgs false
/- StepTerm, plainly. -/
namespace Go.Proofs.YtncfbljablbglaaDoor
open Go.RowKit

/-- What StepTerm answers. -/
def StepV (t : Tm) (o : Tm) (b : Bool) : Prop := (∃ p ps, RedsV t (p :: ps) ∧ ConV t p o b) ∨ (RedsV t [] ∧ o = zeroT ∧ b = false)
theorem stepV_ex (t : Tm) : ∃ o b, StepV t o b := by
  obtain ⟨l, hl⟩ := redsV_ex t
  cases l with
  | nil => exact ⟨zeroT, false, .inr ⟨hl, rfl, rfl⟩⟩
  | cons p ps =>
    obtain ⟨o, b, h⟩ := conV_ex t p
    exact ⟨o, b, .inl ⟨p, ps, hl, h⟩⟩
theorem StepV.wt {t o : Tm} {b : Bool} (h : StepV t o b) : o.wt ≤ 16400 := by
  rcases h with ⟨_, _, _, h⟩ | ⟨_, rfl, _⟩
  · exact h.wt
  · simp [Tm.wt, Tm.wtL]
theorem RedsV.first {t : Tm} {p : List Int} {ps : List (List Int)} (h : RedsV t (p :: ps)) : p.length ≤ 1000 := by
  rcases h with ⟨hw, e⟩ | ⟨_, e⟩
  · have := t.reds_path [] p (by rw [← e]; simp)
    have := hw.1
    simp at *
    omega
  · cases e
theorem LsOwn.head {w : World} {a : Option Addr} {c : Nat} {p : List Int} {ps : List (List Int)} {hd : Nat → Option Addr × Nat} {B : Nat → Prop} (h : LsOwn w a c (p :: ps) hd B) :
    ∃ g, a = some ⟨g, 0, none⟩ ∧ (∀ y : Ext w, y.w.cell? ⟨g, 0, none⟩ = some (.slice (hd 0).1 p.length (hd 0).2)) ∧ Row w (Value.int .i64) (hd 0).1 p ∧ p.length ≤ (hd 0).2 := by
  obtain ⟨g, e, _⟩ := owns_at h.row (by simp)
  subst e
  have h0 := h.sub 0 p rfl
  refine ⟨g, rfl, fun y => ?_, own_row h0, ?_⟩
  · refine y.cell ?_
    rw [h.row.cellAt _ (by simp)]
    simp [hds]
  · exact owns_cap h0

end Go.Proofs.YtncfbljablbglaaDoor
/- RedexesOf, of the program and of the model. -/
namespace Go.Proofs.YtncfbljablbglaaDoor
open Go.RowKit

theorem NewLs.lift {W W1 : World} (hback : ∀ y : Ext W1, ∃ z : Ext W, y.w = z.w) (y0 : Ext W1) {ls : List (List Int)} {e : Ending} {w' : World} (h : NewLs y0.w ls e w') : NewLs W ls e w' := by
  obtain ⟨a, c, hd, B, y, h1, rfl, h3, h4⟩ := h
  obtain ⟨z0, hz0⟩ := hback y0
  obtain ⟨z, hz⟩ := hback (y0.trans y)
  have hz' : y.w = z.w := hz
  refine ⟨a, c, hd, B, z, h1, hz, by rw [← hz']; exact h3, fun q hq => ?_⟩
  have h5 := h4 q hq
  have h6 := z0.size
  rw [← hz0] at h6
  omega

set_option maxHeartbeats 8000000 in
theorem redexesOf_ans {W : World} (F : Forms W) (TF : TForms W) {lo : Nat} {t : Tm} {r : TV} (h : TmIn W lo t r) (hTB : TmB t) (o : List (List Int)) (ho : RedsV t o) (x : Ext W) :
    Calls Tryd.prog 71 #[r.val t] x.w (NewLs W o) := by
  obtain ⟨ra, rc, rb, rd⟩ := r
  unfold TV.val
  rcases ho with ⟨hw, rfl⟩ | ⟨hw, rfl⟩
  · have HW := Lib.hid hw
    clear hw
    go_enter Tryd.func71, Tryd.ntmps71
    go_wp2_with fail
    generalize hW : x.w.alloc _ = W1
    generalize hB : x.w.heap.size = B
    obtain ⟨c0, c1, c2, c3, h1, hback, yy, hy0⟩ := boxedT h x hB hW
    clear hW hB
    rw [← hy0]
    clear hy0
    have FW := F.on hback
    have TW := TF.on hback
    have IW : ∀ y : Ext W1, Calls Tryd.prog 35 #[(TV.mk ra rc rb rd).val t] y.w (Ans W1 (.bool true)) := fun y => isWritten_ans FW TW h1 hTB true (by refine iff_tf ?_; exact HW.out) y
    have CC : ∀ y : Ext W1, Calls Tryd.prog 92 #[.slice none 0 0, .slice none 0 0, (TV.mk ra rc rb rd).val t] y.w (RedA W1 y.w none [] (fun _ => (none, 0)) none 0 [] ([] ++ t.reds [])) := fun y => appRed_ans t h1 HW.out.2 (by have := HW.out.1; omega) (by have := HW.out.1; simp; omega) (by have := HW.out.1; simp; omega) (RP.start y.below _)
    unfold TV.val at IW CC
    go_wp2_with (go_at_call 35; (with_reducible refine Calls.mono (IW _) ?_); rintro e w' ⟨rfl, yy, rfl⟩)
    refine Calls.mono (CC _) ?_
    rintro e w' ⟨a', c', hd', rfl, rp, -, -⟩
    simp only [List.nil_append] at rp ⊢
    have N := rp.gl.newLs
    go_wp2_with fail
    go_ret
    exact NewLs.lift hback (Ext.self W1) N
  · have HW := Lib.hid hw
    clear hw
    go_enter Tryd.func71, Tryd.ntmps71
    go_wp2_with fail
    generalize hW : x.w.alloc _ = W1
    generalize hB : x.w.heap.size = B
    obtain ⟨c0, c1, c2, c3, h1, hback, yy, hy0⟩ := boxedT h x hB hW
    clear hW hB
    rw [← hy0]
    clear hy0
    have FW := F.on hback
    have TW := TF.on hback
    have IW : ∀ y : Ext W1, Calls Tryd.prog 35 #[(TV.mk ra rc rb rd).val t] y.w (Ans W1 (.bool false)) := fun y => isWritten_ans FW TW h1 hTB false (by refine iff_tf ?_; exact HW.out) y
    unfold TV.val at IW
    go_wp2_with (go_at_call 35; (with_reducible refine Calls.mono (IW _) ?_); rintro e w' ⟨rfl, yy, rfl⟩)
    go_ret
    obtain ⟨z, hz⟩ := hback yy
    rw [hz]
    exact newLs_nil z

set_option maxHeartbeats 8000000 in
theorem specRedexesOf_ans {W : World} {lo : Nat} {t : Tm} {r : TV} (h : TmIn W lo t r) (hwt : t.wt ≤ 1099511627776) (o : List (List Int)) (ho : RedsV t o) (x : Ext W) :
    Calls Tryd.prog 67 #[r.val t] x.w (NewLs W o) := by
  obtain ⟨ra, rc, rb, rd⟩ := r
  unfold TV.val
  rcases ho with ⟨hw, rfl⟩ | ⟨hw, rfl⟩
  · have HW := Lib.hid hw
    clear hw
    go_enter Tryd.func67, Tryd.ntmps67
    go_wp2_with fail
    generalize hW : x.w.alloc _ = W1
    generalize hB : x.w.heap.size = B
    obtain ⟨c0, c1, c2, c3, h1, hback, yy, hy0⟩ := boxedT h x hB hW
    clear hW hB
    rw [← hy0]
    clear hy0
    have IW : ∀ y : Ext W1, Calls Tryd.prog 29 #[(TV.mk ra rc rb rd).val t] y.w (Ans W1 (.bool true)) := fun y => specIsWritten_ans h1 hwt true (by refine iff_tf ?_; exact HW.out) y
    have CC : ∀ y : Ext W1, Calls Tryd.prog 66 #[(TV.mk ra rc rb rd).val t, .slice none 0 0] y.w (LsS y.w (t.reds [])) := fun y => l4Paths_ans t (h1.ext y) HW.out.2 (by have := HW.out.1; omega) (p := []) (.inl rfl) (by have := HW.out.1; simp; omega) (Ext.self y.w)
    unfold TV.val at IW CC
    go_wp2_with (go_at_call 29; (with_reducible refine Calls.mono (IW _) ?_); rintro e w' ⟨rfl, yy, rfl⟩)
    refine Calls.mono (CC _) ?_
    rintro e w' hS
    have N := hS.newLs
    obtain ⟨a', c', rfl⟩ := hS.val
    go_wp2_with fail
    go_ret
    exact NewLs.lift hback yy N
  · have HW := Lib.hid hw
    clear hw
    go_enter Tryd.func67, Tryd.ntmps67
    go_wp2_with fail
    generalize hW : x.w.alloc _ = W1
    generalize hB : x.w.heap.size = B
    obtain ⟨c0, c1, c2, c3, h1, hback, yy, hy0⟩ := boxedT h x hB hW
    clear hW hB
    rw [← hy0]
    clear hy0
    have IW : ∀ y : Ext W1, Calls Tryd.prog 29 #[(TV.mk ra rc rb rd).val t] y.w (Ans W1 (.bool false)) := fun y => specIsWritten_ans h1 hwt false (by refine iff_tf ?_; exact HW.out) y
    unfold TV.val at IW
    go_wp2_with (go_at_call 29; (with_reducible refine Calls.mono (IW _) ?_); rintro e w' ⟨rfl, yy, rfl⟩)
    go_ret
    obtain ⟨z, hz⟩ := hback yy
    rw [hz]
    exact newLs_nil z

end Go.Proofs.YtncfbljablbglaaDoor
/- StepTerm, by the program. -/
namespace Go.Proofs.YtncfbljablbglaaDoor
open Go.RowKit

set_option maxRecDepth 100000 in
set_option maxHeartbeats 16000000 in
theorem stepTerm_ans {W : World} (F : Forms W) (TF : TForms W) {lo : Nat} {t : Tm} {r : TV} (h : TmIn W lo t r) (hTB : TmB t) (o : Tm) (b : Bool) (ho : StepV t o b) (x : Ext W) :
    Calls Tryd.prog 38 #[r.val t] x.w (NewTmB W o b) := by
  obtain ⟨ra, rc, rb, rd⟩ := r
  unfold TV.val
  obtain ⟨xx, hxx⟩ : ∃ y : Ext W, x = y := ⟨x, rfl⟩
  rw [hxx]
  clear hxx x
  rcases ho with ⟨p, ps, hr, hc⟩ | ⟨hr, rfl, rfl⟩
  · have HR := Lib.hid hr
    have HC := Lib.hid hc
    clear hr hc
    go_enter Tryd.func38, Tryd.ntmps38
    go_upto_region 1 with fail
    have hxW := xx.size
    generalize hWa : (xx.w.alloc _).alloc _ = Wa
    generalize hB : xx.w.heap.size = B at *
    obtain ⟨bT, bR, sA, bel⟩ := blocks2 hB hWa
    have belA : Below W.heap.size W Wa := xx.below.trans (bel.mono (by omega))
    clear hWa bel
    have t0 := blk_cell bT 0
    have t1 := blk_cell bT 1
    have t2 := blk_cell bT 2
    have t3 := blk_cell bT 3
    simp at t0 t1 t2 t3
    have ROC := redexesOf_ans (F.ext ⟨Wa, belA⟩) (TF.ext ⟨Wa, belA⟩) (h.ext ⟨Wa, belA⟩) hTB (p :: ps) HR.out (Ext.self Wa)
    unfold TV.val at ROC
    go_wp2_with fail
    refine Calls.mono ROC ?_
    clear ROC t0 t1 t2 t3
    rintro e w' ⟨a9, c9, hd9, B9, y1, rfl, rfl, own1, lo9⟩
    obtain ⟨g9, rfl, hc9, row9, cap9⟩ := own1.head
    have hg9 : Wa.heap.size ≤ g9 := lo9 g9 ((own1.bl g9).2 (.inl rfl))
    have hp9 := HR.out.first
    have bT1 := y1.blk bT
    have bR1 := y1.blk bR
    have belU : Below W.heap.size W y1.w := below_ext belA y1
    have hs1 : Wa.heap.size ≤ y1.w.heap.size := y1.size
    obtain ⟨U, hU⟩ : ∃ U, U = y1.w := ⟨_, rfl⟩
    rw [← hU] at bT1 bR1 belU hs1 row9 ⊢
    have l0 : U.cell? ⟨g9, 0, none⟩ = some (.slice (hd9 0).1 p.length (hd9 0).2) := by rw [hU]; exact hc9 (Ext.self y1.w)
    have f1 : (((p :: ps).length : Int) == 0) = false := by rw [beq_eq_false_iff_ne]; simp; omega
    have f2 : (0 : Int) < ((p :: ps).length : Int) := by simp
    have f3 : 0 < (p :: ps).length := by simp
    obtain ⟨n9, hn9⟩ : ∃ n, n = (p :: ps).length := ⟨_, rfl⟩
    rw [← hn9] at f1 f2 f3 ⊢
    clear hn9 hU y1 own1 hc9 bT bR lo9
    have hRW : W.heap.size ≤ B + 1 := by omega
    have hRB : B ≠ B + 1 := by omega
    have hRG : g9 ≠ B + 1 := by omega
    have KG : Hid (∀ w', Kc W U (B + 1) w' → (w'.cell? ⟨B, 0, none⟩ = some (.int .i64 t.op) ∧ w'.cell? ⟨B, 1, none⟩ = some (.int .i64 t.n) ∧ w'.cell? ⟨B, 2, none⟩ = some (.slice ra t.ty.length rc) ∧ w'.cell? ⟨B, 3, none⟩ = some (.slice rb t.kids.length rd)) ∧ w'.cell? ⟨g9, 0, none⟩ = some (.slice (hd9 0).1 p.length (hd9 0).2)) := fun w' k => ⟨⟨k.cell (blk_cell bT1 0) hRB, k.cell (blk_cell bT1 1) hRB, k.cell (blk_cell bT1 2) hRB, k.cell (blk_cell bT1 3) hRB⟩, k.cell l0 hRG⟩
    have CAC : Hid (∀ w', Below U.heap.size U w' → Calls Tryd.prog 72 #[.agg #[.int .i64 t.op, .int .i64 t.n, .slice ra t.ty.length rc, .slice rb t.kids.length rd], .slice (hd9 0).1 p.length (hd9 0).2] w' (NewTmB w' o b)) := fun w' bw => contractAt_ans (F.ext ⟨w', belU.trans (bw.mono belU.size)⟩) (TF.ext ⟨w', belU.trans (bw.mono belU.size)⟩) (h.ext ⟨w', belU.trans (bw.mono belU.size)⟩) hTB (row9.ext ⟨w', bw⟩) (by omega) cap9 o b HC.out (Ext.self w')
    unfold NewTmB TV.val at CAC
    clear l0
    go_upto_region 4 with fail
    go_region_held3 (fun w' => (w'.cell? ⟨B, 0, none⟩ = some (.int .i64 t.op) ∧ w'.cell? ⟨B, 1, none⟩ = some (.int .i64 t.n) ∧ w'.cell? ⟨B, 2, none⟩ = some (.slice ra t.ty.length rc) ∧ w'.cell? ⟨B, 3, none⟩ = some (.slice rb t.kids.length rd)) ∧ w'.cell? ⟨g9, 0, none⟩ = some (.slice (hd9 0).1 p.length (hd9 0).2)) ((refine KG.out _ ?_; (with_reducible (repeat (first | exact Kc.self belU | refine Kc.drew ?_ | refine Kc.alloc ?_ _ | refine Kc.set ?_ hRW | refine Kc.ext ?_ _)))))
      (first
        | (go_at_call 72; (with_reducible refine Calls.mono (CAC.out _ (by (with_reducible (repeat (first | exact Below.refl _ _ | refine below_drew ?_ | refine below_alloc ?_ _ | refine below_ext ?_ _))))) ?_); rintro e w' ⟨r4, K4, y4, rfl, rfl, own4, lo4⟩; have bR4 := y4.blk (blk_drew bR1); obtain ⟨n0, n1, n2, n3, p0, p1, p2, p3⟩ := zfacts bR4)
        | fail)
    clear n0 n1 n2 n3 p0 p1 p2 p3
    go_wp2_with fail
    have bel4 : Below W.heap.size W y4.w := below_ext (below_drew belU) y4
    generalize hY : World.setCell _ _ _ = Y
    obtain ⟨⟨NB9, y9, rfl, own9, lo9⟩, r0, r1, r2, r3⟩ := dft_end (W := W) bR4 own4 (fun g h => by have h9 : U.heap.size ≤ g := lo4 g h; exact ⟨by omega, by omega⟩) bel4 (by omega) hY
    refine bodyPost_ret (v := .tuple #[TV.val r4 o, .bool b]) (by simp [TV.val, results, Tryd.results38, go_sem, r0, r1, r2, r3]) rfl ?_
    exact ⟨_, NB9, y9, rfl, rfl, own9, lo9⟩
  · have HR := Lib.hid hr
    clear hr
    go_enter Tryd.func38, Tryd.ntmps38
    go_upto_region 1 with fail
    have hxW := xx.size
    generalize hWa : (xx.w.alloc _).alloc _ = Wa
    generalize hB : xx.w.heap.size = B at *
    obtain ⟨bT, bR, sA, bel⟩ := blocks2 hB hWa
    have belA : Below W.heap.size W Wa := xx.below.trans (bel.mono (by omega))
    clear hWa bel
    have t0 := blk_cell bT 0
    have t1 := blk_cell bT 1
    have t2 := blk_cell bT 2
    have t3 := blk_cell bT 3
    simp at t0 t1 t2 t3
    have ROC := redexesOf_ans (F.ext ⟨Wa, belA⟩) (TF.ext ⟨Wa, belA⟩) (h.ext ⟨Wa, belA⟩) hTB [] HR.out (Ext.self Wa)
    unfold TV.val at ROC
    go_wp2_with fail
    refine Calls.mono ROC ?_
    clear ROC
    rintro e w' ⟨a9, c9, hd9, B9, y1, rfl, rfl, -, -⟩
    have f1 : ((([] : List (List Int)).length : Int) == 0) = true := rfl
    have bR1 := y1.blk bR
    have hs1 : Wa.heap.size ≤ y1.w.heap.size := y1.size
    clear t0 t1 t2 t3
    have n0 := blk_cell bR1 0
    have n1 := blk_cell bR1 1
    have n2 := blk_cell bR1 2
    have n3 := blk_cell bR1 3
    have p0 := blk_free bR1 0
    have p1 := blk_free bR1 1
    have p2 := blk_free bR1 2
    have p3 := blk_free bR1 3
    simp at n0 n1 n2 n3
    go_wp2_with fail
    clear n0 n1 n2 n3 p0 p1 p2 p3
    generalize hY4 : World.setCell _ _ _ = Y4
    obtain ⟨belD, hsame, hgr, r0, r1, r2, r3⟩ := ret4 (W := W) (below_ext belA y1) (by omega) bR1 hY4
    refine bodyPost_ret (v := .tuple #[TV.val ⟨none, 0, none, 0⟩ zeroT, .bool false]) (by simp [TV.val, Tm.op, Tm.n, Tm.ty, Tm.kids, results, Tryd.results38, go_sem, r0, r1, r2, r3]) rfl ?_
    exact ⟨_, _, ⟨Y4, belD⟩, rfl, rfl, zero_own _, fun q hq => hq.elim⟩

end Go.Proofs.YtncfbljablbglaaDoor
/- StepTerm, by the model. -/
namespace Go.Proofs.YtncfbljablbglaaDoor
open Go.RowKit

set_option maxRecDepth 100000 in
set_option maxHeartbeats 16000000 in
theorem specStepTerm_ans {W : World} {lo : Nat} {t : Tm} {r : TV} (h : TmIn W lo t r) (hwt : t.wt ≤ 1099511627776) (o : Tm) (b : Bool) (ho : StepV t o b) (x : Ext W) :
    Calls Tryd.prog 33 #[r.val t] x.w (NewTmB W o b) := by
  obtain ⟨ra, rc, rb, rd⟩ := r
  unfold TV.val
  obtain ⟨xx, hxx⟩ : ∃ y : Ext W, x = y := ⟨x, rfl⟩
  rw [hxx]
  clear hxx x
  rcases ho with ⟨p, ps, hr, hc⟩ | ⟨hr, rfl, rfl⟩
  · have HR := Lib.hid hr
    have HC := Lib.hid hc
    clear hr hc
    go_enter Tryd.func33, Tryd.ntmps33
    go_upto_region 1 with fail
    have hxW := xx.size
    generalize hWa : (xx.w.alloc _).alloc _ = Wa
    generalize hB : xx.w.heap.size = B at *
    obtain ⟨bT, bR, sA, bel⟩ := blocks2 hB hWa
    have belA : Below W.heap.size W Wa := xx.below.trans (bel.mono (by omega))
    clear hWa bel
    have t0 := blk_cell bT 0
    have t1 := blk_cell bT 1
    have t2 := blk_cell bT 2
    have t3 := blk_cell bT 3
    simp at t0 t1 t2 t3
    have ROC := specRedexesOf_ans (h.ext ⟨Wa, belA⟩) hwt (p :: ps) HR.out (Ext.self Wa)
    unfold TV.val at ROC
    go_wp2_with fail
    refine Calls.mono ROC ?_
    clear ROC t0 t1 t2 t3
    rintro e w' ⟨a9, c9, hd9, B9, y1, rfl, rfl, own1, lo9⟩
    obtain ⟨g9, rfl, hc9, row9, cap9⟩ := own1.head
    have hg9 : Wa.heap.size ≤ g9 := lo9 g9 ((own1.bl g9).2 (.inl rfl))
    have hp9 := HR.out.first
    have bT1 := y1.blk bT
    have bR1 := y1.blk bR
    have belU : Below W.heap.size W y1.w := below_ext belA y1
    have hs1 : Wa.heap.size ≤ y1.w.heap.size := y1.size
    obtain ⟨U, hU⟩ : ∃ U, U = y1.w := ⟨_, rfl⟩
    rw [← hU] at bT1 bR1 belU hs1 row9 ⊢
    have l0 : U.cell? ⟨g9, 0, none⟩ = some (.slice (hd9 0).1 p.length (hd9 0).2) := by rw [hU]; exact hc9 (Ext.self y1.w)
    have f1 : (((p :: ps).length : Int) == 0) = false := by rw [beq_eq_false_iff_ne]; simp; omega
    have f2 : (0 : Int) < ((p :: ps).length : Int) := by simp
    have f3 : 0 < (p :: ps).length := by simp
    obtain ⟨n9, hn9⟩ : ∃ n, n = (p :: ps).length := ⟨_, rfl⟩
    rw [← hn9] at f1 f2 f3 ⊢
    clear hn9 hU y1 own1 hc9 bT bR lo9
    have hRW : W.heap.size ≤ B + 1 := by omega
    have hRB : B ≠ B + 1 := by omega
    have hRG : g9 ≠ B + 1 := by omega
    have KG : Hid (∀ w', Kc W U (B + 1) w' → (w'.cell? ⟨B, 0, none⟩ = some (.int .i64 t.op) ∧ w'.cell? ⟨B, 1, none⟩ = some (.int .i64 t.n) ∧ w'.cell? ⟨B, 2, none⟩ = some (.slice ra t.ty.length rc) ∧ w'.cell? ⟨B, 3, none⟩ = some (.slice rb t.kids.length rd)) ∧ w'.cell? ⟨g9, 0, none⟩ = some (.slice (hd9 0).1 p.length (hd9 0).2)) := fun w' k => ⟨⟨k.cell (blk_cell bT1 0) hRB, k.cell (blk_cell bT1 1) hRB, k.cell (blk_cell bT1 2) hRB, k.cell (blk_cell bT1 3) hRB⟩, k.cell l0 hRG⟩
    have CAC : Hid (∀ w', Below U.heap.size U w' → Calls Tryd.prog 68 #[.agg #[.int .i64 t.op, .int .i64 t.n, .slice ra t.ty.length rc, .slice rb t.kids.length rd], .slice (hd9 0).1 p.length (hd9 0).2] w' (NewTmB w' o b)) := fun w' bw => specContractAt_ans (h.ext ⟨w', belU.trans (bw.mono belU.size)⟩) hwt (row9.ext ⟨w', bw⟩) (by omega) cap9 o b HC.out (Ext.self w')
    unfold NewTmB TV.val at CAC
    clear l0
    go_upto_region 4 with fail
    go_region_held3 (fun w' => (w'.cell? ⟨B, 0, none⟩ = some (.int .i64 t.op) ∧ w'.cell? ⟨B, 1, none⟩ = some (.int .i64 t.n) ∧ w'.cell? ⟨B, 2, none⟩ = some (.slice ra t.ty.length rc) ∧ w'.cell? ⟨B, 3, none⟩ = some (.slice rb t.kids.length rd)) ∧ w'.cell? ⟨g9, 0, none⟩ = some (.slice (hd9 0).1 p.length (hd9 0).2)) ((refine KG.out _ ?_; (with_reducible (repeat (first | exact Kc.self belU | refine Kc.drew ?_ | refine Kc.alloc ?_ _ | refine Kc.set ?_ hRW | refine Kc.ext ?_ _)))))
      (first
        | (go_at_call 68; (with_reducible refine Calls.mono (CAC.out _ (by (with_reducible (repeat (first | exact Below.refl _ _ | refine below_drew ?_ | refine below_alloc ?_ _ | refine below_ext ?_ _))))) ?_); rintro e w' ⟨r4, K4, y4, rfl, rfl, own4, lo4⟩; have bR4 := y4.blk (blk_drew bR1); obtain ⟨n0, n1, n2, n3, p0, p1, p2, p3⟩ := zfacts bR4)
        | fail)
    clear n0 n1 n2 n3 p0 p1 p2 p3
    go_wp2_with fail
    have bel4 : Below W.heap.size W y4.w := below_ext (below_drew belU) y4
    generalize hY : World.setCell _ _ _ = Y
    obtain ⟨⟨NB9, y9, rfl, own9, lo9⟩, r0, r1, r2, r3⟩ := dft_end (W := W) bR4 own4 (fun g h => by have h9 : U.heap.size ≤ g := lo4 g h; exact ⟨by omega, by omega⟩) bel4 (by omega) hY
    refine bodyPost_ret (v := .tuple #[TV.val r4 o, .bool b]) (by simp [TV.val, results, Tryd.results33, go_sem, r0, r1, r2, r3]) rfl ?_
    exact ⟨_, NB9, y9, rfl, rfl, own9, lo9⟩
  · have HR := Lib.hid hr
    clear hr
    go_enter Tryd.func33, Tryd.ntmps33
    go_upto_region 1 with fail
    have hxW := xx.size
    generalize hWa : (xx.w.alloc _).alloc _ = Wa
    generalize hB : xx.w.heap.size = B at *
    obtain ⟨bT, bR, sA, bel⟩ := blocks2 hB hWa
    have belA : Below W.heap.size W Wa := xx.below.trans (bel.mono (by omega))
    clear hWa bel
    have t0 := blk_cell bT 0
    have t1 := blk_cell bT 1
    have t2 := blk_cell bT 2
    have t3 := blk_cell bT 3
    simp at t0 t1 t2 t3
    have ROC := specRedexesOf_ans (h.ext ⟨Wa, belA⟩) hwt [] HR.out (Ext.self Wa)
    unfold TV.val at ROC
    go_wp2_with fail
    refine Calls.mono ROC ?_
    clear ROC
    rintro e w' ⟨a9, c9, hd9, B9, y1, rfl, rfl, -, -⟩
    have f1 : ((([] : List (List Int)).length : Int) == 0) = true := rfl
    have bR1 := y1.blk bR
    have hs1 : Wa.heap.size ≤ y1.w.heap.size := y1.size
    clear t0 t1 t2 t3
    have n0 := blk_cell bR1 0
    have n1 := blk_cell bR1 1
    have n2 := blk_cell bR1 2
    have n3 := blk_cell bR1 3
    have p0 := blk_free bR1 0
    have p1 := blk_free bR1 1
    have p2 := blk_free bR1 2
    have p3 := blk_free bR1 3
    simp at n0 n1 n2 n3
    go_wp2_with fail
    clear n0 n1 n2 n3 p0 p1 p2 p3
    generalize hY4 : World.setCell _ _ _ = Y4
    obtain ⟨belD, hsame, hgr, r0, r1, r2, r3⟩ := ret4 (W := W) (below_ext belA y1) (by omega) bR1 hY4
    refine bodyPost_ret (v := .tuple #[TV.val ⟨none, 0, none, 0⟩ zeroT, .bool false]) (by simp [TV.val, Tm.op, Tm.n, Tm.ty, Tm.kids, results, Tryd.results33, go_sem, r0, r1, r2, r3]) rfl ?_
    exact ⟨_, _, ⟨Y4, belD⟩, rfl, rfl, zero_own _, fun q hq => hq.elim⟩

end Go.Proofs.YtncfbljablbglaaDoor
