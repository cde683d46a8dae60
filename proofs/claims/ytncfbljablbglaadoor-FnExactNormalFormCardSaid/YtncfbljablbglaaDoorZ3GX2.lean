/- Texts of one claim, laid together: ReplTop, ConTop. -/
import Derived.Test.YtncfbljablbglaaDoorZ3GX1
import Derived.Test.YtncfbljablbglaaDoorZ3GH
import Derived.Test.YtncfbljablbglaaDoorZ3GQ
import Derived.Test.YtncfbljablbglaaDoorZ3KDefM
import Derived.Test.YtncfbljablbglaaDoorZ3GX0
import Derived.Test.YtncfbljablbglaaDoorZ3GXA
import Derived.Test.YtncfbljablbglaaDoorZ3KDefP
import Derived.Deep.RegionHeld3
import Derived.Deep.Cut
import Derived.RegionTactic
import Derived.Outline
set_option linter.unusedVariables false
set_option linter.unusedSimpArgs false
/- ReplaceAt, by the program. -/
namespace Go.Proofs.YtncfbljablbglaaDoor
open Go.RowKit

theorem ReplV.no {t u o : Tm} {p : List Int} {b : Bool} (h : ReplV t p u o b) (hn : ¬ (Written t ∧ ∃ z, t.putP p u = some z ∧ Written z)) : o = zeroT ∧ b = false := by
  rcases h with ⟨g, e, w, _⟩ | ⟨_, e⟩
  · exact absurd ⟨g, o, e, w⟩ hn
  · exact e
theorem ReplV.yes {t u o z : Tm} {p : List Int} {b : Bool} (h : ReplV t p u o b) (hw : Written t) (g : t.putP p u = some z) (hz : Written z) : o = z ∧ b = true := by
  rcases h with ⟨_, e, _, e2⟩ | ⟨hn, _⟩
  · rw [g] at e; cases e; exact ⟨rfl, e2⟩
  · exact absurd ⟨hw, z, g, hz⟩ hn

set_option maxRecDepth 100000 in
set_option maxHeartbeats 16000000 in
theorem replaceAt_ans {W : World} (F : Forms W) (TF : TForms W) {lo : Nat} {t : Tm} {r : TV} (h : TmIn W lo t r) (hTB : TmB t) {lo2 : Nat} {u : Tm} {q : TV} (hu : TmIn W lo2 u q) (hTBu : TmB u) {pa : Option Addr} {pc : Nat} {p : List Int} (hp : Row W (Value.int .i64) pa p) (hpl : p.length ≤ 1099511627776) (hcap : p.length ≤ pc) (o : Tm) (b : Bool) (ho : ReplV t p u o b) (x : Ext W) :
    Calls Tryd.prog 95 #[r.val t, .slice pa p.length pc, q.val u] x.w (NewTmB W o b) := by
  obtain ⟨ra, rc, rb, rd⟩ := r
  obtain ⟨ua, uc, ub, ud⟩ := q
  unfold TV.val
  obtain ⟨xx, hxx⟩ : ∃ y : Ext W, x = y := ⟨x, rfl⟩
  rw [hxx]
  clear hxx x
  have HO := Lib.hid ho
  clear ho
  by_cases hw : Written t
  · have HW := Lib.hid hw
    clear hw
    go_enter Tryd.func95, Tryd.ntmps95
    go_upto_region 1 with fail
    have hxW := xx.size
    generalize hWa : ((xx.w.alloc _).alloc _).alloc _ = Wa
    generalize hB : xx.w.heap.size = B at *
    obtain ⟨bT, bU, bR, sA, bel⟩ := blocks3 hB hWa
    have belA : Below W.heap.size W Wa := xx.below.trans (bel.mono (by omega))
    clear hWa bel
    have hT := h.ext ⟨Wa, belA⟩
    have FW := F.ext ⟨Wa, belA⟩
    have TW := TF.ext ⟨Wa, belA⟩
    dsimp only at hT FW TW
    have t0 := blk_cell bT 0
    have t1 := blk_cell bT 1
    have t2 := blk_cell bT 2
    have t3 := blk_cell bT 3
    simp at t0 t1 t2 t3
    have u0 := blk_cell bU 0
    have u1 := blk_cell bU 1
    have u2 := blk_cell bU 2
    have u3 := blk_cell bU 3
    simp at u0 u1 u2 u3
    have IWC := isWritten_ans FW TW hT hTB true (by refine iff_tf ?_; exact HW.out) (Ext.self Wa)
    unfold TV.val at IWC
    go_wp2_with fail
    refine Calls.mono IWC ?_
    clear IWC
    rintro e w' ⟨rfl, y1, rfl⟩
    go_upto_region 3 with fail
    clear t0 t1 t2 t3 u0 u1 u2 u3
    have belU : Below W.heap.size W y1.w := below_ext belA y1
    obtain ⟨U, hU⟩ : ∃ U, U = y1.w := ⟨_, rfl⟩
    have bT1 := y1.blk bT
    have bU1 := y1.blk bU
    have bR1 := y1.blk bR
    have hs1 : Wa.heap.size ≤ U.heap.size := by rw [hU]; exact y1.size
    rw [← hU] at belU bT1 bU1 bR1 ⊢
    clear hU y1 bT bU bR
    have t0 := blk_cell bT1 0
    have t1 := blk_cell bT1 1
    have t2 := blk_cell bT1 2
    have t3 := blk_cell bT1 3
    simp at t0 t1 t2 t3
    have u0 := blk_cell bU1 0
    have u1 := blk_cell bU1 1
    have u2 := blk_cell bU1 2
    have u3 := blk_cell bU1 3
    simp at u0 u1 u2 u3
    have PC := putAt_ans p (h.ext ⟨U, belU⟩) HW.out.2 (hu.ext ⟨U, belU⟩) (hp.ext ⟨U, belU⟩) hpl hcap (Ext.self U)
    unfold TV.val at PC
    go_wp2_with fail
    refine Calls.mono PC ?_
    clear PC
    rintro e w' ⟨z, rz, bb, y2, rfl, rfl, hz, hK⟩
    go_upto_region 4 with fail
    clear t0 t1 t2 t3
    clear u0 u1 u2 u3
    generalize hV : y2.w.alloc _ = V
    have bD := new_blk hV
    obtain ⟨yV, hyV⟩ : ∃ y : Ext U, y.w = V := ⟨y2.alloc _, hV⟩
    have hKV : TmK V z rz (fun g => g < U.heap.size ∨ U.heap.size ≤ g) := by rw [← hV]; exact hK.ext ((Ext.self y2.w).alloc _)
    have belV : Below W.heap.size W V := by rw [← hyV]; exact below_ext belU yV
    have bR2 : V.heap[B + 1 + 1]? = some zbox := by rw [← hyV]; exact yV.blk bR1
    have hs2 : U.heap.size ≤ V.heap.size := by rw [← hyV]; exact yV.size
    have FV := F.ext ⟨V, belV⟩
    have TVV := TF.ext ⟨V, belV⟩
    dsimp only at FV TVV
    have hzt := hKV.here
    generalize y2.w.heap.size = D at *
    clear hV hyV yV hK bT1 bU1 bR1 hKV
    rcases hz with ⟨hz, rfl⟩ | ⟨hz, rfl⟩
    · have hzB := Tm.putP_tmB hTB hTBu hz
      have HZ := Lib.hid hz
      clear hz
      by_cases hwz : Written z
      · have HWZ := Lib.hid hwz
        clear hwz
        have d0 := blk_cell bD 0
        have d1 := blk_cell bD 1
        have d2 := blk_cell bD 2
        have d3 := blk_cell bD 3
        simp at d0 d1 d2 d3
        have IWC := isWritten_ans FV TVV hzt hzB true (by refine iff_tf ?_; exact HWZ.out) (Ext.self V)
        unfold TV.val at IWC
        go_wp2_with fail
        refine Calls.mono IWC ?_
        clear IWC
        rintro e w' ⟨rfl, y3, rfl⟩
        go_upto_region 6 with fail
        clear d0 d1 d2 d3
        have bD3 := y3.blk bD
        have bR3 := y3.blk bR2
        have d0 := blk_cell bD3 0
        have d1 := blk_cell bD3 1
        have d2 := blk_cell bD3 2
        have d3 := blk_cell bD3 3
        simp at d0 d1 d2 d3
        have CC := copyTerm_ans (TVV.ext y3) (hzt.ext y3) HWZ.out.2 (by have := HWZ.out.1; omega) (by have := HWZ.out.1; omega) (Ext.self y3.w)
        unfold TV.val at CC
        go_wp2_with fail
        refine Calls.mono CC ?_
        clear CC d0 d1 d2 d3
        rintro e w' ⟨r4, K4, y4, rfl, rfl, own4, lo4⟩
        have bR4 := y4.blk bR3
        have bel4 : Below W.heap.size W y4.w := below_ext (below_ext belV y3) y4
        have hs3 : V.heap.size ≤ y3.w.heap.size := y3.size
        unfold TV.val
        obtain ⟨rfl, rfl⟩ := HO.out.yes HW.out HZ.out HWZ.out
        have n0 := blk_cell bR4 0
        have n1 := blk_cell bR4 1
        have n2 := blk_cell bR4 2
        have n3 := blk_cell bR4 3
        have p0 := blk_free bR4 0
        have p1 := blk_free bR4 1
        have p2 := blk_free bR4 2
        have p3 := blk_free bR4 3
        simp at n0 n1 n2 n3
        go_wp2_with fail
        clear n0 n1 n2 n3 p0 p1 p2 p3
        generalize hY : World.setCell _ _ _ = Y
        obtain ⟨⟨NB9, y9, rfl, own9, lo9⟩, r0, r1, r2, r3⟩ := dft_end (W := W) bR4 own4 (fun g h => by have := lo4 g h; exact ⟨by omega, by omega⟩) bel4 (by omega) hY
        refine bodyPost_ret (v := .tuple #[TV.val r4 o, .bool true]) (by simp [TV.val, results, Tryd.results95, go_sem, r0, r1, r2, r3]) rfl ?_
        exact ⟨_, NB9, y9, rfl, rfl, own9, lo9⟩
      · have HWZ := Lib.hid hwz
        clear hwz
        have d0 := blk_cell bD 0
        have d1 := blk_cell bD 1
        have d2 := blk_cell bD 2
        have d3 := blk_cell bD 3
        simp at d0 d1 d2 d3
        have IWC := isWritten_ans FV TVV hzt hzB false (by refine iff_tf ?_; exact HWZ.out) (Ext.self V)
        unfold TV.val at IWC
        go_wp2_with fail
        refine Calls.mono IWC ?_
        clear IWC
        rintro e w' ⟨rfl, y3, rfl⟩
        go_upto_region 5 with fail
        clear d0 d1 d2 d3
        have bR3 := y3.blk bR2
        have hs3 : V.heap.size ≤ y3.w.heap.size := y3.size
        have n0 := blk_cell bR3 0
        have n1 := blk_cell bR3 1
        have n2 := blk_cell bR3 2
        have n3 := blk_cell bR3 3
        have p0 := blk_free bR3 0
        have p1 := blk_free bR3 1
        have p2 := blk_free bR3 2
        have p3 := blk_free bR3 3
        simp at n0 n1 n2 n3
        go_wp2_with fail
        clear n0 n1 n2 n3 p0 p1 p2 p3
        generalize hY4 : World.setCell _ _ _ = Y4
        obtain ⟨belD, hsame, hgr, r0, r1, r2, r3⟩ := ret4 (W := W) (below_ext belV y3) (by omega) bR3 hY4
        refine bodyPost_ret (v := .tuple #[TV.val ⟨none, 0, none, 0⟩ zeroT, .bool false]) (by simp [TV.val, Tm.op, Tm.n, Tm.ty, Tm.kids, results, Tryd.results95, go_sem, r0, r1, r2, r3]) rfl ?_
        obtain ⟨rfl, rfl⟩ := HO.out.no (fun ⟨_, z', e, w⟩ => by have e9 := HZ.out; rw [e] at e9; cases e9; exact HWZ.out w)
        exact ⟨_, _, ⟨Y4, belD⟩, rfl, rfl, zero_own _, fun q hq => hq.elim⟩
    · have HZ := Lib.hid hz
      clear hz
      go_upto_region 5 with fail
      have n0 := blk_cell bR2 0
      have n1 := blk_cell bR2 1
      have n2 := blk_cell bR2 2
      have n3 := blk_cell bR2 3
      have p0 := blk_free bR2 0
      have p1 := blk_free bR2 1
      have p2 := blk_free bR2 2
      have p3 := blk_free bR2 3
      simp at n0 n1 n2 n3
      go_wp2_with fail
      clear n0 n1 n2 n3 p0 p1 p2 p3
      generalize hY4 : World.setCell _ _ _ = Y4
      obtain ⟨belD, hsame, hgr, r0, r1, r2, r3⟩ := ret4 (W := W) belV (by omega) bR2 hY4
      refine bodyPost_ret (v := .tuple #[TV.val ⟨none, 0, none, 0⟩ zeroT, .bool false]) (by simp [TV.val, Tm.op, Tm.n, Tm.ty, Tm.kids, results, Tryd.results95, go_sem, r0, r1, r2, r3]) rfl ?_
      obtain ⟨rfl, rfl⟩ := HO.out.no (fun ⟨_, z', e, w⟩ => by have e9 := HZ.out; rw [e] at e9; cases e9)
      exact ⟨_, _, ⟨Y4, belD⟩, rfl, rfl, zero_own _, fun q hq => hq.elim⟩
  · have HW := Lib.hid hw
    clear hw
    go_enter Tryd.func95, Tryd.ntmps95
    go_upto_region 1 with fail
    have hxW := xx.size
    generalize hWa : ((xx.w.alloc _).alloc _).alloc _ = Wa
    generalize hB : xx.w.heap.size = B at *
    obtain ⟨bT, bU, bR, sA, bel⟩ := blocks3 hB hWa
    have belA : Below W.heap.size W Wa := xx.below.trans (bel.mono (by omega))
    clear hWa bel
    have hT := h.ext ⟨Wa, belA⟩
    have FW := F.ext ⟨Wa, belA⟩
    have TW := TF.ext ⟨Wa, belA⟩
    dsimp only at hT FW TW
    have t0 := blk_cell bT 0
    have t1 := blk_cell bT 1
    have t2 := blk_cell bT 2
    have t3 := blk_cell bT 3
    simp at t0 t1 t2 t3
    have IWC := isWritten_ans FW TW hT hTB false (by refine iff_tf ?_; exact HW.out) (Ext.self Wa)
    unfold TV.val at IWC
    go_wp2_with fail
    refine Calls.mono IWC ?_
    clear IWC
    rintro e w' ⟨rfl, y1, rfl⟩
    go_upto_region 2 with fail
    clear t0 t1 t2 t3
    have bR1 := y1.blk bR
    have hs1 : Wa.heap.size ≤ y1.w.heap.size := y1.size
    have n0 := blk_cell bR1 0
    have n1 := blk_cell bR1 1
    have n2 := blk_cell bR1 2
    have n3 := blk_cell bR1 3
    have p0 := blk_free bR1 0
    have p1 := blk_free bR1 1
    have p2 := blk_free bR1 2
    have p3 := blk_free bR1 3
    simp at n0 n1 n2 n3
    go_wp2_with fail
    clear n0 n1 n2 n3 p0 p1 p2 p3
    generalize hY4 : World.setCell _ _ _ = Y4
    obtain ⟨belD, hsame, hgr, r0, r1, r2, r3⟩ := ret4 (W := W) (below_ext belA y1) (by omega) bR1 hY4
    refine bodyPost_ret (v := .tuple #[TV.val ⟨none, 0, none, 0⟩ zeroT, .bool false]) (by simp [TV.val, Tm.op, Tm.n, Tm.ty, Tm.kids, results, Tryd.results95, go_sem, r0, r1, r2, r3]) rfl ?_
    obtain ⟨rfl, rfl⟩ := HO.out.no (fun z => HW.out z.1)
    exact ⟨_, _, ⟨Y4, belD⟩, rfl, rfl, zero_own _, fun q hq => hq.elim⟩

end Go.Proofs.YtncfbljablbglaaDoor
/- ContractAt and Contract, by the program. -/
namespace Go.Proofs.YtncfbljablbglaaDoor
open Go.RowKit

theorem ConV.no {t o : Tm} {p : List Int} {b : Bool} (h : ConV t p o b) (hn : ¬ ∃ x body put, Written t ∧ t.atP p = some x ∧ Cof x body put) : o = zeroT ∧ b = false := by
  rcases h with ⟨x, body, put, h1, h2, h3, _⟩ | ⟨_, e⟩
  · exact absurd ⟨x, body, put, h1, h2, h3⟩ hn
  · exact e
theorem ConV.yes {t o x body : Tm} {put : List Tm} {p : List Int} {b : Bool} (h : ConV t p o b) (hw : Written t) (hx : t.atP p = some x) (hc : Cof x body put) : ReplV t p (body.rv (subf 0 put) 0) o b := by
  rcases h with ⟨x', body', put', h1, h2, h3, h4⟩ | ⟨hn, _⟩
  · rw [hx] at h2
    cases h2
    obtain ⟨rfl, rfl⟩ := hc.uniq h3
    exact h4
  · exact absurd ⟨x, body, put, hw, hx, hc⟩ hn

set_option maxRecDepth 100000 in
set_option maxHeartbeats 16000000 in
theorem contractAt_ans {W : World} (F : Forms W) (TF : TForms W) {lo : Nat} {t : Tm} {r : TV} (h : TmIn W lo t r) (hTB : TmB t) {pa : Option Addr} {pc : Nat} {p : List Int} (hp : Row W (Value.int .i64) pa p) (hpl : p.length ≤ 1099511627776) (hcap : p.length ≤ pc) (o : Tm) (b : Bool) (ho : ConV t p o b) (x : Ext W) :
    Calls Tryd.prog 72 #[r.val t, .slice pa p.length pc] x.w (NewTmB W o b) := by
  obtain ⟨ra, rc, rb, rd⟩ := r
  unfold TV.val
  obtain ⟨xx, hxx⟩ : ∃ y : Ext W, x = y := ⟨x, rfl⟩
  rw [hxx]
  clear hxx x
  have HO := Lib.hid ho
  clear ho
  by_cases hx : Written t ∧ ∃ x, t.atP p = some x
  · obtain ⟨hw, X, hX0⟩ := hx
    have HW := Lib.hid hw
    have HX := Lib.hid hX0
    have ATV : Hid (AtV t p X true) := .inl ⟨hw, hX0, rfl⟩
    clear hw hX0
    go_enter Tryd.func72, Tryd.ntmps72
    go_upto_region 1 with fail
    have hxW := xx.size
    generalize hWa : (xx.w.alloc _).alloc _ = Wa
    generalize hB : xx.w.heap.size = B at *
    obtain ⟨bT, bR, sA, bel⟩ := blocks2 hB hWa
    have belA : Below W.heap.size W Wa := xx.below.trans (bel.mono (by omega))
    clear hWa bel
    have t0 := blk_cell bT 0
    have t1 := blk_cell bT 1
    have t2 := blk_cell bT 2
    have t3 := blk_cell bT 3
    simp at t0 t1 t2 t3
    have TAC := termAt_ans (F.ext ⟨Wa, belA⟩) (TF.ext ⟨Wa, belA⟩) (h.ext ⟨Wa, belA⟩) hTB (hp.ext ⟨Wa, belA⟩) (pc := pc) hpl X true ATV.out (Ext.self Wa)
    unfold TV.val at TAC
    go_wp2_with fail
    refine Calls.mono TAC ?_
    clear TAC t0 t1 t2 t3
    rintro e w' ⟨r1, NB1, y1, rfl, rfl, own1, -⟩
    unfold TV.val
    go_upto_region 2 with fail
    generalize hU : y1.w.alloc _ = U
    have bX := new_blk hU
    obtain ⟨yU, hyU⟩ : ∃ y : Ext Wa, y.w = U := ⟨y1.alloc _, hU⟩
    have hX : TmIn U 0 (X) r1 := by rw [← hU]; exact (own1.tm (fun _ _ => Nat.zero_le _)).ext ((Ext.self y1.w).alloc _)
    have belU : Below W.heap.size W U := by rw [← hyU]; exact below_ext belA yU
    have bT1 : U.heap[B]? = some (boxT t.op t.n ra t.ty.length rc rb t.kids.length rd) := by rw [← hyU]; exact yU.blk bT
    have bR1 : U.heap[B + 1]? = some zbox := by rw [← hyU]; exact yU.blk bR
    have hsU : Wa.heap.size ≤ U.heap.size := by rw [← hyU]; exact yU.size
    generalize y1.w.heap.size = E at *
    clear hU hyU yU own1 bT bR
    obtain ⟨v, hv⟩ := (Within.self HW.out).at HX.out
    have HV := Lib.hid hv
    clear hv
    have t0 := blk_cell bX 0
    have t1 := blk_cell bX 1
    have t2 := blk_cell bX 2
    have t3 := blk_cell bX 3
    simp at t0 t1 t2 t3
    have COC := contractionOf_ans hX HV.out.ok (Ext.self U)
    unfold TV.val at COC
    go_wp2_with fail
    refine Calls.mono COC ?_
    clear COC t0 t1 t2 t3
    rintro e w' ⟨body, put, qb, pb, pd, flag, y2, rfl, rfl, hc⟩
    go_upto_region 5 with fail
    generalize hV : y2.w.alloc _ = V
    have bK := new_blk hV
    obtain ⟨yV, hyV⟩ : ∃ y : Ext U, y.w = V := ⟨y2.alloc _, hV⟩
    have belV : Below W.heap.size W V := by rw [← hyV]; exact below_ext belU yV
    have bT2 : V.heap[B]? = some (boxT t.op t.n ra t.ty.length rc rb t.kids.length rd) := by rw [← hyV]; exact yV.blk bT1
    have bR2 : V.heap[B + 1]? = some zbox := by rw [← hyV]; exact yV.blk bR1
    have hsV : U.heap.size ≤ V.heap.size := by rw [← hyV]; exact yV.size
    have hEV : E < V.heap.size := by have := (Array.getElem?_eq_some_iff.1 bX).1; omega
    have hEK : y2.w.heap.size < V.heap.size := (Array.getElem?_eq_some_iff.1 bK).1
    have hc2 : (flag = true ∧ Hid (Cof X body put ∧ TmIn V 0 body qb ∧ TmIn V 0 (.mk 0 0 [] put) ⟨none, 0, pb, pd⟩)) ∨ (flag = false ∧ Hid (¬ Red X)) := by
      rcases hc with ⟨e1, e2, e3, e4⟩ | ⟨e1, e2⟩
      · refine .inl ⟨e1, e2, ?_, ?_⟩
        · rw [← hV]; exact e3.ext ((Ext.self y2.w).alloc _)
        · rw [← hV]; exact e4.ext ((Ext.self y2.w).alloc _)
      · exact .inr ⟨e1, e2⟩
    have hys : U.heap.size ≤ y2.w.heap.size := y2.size
    generalize y2.w.heap.size = K at *
    clear hV hyV yV hc bT1 bR1 y2 bX hX
    rcases hc2 with ⟨rfl, HC⟩ | ⟨rfl, HC⟩
    · have hRW : W.heap.size ≤ B + 1 := by omega
      have hRB : B ≠ B + 1 := by omega
      have hRK : K ≠ B + 1 := by omega
      obtain ⟨u, hu⟩ : ∃ u, u = body.rv (subf 0 put) 0 := ⟨_, rfl⟩
      have HU : Hid (ReplV t p u o b ∧ TmB u) := by
        have hX9 := Tm.atP_tmB hTB HX.out
        rw [hu]
        exact ⟨HO.out.yes HW.out HX.out HC.out.1, Tm.sub_tmB (HC.out.1.tmB hX9).2 (HC.out.1.tmB hX9).1⟩
      have SUBC : Hid (∀ w', Below V.heap.size V w' → Calls Tryd.prog 96 #[.agg #[.int .i64 body.op, .int .i64 body.n, .slice qb.a body.ty.length qb.c, .slice qb.b body.kids.length qb.d], .int .i64 0, .slice pb put.length pd] w' (NewTmO w' u)) := fun w' b => by
        obtain ⟨e1, e2, e3⟩ := HC.out
        obtain ⟨k1, k2, k3⟩ := e1.ok HV.out.ok (by have := HV.out.low; omega)
        obtain ⟨s1, s2⟩ := e1.szs
        have q1 := HV.out.sz
        have q2 := HV.out.room
        have q3 := HW.out.1
        rw [hu]
        exact substitute_ans (TF.ext ⟨w', belV.trans (b.mono belV.size)⟩) (e2.ext ⟨w', b⟩) k1 (by omega) (by omega) (i0 := 0) ⟨by omega, by omega⟩ (e3.ext ⟨w', b⟩) (by omega) (fun z hz => ⟨16, v, false, k2 z hz, by have := s2 z hz; omega, by have := s2 z hz; omega⟩) (Ext.self w')
      have REPC : Hid (∀ w' (ru : TV), Below V.heap.size V w' → TmIn w' 0 u ru → Calls Tryd.prog 95 #[.agg #[.int .i64 t.op, .int .i64 t.n, .slice ra t.ty.length rc, .slice rb t.kids.length rd], .slice pa p.length pc, .agg #[.int .i64 u.op, .int .i64 u.n, .slice ru.a u.ty.length ru.c, .slice ru.b u.kids.length ru.d]] w' (NewTmB w' o b)) := fun w' ru bb hu' => by
        have b9 := belV.trans (bb.mono belV.size)
        exact replaceAt_ans (F.ext ⟨w', b9⟩) (TF.ext ⟨w', b9⟩) (h.ext ⟨w', b9⟩) hTB hu' HU.out.2 (hp.ext ⟨w', b9⟩) hpl hcap o b HU.out.1 (Ext.self w')
      have KG : Hid (∀ w', Kc W V (B + 1) w' → (w'.cell? ⟨B, 0, none⟩ = some (.int .i64 t.op) ∧ w'.cell? ⟨B, 1, none⟩ = some (.int .i64 t.n) ∧ w'.cell? ⟨B, 2, none⟩ = some (.slice ra t.ty.length rc) ∧ w'.cell? ⟨B, 3, none⟩ = some (.slice rb t.kids.length rd)) ∧ w'.cell? ⟨K, 0, none⟩ = some (.int .i64 body.op) ∧ w'.cell? ⟨K, 1, none⟩ = some (.int .i64 body.n) ∧ w'.cell? ⟨K, 2, none⟩ = some (.slice qb.a body.ty.length qb.c) ∧ w'.cell? ⟨K, 3, none⟩ = some (.slice qb.b body.kids.length qb.d) ∧ w'.cell? ⟨K, 4, none⟩ = some (.slice pb put.length pd)) := fun w' k => ⟨⟨k.cell (blk_cell bT2 0) hRB, k.cell (blk_cell bT2 1) hRB, k.cell (blk_cell bT2 2) hRB, k.cell (blk_cell bT2 3) hRB⟩, k.cell (blk_cell bK 0) hRK, k.cell (blk_cell bK 1) hRK, k.cell (blk_cell bK 2) hRK, k.cell (blk_cell bK 3) hRK, k.cell (blk_cell bK 4) hRK⟩
      clear hu HC HV bT2 bK HX ATV
      unfold NewTmO TV.val at SUBC
      unfold NewTmB TV.val at REPC
      go_upto_region 7 with fail
      go_region_held3 (fun w' => (w'.cell? ⟨B, 0, none⟩ = some (.int .i64 t.op) ∧ w'.cell? ⟨B, 1, none⟩ = some (.int .i64 t.n) ∧ w'.cell? ⟨B, 2, none⟩ = some (.slice ra t.ty.length rc) ∧ w'.cell? ⟨B, 3, none⟩ = some (.slice rb t.kids.length rd)) ∧ w'.cell? ⟨K, 0, none⟩ = some (.int .i64 body.op) ∧ w'.cell? ⟨K, 1, none⟩ = some (.int .i64 body.n) ∧ w'.cell? ⟨K, 2, none⟩ = some (.slice qb.a body.ty.length qb.c) ∧ w'.cell? ⟨K, 3, none⟩ = some (.slice qb.b body.kids.length qb.d) ∧ w'.cell? ⟨K, 4, none⟩ = some (.slice pb put.length pd)) ((refine KG.out _ ?_; (with_reducible (repeat (first | exact Kc.self belV | refine Kc.drew ?_ | refine Kc.alloc ?_ _ | refine Kc.set ?_ hRW | refine Kc.ext ?_ _)))))
        (first
          | (go_at_call 96; refine Calls.mono (SUBC.out _ (by (with_reducible (repeat (first | exact Below.refl _ _ | refine below_drew ?_ | refine below_alloc ?_ _ | refine below_ext ?_ _))))) ?_; rintro e w' ⟨ru, NBu, yS, rfl, rfl, ownS, -⟩)
          | (go_at_call 95; refine Calls.mono (REPC.out _ ru (by (with_reducible (repeat (first | exact Below.refl _ _ | refine below_drew ?_ | refine below_alloc ?_ _ | refine below_ext ?_ _)))) (ownS.tm (fun _ _ => Nat.zero_le _))) ?_; rintro e w' ⟨r4, K4, y4, rfl, rfl, own4, lo4⟩; have bR4 := y4.blk (yS.blk (blk_drew bR2)); obtain ⟨n0, n1, n2, n3, p0, p1, p2, p3⟩ := zfacts bR4)
          | fail)
      clear n0 n1 n2 n3 p0 p1 p2 p3
      go_wp2_with fail
      have bel4 : Below W.heap.size W y4.w := below_ext (below_ext (below_drew belV) yS) y4
      have hsS : V.heap.size ≤ yS.w.heap.size := yS.size
      generalize hY : World.setCell _ _ _ = Y
      obtain ⟨⟨NB9, y9, rfl, own9, lo9⟩, r0, r1, r2, r3⟩ := dft_end (W := W) bR4 own4 (fun g h => by have := lo4 g h; exact ⟨by omega, by omega⟩) bel4 (by omega) hY
      refine bodyPost_ret (v := .tuple #[TV.val r4 o, .bool b]) (by simp [TV.val, results, Tryd.results72, go_sem, r0, r1, r2, r3]) rfl ?_
      exact ⟨_, NB9, y9, rfl, rfl, own9, lo9⟩
    · go_upto_region 6 with fail
      have n0 := blk_cell bR2 0
      have n1 := blk_cell bR2 1
      have n2 := blk_cell bR2 2
      have n3 := blk_cell bR2 3
      have p0 := blk_free bR2 0
      have p1 := blk_free bR2 1
      have p2 := blk_free bR2 2
      have p3 := blk_free bR2 3
      simp at n0 n1 n2 n3
      go_wp2_with fail
      clear n0 n1 n2 n3 p0 p1 p2 p3
      generalize hY4 : World.setCell _ _ _ = Y4
      obtain ⟨belD, hsame, hgr, r0, r1, r2, r3⟩ := ret4 (W := W) belV (by omega) bR2 hY4
      refine bodyPost_ret (v := .tuple #[TV.val ⟨none, 0, none, 0⟩ zeroT, .bool false]) (by simp [TV.val, Tm.op, Tm.n, Tm.ty, Tm.kids, results, Tryd.results72, go_sem, r0, r1, r2, r3]) rfl ?_
      obtain ⟨rfl, rfl⟩ := HO.out.no (fun ⟨x', b', q', _, e, c⟩ => by have e9 := HX.out; rw [e] at e9; cases e9; exact HC.out c.red)
      exact ⟨_, _, ⟨Y4, belD⟩, rfl, rfl, zero_own _, fun q hq => hq.elim⟩
  · have HXN : Hid (¬ (Written t ∧ ∃ x, t.atP p = some x)) := hx
    have ATV : Hid (AtV t p zeroT false) := .inr ⟨fun ⟨a, c, e⟩ => hx ⟨a, c, e⟩, rfl, rfl⟩
    clear hx
    go_enter Tryd.func72, Tryd.ntmps72
    go_upto_region 1 with fail
    have hxW := xx.size
    generalize hWa : (xx.w.alloc _).alloc _ = Wa
    generalize hB : xx.w.heap.size = B at *
    obtain ⟨bT, bR, sA, bel⟩ := blocks2 hB hWa
    have belA : Below W.heap.size W Wa := xx.below.trans (bel.mono (by omega))
    clear hWa bel
    have t0 := blk_cell bT 0
    have t1 := blk_cell bT 1
    have t2 := blk_cell bT 2
    have t3 := blk_cell bT 3
    simp at t0 t1 t2 t3
    have TAC := termAt_ans (F.ext ⟨Wa, belA⟩) (TF.ext ⟨Wa, belA⟩) (h.ext ⟨Wa, belA⟩) hTB (hp.ext ⟨Wa, belA⟩) (pc := pc) hpl zeroT false ATV.out (Ext.self Wa)
    unfold TV.val at TAC
    go_wp2_with fail
    refine Calls.mono TAC ?_
    clear TAC t0 t1 t2 t3
    rintro e w' ⟨r1, NB1, y1, rfl, rfl, own1, -⟩
    unfold TV.val
    go_upto_region 2 with fail
    generalize hU : y1.w.alloc _ = U
    have bX := new_blk hU
    obtain ⟨yU, hyU⟩ : ∃ y : Ext Wa, y.w = U := ⟨y1.alloc _, hU⟩
    have hX : TmIn U 0 (zeroT) r1 := by rw [← hU]; exact (own1.tm (fun _ _ => Nat.zero_le _)).ext ((Ext.self y1.w).alloc _)
    have belU : Below W.heap.size W U := by rw [← hyU]; exact below_ext belA yU
    have bT1 : U.heap[B]? = some (boxT t.op t.n ra t.ty.length rc rb t.kids.length rd) := by rw [← hyU]; exact yU.blk bT
    have bR1 : U.heap[B + 1]? = some zbox := by rw [← hyU]; exact yU.blk bR
    have hsU : Wa.heap.size ≤ U.heap.size := by rw [← hyU]; exact yU.size
    generalize y1.w.heap.size = E at *
    clear hU hyU yU own1 bT bR
    go_upto_region 3 with fail
    have n0 := blk_cell bR1 0
    have n1 := blk_cell bR1 1
    have n2 := blk_cell bR1 2
    have n3 := blk_cell bR1 3
    have p0 := blk_free bR1 0
    have p1 := blk_free bR1 1
    have p2 := blk_free bR1 2
    have p3 := blk_free bR1 3
    simp at n0 n1 n2 n3
    go_wp2_with fail
    clear n0 n1 n2 n3 p0 p1 p2 p3
    generalize hY4 : World.setCell _ _ _ = Y4
    obtain ⟨belD, hsame, hgr, r0, r1, r2, r3⟩ := ret4 (W := W) belU (by omega) bR1 hY4
    refine bodyPost_ret (v := .tuple #[TV.val ⟨none, 0, none, 0⟩ zeroT, .bool false]) (by simp [TV.val, Tm.op, Tm.n, Tm.ty, Tm.kids, results, Tryd.results72, go_sem, r0, r1, r2, r3]) rfl ?_
    obtain ⟨rfl, rfl⟩ := HO.out.no (fun ⟨x', b', q', a, e, c⟩ => HXN.out ⟨a, x', e⟩)
    exact ⟨_, _, ⟨Y4, belD⟩, rfl, rfl, zero_own _, fun q hq => hq.elim⟩

end Go.Proofs.YtncfbljablbglaaDoor
