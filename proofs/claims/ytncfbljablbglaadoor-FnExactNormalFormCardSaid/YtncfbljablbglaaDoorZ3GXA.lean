/- Texts of one claim, laid together: AtT, AtU. -/
import Derived.Test.YtncfbljablbglaaDoorZ3GQ
import Derived.Test.YtncfbljablbglaaDoorZ3KAtSpec
import Derived.Test.YtncfbljablbglaaDoorZ3GH
import Derived.Test.YtncfbljablbglaaDoorZ3GI
import Derived.Test.YtncfbljablbglaaDoorZ3KShM
import Derived.Test.YtncfbljablbglaaDoorZ3GG
set_option linter.unusedVariables false
set_option linter.unusedSimpArgs false
/- The program's TermAt. -/
namespace Go.Proofs.YtncfbljablbglaaDoor
open Go.RowKit

/-- Four cells of a block are turned. -/
theorem set4_blk {w Y : World} {B : Nat} {T : TypeId} {z0 z1 z2 z3 a0 a1 a2 a3 : Value} (hb : w.heap[B]? = some (.cells #[z0, z1, z2, z3] T (0, 0)))
    (hY : (((w.setCell ⟨B, 0, none⟩ a0).setCell ⟨B, 1, none⟩ a1).setCell ⟨B, 2, none⟩ a2).setCell ⟨B, 3, none⟩ a3 = Y) :
    Y.heap[B]? = some (.cells #[a0, a1, a2, a3] T (0, 0)) ∧ (∀ g, g ≠ B → Y.heap[g]? = w.heap[g]?) ∧ Y.heap.size = w.heap.size ∧ (∀ {U : World}, Below U.heap.size U w → U.heap.size ≤ B → Below U.heap.size U Y) := by
  have h1 := set_blk hb 0 a0 rfl
  have h2 := set_blk h1 1 a1 rfl
  have h3 := set_blk h2 2 a2 rfl
  have h4 := set_blk h3 3 a3 hY
  refine ⟨by simpa using h4, fun g hg => ?_, by subst hY; simp, fun b hB => ?_⟩
  · rw [set_other hY hg, set_other rfl hg, set_other rfl hg, set_other rfl hg]
  · subst hY
    exact (((b.setCell hB _).setCell hB _).setCell hB _).setCell hB _

set_option maxRecDepth 100000 in
set_option maxHeartbeats 8000000 in
theorem termAt_ans {W : World} (F : Forms W) (TF : TForms W) {lo : Nat} {t : Tm} {r : TV} (h : TmIn W lo t r) (hTB : TmB t) {pa : Option Addr} {pc : Nat} {p : List Int} (hp : Row W (Value.int .i64) pa p) (hpl : p.length ≤ 1099511627776) (o : Tm) (b : Bool) (ho : AtV t p o b) (x : Ext W) :
    Calls Tryd.prog 93 #[r.val t, .slice pa p.length pc] x.w (NewTmB W o b) := by
  obtain ⟨ra, rc, rb, rd⟩ := r
  unfold TV.val
  have HO := Lib.hid ho
  clear ho
  by_cases hw : Written t
  · have HW := Lib.hid hw
    clear hw
    go_enter Tryd.func93, Tryd.ntmps93
    go_upto_region 1 with fail
    have hxW := x.size
    generalize hWa : (x.w.alloc _).alloc _ = Wa
    generalize hB : x.w.heap.size = B at *
    obtain ⟨bA, bR, sA, bel⟩ := blocks2 hB hWa
    have belA : Below W.heap.size W Wa := x.below.trans (bel.mono (by omega))
    clear hWa bel
    have hA := h.ext ⟨Wa, belA⟩
    have c0 := blk_cell bA 0
    have c1 := blk_cell bA 1
    have c2 := blk_cell bA 2
    have c3 := blk_cell bA 3
    simp at c0 c1 c2 c3
    have ISW := isWritten_ans (W := Wa) (F.ext ⟨Wa, belA⟩) (TF.ext ⟨Wa, belA⟩) hA hTB true (by refine iff_tf ?_; exact HW.out) (Ext.self Wa)
    go_wp2_with fail
    refine Calls.mono ISW ?_
    clear ISW c0 c1 c2 c3
    rintro e w' ⟨rfl, y, rfl⟩
    have bAy := y.blk bA
    have bRy := y.blk bR
    have bely : Below W.heap.size W y.w := belA.trans (y.below.mono belA.size)
    obtain ⟨Wb, hWb⟩ : ∃ Wb : World, Wb = y.w := ⟨_, rfl⟩
    rw [← hWb] at bAy bRy bely ⊢
    clear hWb y bA bR hA belA
    have hst : t.sz ≤ 400 := HW.out.1
    go_wp2_with fail
    go_loopw [14] (fun iz wr => ∃ (k : Nat) (c : Tm) (q : TV) (v : Int), iz = .int .i64 k ∧ k ≤ p.length ∧ Hid (t.atP (p.take k) = some c) ∧ Hid (Within t c v) ∧ TmIn W lo c q ∧ wr.heap[B]? = some (boxT c.op c.n q.a c.ty.length q.c q.b c.kids.length q.d) ∧ wr.heap[B + 1]? = some zbox ∧ Below W.heap.size W wr) (fun iz _ => p.length - (intOf iz).toNat)
    case atStart => exact ⟨0, t, ⟨ra, rc, rb, rd⟩, 8, rfl, by omega, by show _ = _; simp [Tm.atP], Within.self HW.out, h, bAy, bRy, bely⟩
    case round =>
      obtain ⟨k, c, q, v, rfl, hk, HAT, HWI, hc, bA, bR, belw⟩ := hrel
      obtain ⟨qa, qc, qb, qd⟩ := q
      have hBl : B + 1 < wr.heap.size := (Array.getElem?_eq_some_iff.1 bR).1
      by_cases hlt : k < p.length
      · have hlt' : (k : Int) < (p.length : Int) := by omega
        have hk0 : (0 : Int) ≤ (k : Int) := by omega
        obtain ⟨m, hm⟩ : ∃ m, p[k]? = some m := ⟨_, List.getElem?_eq_getElem hlt⟩
        obtain ⟨pb, po, rfl, hpc⟩ := hp.at hlt
        have HM := Lib.hid hm
        have pcell : wr.cell? ⟨pb, po + k, none⟩ = some (.int .i64 m) := (Ext.mk wr belw).cell (hpc k m hm)
        clear hm hpc
        have m3 : wr.cell? ⟨B, 3, none⟩ = some (.slice qb c.kids.length qd) := blk_cell bA 3
        cases hq : c.kidI m with
        | none =>
          have HQ := Lib.hid hq
          clear hq
          obtain ⟨rfl, rfl⟩ := HO.out.no (fun z => by obtain ⟨_, c', e⟩ := z; have e2 := Tm.atP_stop HAT.out HM.out HQ.out; rw [e2] at e; cases e)
          have IR := inRange_ans (W := wr) m (c.kids.length : Int) false (by refine iff_tf ?_; exact Tm.kidI_none HQ.out) (Ext.self wr)
          go_wp2_with fail
          refine Calls.mono IR ?_
          clear IR m3 pcell
          rintro e w' ⟨rfl, z, rfl⟩
          have bRz := z.blk bR
          have n0 := blk_cell bRz 0
          have n1 := blk_cell bRz 1
          have n2 := blk_cell bRz 2
          have n3 := blk_cell bRz 3
          have p0 := blk_free bRz 0
          have p1 := blk_free bRz 1
          have p2 := blk_free bRz 2
          have p3 := blk_free bRz 3
          simp at n0 n1 n2 n3
          go_wp2
          clear n0 n1 n2 n3 p0 p1 p2 p3
          generalize hY4 : World.setCell _ _ _ = Y4
          obtain ⟨belD, hsame, hgr, r0, r1, r2, r3⟩ := ret4 (W := W) (belw.trans (z.below.mono belw.size)) (by omega) bRz hY4
          refine bodyPost_ret (v := .tuple #[TV.val ⟨none, 0, none, 0⟩ zeroT, .bool false]) (by simp [TV.val, Tm.op, Tm.n, Tm.ty, Tm.kids, results, Tryd.results93, go_sem, r0, r1, r2, r3]) rfl ?_
          exact ⟨_, _, ⟨Y4, belD⟩, rfl, rfl, zero_own _, fun q hq => hq.elim⟩
        | some kid =>
          obtain ⟨j, hj, hkid⟩ := Tm.kidI_some hq
          subst hj
          have hjl : j < c.kids.length := (List.getElem?_eq_some_iff.1 hkid).1
          have hjl' : (j : Int) < (c.kids.length : Int) := by omega
          have hj0 : (0 : Int) ≤ (j : Int) := by omega
          have HQ := Lib.hid hq
          clear hq
          obtain ⟨kr0, A⟩ := hc.out
          have hlk := A.lk
          obtain ⟨b0, o0, hrb, K4⟩ := A.kid j kid hkid
          have hsub := A.sub j kid hkid
          dsimp only at hrb
          subst hrb
          have d0 : wr.cell? ⟨b0, o0 + j * 4, none⟩ = some (.int .i64 kid.op) := (Ext.mk wr belw).cell K4.c0
          have d1 : wr.cell? ⟨b0, o0 + j * 4 + 1, none⟩ = some (.int .i64 kid.n) := (Ext.mk wr belw).cell K4.c1
          have d2 : wr.cell? ⟨b0, o0 + j * 4 + 2, none⟩ = some (.slice (kr0 j).a kid.ty.length (kr0 j).c) := (Ext.mk wr belw).cell K4.c2
          have d3 : wr.cell? ⟨b0, o0 + j * 4 + 3, none⟩ = some (.slice (kr0 j).b kid.kids.length (kr0 j).d) := (Ext.mk wr belw).cell K4.c3
          have HK := Lib.hid hkid
          have HA := Lib.hid A
          have HSUB := Lib.hid hsub
          clear K4 hkid A hsub
          have IR := inRange_ans (W := wr) (j : Int) (c.kids.length : Int) true (by refine iff_tf ?_; exact ⟨hj0, hjl'⟩) (Ext.self wr)
          go_wp2_with fail
          refine Calls.mono IR ?_
          clear IR
          rintro e w' ⟨rfl, z, rfl⟩
          have bAz := z.blk bA
          have bRz := z.blk bR
          have belz : Below W.heap.size W z.w := belw.trans (z.below.mono belw.size)
          replace m3 := z.cell m3
          replace d0 := z.cell d0
          replace d1 := z.cell d1
          replace d2 := z.cell d2
          replace d3 := z.cell d3
          replace pcell := z.cell pcell
          have e0 : z.w.cell? ⟨B, 0, none⟩ = some (.int .i64 c.op) := blk_cell bAz 0
          have e1 : z.w.cell? ⟨B, 1, none⟩ = some (.int .i64 c.n) := blk_cell bAz 1
          have e2 : z.w.cell? ⟨B, 2, none⟩ = some (.slice qa c.ty.length qc) := blk_cell bAz 2
          have f0 := blk_free bAz 0
          have f1 := blk_free bAz 1
          have f2 := blk_free bAz 2
          have f3 := blk_free bAz 3
          go_wp2_with fail
          clear e0 e1 e2 f0 f1 f2 f3 d0 d1 d2 d3 m3 pcell
          go_roundw
          case rel =>
            obtain ⟨bB, hoth, hsz, hbl⟩ := set4_blk bAz (show _ = _ from rfl)
            exact ⟨k + 1, kid, kr0 j, _, by go_num, by omega, (show _ = _ by rw [Tm.atP_step HAT.out HM.out]; exact HQ.out), HWI.out.kid HK.out, HSUB.out, bB, (hoth _ (by omega)).trans bRz, by first | exact hbl belz (by omega) | exact below_drew (hbl belz (by omega))⟩
          case measure => simp [intOf]; omega
      · have hke : k = p.length := by omega
        have hlt' : ¬ (k : Int) < (p.length : Int) := by omega
        have hat := HAT.out
        rw [hke, List.take_length] at hat
        obtain ⟨rfl, rfl⟩ := HO.out.yes HW.out hat
        clear hat
        have hwi := HWI.out
        have h1 := hwi.sz
        have h2 := hwi.room
        have h3 := hwi.low
        have m0 : wr.cell? ⟨B, 0, none⟩ = some (.int .i64 o.op) := blk_cell bA 0
        have m1 : wr.cell? ⟨B, 1, none⟩ = some (.int .i64 o.n) := blk_cell bA 1
        have m2 : wr.cell? ⟨B, 2, none⟩ = some (.slice qa o.ty.length qc) := blk_cell bA 2
        have m3 : wr.cell? ⟨B, 3, none⟩ = some (.slice qb o.kids.length qd) := blk_cell bA 3
        have CC := copyTerm_ans (W := wr) (TF.ext ⟨wr, belw⟩) (hc.ext ⟨wr, belw⟩) hwi.ok (by omega) (by omega) (Ext.self wr)
        unfold TV.val at CC
        clear hwi
        go_wp2_with fail
        refine Calls.mono CC ?_
        clear CC m0 m1 m2 m3
        rintro e w' ⟨r', NB, z, rfl, rfl, hnew, hlo⟩
        have bRz := z.blk bR
        have n0 := blk_cell bRz 0
        have n1 := blk_cell bRz 1
        have n2 := blk_cell bRz 2
        have n3 := blk_cell bRz 3
        have p0 := blk_free bRz 0
        have p1 := blk_free bRz 1
        have p2 := blk_free bRz 2
        have p3 := blk_free bRz 3
        simp at n0 n1 n2 n3
        go_wp2
        clear n0 n1 n2 n3 p0 p1 p2 p3
        generalize hY4 : World.setCell _ _ _ = Y4
        obtain ⟨belD, hsame, hgr, r0, r1, r2, r3⟩ := ret4 (W := W) (belw.trans (z.below.mono belw.size)) (by omega) bRz hY4
        refine bodyPost_ret (v := .tuple #[r'.val o, .bool true]) (by simp [TV.val, results, Tryd.results93, go_sem, r0, r1, r2, r3]) rfl ?_
        exact ⟨r', NB, ⟨Y4, belD⟩, rfl, rfl, hnew.keep (fun g hg => hsame g (by have h1 := hlo g hg; have h2 := (Array.getElem?_eq_some_iff.1 bR).1; omega)), fun g hg => by have h1 := hlo g hg; have h2 := belw.size; omega⟩
  · have HW := Lib.hid hw
    clear hw
    obtain ⟨rfl, rfl⟩ := HO.out.no (fun q => HW.out q.1)
    go_enter Tryd.func93, Tryd.ntmps93
    go_upto_region 1 with fail
    have hxW := x.size
    generalize hWa : (x.w.alloc _).alloc _ = Wa
    generalize hB : x.w.heap.size = B at *
    obtain ⟨bA, bR, sA, bel⟩ := blocks2 hB hWa
    have belA : Below W.heap.size W Wa := x.below.trans (bel.mono (by omega))
    clear hWa bel
    have hA := h.ext ⟨Wa, belA⟩
    have c0 := blk_cell bA 0
    have c1 := blk_cell bA 1
    have c2 := blk_cell bA 2
    have c3 := blk_cell bA 3
    simp at c0 c1 c2 c3
    have ISW := isWritten_ans (W := Wa) (F.ext ⟨Wa, belA⟩) (TF.ext ⟨Wa, belA⟩) hA hTB false (by refine iff_tf ?_; exact HW.out) (Ext.self Wa)
    go_wp2_with fail
    refine Calls.mono ISW ?_
    clear ISW
    rintro e w' ⟨rfl, y, rfl⟩
    have bRy := y.blk bR
    have n0 := blk_cell bRy 0
    have n1 := blk_cell bRy 1
    have n2 := blk_cell bRy 2
    have n3 := blk_cell bRy 3
    have p0 := blk_free bRy 0
    have p1 := blk_free bRy 1
    have p2 := blk_free bRy 2
    have p3 := blk_free bRy 3
    simp at n0 n1 n2 n3
    go_wp2
    clear n0 n1 n2 n3 p0 p1 p2 p3
    generalize hY4 : World.setCell _ _ _ = Y4
    obtain ⟨belD, hsame, hgr, r0, r1, r2, r3⟩ := ret4 (W := W) (belA.trans (y.below.mono belA.size)) (by omega) bRy hY4
    refine bodyPost_ret (v := .tuple #[TV.val ⟨none, 0, none, 0⟩ zeroT, .bool false]) (by simp [TV.val, Tm.op, Tm.n, Tm.ty, Tm.kids, results, Tryd.results93, go_sem, r0, r1, r2, r3]) rfl ?_
    exact ⟨_, _, ⟨Y4, belD⟩, rfl, rfl, zero_own _, fun q hq => hq.elim⟩

end Go.Proofs.YtncfbljablbglaaDoor
/- The model's TermAt. -/
namespace Go.Proofs.YtncfbljablbglaaDoor
open Go.RowKit

set_option maxRecDepth 100000 in
set_option maxHeartbeats 8000000 in
theorem specTermAt_ans {W : World} {lo : Nat} {t : Tm} {r : TV} (h : TmIn W lo t r) {pa : Option Addr} {pc : Nat} {p : List Int} (hp : Row W (Value.int .i64) pa p) (hpl : p.length ≤ 1099511627776) (hwt : t.wt ≤ 1099511627776) (o : Tm) (b : Bool) (ho : AtV t p o b) (x : Ext W) :
    Calls Tryd.prog 88 #[r.val t, .slice pa p.length pc] x.w (NewTmB W o b) := by
  obtain ⟨ra, rc, rb, rd⟩ := r
  unfold TV.val
  have HO := Lib.hid ho
  clear ho
  by_cases hw : Written t
  · have HW := Lib.hid hw
    clear hw
    go_enter Tryd.func88, Tryd.ntmps88
    go_upto_region 1 with fail
    have hxW := x.size
    generalize hWa : (x.w.alloc _).alloc _ = Wa
    generalize hB : x.w.heap.size = B at *
    obtain ⟨bA, bR, sA, bel⟩ := blocks2 hB hWa
    have belA : Below W.heap.size W Wa := x.below.trans (bel.mono (by omega))
    clear hWa bel
    have hA := h.ext ⟨Wa, belA⟩
    have c0 := blk_cell bA 0
    have c1 := blk_cell bA 1
    have c2 := blk_cell bA 2
    have c3 := blk_cell bA 3
    simp at c0 c1 c2 c3
    have ISW := specIsWritten_ans (W := Wa) hA hwt true (by refine iff_tf ?_; exact HW.out) (Ext.self Wa)
    go_wp2_with fail
    refine Calls.mono ISW ?_
    clear ISW c0 c1 c2 c3
    rintro e w' ⟨rfl, y, rfl⟩
    have bAy := y.blk bA
    have bRy := y.blk bR
    have bely : Below W.heap.size W y.w := belA.trans (y.below.mono belA.size)
    obtain ⟨Wb, hWb⟩ : ∃ Wb : World, Wb = y.w := ⟨_, rfl⟩
    rw [← hWb] at bAy bRy bely ⊢
    clear hWb y bA bR hA belA
    have hst : t.sz ≤ 400 := HW.out.1
    go_wp2_with fail
    go_loopw [6] (fun iz wr => ∃ (k : Nat) (c : Tm) (q : TV) (v : Int), iz = .int .i64 k ∧ k ≤ p.length ∧ Hid (t.atP (p.take k) = some c) ∧ Hid (Within t c v) ∧ TmIn W lo c q ∧ wr.heap[B]? = some (boxT c.op c.n q.a c.ty.length q.c q.b c.kids.length q.d) ∧ wr.heap[B + 1]? = some zbox ∧ Below W.heap.size W wr) (fun iz _ => p.length - (intOf iz).toNat)
    case atStart => exact ⟨0, t, ⟨ra, rc, rb, rd⟩, 8, rfl, by omega, by show _ = _; simp [Tm.atP], Within.self HW.out, h, bAy, bRy, bely⟩
    case round =>
      obtain ⟨k, c, q, v, rfl, hk, HAT, HWI, hc, bA, bR, belw⟩ := hrel
      obtain ⟨qa, qc, qb, qd⟩ := q
      have hBl : B + 1 < wr.heap.size := (Array.getElem?_eq_some_iff.1 bR).1
      by_cases hlt : k < p.length
      · have hlt' : (k : Int) < (p.length : Int) := by omega
        have hk0 : (0 : Int) ≤ (k : Int) := by omega
        obtain ⟨m, hm⟩ : ∃ m, p[k]? = some m := ⟨_, List.getElem?_eq_getElem hlt⟩
        obtain ⟨pb, po, rfl, hpc⟩ := hp.at hlt
        have HM := Lib.hid hm
        have hpcW0 := hpc k m hm
        have pcell : wr.cell? ⟨pb, po + k, none⟩ = some (.int .i64 m) := (Ext.mk wr belw).cell (hpc k m hm)
        clear hm hpc
        have m3 : wr.cell? ⟨B, 3, none⟩ = some (.slice qb c.kids.length qd) := blk_cell bA 3
        cases hq : c.kidI m with
        | none =>
          have HQ := Lib.hid hq
          clear hq
          obtain ⟨rfl, rfl⟩ := HO.out.no (fun z => by obtain ⟨_, c', e⟩ := z; have e2 := Tm.atP_stop HAT.out HM.out HQ.out; rw [e2] at e; cases e)
          have KEEP6 : Hid (∀ w', Below wr.heap.size wr w' → w'.cell? ⟨B, 3, none⟩ = some (.slice qb c.kids.length qd) ∧ w'.cell? ⟨pb, po + k, none⟩ = some (.int .i64 m)) := fun w' b => ⟨blk_cell ((Ext.mk w' b).blk bA) 3, (Ext.mk w' b).cell pcell⟩
          have IR : Hid (∀ w', Below wr.heap.size wr w' → Calls Tryd.prog 30 #[.int .i64 (m), .int .i64 0, .int .i64 ((c.kids.length : Int) - 1)] w' (Ans w' (.bool false))) := fun w' b => l1In_ans (W := w') (m) 0 ((c.kids.length : Int) - 1) false (by refine iff_tf ?_; dsimp only; have := Tm.kidI_none HQ.out; omega) (Ext.self w')
          clear m3 pcell
          have hcl : c.kids.length ≤ 3 := by have h5 := HWI.out.ok.node.many; have := manyO_le c.op; omega
          have wl : IntKind.i64.wrap ((c.kids.length : Int) - 1) = (c.kids.length : Int) - 1 := IntWalk.i64_in _ (by omega)
          go_upto_region 6 with fail
          go_region_held3 (fun w' => w'.cell? ⟨B, 3, none⟩ = some (.slice qb c.kids.length qd) ∧ w'.cell? ⟨pb, po + k, none⟩ = some (.int .i64 m)) ((refine KEEP6.out _ ?_; (with_reducible (repeat (first | exact Below.refl _ _ | refine below_alloc ?_ _ | refine below_drew ?_ | refine below_ext ?_ _)))))
            ((go_at_call 30; refine Calls.mono (IR.out _ (by (with_reducible (repeat (first | exact Below.refl _ _ | refine below_alloc ?_ _ | refine below_drew ?_ | refine below_ext ?_ _))))) ?_; rintro e w' ⟨rfl, z0, rfl⟩))
          obtain ⟨z, hz⟩ : ∃ z : Ext wr, z.w = z0.w := ⟨(Ext.self wr).drew.trans z0, rfl⟩
          rw [← hz]
          clear hz IR wl
          have bRz := z.blk bR
          have n0 := blk_cell bRz 0
          have n1 := blk_cell bRz 1
          have n2 := blk_cell bRz 2
          have n3 := blk_cell bRz 3
          have p0 := blk_free bRz 0
          have p1 := blk_free bRz 1
          have p2 := blk_free bRz 2
          have p3 := blk_free bRz 3
          simp at n0 n1 n2 n3
          go_wp2
          clear n0 n1 n2 n3 p0 p1 p2 p3
          generalize hY4 : World.setCell _ _ _ = Y4
          obtain ⟨belD, hsame, hgr, r0, r1, r2, r3⟩ := ret4 (W := W) (belw.trans (z.below.mono belw.size)) (by omega) bRz hY4
          refine bodyPost_ret (v := .tuple #[TV.val ⟨none, 0, none, 0⟩ zeroT, .bool false]) (by simp [TV.val, Tm.op, Tm.n, Tm.ty, Tm.kids, results, Tryd.results88, go_sem, r0, r1, r2, r3]) rfl ?_
          exact ⟨_, _, ⟨Y4, belD⟩, rfl, rfl, zero_own _, fun q hq => hq.elim⟩
        | some kid =>
          obtain ⟨j, hj, hkid⟩ := Tm.kidI_some hq
          subst hj
          have hpcW := hpcW0
          clear hpcW0
          have hjl : j < c.kids.length := (List.getElem?_eq_some_iff.1 hkid).1
          have hjl' : (j : Int) < (c.kids.length : Int) := by omega
          have hj0 : (0 : Int) ≤ (j : Int) := by omega
          have HQ := Lib.hid hq
          clear hq
          obtain ⟨kr0, A⟩ := hc.out
          have PC : Hid (W.cell? ⟨pb, po + k, none⟩ = some (.int .i64 (j : Int))) := hpcW
          have hlk := A.lk
          obtain ⟨b0, o0, hrb, K4⟩ := A.kid j kid hkid
          have hsub := A.sub j kid hkid
          dsimp only at hrb
          subst hrb
          have d0 : wr.cell? ⟨b0, o0 + j * 4, none⟩ = some (.int .i64 kid.op) := (Ext.mk wr belw).cell K4.c0
          have d1 : wr.cell? ⟨b0, o0 + j * 4 + 1, none⟩ = some (.int .i64 kid.n) := (Ext.mk wr belw).cell K4.c1
          have d2 : wr.cell? ⟨b0, o0 + j * 4 + 2, none⟩ = some (.slice (kr0 j).a kid.ty.length (kr0 j).c) := (Ext.mk wr belw).cell K4.c2
          have d3 : wr.cell? ⟨b0, o0 + j * 4 + 3, none⟩ = some (.slice (kr0 j).b kid.kids.length (kr0 j).d) := (Ext.mk wr belw).cell K4.c3
          have HK := Lib.hid hkid
          have HA := Lib.hid A
          have HSUB := Lib.hid hsub
          have K4W := Lib.hid K4
          clear K4 hkid A hsub hpcW
          have KEEP6 : Hid (∀ w', Below wr.heap.size wr w' → w'.cell? ⟨B, 3, none⟩ = some (.slice (some ⟨b0, o0, none⟩) c.kids.length qd) ∧ w'.cell? ⟨pb, po + k, none⟩ = some (.int .i64 (j : Int))) := fun w' b => ⟨blk_cell ((Ext.mk w' b).blk bA) 3, (Ext.mk w' b).cell pcell⟩
          have IR : Hid (∀ w', Below wr.heap.size wr w' → Calls Tryd.prog 30 #[.int .i64 (j : Int), .int .i64 0, .int .i64 ((c.kids.length : Int) - 1)] w' (Ans w' (.bool true))) := fun w' b => l1In_ans (W := w') (j : Int) 0 ((c.kids.length : Int) - 1) true (by refine iff_tf ?_; dsimp only; omega) (Ext.self w')
          clear m3 pcell
          have hcl : c.kids.length ≤ 3 := by have h5 := HWI.out.ok.node.many; have := manyO_le c.op; omega
          have wl : IntKind.i64.wrap ((c.kids.length : Int) - 1) = (c.kids.length : Int) - 1 := IntWalk.i64_in _ (by omega)
          go_upto_region 6 with fail
          go_region_held3 (fun w' => w'.cell? ⟨B, 3, none⟩ = some (.slice (some ⟨b0, o0, none⟩) c.kids.length qd) ∧ w'.cell? ⟨pb, po + k, none⟩ = some (.int .i64 (j : Int))) ((refine KEEP6.out _ ?_; (with_reducible (repeat (first | exact Below.refl _ _ | refine below_alloc ?_ _ | refine below_drew ?_ | refine below_ext ?_ _)))))
            ((go_at_call 30; refine Calls.mono (IR.out _ (by (with_reducible (repeat (first | exact Below.refl _ _ | refine below_alloc ?_ _ | refine below_drew ?_ | refine below_ext ?_ _))))) ?_; rintro e w' ⟨rfl, z0, rfl⟩))
          obtain ⟨z, hz⟩ : ∃ z : Ext wr, z.w = z0.w := ⟨(Ext.self wr).drew.trans z0, rfl⟩
          rw [← hz]
          clear hz IR wl
          have bAz := z.blk bA
          have bRz := z.blk bR
          have belz : Below W.heap.size W z.w := belw.trans (z.below.mono belw.size)
          have KEEP8 : Hid (∀ w', Below W.heap.size W w' → w'.cell? ⟨pb, po + k, none⟩ = some (.int .i64 (j : Int)) ∧ w'.cell? ⟨b0, o0 + j * 4, none⟩ = some (.int .i64 kid.op) ∧ w'.cell? ⟨b0, o0 + j * 4 + 1, none⟩ = some (.int .i64 kid.n) ∧ w'.cell? ⟨b0, o0 + j * 4 + 2, none⟩ = some (.slice (kr0 j).a kid.ty.length (kr0 j).c) ∧ w'.cell? ⟨b0, o0 + j * 4 + 3, none⟩ = some (.slice (kr0 j).b kid.kids.length (kr0 j).d)) := fun w' b => ⟨(Ext.mk w' b).cell PC.out, (Ext.mk w' b).cell K4W.out.c0, (Ext.mk w' b).cell K4W.out.c1, (Ext.mk w' b).cell K4W.out.c2, (Ext.mk w' b).cell K4W.out.c3⟩
          have hWB : W.heap.size ≤ B := hxW
          have m3 : z.w.cell? ⟨B, 3, none⟩ = some (.slice (some ⟨b0, o0, none⟩) c.kids.length qd) := blk_cell bAz 3
          have e0 : z.w.cell? ⟨B, 0, none⟩ = some (.int .i64 c.op) := blk_cell bAz 0
          have e1 : z.w.cell? ⟨B, 1, none⟩ = some (.int .i64 c.n) := blk_cell bAz 1
          have e2 : z.w.cell? ⟨B, 2, none⟩ = some (.slice qa c.ty.length qc) := blk_cell bAz 2
          have f0 := blk_free bAz 0
          have f1 := blk_free bAz 1
          have f2 := blk_free bAz 2
          have f3 := blk_free bAz 3
          go_upto_region 8 with fail
          refine wp_region_noPanic ?_
          refine wp_region_held_drew (S := (fun w' => w'.cell? ⟨pb, po + k, none⟩ = some (.int .i64 (j : Int)) ∧ w'.cell? ⟨b0, o0 + j * 4, none⟩ = some (.int .i64 kid.op) ∧ w'.cell? ⟨b0, o0 + j * 4 + 1, none⟩ = some (.int .i64 kid.n) ∧ w'.cell? ⟨b0, o0 + j * 4 + 2, none⟩ = some (.slice (kr0 j).a kid.ty.length (kr0 j).c) ∧ w'.cell? ⟨b0, o0 + j * 4 + 3, none⟩ = some (.slice (kr0 j).b kid.kids.length (kr0 j).d))) (by kernel_rfl) ?_ (fun hHeld => ?_)
          · (try dsimp only)
            refine KEEP8.out _ ?_
            (repeat (first | exact belz | refine below_drew ?_ | refine Below.setCell ?_ hWB _))
          refine wpAnyH_take (i := 0) (v := ?_) rfl (by kernel_rfl) (by kernel_rfl) (by kernel_rfl) (fun _ _ _ h => h) (Or.inl ⟨by rfl, ?_⟩) hHeld ?_
          rotate_left
          · intro w hSw; (try dsimp only at hSw); (try simp only [List.getElem_toArray, List.getElem_cons_zero]); first | (go_simp; done) | (go_simp; with_reducible rfl)
          try simp only [List.getElem_toArray, List.getElem_cons_zero, Act.put, List.setIfInBounds_toArray, List.set_cons_zero, List.set_cons_succ]
          refine wpAnyH_take (i := 2) (v := ?_) rfl (by kernel_rfl) (by kernel_rfl) (by kernel_rfl) (fun _ _ _ h => h) (Or.inl ⟨by rfl, ?_⟩) hHeld ?_
          rotate_left
          · intro w hSw; (try dsimp only at hSw); (try simp only [List.getElem_toArray, List.getElem_cons_succ, List.getElem_cons_zero]); first | (go_simp; done) | (go_simp; with_reducible rfl)
          try simp only [List.getElem_toArray, List.getElem_cons_succ, List.getElem_cons_zero, Act.put, List.setIfInBounds_toArray, List.set_cons_zero, List.set_cons_succ]
          refine wpAnyH_take (i := 3) (v := ?_) rfl (by kernel_rfl) (by kernel_rfl) (by kernel_rfl) (fun _ _ _ h => h) (Or.inl ⟨by rfl, ?_⟩) hHeld ?_
          rotate_left
          · intro w hSw; (try dsimp only at hSw); (try simp only [List.getElem_toArray, List.getElem_cons_succ, List.getElem_cons_zero]); first | (go_simp; done) | (go_simp; with_reducible rfl)
          try simp only [List.getElem_toArray, List.getElem_cons_succ, List.getElem_cons_zero, Act.put, List.setIfInBounds_toArray, List.set_cons_zero, List.set_cons_succ]
          refine wpAnyH_take (i := 4) (v := ?_) rfl (by kernel_rfl) (by kernel_rfl) (by kernel_rfl) (fun _ _ _ h => h) (Or.inl ⟨by rfl, ?_⟩) hHeld ?_
          rotate_left
          · intro w hSw; (try dsimp only at hSw); (try simp only [List.getElem_toArray, List.getElem_cons_succ, List.getElem_cons_zero]); first | (go_simp; done) | (go_simp; with_reducible rfl)
          try simp only [List.getElem_toArray, List.getElem_cons_succ, List.getElem_cons_zero, Act.put, List.setIfInBounds_toArray, List.set_cons_zero, List.set_cons_succ]
          refine wpAnyH_take (i := 5) (v := ?_) rfl (by kernel_rfl) (by kernel_rfl) (by kernel_rfl) (fun _ _ _ h => h) (Or.inl ⟨by rfl, ?_⟩) hHeld ?_
          rotate_left
          · intro w hSw; (try dsimp only at hSw); (try simp only [List.getElem_toArray, List.getElem_cons_succ, List.getElem_cons_zero]); first | (go_simp; done) | (go_simp; with_reducible rfl)
          try simp only [List.getElem_toArray, List.getElem_cons_succ, List.getElem_cons_zero, Act.put, List.setIfInBounds_toArray, List.set_cons_zero, List.set_cons_succ]
          refine wpAnyH_ready (rs := [1]) (by kernel_rfl) (by simp) ?_
          refine AllReadyH.cons rfl (fun K hK => ?_) ?_
          · skip
            try simp only [List.getElem_toArray, List.getElem_cons_succ, List.getElem_cons_zero]
            go_simp
            refine hK.out _ _ ?_ (fun hHeld2 => ?_)
            · (try dsimp only)
              refine KEEP8.out _ ?_
              (repeat (first | exact belz | refine below_drew ?_ | refine Below.setCell ?_ hWB _))
            clear hK K hHeld
            have hHeld := hHeld2
            clear hHeld2
            try simp only [List.getElem_toArray, List.getElem_cons_succ, List.getElem_cons_zero, Act.put, List.setIfInBounds_toArray, List.set_cons_zero, List.set_cons_succ]
            refine wpAnyH_take (i := 6) (v := ?_) rfl (by kernel_rfl) (by kernel_rfl) (by kernel_rfl) (fun _ _ _ h => h) (Or.inl ⟨by rfl, ?_⟩) hHeld ?_
            rotate_left
            · intro w hSw; (try dsimp only at hSw); (try simp only [List.getElem_toArray, List.getElem_cons_succ, List.getElem_cons_zero]); first | (go_simp; done) | (go_simp; with_reducible rfl)
            try simp only [List.getElem_toArray, List.getElem_cons_succ, List.getElem_cons_zero, Act.put, List.setIfInBounds_toArray, List.set_cons_zero, List.set_cons_succ]
            refine wpAnyH_take (i := 7) (v := ?_) rfl (by kernel_rfl) (by kernel_rfl) (by kernel_rfl) (fun _ _ _ h => h) (Or.inl ⟨by rfl, ?_⟩) hHeld ?_
            rotate_left
            · intro w hSw; (try dsimp only at hSw); (try simp only [List.getElem_toArray, List.getElem_cons_succ, List.getElem_cons_zero]); first | (go_simp; done) | (go_simp; with_reducible rfl)
            try simp only [List.getElem_toArray, List.getElem_cons_succ, List.getElem_cons_zero, Act.put, List.setIfInBounds_toArray, List.set_cons_zero, List.set_cons_succ]
            refine wpAnyH_ready (rs := [8]) (by kernel_rfl) (by simp) ?_
            refine AllReadyH.cons rfl (fun K hK => ?_) ?_
            · skip
              try simp only [List.getElem_toArray, List.getElem_cons_succ, List.getElem_cons_zero]
              go_simp
              refine hK.out _ _ ?_ (fun hHeld2 => ?_)
              · (try dsimp only)
                refine KEEP8.out _ ?_
                (repeat (first | exact belz | refine below_drew ?_ | refine Below.setCell ?_ hWB _))
              clear hK K hHeld
              have hHeld := hHeld2
              clear hHeld2
              try simp only [List.getElem_toArray, List.getElem_cons_succ, List.getElem_cons_zero, Act.put, List.setIfInBounds_toArray, List.set_cons_zero, List.set_cons_succ]
              refine wpAnyH_done (by kernel_rfl) ?_ _
              refine NoPanic.normal ?_
              go_wp2_with fail
              clear e0 e1 e2 f0 f1 f2 f3 m3
              go_roundw
              case rel =>
                obtain ⟨bB, hoth, hsz, hbl⟩ := set4_blk bAz (show _ = _ from rfl)
                exact ⟨k + 1, kid, kr0 j, _, by go_num, by omega, (show _ = _ by rw [Tm.atP_step HAT.out HM.out]; exact HQ.out), HWI.out.kid HK.out, HSUB.out, bB, (hoth _ (by omega)).trans bRz, by first | exact hbl belz (by omega) | exact below_drew (hbl belz (by omega))⟩
              case measure => simp [intOf]; omega
            exact AllReadyH.nil
          exact AllReadyH.nil
      · have hke : k = p.length := by omega
        have hlt' : ¬ (k : Int) < (p.length : Int) := by omega
        have hat := HAT.out
        rw [hke, List.take_length] at hat
        obtain ⟨rfl, rfl⟩ := HO.out.yes HW.out hat
        clear hat
        have hwi := HWI.out
        have h1 := hwi.sz
        have h2 := hwi.room
        have h3 := hwi.low
        have m0 : wr.cell? ⟨B, 0, none⟩ = some (.int .i64 o.op) := blk_cell bA 0
        have m1 : wr.cell? ⟨B, 1, none⟩ = some (.int .i64 o.n) := blk_cell bA 1
        have m2 : wr.cell? ⟨B, 2, none⟩ = some (.slice qa o.ty.length qc) := blk_cell bA 2
        have m3 : wr.cell? ⟨B, 3, none⟩ = some (.slice qb o.kids.length qd) := blk_cell bA 3
        have CC := l2Shift_ans o (W := wr) (hc.ext ⟨wr, belw⟩) hwi.ok (by omega) (by omega) 0 0 (by omega) (by omega) (by omega) 0 (by omega) (by omega) (Ext.self wr)
        rw [show (0 : Int) + 0 = 0 from rfl, Tm.rv_congr (g := mvf 0) (V := v) (fun j a h1 _ _ => Tm.shf_mvf 0 h1) o hwi.ok (Int.le_refl _) (by omega), Tm.rv_id o hwi.ok 0] at CC
        unfold TV.val at CC
        clear hwi
        go_wp2_with fail
        refine Calls.mono CC ?_
        clear CC m0 m1 m2 m3
        rintro e w' ⟨r', NB, z, rfl, rfl, hnew, hlo⟩
        have bRz := z.blk bR
        have n0 := blk_cell bRz 0
        have n1 := blk_cell bRz 1
        have n2 := blk_cell bRz 2
        have n3 := blk_cell bRz 3
        have p0 := blk_free bRz 0
        have p1 := blk_free bRz 1
        have p2 := blk_free bRz 2
        have p3 := blk_free bRz 3
        simp at n0 n1 n2 n3
        go_wp2
        clear n0 n1 n2 n3 p0 p1 p2 p3
        generalize hY4 : World.setCell _ _ _ = Y4
        obtain ⟨belD, hsame, hgr, r0, r1, r2, r3⟩ := ret4 (W := W) (belw.trans (z.below.mono belw.size)) (by omega) bRz hY4
        refine bodyPost_ret (v := .tuple #[r'.val o, .bool true]) (by simp [TV.val, results, Tryd.results88, go_sem, r0, r1, r2, r3]) rfl ?_
        exact ⟨r', NB, ⟨Y4, belD⟩, rfl, rfl, hnew.keep (fun g hg => hsame g (by have h1 := hlo g hg; have h2 := (Array.getElem?_eq_some_iff.1 bR).1; omega)), fun g hg => by have h1 := hlo g hg; have h2 := belw.size; omega⟩
  · have HW := Lib.hid hw
    clear hw
    obtain ⟨rfl, rfl⟩ := HO.out.no (fun q => HW.out q.1)
    go_enter Tryd.func88, Tryd.ntmps88
    go_upto_region 1 with fail
    have hxW := x.size
    generalize hWa : (x.w.alloc _).alloc _ = Wa
    generalize hB : x.w.heap.size = B at *
    obtain ⟨bA, bR, sA, bel⟩ := blocks2 hB hWa
    have belA : Below W.heap.size W Wa := x.below.trans (bel.mono (by omega))
    clear hWa bel
    have hA := h.ext ⟨Wa, belA⟩
    have c0 := blk_cell bA 0
    have c1 := blk_cell bA 1
    have c2 := blk_cell bA 2
    have c3 := blk_cell bA 3
    simp at c0 c1 c2 c3
    have ISW := specIsWritten_ans (W := Wa) hA hwt false (by refine iff_tf ?_; exact HW.out) (Ext.self Wa)
    go_wp2_with fail
    refine Calls.mono ISW ?_
    clear ISW
    rintro e w' ⟨rfl, y, rfl⟩
    have bRy := y.blk bR
    have n0 := blk_cell bRy 0
    have n1 := blk_cell bRy 1
    have n2 := blk_cell bRy 2
    have n3 := blk_cell bRy 3
    have p0 := blk_free bRy 0
    have p1 := blk_free bRy 1
    have p2 := blk_free bRy 2
    have p3 := blk_free bRy 3
    simp at n0 n1 n2 n3
    go_wp2
    clear n0 n1 n2 n3 p0 p1 p2 p3
    generalize hY4 : World.setCell _ _ _ = Y4
    obtain ⟨belD, hsame, hgr, r0, r1, r2, r3⟩ := ret4 (W := W) (belA.trans (y.below.mono belA.size)) (by omega) bRy hY4
    refine bodyPost_ret (v := .tuple #[TV.val ⟨none, 0, none, 0⟩ zeroT, .bool false]) (by simp [TV.val, Tm.op, Tm.n, Tm.ty, Tm.kids, results, Tryd.results88, go_sem, r0, r1, r2, r3]) rfl ?_
    exact ⟨_, _, ⟨Y4, belD⟩, rfl, rfl, zero_own _, fun q hq => hq.elim⟩

end Go.Proofs.YtncfbljablbglaaDoor
