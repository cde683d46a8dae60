/- Texts of one claim, laid together: Rv, Move, SubI. -/
import Derived.Test.YtncfbljablbglaaDoorZ3GI
import Derived.Test.YtncfbljablbglaaDoorZ3GA
import Derived.Test.YtncfbljablbglaaDoorZ3GF
import Derived.Test.YtncfbljablbglaaDoorZ3GH
import Derived.Deep.RegionHeld3
import Derived.Deep.Cut
import Derived.RegionTactic
import Derived.Outline
set_option linter.unusedVariables false
set_option linter.unusedSimpArgs false
/- The program's replacing of variables. -/
namespace Go.Proofs.YtncfbljablbglaaDoor
open Go.RowKit

/-- What is kept of a world: all that another one has, and one block. -/
def Kp (Y : World) (D : Nat) (o : Obj) (w : World) : Prop := Below Y.heap.size Y w ∧ w.heap[D]? = some o
section
variable {Y w : World} {D : Nat} {o : Obj}
theorem Kp.alloc (h : Kp Y D o w) (o' : Obj) : Kp Y D o (w.alloc o') := ⟨below_alloc h.1 _, blk_alloc h.2 _⟩
theorem Kp.drew (h : Kp Y D o w) : Kp Y D o w.drew := ⟨below_drew h.1, blk_drew h.2⟩
theorem Kp.ext (h : Kp Y D o w) (y : Ext w) : Kp Y D o y.w := ⟨below_ext h.1 y, y.blk h.2⟩
theorem Kp.set (h : Kp Y D o w) {C i : Nat} {v : Value} (hC : Y.heap.size ≤ C) (hD : D ≠ C) : Kp Y D o (w.setCell ⟨C, i, none⟩ v) := ⟨h.1.setCell hC _, (set_other rfl hD).trans h.2⟩
end

set_option maxRecDepth 100000 in
set_option maxHeartbeats 16000000 in
theorem rv_ans (t : Tm) : ∀ {W : World} (_ : TForms W) {lo : Nat} {r : TV} (_ : TmIn W lo t r) {size vars : Int} {closed : Bool} (_ : OkT size closed vars t) (_ : t.sz ≤ 1000) (_ : vars + 2 * (t.sz : Int) ≤ 50000) (a : Int) (_ : 0 ≤ a) (_ : a + 2 * (t.sz : Int) ≤ 50000) (f : Int → Int → Tm) (K : Nat) (cs : List Value) (_ : Hid (∀ args w, (callFunc K args).run Tryd.prog w = .ok (.enter K args) w))
    (_ : Hid (∀ (y : Ext W) (i b : Int), 0 ≤ i → i + a < vars → 0 ≤ b → b ≤ a + 2 * (t.sz : Int) → Calls Tryd.prog K (Value.int .i64 i :: Value.int .i64 b :: cs).toArray y.w (NewTmO y.w (f i b)))) (x : Ext W),
    Calls Tryd.prog 111 #[r.val t, .int .i64 a, .func (.func K) #[] cs.toArray] x.w (NewTmO W (t.rv f a)) := by
  induction t using Tm.ind with
  | h t ih =>
    intro W TF lo r h size vars closed ok hsz hv a ha0 ha f K cs HK HF x
    have HI := Lib.hid ih
    clear ih
    obtain ⟨ra, rc, rb, rd⟩ := r
    unfold TV.val
    have hn := ok.node
    have h13 : 0 ≤ t.op ∧ t.op ≤ 12 := manyO_in (by rw [← hn.many]; omega)
    have hk3 : t.kids.length ≤ 3 := by have := hn.many; have := manyO_le t.op; omega
    have hk9 : t.op = 9 → t.kids.length ≤ 1 := fun e => by have h := hn.many; rw [e] at h; have h2 : manyO 9 = 1 := (by decide); omega
    have HK9 := Lib.hid hk9
    clear hk9
    have hsp := t.sz_pos
    have hty := hn.ty40
    have HNV : Hid (t.op = 0 → 0 ≤ t.n ∧ t.n < vars) := fun e0 => by have := hn.nok; unfold NOk at this; rw [if_pos e0] at this; exact this
    clear hn
    have hmx1 : 0 + t.ty.length ≤ maxLen := by unfold maxLen; omega
    have hbx1 : (0 + t.ty.length) * 8 ≤ 140737488355328 := by omega
    obtain ⟨iT, hiT, hzT0, hzT1, hzT2⟩ := info_parts info_term
    obtain ⟨i0, hi0, hz0, hz1, hz2⟩ := info_parts info_int
    obtain ⟨p, hp⟩ := bool_of (t.op = 0 ∧ a ≤ t.n)
    have HP := Lib.hid hp
    clear hp
    go_enter Tryd.func111, Tryd.ntmps111
    go_upto_region 1 with fail
    have hxW := x.size
    generalize hWa : (x.w.alloc _).alloc _ = Wa
    generalize hB : x.w.heap.size = B at *
    obtain ⟨bA, bR, sA, bel⟩ := blocks2 hB hWa
    have belA : Below W.heap.size W Wa := x.below.trans (bel.mono (by omega))
    clear hWa bel
    have SA := Lib.hid sA
    have hBW : B < Wa.heap.size ∧ B + 1 < Wa.heap.size := by omega
    clear sA
    have bAc : ∀ y : Ext Wa, y.w.heap[B]? = _ := fun y => y.blk bA
    have d0 : ∀ y : Ext Wa, y.w.cell? ⟨B, 0, none⟩ = some (.int .i64 t.op) := fun y => blk_cell (bAc y) 0
    have d1 : ∀ y : Ext Wa, y.w.cell? ⟨B, 1, none⟩ = some (.int .i64 t.n) := fun y => blk_cell (bAc y) 1
    have d2 : ∀ y : Ext Wa, y.w.cell? ⟨B, 2, none⟩ = some (.slice ra t.ty.length rc) := fun y => blk_cell (bAc y) 2
    have d3 : ∀ y : Ext Wa, y.w.cell? ⟨B, 3, none⟩ = some (.slice rb t.kids.length rd) := fun y => blk_cell (bAc y) 3
    clear bAc
    obtain ⟨kr0, A⟩ := (h.ext ⟨Wa, belA⟩).out
    have hlk := A.lk
    have rowA : Row Wa (Value.int .i64) ra t.ty := A.row
    have KEEP : ∀ w' : World, Below Wa.heap.size Wa w' → w'.cell? ⟨B, 0, none⟩ = some (.int .i64 t.op) ∧ w'.cell? ⟨B, 1, none⟩ = some (.int .i64 t.n) ∧ w'.cell? ⟨B, 2, none⟩ = some (.slice ra t.ty.length rc) := fun w' b => ⟨d0 ⟨w', b⟩, d1 ⟨w', b⟩, d2 ⟨w', b⟩⟩
    have TFA : TForms Wa := TF.ext ⟨Wa, belA⟩
    have SRC : ∀ w' : World, Below Wa.heap.size Wa w' → Src w' ra t.ty.length 1 (t.ty.map (Value.int .i64)) := fun w' b => src_ints (rowA.ext ⟨w', b⟩)
    have BG : Hid (∀ (w0 w1 : World), Below Wa.heap.size Wa w0 → w0.grownBy w1 (Value.slice none 0 0).ownBlock → Below Wa.heap.size Wa w1) := fun w0 w1 b gr => b.grown gr b.size (fun g e => by simp [Value.ownBlock] at e)
    have Z0 : Hid (∀ (w0 w1 : World), w0.heap[Wa.heap.size]? = some zbox → w0.grownBy w1 (Value.slice none 0 0).ownBlock → w1.heap[Wa.heap.size]? = some zbox) := fun w0 w1 h0 gr => (gr.block _ (Array.getElem?_eq_some_iff.1 h0).1 (by simp [Value.ownBlock])).trans h0
    have m0 : Wa.cell? ⟨B, 0, none⟩ = some (.int .i64 t.op) := d0 (Ext.self Wa)
    have m1 : Wa.cell? ⟨B, 1, none⟩ = some (.int .i64 t.n) := d1 (Ext.self Wa)
    have D0 := Lib.hid (⟨d0, d1, d2⟩ : _ ∧ _ ∧ _)
    clear d0 d1 d2
    go_cut [18] from 19 (fun s18 wd => s18 = .bool p ∧ wd = Wa)
    case first =>
      by_cases e0 : t.op = 0
      · have f0 : (t.op == 0) = true := by simpa using e0
        by_cases e1 : a ≤ t.n
        · have f1 : decide (a ≤ t.n) = true := by simpa using e1
          obtain rfl : p = true := HP.out.2 ⟨e0, e1⟩
          clear e0 e1
          go_wp2_with fail
          go_meet
          case rel => exact ⟨rfl, rfl⟩
        · have f1 : decide (a ≤ t.n) = false := by simpa using e1
          obtain rfl : p = false := by cases p; rfl; exact absurd (HP.out.1 rfl).2 e1
          clear e0 e1
          go_wp2_with fail
          go_meet
          case rel => exact ⟨rfl, rfl⟩
      · have f0 : (t.op == 0) = false := by simpa using e0
        obtain rfl : p = false := by cases p; rfl; exact absurd (HP.out.1 rfl).1 e0
        clear e0
        go_wp2_with fail
        go_meet
        case rel => exact ⟨rfl, rfl⟩
    case rest =>
      obtain ⟨rfl, hwd⟩ := hcut
      subst hwd
      cases p with
      | true =>
        have hq := HP.out.1 rfl
        have hnv := HNV.out hq.1
        have hq2 := hq.2
        have HQ := Lib.hid hq
        clear hq
        have hf := HF.out ⟨wc, belA⟩ (t.n - a) a (by omega) (by omega) ha0 (by omega)
        clear m0
        go_wp2_with fail
        rw [HK.out, Oper.upon_enter]
        refine Calls.mono hf ?_
        rintro e w' ⟨r', NB, y, rfl, rfl, hnew, hlo⟩
        clear hf m1
        have bR' := y.blk bR
        have n0 := blk_cell bR' 0
        have n1 := blk_cell bR' 1
        have n2 := blk_cell bR' 2
        have n3 := blk_cell bR' 3
        have p0 := blk_free bR' 0
        have p1 := blk_free bR' 1
        have p2 := blk_free bR' 2
        have p3 := blk_free bR' 3
        simp at n0 n1 n2 n3
        go_wp2
        clear n0 n1 n2 n3 p0 p1 p2 p3
        generalize hY4 : World.setCell _ _ _ = Y4
        obtain ⟨belD, hsame, hgr, r0, r1, r2, r3⟩ := ret4 (belA.trans (y.below.mono belA.size)) (by omega) bR' hY4
        refine bodyPost_ret (v := r'.val (f (t.n - a) a)) (by simp [TV.val, results, Tryd.results111, go_sem, r0, r1, r2, r3]) rfl ?_
        rw [Tm.rv_var HQ.out.1 HQ.out.2]
        exact ⟨r', NB, ⟨Y4, belD⟩, rfl, rfl, hnew.keep (fun g hg => hsame g (by have h1 := hlo g hg; have h2 : wc.heap.size ≤ g := h1; omega)), fun g hg => by have h1 := hlo g hg; have h2 : wc.heap.size ≤ g := h1; omega⟩
      | false =>
        have HE : Hid (¬ (t.op = 0 ∧ a ≤ t.n)) := fun q => by have := HP.out.2 q; cases this
        clear HP HNV m0 m1
        obtain ⟨Wa, hWc⟩ : ∃ Wa : World, Wa = wc := ⟨_, rfl⟩
        subst hWc
        go_upto_region 3 with fail
        go_cut [7] from 26 (fun s7 wc => ∃ (C : Nat) (A' : Option Addr) (c : Nat), s7 = .pointer (some ⟨C, 0, none⟩) ∧ TB Wa wc C t.op t.n t.ty A' c [] none 0 (fun _ => ⟨none, 0, none, 0⟩) [] (fun _ _ => False))
        case first =>
          go_region_held3 (fun w' => w'.cell? ⟨B, 0, none⟩ = some (.int .i64 t.op) ∧ w'.cell? ⟨B, 1, none⟩ = some (.int .i64 t.n) ∧ w'.cell? ⟨B, 2, none⟩ = some (.slice ra t.ty.length rc)) ((refine KEEP _ ?_; (repeat (first | exact Below.refl _ _ | exact b1 | refine below_alloc ?_ _ | refine below_drew ?_ | refine below_ext ?_ _ | refine below_set ?_ ?_))))
            ((refine step_app_src (by rfl) _ _ 22 (by rfl) Wa.heap.size 3 i0 (.int .i64 0) 1 8 Tryd.underlying22 hi0 hz0 hz1 hz2 rfl (by omega) (.slice none 0 0) 0 [] (by rfl) (World.ownsRow_nil _ _ _ _) ra t.ty.length rc (t.ty.map (Value.int .i64)) (by rfl) (SRC _ (by (repeat (first | exact Below.refl _ _ | exact b1 | refine below_alloc ?_ _ | refine below_drew ?_ | refine below_ext ?_ _ | refine below_set ?_ ?_)))) hmx1 hbx1 (by simp) ?_; intro A' c' w1 own1 gr1 hat1; rw [Nat.zero_add, List.nil_append] at own1; (try rw [Nat.zero_add]); have b1 := BG.out _ _ (by (repeat (first | exact Below.refl _ _ | exact b1 | refine below_alloc ?_ _ | refine below_drew ?_ | refine below_ext ?_ _ | refine below_set ?_ ?_))) gr1; (first | (have hz9 := Z0.out _ _ (new_blk_drew Wa zbox) gr1; obtain ⟨n0, n1, n2, n3, p0, p1, p2, p3⟩ := zfacts hz9; clear hz9) | skip)))
          · go_wp2_with fail
            go_meet
            case rel => exact ⟨_, _, _, rfl, TB.new b1 own1⟩
          · go_wp2_with fail
            go_meet
            case rel => exact ⟨_, _, _, rfl, TB.set b1 (Nat.le_refl _) (Z0.out _ _ (new_blk_drew Wa zbox) gr1) own1 rfl⟩
        case rest =>
          obtain ⟨C, a', c', rfl, T0⟩ := hcut
          clear KEEP SRC BG hmx1 hbx1
          obtain ⟨wl, hwl⟩ : ∃ wl : World, wl = wc := ⟨_, rfl⟩
          rw [← hwl] at T0 ⊢
          clear hwl
          have m3 := d3 ⟨wl, T0.bel⟩
          go_wp2_with fail
          clear m3
          go_loopw [37] (fun i wr => ∃ (k : Nat) (b' : Option Addr) (d' : Nat) (kq : Nat → TV) (xq : List Value) (KB : Nat → Nat → Prop), i = .int .i64 k ∧ k ≤ t.kids.length ∧ TB Wa wr C t.op t.n t.ty a' c' (Tm.rvL f t.op a 0 (t.kids.take k)) b' d' kq xq KB) (fun i _ => t.kids.length - (intOf i).toNat)
          case atStart => exact ⟨0, _, _, _, _, _, rfl, by omega, by simpa [Tm.rvL] using T0⟩
          case round =>
            obtain ⟨k, b', d', kq, xq, KB, rfl, hk, T⟩ := hrel
            have bWr := T.bel
            by_cases hlt : k < t.kids.length
            · have hlt' : (k : Int) < (t.kids.length : Int) := by omega
              have hk0 : (0 : Int) ≤ (k : Int) := by omega
              obtain ⟨kid, hkid⟩ : ∃ kid, t.kids[k]? = some kid := ⟨_, List.getElem?_eq_getElem hlt⟩
              have hmem : kid ∈ t.kids := List.mem_of_getElem? hkid
              have HKID := Lib.hid hkid
              obtain ⟨b0, o0, hrb, K4⟩ := A.kid k kid hkid
              have hsub := A.sub k kid hkid
              dsimp only at hrb
              subst hrb
              have q0 : wr.cell? ⟨b0, o0 + k * 4, none⟩ = some (.int .i64 kid.op) := (Ext.mk wr bWr).cell K4.c0
              have q1 : wr.cell? ⟨b0, o0 + k * 4 + 1, none⟩ = some (.int .i64 kid.n) := (Ext.mk wr bWr).cell K4.c1
              have q2 : wr.cell? ⟨b0, o0 + k * 4 + 2, none⟩ = some (.slice (kr0 k).a kid.ty.length (kr0 k).c) := (Ext.mk wr bWr).cell K4.c2
              have q3 : wr.cell? ⟨b0, o0 + k * 4 + 3, none⟩ = some (.slice (kr0 k).b kid.kids.length (kr0 k).d) := (Ext.mk wr bWr).cell K4.c3
              clear K4 hkid
              go_wp2_with fail
              generalize hW1 : wr.alloc _ = W1
              clear q0 q1 q2 q3
              obtain ⟨ks, hks⟩ : ∃ ks, ks = Tm.rvL f t.op a 0 (t.kids.take k) := ⟨_, rfl⟩
              have hkl : ks.length = k := by rw [hks, Tm.rvL_len, List.length_take]; omega
              have hkl3 : ks.length ≤ 3 := by omega
              have HKS := Lib.hid hks
              rw [← hks] at T
              clear hks hkl
              -- the world with the kid's box
              have bD := new_blk hW1
              have hCl := T.cLt
              have sD : W1.heap.size = wr.heap.size + 1 := by rw [← hW1]; simp
              have hDC0 : wr.heap.size ≠ C := by omega
              have hDb0 : ob b' ≠ some wr.heap.size := fun e => by have := T.kids.lt wr.heap.size (.inl e); omega
              have T : TB Wa W1 C t.op t.n t.ty a' c' ks b' d' kq xq KB := by rw [← hW1]; exact T.ext ((Ext.self wr).alloc _)
              generalize hD : wr.heap.size = D at *
              clear hW1 bWr
              clear hD
              obtain ⟨wr, hwr⟩ : ∃ wr : World, wr = W1 := ⟨_, rfl⟩
              subst hwr
              have bWr := T.bel
              have hDC := hDC0
              have hDW : D < wr.heap.size := by omega
              have kpW : Kp Wa D (boxT kid.op kid.n (kr0 k).a kid.ty.length (kr0 k).c (kr0 k).b kid.kids.length (kr0 k).d) wr := ⟨bWr, bD⟩
              have KEEP : Hid (∀ w' : World, Kp Wa D (boxT kid.op kid.n (kr0 k).a kid.ty.length (kr0 k).c (kr0 k).b kid.kids.length (kr0 k).d) w' → w'.cell? ⟨B, 0, none⟩ = some (.int .i64 t.op) ∧ w'.cell? ⟨B, 1, none⟩ = some (.int .i64 t.n) ∧ w'.cell? ⟨B, 2, none⟩ = some (.slice ra t.ty.length rc) ∧ w'.cell? ⟨B, 3, none⟩ = some (.slice (some ⟨b0, o0, none⟩) t.kids.length rd) ∧ w'.cell? ⟨D, 0, none⟩ = some (.int .i64 kid.op) ∧ w'.cell? ⟨D, 1, none⟩ = some (.int .i64 kid.n) ∧ w'.cell? ⟨D, 2, none⟩ = some (.slice (kr0 k).a kid.ty.length (kr0 k).c) ∧ w'.cell? ⟨D, 3, none⟩ = some (.slice (kr0 k).b kid.kids.length (kr0 k).d)) := fun w' b => ⟨D0.out.1 ⟨w', b.1⟩, D0.out.2.1 ⟨w', b.1⟩, D0.out.2.2 ⟨w', b.1⟩, d3 ⟨w', b.1⟩, blk_cell b.2 0, blk_cell b.2 1, blk_cell b.2 2, blk_cell b.2 3⟩
              have hszk : kid.sz + 1 ≤ t.sz := Tm.sz_kid hmem
              have hadd0 := addsO_ge t.op k
              have hadd2 := addsO_le t.op k
              obtain ⟨ad, had⟩ : ∃ ad, ad = addsO t.op k := ⟨_, rfl⟩
              have HAD := Lib.hid had
              rw [← had] at hadd0 hadd2
              clear had
              obtain ⟨u, hu⟩ : ∃ u, u = kid.rv f (a + ad) := ⟨_, rfl⟩
              have HU := Lib.hid hu
              clear hu
              have hok : OkT size closed (vars + ad) kid := by rw [HAD.out]; exact ok.kid HKID.out
              have CC : Hid (∀ w', Below wr.heap.size wr w' → Calls Tryd.prog 111 #[.agg #[.int .i64 kid.op, .int .i64 kid.n, .slice (kr0 k).a kid.ty.length (kr0 k).c, .slice (kr0 k).b kid.kids.length (kr0 k).d], .int .i64 (a + ad), .func (.func K) #[] cs.toArray] w' (NewTmO w' u)) := fun w' b => by
                have b2 := bWr.trans (b.mono bWr.size)
                have hz : kid.sz ≤ 1000 := by omega
                have b3 := belA.trans (b2.mono belA.size)
                have HF2 : Hid (∀ (y : Ext w') (i b : Int), 0 ≤ i → i + (a + ad) < vars + ad → 0 ≤ b → b ≤ a + ad + 2 * (kid.sz : Int) → Calls Tryd.prog K (Value.int .i64 i :: Value.int .i64 b :: cs).toArray y.w (NewTmO y.w (f i b))) := fun y i b h1 h2 h3 h4 => HF.out ⟨y.w, b3.trans (y.below.mono b3.size)⟩ i b h1 (by omega) h3 (by omega)
                rw [HU.out]
                exact HI.out kid hmem (TFA.ext ⟨w', b2⟩) (hsub.ext ⟨w', b2⟩) hok hz (by omega) (a + ad) (by omega) (by omega) f K cs HK HF2 (Ext.self w')
              have ADDS : Hid (∀ w', Below wr.heap.size wr w' → Calls Tryd.prog 108 #[.agg #[.int .i64 t.op, .int .i64 t.n, .slice ra t.ty.length rc, .slice (some ⟨b0, o0, none⟩) t.kids.length rd], .int .i64 k] w' (Ans w' (.int .i64 ad))) := fun w' b => by
                have b2 := bWr.trans (b.mono bWr.size)
                rw [HAD.out]
                exact addedFor_ans (W := w') (TFA.ext ⟨w', b2⟩) t ⟨ra, rc, some ⟨b0, o0, none⟩, rd⟩ h13 k (by omega) (fun e => by have := HK9.out e; omega) (Ext.self w')
              have c3 : ∀ w', Below wr.heap.size wr w' → w'.cell? ⟨C, 3, none⟩ = some (.slice b' ks.length d') := fun w' b => T.cells.2.2.2 ⟨w', b⟩
              have c30 := c3 wr (Below.refl _ _)
              have ROW : Hid (∀ w', Below wr.heap.size wr w' → w'.ownsRow 0 29 4 (.slice b' ks.length d') ks.length xq) := fun w' b => owns_ext T.kids.row ⟨w', b⟩
              have hClo := T.lo
              have HKC : Hid (∀ (w0 w1 : World), Below wr.heap.size wr w0 → w0.grownBy w1 (Value.slice b' ks.length d').ownBlock → w1.cell? ⟨C, 3, none⟩ = some (.slice b' ks.length d') ∧ w1.frozen? ⟨C, 3, none⟩ = false) := fun w0 w1 b gr => by
                have hb : some C ≠ (Value.slice b' ks.length d').ownBlock := by rw [ob_eq]; exact fun e => (T.lk C (.inl e.symm)).2 rfl
                have mC : w1.heap[C]? = some (boxT t.op t.n a' t.ty.length c' b' ks.length d') := (gr.block C (Nat.lt_of_lt_of_le T.cLt b.size) hb).trans ((Ext.mk w0 b).blk T.box)
                exact ⟨blk_cell mC 3, blk_free mC 3⟩
              have HB1 : Hid (∀ (w0 w1 : World), Below wr.heap.size wr w0 → w0.grownBy w1 (Value.slice b' ks.length d').ownBlock → Kp Wa D (boxT kid.op kid.n (kr0 k).a kid.ty.length (kr0 k).c (kr0 k).b kid.kids.length (kr0 k).d) w1) := fun w0 w1 b gr =>
                ⟨(bWr.trans (b.mono bWr.size)).grown gr (Nat.le_trans bWr.size b.size) (fun g e => by rw [ob_eq] at e; exact (T.lk g (.inl e)).1), (gr.block D (Nat.lt_of_lt_of_le hDW b.size) (by rw [ob_eq]; exact fun e => hDb0 e.symm)).trans ((Ext.mk w0 b).blk bD)⟩
              have HT := Lib.hid T
              clear T hok hmem hsub bD sD hDC0 hDb0 hCl
              have hmx : ks.length + 1 ≤ maxLen := by unfold maxLen; omega
              have hbx : (ks.length + 1) * 64 ≤ 140737488355328 := by omega
              have wad : IntKind.i64.wrap (a + ad) = a + ad := wrap_in (by omega) (by omega)
              refine wp_region_noPanic ?_
              refine wp_region_held_drew (S := (fun w' => w'.cell? ⟨B, 0, none⟩ = some (.int .i64 t.op) ∧ w'.cell? ⟨B, 1, none⟩ = some (.int .i64 t.n) ∧ w'.cell? ⟨B, 2, none⟩ = some (.slice ra t.ty.length rc) ∧ w'.cell? ⟨B, 3, none⟩ = some (.slice (some ⟨b0, o0, none⟩) t.kids.length rd) ∧ w'.cell? ⟨D, 0, none⟩ = some (.int .i64 kid.op) ∧ w'.cell? ⟨D, 1, none⟩ = some (.int .i64 kid.n) ∧ w'.cell? ⟨D, 2, none⟩ = some (.slice (kr0 k).a kid.ty.length (kr0 k).c) ∧ w'.cell? ⟨D, 3, none⟩ = some (.slice (kr0 k).b kid.kids.length (kr0 k).d))) (by kernel_rfl) ?_ (fun hHeld => ?_)
              · (try dsimp only)
                refine KEEP.out _ ?_
                (repeat (first | exact kpW | exact kp1 | refine Kp.set ?_ hClo hDC | refine Kp.alloc ?_ _ | refine Kp.drew ?_ | refine Kp.ext ?_ _))
              refine wpAnyH_take (i := 0) (v := ?_) rfl (by kernel_rfl) (by kernel_rfl) (by kernel_rfl) (fun _ _ _ h => h) (Or.inl ⟨by rfl, ?_⟩) hHeld ?_
              rotate_left
              · intro w hSw; (try dsimp only at hSw); (try simp only [List.getElem_toArray, List.getElem_cons_zero]); first | (go_simp; done) | (go_simp; with_reducible rfl)
              try simp only [List.getElem_toArray, List.getElem_cons_zero, Act.put, List.setIfInBounds_toArray, List.set_cons_zero, List.set_cons_succ]
              refine wpAnyH_take (i := 2) (v := ?_) rfl (by kernel_rfl) (by kernel_rfl) (by kernel_rfl) (fun _ _ _ h => h) (Or.inl ⟨by rfl, ?_⟩) hHeld ?_
              rotate_left
              · intro w hSw; (try dsimp only at hSw); (try simp only [List.getElem_toArray, List.getElem_cons_succ, List.getElem_cons_zero]); first | (go_simp; done) | (go_simp; with_reducible rfl)
              try simp only [List.getElem_toArray, List.getElem_cons_succ, List.getElem_cons_zero, Act.put, List.setIfInBounds_toArray, List.set_cons_zero, List.set_cons_succ]
              refine wpAnyH_take (i := 3) (v := ?_) rfl (by kernel_rfl) (by kernel_rfl) (by kernel_rfl) (fun _ _ _ h => h) (Or.inl ⟨by rfl, ?_⟩) hHeld ?_
              rotate_left
              · intro w hSw; (try dsimp only at hSw); (try simp only [List.getElem_toArray, List.getElem_cons_succ, List.getElem_cons_zero]); first | (go_simp; done) | (go_simp; with_reducible rfl)
              try simp only [List.getElem_toArray, List.getElem_cons_succ, List.getElem_cons_zero, Act.put, List.setIfInBounds_toArray, List.set_cons_zero, List.set_cons_succ]
              refine wpAnyH_take (i := 4) (v := ?_) rfl (by kernel_rfl) (by kernel_rfl) (by kernel_rfl) (fun _ _ _ h => h) (Or.inl ⟨by rfl, ?_⟩) hHeld ?_
              rotate_left
              · intro w hSw; (try dsimp only at hSw); (try simp only [List.getElem_toArray, List.getElem_cons_succ, List.getElem_cons_zero]); first | (go_simp; done) | (go_simp; with_reducible rfl)
              try simp only [List.getElem_toArray, List.getElem_cons_succ, List.getElem_cons_zero, Act.put, List.setIfInBounds_toArray, List.set_cons_zero, List.set_cons_succ]
              refine wpAnyH_take (i := 5) (v := ?_) rfl (by kernel_rfl) (by kernel_rfl) (by kernel_rfl) (fun _ _ _ h => h) (Or.inl ⟨by rfl, ?_⟩) hHeld ?_
              rotate_left
              · intro w hSw; (try dsimp only at hSw); (try simp only [List.getElem_toArray, List.getElem_cons_succ, List.getElem_cons_zero]); first | (go_simp; done) | (go_simp; with_reducible rfl)
              try simp only [List.getElem_toArray, List.getElem_cons_succ, List.getElem_cons_zero, Act.put, List.setIfInBounds_toArray, List.set_cons_zero, List.set_cons_succ]
              refine wpAnyH_take (i := 8) (v := ?_) rfl (by kernel_rfl) (by kernel_rfl) (by kernel_rfl) (fun _ _ _ h => h) (Or.inl ⟨by rfl, ?_⟩) hHeld ?_
              rotate_left
              · intro w hSw; (try dsimp only at hSw); (try simp only [List.getElem_toArray, List.getElem_cons_succ, List.getElem_cons_zero]); first | (go_simp; done) | (go_simp; with_reducible rfl)
              try simp only [List.getElem_toArray, List.getElem_cons_succ, List.getElem_cons_zero, Act.put, List.setIfInBounds_toArray, List.set_cons_zero, List.set_cons_succ]
              refine wpAnyH_ready (rs := [1, 6]) (by kernel_rfl) (by simp) ?_
              refine AllReadyH.cons rfl (fun K hK => ?_) ?_
              · skip
                try simp only [List.getElem_toArray, List.getElem_cons_succ, List.getElem_cons_zero]
                go_simp
                refine hK.out _ _ ?_ (fun hHeld2 => ?_)
                · (try dsimp only)
                  refine KEEP.out _ ?_
                  (repeat (first | exact kpW | exact kp1 | refine Kp.set ?_ hClo hDC | refine Kp.alloc ?_ _ | refine Kp.drew ?_ | refine Kp.ext ?_ _))
                clear hK K hHeld
                have hHeld := hHeld2
                clear hHeld2
                try simp only [List.getElem_toArray, List.getElem_cons_succ, List.getElem_cons_zero, Act.put, List.setIfInBounds_toArray, List.set_cons_zero, List.set_cons_succ]
                refine wpAnyH_ready (rs := [6]) (by kernel_rfl) (by simp) ?_
                refine AllReadyH.cons rfl (fun K hK => ?_) ?_
                · skip
                  try simp only [List.getElem_toArray, List.getElem_cons_succ, List.getElem_cons_zero]
                  go_simp
                  refine Calls.mono (ADDS.out _ (by (repeat (first | exact Below.refl _ _ | exact bR1 | refine below_alloc ?_ _ | refine below_drew ?_ | refine below_ext ?_ _)))) ?_
                  rintro e w' ⟨rfl, y0, rfl⟩
                  have c31 := c3 _ (by (repeat (first | exact Below.refl _ _ | exact bR1 | refine below_alloc ?_ _ | refine below_drew ?_ | refine below_ext ?_ _)) : Below wr.heap.size wr y0.w)
                  (try dsimp only)
                  refine hK.out _ _ ?_ (fun hHeld2 => ?_)
                  · (try dsimp only)
                    refine KEEP.out _ ?_
                    (repeat (first | exact kpW | exact kp1 | refine Kp.set ?_ hClo hDC | refine Kp.alloc ?_ _ | refine Kp.drew ?_ | refine Kp.ext ?_ _))
                  clear hK K hHeld
                  have hHeld := hHeld2
                  clear hHeld2
                  try simp only [List.getElem_toArray, List.getElem_cons_succ, List.getElem_cons_zero, Act.put, List.setIfInBounds_toArray, List.set_cons_zero, List.set_cons_succ]
                  refine wpAnyH_take (i := 7) (v := ?_) rfl (by kernel_rfl) (by kernel_rfl) (by kernel_rfl) (fun _ _ _ h => h) (Or.inl ⟨by rfl, ?_⟩) hHeld ?_
                  rotate_left
                  · intro w hSw; (try dsimp only at hSw); (try simp only [List.getElem_toArray, List.getElem_cons_succ, List.getElem_cons_zero]); first | (go_simp; done) | (go_simp; with_reducible rfl)
                  try simp only [List.getElem_toArray, List.getElem_cons_succ, List.getElem_cons_zero, Act.put, List.setIfInBounds_toArray, List.set_cons_zero, List.set_cons_succ]
                  refine wpAnyH_ready (rs := [9]) (by kernel_rfl) (by simp) ?_
                  refine AllReadyH.cons rfl (fun K hK => ?_) ?_
                  · skip
                    try simp only [List.getElem_toArray, List.getElem_cons_succ, List.getElem_cons_zero]
                    go_simp
                    refine Calls.mono (CC.out _ (by (repeat (first | exact Below.refl _ _ | exact bR1 | refine below_alloc ?_ _ | refine below_drew ?_ | refine below_ext ?_ _)))) ?_
                    rintro e w' ⟨r', NB, y1, rfl, rfl, hnew, hlo⟩
                    have c32 := c3 _ (by (repeat (first | exact Below.refl _ _ | exact bR1 | refine below_alloc ?_ _ | refine below_drew ?_ | refine below_ext ?_ _)) : Below wr.heap.size wr y1.w)
                    have c33 := fun o => c3 _ (by (repeat (first | exact Below.refl _ _ | exact bR1 | refine below_alloc ?_ _ | refine below_drew ?_ | refine below_ext ?_ _)) : Below wr.heap.size wr (y1.w.alloc o))
                    (try dsimp only)
                    refine hK.out _ _ ?_ (fun hHeld2 => ?_)
                    · (try dsimp only)
                      refine KEEP.out _ ?_
                      (repeat (first | exact kpW | exact kp1 | refine Kp.set ?_ hClo hDC | refine Kp.alloc ?_ _ | refine Kp.drew ?_ | refine Kp.ext ?_ _))
                    clear hK K hHeld
                    have hHeld := hHeld2
                    clear hHeld2
                    try simp only [List.getElem_toArray, List.getElem_cons_succ, List.getElem_cons_zero, Act.put, List.setIfInBounds_toArray, List.set_cons_zero, List.set_cons_succ]
                    refine wpAnyH_ready (rs := [10]) (by kernel_rfl) (by simp) ?_
                    refine AllReadyH.cons rfl (fun K hK => ?_) ?_
                    · skip
                      try simp only [List.getElem_toArray, List.getElem_cons_succ, List.getElem_cons_zero]
                      go_simp
                      refine hK.out _ _ ?_ (fun hHeld2 => ?_)
                      · (try dsimp only)
                        refine KEEP.out _ ?_
                        (repeat (first | exact kpW | exact kp1 | refine Kp.set ?_ hClo hDC | refine Kp.alloc ?_ _ | refine Kp.drew ?_ | refine Kp.ext ?_ _))
                      clear hK K hHeld
                      have hHeld := hHeld2
                      clear hHeld2
                      try simp only [List.getElem_toArray, List.getElem_cons_succ, List.getElem_cons_zero, Act.put, List.setIfInBounds_toArray, List.set_cons_zero, List.set_cons_succ]
                      refine wpAnyH_ready (rs := [11]) (by kernel_rfl) (by simp) ?_
                      refine AllReadyH.cons rfl (fun K hK => ?_) ?_
                      · skip
                        refine step_app_src (by rfl) _ _ 27 (by rfl) 0 29 iT (.agg #[.int .i64 0, .int .i64 0, .slice none 0 0, .slice none 0 0]) 4 64 Tryd.underlying27 hiT hzT0 hzT1 hzT2 rfl (by decide) (.slice b' ks.length d') ks.length xq (by rfl) (ROW.out _ (by (repeat (first | exact Below.refl _ _ | exact bR1 | refine below_alloc ?_ _ | refine below_drew ?_ | refine below_ext ?_ _)))) (some ⟨y1.w.heap.size, 0, none⟩) 1 1 [.int .i64 u.op, .int .i64 u.n, .slice r'.a u.ty.length r'.c, .slice r'.b u.kids.length r'.d] (by rfl) ⟨rfl, four_one _ _ _ _ rfl rfl rfl rfl, .inr ⟨_, rfl, cell_four_at _ _ _ _ _ _ _ rfl⟩⟩ hmx hbx (Nat.zero_le _) ?_
                        intro A2 c2 w1 own1 gr1 hat1
                        obtain ⟨kc3, kf3⟩ := HKC.out _ _ (by (repeat (first | exact Below.refl _ _ | exact bR1 | refine below_alloc ?_ _ | refine below_drew ?_ | refine below_ext ?_ _))) gr1
                        have kp1 := HB1.out _ _ (by (repeat (first | exact Below.refl _ _ | exact bR1 | refine below_alloc ?_ _ | refine below_drew ?_ | refine below_ext ?_ _))) gr1
                        refine hK.out _ _ ?_ (fun hHeld2 => ?_)
                        · (try dsimp only)
                          refine KEEP.out _ ?_
                          (repeat (first | exact kpW | exact kp1 | refine Kp.set ?_ hClo hDC | refine Kp.alloc ?_ _ | refine Kp.drew ?_ | refine Kp.ext ?_ _))
                        clear hK K hHeld
                        have hHeld := hHeld2
                        clear hHeld2
                        try simp only [List.getElem_toArray, List.getElem_cons_succ, List.getElem_cons_zero, Act.put, List.setIfInBounds_toArray, List.set_cons_zero, List.set_cons_succ]
                        refine wpAnyH_take (i := 12) (v := ?_) rfl (by kernel_rfl) (by kernel_rfl) (by kernel_rfl) (fun _ _ _ h => h) (Or.inl ⟨by rfl, ?_⟩) hHeld ?_
                        rotate_left
                        · intro w hSw; (try dsimp only at hSw); (try simp only [List.getElem_toArray, List.getElem_cons_succ, List.getElem_cons_zero]); first | (go_simp; done) | (go_simp; with_reducible rfl)
                        try simp only [List.getElem_toArray, List.getElem_cons_succ, List.getElem_cons_zero, Act.put, List.setIfInBounds_toArray, List.set_cons_zero, List.set_cons_succ]
                        refine wpAnyH_ready (rs := [13]) (by kernel_rfl) (by simp) ?_
                        refine AllReadyH.cons rfl (fun K hK => ?_) ?_
                        · skip
                          try simp only [List.getElem_toArray, List.getElem_cons_succ, List.getElem_cons_zero]
                          go_simp
                          refine hK.out _ _ ?_ (fun hHeld2 => ?_)
                          · (try dsimp only)
                            refine KEEP.out _ ?_
                            (repeat (first | exact kpW | exact kp1 | refine Kp.set ?_ hClo hDC | refine Kp.alloc ?_ _ | refine Kp.drew ?_ | refine Kp.ext ?_ _))
                          clear hK K hHeld
                          have hHeld := hHeld2
                          clear hHeld2
                          try simp only [List.getElem_toArray, List.getElem_cons_succ, List.getElem_cons_zero, Act.put, List.setIfInBounds_toArray, List.set_cons_zero, List.set_cons_succ]
                          refine wpAnyH_done (by kernel_rfl) ?_ _
                          refine NoPanic.normal ?_
                          clear wad
                          go_wp2_with fail
                          go_roundw
                          case rel =>
                            rw [ob_eq] at gr1
                            rw [ob_eq b'] at hat1
                            obtain ⟨b2, d2, kr2, xs2, KB2, hv2, T2⟩ := HT.out.snoc (⟨y1.w.alloc _, by (repeat (first | exact Below.refl _ _ | exact bR1 | refine below_alloc ?_ _ | refine below_drew ?_ | refine below_ext ?_ _))⟩) (hnew.ext ((Ext.self y1.w).alloc _)) (fun g hg => by have q1 := hlo g hg; have q2 := y0.size; simp at q2; omega) own1 gr1 hat1 rfl
                            refine ⟨k + 1, b2, d2, kr2, xs2, KB2, by go_num, by omega, ?_⟩
                            rw [Tm.rvL_take_succ _ _ _ HKID.out, Nat.zero_add, ← HAD.out, ← HKS.out, ← HU.out]
                            exact T2
                          case measure => simp [intOf]; omega
                        exact AllReadyH.nil
                      exact AllReadyH.nil
                    exact AllReadyH.nil
                  exact AllReadyH.nil
                exact AllReadyH.nil
              refine AllReadyH.cons rfl (fun K hK => ?_) ?_
              · skip
                try simp only [List.getElem_toArray, List.getElem_cons_succ, List.getElem_cons_zero]
                go_simp
                refine Calls.mono (ADDS.out _ (by (repeat (first | exact Below.refl _ _ | exact bR1 | refine below_alloc ?_ _ | refine below_drew ?_ | refine below_ext ?_ _)))) ?_
                rintro e w' ⟨rfl, y0, rfl⟩
                have c31 := c3 _ (by (repeat (first | exact Below.refl _ _ | exact bR1 | refine below_alloc ?_ _ | refine below_drew ?_ | refine below_ext ?_ _)) : Below wr.heap.size wr y0.w)
                (try dsimp only)
                refine hK.out _ _ ?_ (fun hHeld2 => ?_)
                · (try dsimp only)
                  refine KEEP.out _ ?_
                  (repeat (first | exact kpW | exact kp1 | refine Kp.set ?_ hClo hDC | refine Kp.alloc ?_ _ | refine Kp.drew ?_ | refine Kp.ext ?_ _))
                clear hK K hHeld
                have hHeld := hHeld2
                clear hHeld2
                try simp only [List.getElem_toArray, List.getElem_cons_succ, List.getElem_cons_zero, Act.put, List.setIfInBounds_toArray, List.set_cons_zero, List.set_cons_succ]
                refine wpAnyH_take (i := 7) (v := ?_) rfl (by kernel_rfl) (by kernel_rfl) (by kernel_rfl) (fun _ _ _ h => h) (Or.inl ⟨by rfl, ?_⟩) hHeld ?_
                rotate_left
                · intro w hSw; (try dsimp only at hSw); (try simp only [List.getElem_toArray, List.getElem_cons_succ, List.getElem_cons_zero]); first | (go_simp; done) | (go_simp; with_reducible rfl)
                try simp only [List.getElem_toArray, List.getElem_cons_succ, List.getElem_cons_zero, Act.put, List.setIfInBounds_toArray, List.set_cons_zero, List.set_cons_succ]
                refine wpAnyH_ready (rs := [1, 9]) (by kernel_rfl) (by simp) ?_
                refine AllReadyH.cons rfl (fun K hK => ?_) ?_
                · skip
                  try simp only [List.getElem_toArray, List.getElem_cons_succ, List.getElem_cons_zero]
                  go_simp
                  refine hK.out _ _ ?_ (fun hHeld2 => ?_)
                  · (try dsimp only)
                    refine KEEP.out _ ?_
                    (repeat (first | exact kpW | exact kp1 | refine Kp.set ?_ hClo hDC | refine Kp.alloc ?_ _ | refine Kp.drew ?_ | refine Kp.ext ?_ _))
                  clear hK K hHeld
                  have hHeld := hHeld2
                  clear hHeld2
                  try simp only [List.getElem_toArray, List.getElem_cons_succ, List.getElem_cons_zero, Act.put, List.setIfInBounds_toArray, List.set_cons_zero, List.set_cons_succ]
                  refine wpAnyH_ready (rs := [9]) (by kernel_rfl) (by simp) ?_
                  refine AllReadyH.cons rfl (fun K hK => ?_) ?_
                  · skip
                    try simp only [List.getElem_toArray, List.getElem_cons_succ, List.getElem_cons_zero]
                    go_simp
                    refine Calls.mono (CC.out _ (by (repeat (first | exact Below.refl _ _ | exact bR1 | refine below_alloc ?_ _ | refine below_drew ?_ | refine below_ext ?_ _)))) ?_
                    rintro e w' ⟨r', NB, y1, rfl, rfl, hnew, hlo⟩
                    have c32 := c3 _ (by (repeat (first | exact Below.refl _ _ | exact bR1 | refine below_alloc ?_ _ | refine below_drew ?_ | refine below_ext ?_ _)) : Below wr.heap.size wr y1.w)
                    have c33 := fun o => c3 _ (by (repeat (first | exact Below.refl _ _ | exact bR1 | refine below_alloc ?_ _ | refine below_drew ?_ | refine below_ext ?_ _)) : Below wr.heap.size wr (y1.w.alloc o))
                    (try dsimp only)
                    refine hK.out _ _ ?_ (fun hHeld2 => ?_)
                    · (try dsimp only)
                      refine KEEP.out _ ?_
                      (repeat (first | exact kpW | exact kp1 | refine Kp.set ?_ hClo hDC | refine Kp.alloc ?_ _ | refine Kp.drew ?_ | refine Kp.ext ?_ _))
                    clear hK K hHeld
                    have hHeld := hHeld2
                    clear hHeld2
                    try simp only [List.getElem_toArray, List.getElem_cons_succ, List.getElem_cons_zero, Act.put, List.setIfInBounds_toArray, List.set_cons_zero, List.set_cons_succ]
                    refine wpAnyH_ready (rs := [10]) (by kernel_rfl) (by simp) ?_
                    refine AllReadyH.cons rfl (fun K hK => ?_) ?_
                    · skip
                      try simp only [List.getElem_toArray, List.getElem_cons_succ, List.getElem_cons_zero]
                      go_simp
                      refine hK.out _ _ ?_ (fun hHeld2 => ?_)
                      · (try dsimp only)
                        refine KEEP.out _ ?_
                        (repeat (first | exact kpW | exact kp1 | refine Kp.set ?_ hClo hDC | refine Kp.alloc ?_ _ | refine Kp.drew ?_ | refine Kp.ext ?_ _))
                      clear hK K hHeld
                      have hHeld := hHeld2
                      clear hHeld2
                      try simp only [List.getElem_toArray, List.getElem_cons_succ, List.getElem_cons_zero, Act.put, List.setIfInBounds_toArray, List.set_cons_zero, List.set_cons_succ]
                      refine wpAnyH_ready (rs := [11]) (by kernel_rfl) (by simp) ?_
                      refine AllReadyH.cons rfl (fun K hK => ?_) ?_
                      · skip
                        refine step_app_src (by rfl) _ _ 27 (by rfl) 0 29 iT (.agg #[.int .i64 0, .int .i64 0, .slice none 0 0, .slice none 0 0]) 4 64 Tryd.underlying27 hiT hzT0 hzT1 hzT2 rfl (by decide) (.slice b' ks.length d') ks.length xq (by rfl) (ROW.out _ (by (repeat (first | exact Below.refl _ _ | exact bR1 | refine below_alloc ?_ _ | refine below_drew ?_ | refine below_ext ?_ _)))) (some ⟨y1.w.heap.size, 0, none⟩) 1 1 [.int .i64 u.op, .int .i64 u.n, .slice r'.a u.ty.length r'.c, .slice r'.b u.kids.length r'.d] (by rfl) ⟨rfl, four_one _ _ _ _ rfl rfl rfl rfl, .inr ⟨_, rfl, cell_four_at _ _ _ _ _ _ _ rfl⟩⟩ hmx hbx (Nat.zero_le _) ?_
                        intro A2 c2 w1 own1 gr1 hat1
                        obtain ⟨kc3, kf3⟩ := HKC.out _ _ (by (repeat (first | exact Below.refl _ _ | exact bR1 | refine below_alloc ?_ _ | refine below_drew ?_ | refine below_ext ?_ _))) gr1
                        have kp1 := HB1.out _ _ (by (repeat (first | exact Below.refl _ _ | exact bR1 | refine below_alloc ?_ _ | refine below_drew ?_ | refine below_ext ?_ _))) gr1
                        refine hK.out _ _ ?_ (fun hHeld2 => ?_)
                        · (try dsimp only)
                          refine KEEP.out _ ?_
                          (repeat (first | exact kpW | exact kp1 | refine Kp.set ?_ hClo hDC | refine Kp.alloc ?_ _ | refine Kp.drew ?_ | refine Kp.ext ?_ _))
                        clear hK K hHeld
                        have hHeld := hHeld2
                        clear hHeld2
                        try simp only [List.getElem_toArray, List.getElem_cons_succ, List.getElem_cons_zero, Act.put, List.setIfInBounds_toArray, List.set_cons_zero, List.set_cons_succ]
                        refine wpAnyH_take (i := 12) (v := ?_) rfl (by kernel_rfl) (by kernel_rfl) (by kernel_rfl) (fun _ _ _ h => h) (Or.inl ⟨by rfl, ?_⟩) hHeld ?_
                        rotate_left
                        · intro w hSw; (try dsimp only at hSw); (try simp only [List.getElem_toArray, List.getElem_cons_succ, List.getElem_cons_zero]); first | (go_simp; done) | (go_simp; with_reducible rfl)
                        try simp only [List.getElem_toArray, List.getElem_cons_succ, List.getElem_cons_zero, Act.put, List.setIfInBounds_toArray, List.set_cons_zero, List.set_cons_succ]
                        refine wpAnyH_ready (rs := [13]) (by kernel_rfl) (by simp) ?_
                        refine AllReadyH.cons rfl (fun K hK => ?_) ?_
                        · skip
                          try simp only [List.getElem_toArray, List.getElem_cons_succ, List.getElem_cons_zero]
                          go_simp
                          refine hK.out _ _ ?_ (fun hHeld2 => ?_)
                          · (try dsimp only)
                            refine KEEP.out _ ?_
                            (repeat (first | exact kpW | exact kp1 | refine Kp.set ?_ hClo hDC | refine Kp.alloc ?_ _ | refine Kp.drew ?_ | refine Kp.ext ?_ _))
                          clear hK K hHeld
                          have hHeld := hHeld2
                          clear hHeld2
                          try simp only [List.getElem_toArray, List.getElem_cons_succ, List.getElem_cons_zero, Act.put, List.setIfInBounds_toArray, List.set_cons_zero, List.set_cons_succ]
                          refine wpAnyH_done (by kernel_rfl) ?_ _
                          refine NoPanic.normal ?_
                          clear wad
                          go_wp2_with fail
                          go_roundw
                          case rel =>
                            rw [ob_eq] at gr1
                            rw [ob_eq b'] at hat1
                            obtain ⟨b2, d2, kr2, xs2, KB2, hv2, T2⟩ := HT.out.snoc (⟨y1.w.alloc _, by (repeat (first | exact Below.refl _ _ | exact bR1 | refine below_alloc ?_ _ | refine below_drew ?_ | refine below_ext ?_ _))⟩) (hnew.ext ((Ext.self y1.w).alloc _)) (fun g hg => by have q1 := hlo g hg; have q2 := y0.size; simp at q2; omega) own1 gr1 hat1 rfl
                            refine ⟨k + 1, b2, d2, kr2, xs2, KB2, by go_num, by omega, ?_⟩
                            rw [Tm.rvL_take_succ _ _ _ HKID.out, Nat.zero_add, ← HAD.out, ← HKS.out, ← HU.out]
                            exact T2
                          case measure => simp [intOf]; omega
                        exact AllReadyH.nil
                      exact AllReadyH.nil
                    exact AllReadyH.nil
                  exact AllReadyH.nil
                refine AllReadyH.cons rfl (fun K hK => ?_) ?_
                · skip
                  try simp only [List.getElem_toArray, List.getElem_cons_succ, List.getElem_cons_zero]
                  go_simp
                  refine Calls.mono (CC.out _ (by (repeat (first | exact Below.refl _ _ | exact bR1 | refine below_alloc ?_ _ | refine below_drew ?_ | refine below_ext ?_ _)))) ?_
                  rintro e w' ⟨r', NB, y1, rfl, rfl, hnew, hlo⟩
                  have c32 := c3 _ (by (repeat (first | exact Below.refl _ _ | exact bR1 | refine below_alloc ?_ _ | refine below_drew ?_ | refine below_ext ?_ _)) : Below wr.heap.size wr y1.w)
                  have c33 := fun o => c3 _ (by (repeat (first | exact Below.refl _ _ | exact bR1 | refine below_alloc ?_ _ | refine below_drew ?_ | refine below_ext ?_ _)) : Below wr.heap.size wr (y1.w.alloc o))
                  (try dsimp only)
                  refine hK.out _ _ ?_ (fun hHeld2 => ?_)
                  · (try dsimp only)
                    refine KEEP.out _ ?_
                    (repeat (first | exact kpW | exact kp1 | refine Kp.set ?_ hClo hDC | refine Kp.alloc ?_ _ | refine Kp.drew ?_ | refine Kp.ext ?_ _))
                  clear hK K hHeld
                  have hHeld := hHeld2
                  clear hHeld2
                  try simp only [List.getElem_toArray, List.getElem_cons_succ, List.getElem_cons_zero, Act.put, List.setIfInBounds_toArray, List.set_cons_zero, List.set_cons_succ]
                  refine wpAnyH_ready (rs := [1, 10]) (by kernel_rfl) (by simp) ?_
                  refine AllReadyH.cons rfl (fun K hK => ?_) ?_
                  · skip
                    try simp only [List.getElem_toArray, List.getElem_cons_succ, List.getElem_cons_zero]
                    go_simp
                    refine hK.out _ _ ?_ (fun hHeld2 => ?_)
                    · (try dsimp only)
                      refine KEEP.out _ ?_
                      (repeat (first | exact kpW | exact kp1 | refine Kp.set ?_ hClo hDC | refine Kp.alloc ?_ _ | refine Kp.drew ?_ | refine Kp.ext ?_ _))
                    clear hK K hHeld
                    have hHeld := hHeld2
                    clear hHeld2
                    try simp only [List.getElem_toArray, List.getElem_cons_succ, List.getElem_cons_zero, Act.put, List.setIfInBounds_toArray, List.set_cons_zero, List.set_cons_succ]
                    refine wpAnyH_ready (rs := [10]) (by kernel_rfl) (by simp) ?_
                    refine AllReadyH.cons rfl (fun K hK => ?_) ?_
                    · skip
                      try simp only [List.getElem_toArray, List.getElem_cons_succ, List.getElem_cons_zero]
                      go_simp
                      refine hK.out _ _ ?_ (fun hHeld2 => ?_)
                      · (try dsimp only)
                        refine KEEP.out _ ?_
                        (repeat (first | exact kpW | exact kp1 | refine Kp.set ?_ hClo hDC | refine Kp.alloc ?_ _ | refine Kp.drew ?_ | refine Kp.ext ?_ _))
                      clear hK K hHeld
                      have hHeld := hHeld2
                      clear hHeld2
                      try simp only [List.getElem_toArray, List.getElem_cons_succ, List.getElem_cons_zero, Act.put, List.setIfInBounds_toArray, List.set_cons_zero, List.set_cons_succ]
                      refine wpAnyH_ready (rs := [11]) (by kernel_rfl) (by simp) ?_
                      refine AllReadyH.cons rfl (fun K hK => ?_) ?_
                      · skip
                        refine step_app_src (by rfl) _ _ 27 (by rfl) 0 29 iT (.agg #[.int .i64 0, .int .i64 0, .slice none 0 0, .slice none 0 0]) 4 64 Tryd.underlying27 hiT hzT0 hzT1 hzT2 rfl (by decide) (.slice b' ks.length d') ks.length xq (by rfl) (ROW.out _ (by (repeat (first | exact Below.refl _ _ | exact bR1 | refine below_alloc ?_ _ | refine below_drew ?_ | refine below_ext ?_ _)))) (some ⟨y1.w.heap.size, 0, none⟩) 1 1 [.int .i64 u.op, .int .i64 u.n, .slice r'.a u.ty.length r'.c, .slice r'.b u.kids.length r'.d] (by rfl) ⟨rfl, four_one _ _ _ _ rfl rfl rfl rfl, .inr ⟨_, rfl, cell_four_at _ _ _ _ _ _ _ rfl⟩⟩ hmx hbx (Nat.zero_le _) ?_
                        intro A2 c2 w1 own1 gr1 hat1
                        obtain ⟨kc3, kf3⟩ := HKC.out _ _ (by (repeat (first | exact Below.refl _ _ | exact bR1 | refine below_alloc ?_ _ | refine below_drew ?_ | refine below_ext ?_ _))) gr1
                        have kp1 := HB1.out _ _ (by (repeat (first | exact Below.refl _ _ | exact bR1 | refine below_alloc ?_ _ | refine below_drew ?_ | refine below_ext ?_ _))) gr1
                        refine hK.out _ _ ?_ (fun hHeld2 => ?_)
                        · (try dsimp only)
                          refine KEEP.out _ ?_
                          (repeat (first | exact kpW | exact kp1 | refine Kp.set ?_ hClo hDC | refine Kp.alloc ?_ _ | refine Kp.drew ?_ | refine Kp.ext ?_ _))
                        clear hK K hHeld
                        have hHeld := hHeld2
                        clear hHeld2
                        try simp only [List.getElem_toArray, List.getElem_cons_succ, List.getElem_cons_zero, Act.put, List.setIfInBounds_toArray, List.set_cons_zero, List.set_cons_succ]
                        refine wpAnyH_take (i := 12) (v := ?_) rfl (by kernel_rfl) (by kernel_rfl) (by kernel_rfl) (fun _ _ _ h => h) (Or.inl ⟨by rfl, ?_⟩) hHeld ?_
                        rotate_left
                        · intro w hSw; (try dsimp only at hSw); (try simp only [List.getElem_toArray, List.getElem_cons_succ, List.getElem_cons_zero]); first | (go_simp; done) | (go_simp; with_reducible rfl)
                        try simp only [List.getElem_toArray, List.getElem_cons_succ, List.getElem_cons_zero, Act.put, List.setIfInBounds_toArray, List.set_cons_zero, List.set_cons_succ]
                        refine wpAnyH_ready (rs := [13]) (by kernel_rfl) (by simp) ?_
                        refine AllReadyH.cons rfl (fun K hK => ?_) ?_
                        · skip
                          try simp only [List.getElem_toArray, List.getElem_cons_succ, List.getElem_cons_zero]
                          go_simp
                          refine hK.out _ _ ?_ (fun hHeld2 => ?_)
                          · (try dsimp only)
                            refine KEEP.out _ ?_
                            (repeat (first | exact kpW | exact kp1 | refine Kp.set ?_ hClo hDC | refine Kp.alloc ?_ _ | refine Kp.drew ?_ | refine Kp.ext ?_ _))
                          clear hK K hHeld
                          have hHeld := hHeld2
                          clear hHeld2
                          try simp only [List.getElem_toArray, List.getElem_cons_succ, List.getElem_cons_zero, Act.put, List.setIfInBounds_toArray, List.set_cons_zero, List.set_cons_succ]
                          refine wpAnyH_done (by kernel_rfl) ?_ _
                          refine NoPanic.normal ?_
                          clear wad
                          go_wp2_with fail
                          go_roundw
                          case rel =>
                            rw [ob_eq] at gr1
                            rw [ob_eq b'] at hat1
                            obtain ⟨b2, d2, kr2, xs2, KB2, hv2, T2⟩ := HT.out.snoc (⟨y1.w.alloc _, by (repeat (first | exact Below.refl _ _ | exact bR1 | refine below_alloc ?_ _ | refine below_drew ?_ | refine below_ext ?_ _))⟩) (hnew.ext ((Ext.self y1.w).alloc _)) (fun g hg => by have q1 := hlo g hg; have q2 := y0.size; simp at q2; omega) own1 gr1 hat1 rfl
                            refine ⟨k + 1, b2, d2, kr2, xs2, KB2, by go_num, by omega, ?_⟩
                            rw [Tm.rvL_take_succ _ _ _ HKID.out, Nat.zero_add, ← HAD.out, ← HKS.out, ← HU.out]
                            exact T2
                          case measure => simp [intOf]; omega
                        exact AllReadyH.nil
                      exact AllReadyH.nil
                    exact AllReadyH.nil
                  refine AllReadyH.cons rfl (fun K hK => ?_) ?_
                  · skip
                    try simp only [List.getElem_toArray, List.getElem_cons_succ, List.getElem_cons_zero]
                    go_simp
                    refine hK.out _ _ ?_ (fun hHeld2 => ?_)
                    · (try dsimp only)
                      refine KEEP.out _ ?_
                      (repeat (first | exact kpW | exact kp1 | refine Kp.set ?_ hClo hDC | refine Kp.alloc ?_ _ | refine Kp.drew ?_ | refine Kp.ext ?_ _))
                    clear hK K hHeld
                    have hHeld := hHeld2
                    clear hHeld2
                    try simp only [List.getElem_toArray, List.getElem_cons_succ, List.getElem_cons_zero, Act.put, List.setIfInBounds_toArray, List.set_cons_zero, List.set_cons_succ]
                    refine wpAnyH_ready (rs := [1]) (by kernel_rfl) (by simp) ?_
                    refine AllReadyH.cons rfl (fun K hK => ?_) ?_
                    · skip
                      try simp only [List.getElem_toArray, List.getElem_cons_succ, List.getElem_cons_zero]
                      go_simp
                      refine hK.out _ _ ?_ (fun hHeld2 => ?_)
                      · (try dsimp only)
                        refine KEEP.out _ ?_
                        (repeat (first | exact kpW | exact kp1 | refine Kp.set ?_ hClo hDC | refine Kp.alloc ?_ _ | refine Kp.drew ?_ | refine Kp.ext ?_ _))
                      clear hK K hHeld
                      have hHeld := hHeld2
                      clear hHeld2
                      try simp only [List.getElem_toArray, List.getElem_cons_succ, List.getElem_cons_zero, Act.put, List.setIfInBounds_toArray, List.set_cons_zero, List.set_cons_succ]
                      refine wpAnyH_ready (rs := [11]) (by kernel_rfl) (by simp) ?_
                      refine AllReadyH.cons rfl (fun K hK => ?_) ?_
                      · skip
                        refine step_app_src (by rfl) _ _ 27 (by rfl) 0 29 iT (.agg #[.int .i64 0, .int .i64 0, .slice none 0 0, .slice none 0 0]) 4 64 Tryd.underlying27 hiT hzT0 hzT1 hzT2 rfl (by decide) (.slice b' ks.length d') ks.length xq (by rfl) (ROW.out _ (by (repeat (first | exact Below.refl _ _ | exact bR1 | refine below_alloc ?_ _ | refine below_drew ?_ | refine below_ext ?_ _)))) (some ⟨y1.w.heap.size, 0, none⟩) 1 1 [.int .i64 u.op, .int .i64 u.n, .slice r'.a u.ty.length r'.c, .slice r'.b u.kids.length r'.d] (by rfl) ⟨rfl, four_one _ _ _ _ rfl rfl rfl rfl, .inr ⟨_, rfl, cell_four_at _ _ _ _ _ _ _ rfl⟩⟩ hmx hbx (Nat.zero_le _) ?_
                        intro A2 c2 w1 own1 gr1 hat1
                        obtain ⟨kc3, kf3⟩ := HKC.out _ _ (by (repeat (first | exact Below.refl _ _ | exact bR1 | refine below_alloc ?_ _ | refine below_drew ?_ | refine below_ext ?_ _))) gr1
                        have kp1 := HB1.out _ _ (by (repeat (first | exact Below.refl _ _ | exact bR1 | refine below_alloc ?_ _ | refine below_drew ?_ | refine below_ext ?_ _))) gr1
                        refine hK.out _ _ ?_ (fun hHeld2 => ?_)
                        · (try dsimp only)
                          refine KEEP.out _ ?_
                          (repeat (first | exact kpW | exact kp1 | refine Kp.set ?_ hClo hDC | refine Kp.alloc ?_ _ | refine Kp.drew ?_ | refine Kp.ext ?_ _))
                        clear hK K hHeld
                        have hHeld := hHeld2
                        clear hHeld2
                        try simp only [List.getElem_toArray, List.getElem_cons_succ, List.getElem_cons_zero, Act.put, List.setIfInBounds_toArray, List.set_cons_zero, List.set_cons_succ]
                        refine wpAnyH_take (i := 12) (v := ?_) rfl (by kernel_rfl) (by kernel_rfl) (by kernel_rfl) (fun _ _ _ h => h) (Or.inl ⟨by rfl, ?_⟩) hHeld ?_
                        rotate_left
                        · intro w hSw; (try dsimp only at hSw); (try simp only [List.getElem_toArray, List.getElem_cons_succ, List.getElem_cons_zero]); first | (go_simp; done) | (go_simp; with_reducible rfl)
                        try simp only [List.getElem_toArray, List.getElem_cons_succ, List.getElem_cons_zero, Act.put, List.setIfInBounds_toArray, List.set_cons_zero, List.set_cons_succ]
                        refine wpAnyH_ready (rs := [13]) (by kernel_rfl) (by simp) ?_
                        refine AllReadyH.cons rfl (fun K hK => ?_) ?_
                        · skip
                          try simp only [List.getElem_toArray, List.getElem_cons_succ, List.getElem_cons_zero]
                          go_simp
                          refine hK.out _ _ ?_ (fun hHeld2 => ?_)
                          · (try dsimp only)
                            refine KEEP.out _ ?_
                            (repeat (first | exact kpW | exact kp1 | refine Kp.set ?_ hClo hDC | refine Kp.alloc ?_ _ | refine Kp.drew ?_ | refine Kp.ext ?_ _))
                          clear hK K hHeld
                          have hHeld := hHeld2
                          clear hHeld2
                          try simp only [List.getElem_toArray, List.getElem_cons_succ, List.getElem_cons_zero, Act.put, List.setIfInBounds_toArray, List.set_cons_zero, List.set_cons_succ]
                          refine wpAnyH_done (by kernel_rfl) ?_ _
                          refine NoPanic.normal ?_
                          clear wad
                          go_wp2_with fail
                          go_roundw
                          case rel =>
                            rw [ob_eq] at gr1
                            rw [ob_eq b'] at hat1
                            obtain ⟨b2, d2, kr2, xs2, KB2, hv2, T2⟩ := HT.out.snoc (⟨y1.w.alloc _, by (repeat (first | exact Below.refl _ _ | exact bR1 | refine below_alloc ?_ _ | refine below_drew ?_ | refine below_ext ?_ _))⟩) (hnew.ext ((Ext.self y1.w).alloc _)) (fun g hg => by have q1 := hlo g hg; have q2 := y0.size; simp at q2; omega) own1 gr1 hat1 rfl
                            refine ⟨k + 1, b2, d2, kr2, xs2, KB2, by go_num, by omega, ?_⟩
                            rw [Tm.rvL_take_succ _ _ _ HKID.out, Nat.zero_add, ← HAD.out, ← HKS.out, ← HU.out]
                            exact T2
                          case measure => simp [intOf]; omega
                        exact AllReadyH.nil
                      exact AllReadyH.nil
                    exact AllReadyH.nil
                  exact AllReadyH.nil
                exact AllReadyH.nil
              exact AllReadyH.nil
            · have hke : k = t.kids.length := by omega
              have hlt' : ¬ (k : Int) < (t.kids.length : Int) := by omega
              rw [hke, List.take_length] at T
              have bRr : wr.heap[B + 1]? = _ := (Ext.mk wr bWr).blk bR
              obtain ⟨ks, hks⟩ : ∃ ks, ks = Tm.rvL f t.op a 0 t.kids := ⟨_, rfl⟩
              rw [← hks] at T
              have HKS := Lib.hid hks
              have HKE := Lib.hid hke
              clear hks hke
              have c0 := blk_cell T.box 0
              have c1 := blk_cell T.box 1
              have c2 := blk_cell T.box 2
              have c3 := blk_cell T.box 3
              simp at c0 c1 c2 c3
              have n0 := blk_cell bRr 0
              have n1 := blk_cell bRr 1
              have n2 := blk_cell bRr 2
              have n3 := blk_cell bRr 3
              have p0 := blk_free bRr 0
              have p1 := blk_free bRr 1
              have p2 := blk_free bRr 2
              have p3 := blk_free bRr 3
              simp at n0 n1 n2 n3
              have HT := Lib.hid T
              have hsz2 : B + 1 < Wa.heap.size := hBW.2
              have belr := belA.trans (bWr.mono belA.size)
              clear T
              go_wp2
              clear n0 n1 n2 n3 p0 p1 p2 p3 c0 c1 c2 c3
              generalize hY4 : World.setCell _ _ _ = Y4
              obtain ⟨belD, hsame, hgr, r0, r1, r2, r3⟩ := ret4 (W := W) belr (by omega) bRr hY4
              refine bodyPost_ret (v := TV.val ⟨a', c', b', d'⟩ (.mk t.op t.n t.ty ks)) (by simp [TV.val, Tm.op, Tm.n, Tm.ty, Tm.kids, results, Tryd.results111, go_sem, r0, r1, r2, r3]) rfl ?_
              obtain ⟨own, olo⟩ := HT.out.done hsame (.inl hsz2)
              have e : Tm.mk t.op t.n t.ty ks = t.rv f a := by rw [HKS.out]; exact (Tm.rv_node HE.out).symm
              rw [← e]
              exact ⟨_, _, ⟨Y4, belD⟩, rfl, rfl, own, fun g hg => Nat.le_trans belA.size (olo g hg)⟩

end Go.Proofs.YtncfbljablbglaaDoor
/- Terms moved below other variables; copies. -/
namespace Go.Proofs.YtncfbljablbglaaDoor
open Go.RowKit

theorem leaf_own (w : World) (op n : Int) : TmOwn w (.mk op n [] []) ⟨none, 0, none, 0⟩ (fun _ => False) :=
  .of (kr := fun _ => ⟨none, 0, none, 0⟩) (xs := []) (KB := fun _ _ => False) (World.ownsRow_nil _ _ _ _) ⟨World.ownsRow_nil _ _ _ _, fun i k h => by simp [Tm.kids] at h, fun i k h => by simp [Tm.kids] at h, fun i j g hi => by simp [Tm.kids] at hi, fun i g hi => by simp [Tm.kids] at hi⟩
    (fun g hg e => by cases e) (fun g => ⟨fun h => h.elim, fun h => by rcases h with e | e | ⟨i, hi, _⟩; cases e; cases e; simp [Tm.kids] at hi⟩)
theorem enters_sub1 : ∀ args w, (callFunc 112 args).run Tryd.prog w = .ok (.enter 112 args) w := fun _ _ => by kernel_rfl
theorem enters_sh1 : ∀ args w, (callFunc 114 args).run Tryd.prog w = .ok (.enter 114 args) w := fun _ _ => by kernel_rfl

set_option maxHeartbeats 4000000 in
theorem variable_ans (i : Int) (w : World) : Calls Tryd.prog 113 #[.int .i64 i] w (NewTmO w (varT i)) := by
  go_enter Tryd.func113, Tryd.ntmps113
  go_upto_region 1 with fail
  generalize hWa : w.alloc _ = Wa
  have bR := new_blk hWa
  have bel : Below w.heap.size w Wa := by rw [← hWa]; exact (Below.refl _ _).alloc (Nat.le_refl _) _
  clear hWa
  have n0 := blk_cell bR 0
  have n1 := blk_cell bR 1
  have n2 := blk_cell bR 2
  have n3 := blk_cell bR 3
  have p0 := blk_free bR 0
  have p1 := blk_free bR 1
  have p2 := blk_free bR 2
  have p3 := blk_free bR 3
  simp at n0 n1 n2 n3
  go_wp2
  clear n0 n1 n2 n3 p0 p1 p2 p3
  generalize hY4 : World.setCell _ _ _ = Y4
  obtain ⟨belD, hsame, hgr, r0, r1, r2, r3⟩ := ret4 (W := w) bel (Nat.le_refl _) bR hY4
  refine bodyPost_ret (v := TV.val ⟨none, 0, none, 0⟩ (varT i)) (by simp [TV.val, Tm.op, Tm.n, Tm.ty, Tm.kids, varT, results, Tryd.results113, go_sem, r0, r1, r2, r3]) rfl ?_
  exact ⟨⟨none, 0, none, 0⟩, fun _ => False, ⟨Y4, belD⟩, rfl, rfl, leaf_own _ _ _, fun q h => h.elim⟩

set_option maxHeartbeats 4000000 in
theorem sh1_ans {W : World} {fc bc : Nat} {by' from' : Int} (hc1 : W.cell? ⟨fc, 0, none⟩ = some (.int .i64 from')) (hc2 : W.cell? ⟨bc, 0, none⟩ = some (.int .i64 by')) (j a : Int) (hj : 0 ≤ j ∧ j ≤ 1000000) (ha : 0 ≤ a ∧ a ≤ 100000) (hb : 0 ≤ by' ∧ by' ≤ 100000) :
    Calls Tryd.prog 114 #[.int .i64 j, .int .i64 a, .pointer (some ⟨fc, 0, none⟩), .pointer (some ⟨bc, 0, none⟩)] W (NewTmO W (shf by' from' j a)) := by
  obtain ⟨v, hv⟩ : ∃ v, v = if from' ≤ j then j + by' else j := ⟨_, rfl⟩
  have e : shf by' from' j a = varT (v + a) := by unfold shf; rw [hv]
  rw [e]
  clear e
  by_cases p : from' ≤ j
  · rw [if_pos p] at hv
    have f1 : decide (from' ≤ j) = true := by simpa using p
    subst hv
    go_enter Tryd.func114, Tryd.ntmps114
    go_upto_region 1 with fail
    generalize hWa : W.alloc _ = Wa
    have bR := new_blk hWa
    have sA : Wa.heap.size = W.heap.size + 1 := by rw [← hWa]; simp
    have belA : Below W.heap.size W Wa := by rw [← hWa]; exact (Below.refl _ _).alloc (Nat.le_refl _) _
    clear hWa
    have m1 : Wa.cell? ⟨fc, 0, none⟩ = some (.int .i64 from') := (Ext.mk Wa belA).cell hc1
    have m2 : Wa.cell? ⟨bc, 0, none⟩ = some (.int .i64 by') := (Ext.mk Wa belA).cell hc2
    clear hc1 hc2
    go_wp2_with fail
    refine Calls.mono (variable_ans _ _) ?_
    rintro e' w' ⟨r', NB, y, rfl, rfl, hnew, hlo⟩
    clear m1 m2
    have bRy := y.blk bR
    have n0 := blk_cell bRy 0
    have n1 := blk_cell bRy 1
    have n2 := blk_cell bRy 2
    have n3 := blk_cell bRy 3
    have p0 := blk_free bRy 0
    have p1 := blk_free bRy 1
    have p2 := blk_free bRy 2
    have p3 := blk_free bRy 3
    simp at n0 n1 n2 n3
    go_wp2
    clear n0 n1 n2 n3 p0 p1 p2 p3
    generalize hY4 : World.setCell _ _ _ = Y4
    obtain ⟨belD, hsame, hgr, r0, r1, r2, r3⟩ := ret4 (W := W) (belA.trans (y.below.mono belA.size)) (Nat.le_refl _) bRy hY4
    refine bodyPost_ret (v := r'.val (varT (j + by' + a))) (by simp [TV.val, results, Tryd.results114, go_sem, r0, r1, r2, r3]) rfl ?_
    exact ⟨r', NB, ⟨Y4, belD⟩, rfl, rfl, hnew.keep (fun g hg => hsame g (by have h1 := hlo g hg; omega)), fun g hg => by have h1 := hlo g hg; omega⟩
  · rw [if_neg p] at hv
    have f1 : decide (from' ≤ j) = false := by simpa using p
    subst hv
    go_enter Tryd.func114, Tryd.ntmps114
    go_upto_region 1 with fail
    generalize hWa : W.alloc _ = Wa
    have bR := new_blk hWa
    have sA : Wa.heap.size = W.heap.size + 1 := by rw [← hWa]; simp
    have belA : Below W.heap.size W Wa := by rw [← hWa]; exact (Below.refl _ _).alloc (Nat.le_refl _) _
    clear hWa
    have m1 : Wa.cell? ⟨fc, 0, none⟩ = some (.int .i64 from') := (Ext.mk Wa belA).cell hc1
    have m2 : Wa.cell? ⟨bc, 0, none⟩ = some (.int .i64 by') := (Ext.mk Wa belA).cell hc2
    clear hc1 hc2
    go_wp2_with fail
    refine Calls.mono (variable_ans _ _) ?_
    rintro e' w' ⟨r', NB, y, rfl, rfl, hnew, hlo⟩
    clear m1 m2
    have bRy := y.blk bR
    have n0 := blk_cell bRy 0
    have n1 := blk_cell bRy 1
    have n2 := blk_cell bRy 2
    have n3 := blk_cell bRy 3
    have p0 := blk_free bRy 0
    have p1 := blk_free bRy 1
    have p2 := blk_free bRy 2
    have p3 := blk_free bRy 3
    simp at n0 n1 n2 n3
    go_wp2
    clear n0 n1 n2 n3 p0 p1 p2 p3
    generalize hY4 : World.setCell _ _ _ = Y4
    obtain ⟨belD, hsame, hgr, r0, r1, r2, r3⟩ := ret4 (W := W) (belA.trans (y.below.mono belA.size)) (Nat.le_refl _) bRy hY4
    refine bodyPost_ret (v := r'.val (varT (v + a))) (by simp [TV.val, results, Tryd.results114, go_sem, r0, r1, r2, r3]) rfl ?_
    exact ⟨r', NB, ⟨Y4, belD⟩, rfl, rfl, hnew.keep (fun g hg => hsame g (by have h1 := hlo g hg; omega)), fun g hg => by have h1 := hlo g hg; omega⟩


theorem blk_of_alloc {w w2 : World} {g : Nat} {o o' : Obj} (h : w.heap[g]? = some o) (hw : w.alloc o' = w2) : w2.heap[g]? = some o := by rw [← hw]; exact blk_alloc h _
theorem blocks4 {w w2 : World} {o1 o2 o3 o4 : Obj} {B : Nat} (hB : w.heap.size = B) (h : (((w.alloc o1).alloc o2).alloc o3).alloc o4 = w2) :
    w2.heap[B]? = some o1 ∧ w2.heap[B + 1]? = some o2 ∧ w2.heap[B + 2]? = some o3 ∧ w2.heap[B + 3]? = some o4 ∧ w2.heap.size = B + 4 ∧ Below w.heap.size w w2 := by
  obtain ⟨h1, h2, h3, h4, h5⟩ := blocks3 hB (w3 := ((w.alloc o1).alloc o2).alloc o3) rfl
  have hn := new_blk h
  rw [h4] at hn
  refine ⟨blk_of_alloc h1 h, blk_of_alloc h2 h, blk_of_alloc h3 h, hn, by rw [← h]; simp; omega, ?_⟩
  rw [← h]
  exact h5.alloc h5.size _

set_option maxHeartbeats 4000000 in
theorem shift_ans {W : World} (TF : TForms W) {lo : Nat} {u : Tm} {r : TV} (h : TmIn W lo u r) {size vars : Int} {closed : Bool} (ok : OkT size closed vars u) (hsz : u.sz ≤ 1000) (hv : vars + 2 * (u.sz : Int) ≤ 50000) (m from' : Int) (hm : 0 ≤ m ∧ m ≤ 100000) (x : Ext W) :
    Calls Tryd.prog 97 #[r.val u, .int .i64 m, .int .i64 from'] x.w (NewTmO W (u.rv (shf m from') 0)) := by
  obtain ⟨ra, rc, rb, rd⟩ := r
  unfold TV.val
  have hsp := u.sz_pos
  go_enter Tryd.func97, Tryd.ntmps97
  go_upto_region 1 with fail
  have hxW := x.size
  generalize hWa : (((x.w.alloc _).alloc _).alloc _).alloc _ = Wa
  generalize hB : x.w.heap.size = B at *
  obtain ⟨bA, bI, bF, bR, sA, bel⟩ := blocks4 hB hWa
  have belA : Below W.heap.size W Wa := x.below.trans (bel.mono (by omega))
  clear hWa bel
  have c0 := blk_cell bA 0
  have c1 := blk_cell bA 1
  have c2 := blk_cell bA 2
  have c3 := blk_cell bA 3
  have c4 := blk_cell bI 0
  have c5 := blk_cell bF 0
  simp at c0 c1 c2 c3 c4 c5
  have hc4 := Lib.hid c4
  have hc5 := Lib.hid c5
  clear c4 c5
  have CC := rv_ans u (W := Wa) (TF.ext ⟨Wa, belA⟩) (h.ext ⟨Wa, belA⟩) ok hsz hv 0 (by omega) (by omega) (shf m from') 114 [.pointer (some ⟨B + 2, 0, none⟩), .pointer (some ⟨B + 1, 0, none⟩)] enters_sh1
    (fun y i b h1 h2 h3 h4 => sh1_ans (y.cell hc5.out) (y.cell hc4.out) i b ⟨h1, by omega⟩ ⟨h3, by omega⟩ ⟨hm.1, by omega⟩) (Ext.self Wa)
  unfold TV.val at CC
  go_wp2_with fail
  clear c0 c1 c2 c3
  refine Calls.mono CC ?_
  clear CC
  rintro e w' ⟨r', NB, y, rfl, rfl, hnew, hlo⟩
  have bRy := y.blk bR
  have n0 := blk_cell bRy 0
  have n1 := blk_cell bRy 1
  have n2 := blk_cell bRy 2
  have n3 := blk_cell bRy 3
  have p0 := blk_free bRy 0
  have p1 := blk_free bRy 1
  have p2 := blk_free bRy 2
  have p3 := blk_free bRy 3
  simp at n0 n1 n2 n3
  go_wp2
  clear n0 n1 n2 n3 p0 p1 p2 p3
  generalize hY4 : World.setCell _ _ _ = Y4
  obtain ⟨belD, hsame, hgr, r0, r1, r2, r3⟩ := ret4 (W := W) (belA.trans (y.below.mono belA.size)) (by omega) bRy hY4
  refine bodyPost_ret (v := r'.val (u.rv (shf m from') 0)) (by simp [TV.val, results, Tryd.results97, go_sem, r0, r1, r2, r3]) rfl ?_
  exact ⟨r', NB, ⟨Y4, belD⟩, rfl, rfl, hnew.keep (fun g hg => hsame g (by have h1 := hlo g hg; omega)), fun g hg => by have h1 := hlo g hg; omega⟩
theorem shf_mvf (t : Tm) {size vars : Int} {closed : Bool} (ok : OkT size closed vars t) (m : Int) : t.rv (shf m 0) 0 = t.rv (mvf m) 0 := by
  refine Tm.rv_congr (V := vars) (fun i a h0 h1 h2 => ?_) t ok (Int.le_refl _) (by omega)
  unfold shf mvf
  rw [if_pos h0]

set_option maxHeartbeats 4000000 in
theorem moveUnder_ans {W : World} (TF : TForms W) {lo : Nat} {u : Tm} {r : TV} (h : TmIn W lo u r) {size vars : Int} {closed : Bool} (ok : OkT size closed vars u) (hsz : u.sz ≤ 1000) (hv : vars + 2 * (u.sz : Int) ≤ 50000) (m : Int) (hm : 0 ≤ m ∧ m ≤ 100000) (x : Ext W) :
    Calls Tryd.prog 73 #[r.val u, .int .i64 m] x.w (NewTmO W (u.rv (mvf m) 0)) := by
  obtain ⟨ra, rc, rb, rd⟩ := r
  unfold TV.val
  go_enter Tryd.func73, Tryd.ntmps73
  go_upto_region 1 with fail
  have hxW := x.size
  generalize hWa : (x.w.alloc _).alloc _ = Wa
  generalize hB : x.w.heap.size = B at *
  obtain ⟨bA, bR, sA, bel⟩ := blocks2 hB hWa
  have belA : Below W.heap.size W Wa := x.below.trans (bel.mono (by omega))
  clear hWa bel
  have c0 := blk_cell bA 0
  have c1 := blk_cell bA 1
  have c2 := blk_cell bA 2
  have c3 := blk_cell bA 3
  simp at c0 c1 c2 c3
  have CC := shift_ans (W := Wa) (TF.ext ⟨Wa, belA⟩) (h.ext ⟨Wa, belA⟩) ok hsz hv m 0 hm (Ext.self Wa)
  rw [shf_mvf u ok] at CC
  unfold TV.val at CC
  go_wp2_with fail
  clear c0 c1 c2 c3
  refine Calls.mono CC ?_
  clear CC
  rintro e w' ⟨r', NB, y, rfl, rfl, hnew, hlo⟩
  have bRy := y.blk bR
  have n0 := blk_cell bRy 0
  have n1 := blk_cell bRy 1
  have n2 := blk_cell bRy 2
  have n3 := blk_cell bRy 3
  have p0 := blk_free bRy 0
  have p1 := blk_free bRy 1
  have p2 := blk_free bRy 2
  have p3 := blk_free bRy 3
  simp at n0 n1 n2 n3
  go_wp2
  clear n0 n1 n2 n3 p0 p1 p2 p3
  generalize hY4 : World.setCell _ _ _ = Y4
  obtain ⟨belD, hsame, hgr, r0, r1, r2, r3⟩ := ret4 (W := W) (belA.trans (y.below.mono belA.size)) (by omega) bRy hY4
  refine bodyPost_ret (v := r'.val (u.rv (mvf m) 0)) (by simp [TV.val, results, Tryd.results73, go_sem, r0, r1, r2, r3]) rfl ?_
  exact ⟨r', NB, ⟨Y4, belD⟩, rfl, rfl, hnew.keep (fun g hg => hsame g (by have h1 := hlo g hg; omega)), fun g hg => by have h1 := hlo g hg; omega⟩
theorem varT_tmB (i : Int) : TmB (varT i) := .mk _ (fun u hu => by cases hu) (fun k hk => by cases hk)
theorem Tm.rv_id (t : Tm) : ∀ {size vars : Int} {closed : Bool} (_ : OkT size closed vars t) (a : Int), t.rv (mvf 0) a = t := by
  induction t using Tm.ind with
  | h t ih =>
    intro size vars closed ok a
    by_cases h : t.op = 0 ∧ a ≤ t.n
    · rw [Tm.rv_var h.1 h.2]
      have e := Tm.var_eq ok h.1
      unfold mvf
      rw [show t.n - a + 0 + a = t.n by omega]
      exact e.symm
    · rw [Tm.rv_node h, Tm.rvL_id (fun i k hk => ih k (List.mem_of_getElem? hk) (ok.kid hk) _)]
      cases t
      rfl
set_option maxHeartbeats 4000000 in
theorem copyTerm_ans {W : World} (TF : TForms W) {lo : Nat} {u : Tm} {r : TV} (h : TmIn W lo u r) {size vars : Int} {closed : Bool} (ok : OkT size closed vars u) (hsz : u.sz ≤ 1000) (hv : vars + 2 * (u.sz : Int) ≤ 50000) (x : Ext W) :
    Calls Tryd.prog 39 #[r.val u] x.w (NewTmO W u) := by
  obtain ⟨ra, rc, rb, rd⟩ := r
  unfold TV.val
  go_enter Tryd.func39, Tryd.ntmps39
  go_upto_region 1 with fail
  have hxW := x.size
  generalize hWa : (x.w.alloc _).alloc _ = Wa
  generalize hB : x.w.heap.size = B at *
  obtain ⟨bA, bR, sA, bel⟩ := blocks2 hB hWa
  have belA : Below W.heap.size W Wa := x.below.trans (bel.mono (by omega))
  clear hWa bel
  have c0 := blk_cell bA 0
  have c1 := blk_cell bA 1
  have c2 := blk_cell bA 2
  have c3 := blk_cell bA 3
  simp at c0 c1 c2 c3
  have CC := moveUnder_ans (W := Wa) (TF.ext ⟨Wa, belA⟩) (h.ext ⟨Wa, belA⟩) ok hsz hv 0 (by omega) (Ext.self Wa)
  rw [Tm.rv_id u ok 0] at CC
  unfold TV.val at CC
  go_wp2_with fail
  clear c0 c1 c2 c3
  refine Calls.mono CC ?_
  clear CC
  rintro e w' ⟨r', NB, y, rfl, rfl, hnew, hlo⟩
  have bRy := y.blk bR
  have n0 := blk_cell bRy 0
  have n1 := blk_cell bRy 1
  have n2 := blk_cell bRy 2
  have n3 := blk_cell bRy 3
  have p0 := blk_free bRy 0
  have p1 := blk_free bRy 1
  have p2 := blk_free bRy 2
  have p3 := blk_free bRy 3
  simp at n0 n1 n2 n3
  go_wp2
  clear n0 n1 n2 n3 p0 p1 p2 p3
  generalize hY4 : World.setCell _ _ _ = Y4
  obtain ⟨belD, hsame, hgr, r0, r1, r2, r3⟩ := ret4 (W := W) (belA.trans (y.below.mono belA.size)) (by omega) bRy hY4
  refine bodyPost_ret (v := r'.val (u)) (by simp [TV.val, results, Tryd.results39, go_sem, r0, r1, r2, r3]) rfl ?_
  exact ⟨r', NB, ⟨Y4, belD⟩, rfl, rfl, hnew.keep (fun g hg => hsame g (by have h1 := hlo g hg; omega)), fun g hg => by have h1 := hlo g hg; omega⟩

end Go.Proofs.YtncfbljablbglaaDoor
/- The program's substitution and shift. -/
namespace Go.Proofs.YtncfbljablbglaaDoor
open Go.RowKit

/-- What a substitution of several terms makes of a variable. -/
def subf (i0 : Int) (us : List Tm) (j a : Int) : Tm := if j - i0 < 0 then varT (j + a) else if j - i0 < (us.length : Int) then (us.getD (j - i0).toNat zeroT).rv (mvf a) 0 else varT (j - (us.length : Int) + a)

set_option maxHeartbeats 8000000 in
theorem sub1_ans {W : World} (TF : TForms W) {ic pc : Nat} {i0 : Int} {us : List Tm} {b : Option Addr} {d : Nat} (hc1 : W.cell? ⟨ic, 0, none⟩ = some (.int .i64 i0)) (hc2 : W.cell? ⟨pc, 0, none⟩ = some (.slice b us.length d)) {lo : Nat} (hu : TmIn W lo (.mk 0 0 [] us) ⟨none, 0, b, d⟩) (hl : us.length ≤ 3)
    (ok : ∀ u ∈ us, ∃ size vars closed, OkT size closed vars u ∧ u.sz ≤ 1000 ∧ vars + 2 * (u.sz : Int) ≤ 50000) (j a : Int) (hj : 0 ≤ j ∧ j ≤ 1000000) (ha : 0 ≤ a ∧ a ≤ 100000) (hi : 0 ≤ i0 ∧ i0 ≤ 9223372036854775807) :
    Calls Tryd.prog 112 #[.int .i64 j, .int .i64 a, .pointer (some ⟨ic, 0, none⟩), .pointer (some ⟨pc, 0, none⟩)] W (NewTmO W (subf i0 us j a)) := by
  obtain ⟨kr0, A⟩ := hu.out
  have HOK := Lib.hid ok
  clear ok hu
  by_cases p1 : j - i0 < 0
  · have e : subf i0 us j a = varT (j + a) := by unfold subf; rw [if_pos p1]
    have p1' : j < i0 := by omega
    rw [e]
    clear e
    go_enter Tryd.func112, Tryd.ntmps112
    go_upto_region 1 with fail
    generalize hWa : W.alloc _ = Wa
    have bR := new_blk hWa
    have sA : Wa.heap.size = W.heap.size + 1 := by rw [← hWa]; simp
    have belA : Below W.heap.size W Wa := by rw [← hWa]; exact (Below.refl _ _).alloc (Nat.le_refl _) _
    clear hWa
    have m1 : Wa.cell? ⟨ic, 0, none⟩ = some (.int .i64 (i0)) := (Ext.mk Wa belA).cell hc1
    have m2 : Wa.cell? ⟨pc, 0, none⟩ = some (.slice b us.length d) := (Ext.mk Wa belA).cell hc2
    clear hc1 hc2
    go_wp2_with fail
    refine Calls.mono (variable_ans _ _) ?_
    rintro e' w' ⟨r', NB, y, rfl, rfl, hnew, hlo⟩
    clear m1 m2
    have bRy := y.blk bR
    have n0 := blk_cell bRy 0
    have n1 := blk_cell bRy 1
    have n2 := blk_cell bRy 2
    have n3 := blk_cell bRy 3
    have p0 := blk_free bRy 0
    have p1 := blk_free bRy 1
    have p2 := blk_free bRy 2
    have p3 := blk_free bRy 3
    simp at n0 n1 n2 n3
    go_wp2
    clear n0 n1 n2 n3 p0 p1 p2 p3
    generalize hY4 : World.setCell _ _ _ = Y4
    obtain ⟨belD, hsame, hgr, r0, r1, r2, r3⟩ := ret4 (W := W) (belA.trans (y.below.mono belA.size)) (Nat.le_refl _) bRy hY4
    refine bodyPost_ret (v := r'.val (varT (j + a))) (by simp [TV.val, results, Tryd.results112, go_sem, r0, r1, r2, r3]) rfl ?_
    exact ⟨r', NB, ⟨Y4, belD⟩, rfl, rfl, hnew.keep (fun g hg => hsame g (by have h1 := hlo g hg; omega)), fun g hg => by have h1 := hlo g hg; omega⟩
  · have p1' : ¬ j < i0 := by omega
    by_cases p2 : j - i0 < (us.length : Int)
    · obtain ⟨k, hk⟩ : ∃ k : Nat, j - i0 = (k : Int) := ⟨(j - i0).toNat, by omega⟩
      have hkl : k < us.length := by omega
      obtain ⟨u, hu⟩ : ∃ u, us[k]? = some u := ⟨_, List.getElem?_eq_getElem hkl⟩
      have e : subf i0 us j a = u.rv (mvf a) 0 := by unfold subf; rw [if_neg p1, if_pos p2, hk, Int.toNat_natCast, List.getD_eq_getElem?_getD, hu]; rfl
      rw [e]
      clear e
      obtain ⟨b0, o0, hrb, K4⟩ := A.kid k u hu
      have hsub := A.sub k u hu
      dsimp only at hrb
      subst hrb
      obtain ⟨size, vars, closed, okU, szU, vsU⟩ := HOK.out u (List.mem_of_getElem? hu)
      obtain rfl : i0 = j - (k : Int) := by omega
      have hkl' : (k : Int) < (us.length : Int) := by omega
      have hk0 : (0 : Int) ≤ (k : Int) := by omega
      have hkj : j - (j - (k : Int)) = (k : Int) := by omega
      clear p1 p2 hu hk
      go_enter Tryd.func112, Tryd.ntmps112
      go_upto_region 1 with fail
      generalize hWa : W.alloc _ = Wa
      have bR := new_blk hWa
      have sA : Wa.heap.size = W.heap.size + 1 := by rw [← hWa]; simp
      have belA : Below W.heap.size W Wa := by rw [← hWa]; exact (Below.refl _ _).alloc (Nat.le_refl _) _
      clear hWa
      have m1 : Wa.cell? ⟨ic, 0, none⟩ = some (.int .i64 (j - (k : Int))) := (Ext.mk Wa belA).cell hc1
      have m2 : Wa.cell? ⟨pc, 0, none⟩ = some (.slice (some ⟨b0, o0, none⟩) us.length d) := (Ext.mk Wa belA).cell hc2
      clear hc1 hc2
      have d0 : Wa.cell? ⟨b0, o0 + k * 4, none⟩ = some (.int .i64 u.op) := (Ext.mk Wa belA).cell K4.c0
      have d1 : Wa.cell? ⟨b0, o0 + k * 4 + 1, none⟩ = some (.int .i64 u.n) := (Ext.mk Wa belA).cell K4.c1
      have d2 : Wa.cell? ⟨b0, o0 + k * 4 + 2, none⟩ = some (.slice (kr0 k).a u.ty.length (kr0 k).c) := (Ext.mk Wa belA).cell K4.c2
      have d3 : Wa.cell? ⟨b0, o0 + k * 4 + 3, none⟩ = some (.slice (kr0 k).b u.kids.length (kr0 k).d) := (Ext.mk Wa belA).cell K4.c3
      have CC := moveUnder_ans (W := Wa) (TF.ext ⟨Wa, belA⟩) (hsub.ext ⟨Wa, belA⟩) okU szU vsU a (by omega) (Ext.self Wa)
      unfold TV.val at CC
      have HK4 := Lib.hid K4
      clear K4
      go_wp2_with fail
      refine Calls.mono CC ?_
      clear CC d0 d1 d2 d3
      rintro e' w' ⟨r', NB, y, rfl, rfl, hnew, hlo⟩
      clear m1 m2
      have bRy := y.blk bR
      have n0 := blk_cell bRy 0
      have n1 := blk_cell bRy 1
      have n2 := blk_cell bRy 2
      have n3 := blk_cell bRy 3
      have p0 := blk_free bRy 0
      have p1 := blk_free bRy 1
      have p2 := blk_free bRy 2
      have p3 := blk_free bRy 3
      simp at n0 n1 n2 n3
      go_wp2
      clear n0 n1 n2 n3 p0 p1 p2 p3
      generalize hY4 : World.setCell _ _ _ = Y4
      obtain ⟨belD, hsame, hgr, r0, r1, r2, r3⟩ := ret4 (W := W) (belA.trans (y.below.mono belA.size)) (Nat.le_refl _) bRy hY4
      refine bodyPost_ret (v := r'.val (u.rv (mvf a) 0)) (by simp [TV.val, results, Tryd.results112, go_sem, r0, r1, r2, r3]) rfl ?_
      exact ⟨r', NB, ⟨Y4, belD⟩, rfl, rfl, hnew.keep (fun g hg => hsame g (by have h1 := hlo g hg; omega)), fun g hg => by have h1 := hlo g hg; omega⟩
    · have e : subf i0 us j a = varT (j - (us.length : Int) + a) := by unfold subf; rw [if_neg p1, if_neg p2]
      rw [e]
      clear e
      have p2' : ¬ j - i0 < (us.length : Int) := p2
      go_enter Tryd.func112, Tryd.ntmps112
      go_upto_region 1 with fail
      generalize hWa : W.alloc _ = Wa
      have bR := new_blk hWa
      have sA : Wa.heap.size = W.heap.size + 1 := by rw [← hWa]; simp
      have belA : Below W.heap.size W Wa := by rw [← hWa]; exact (Below.refl _ _).alloc (Nat.le_refl _) _
      clear hWa
      have m1 : Wa.cell? ⟨ic, 0, none⟩ = some (.int .i64 (i0)) := (Ext.mk Wa belA).cell hc1
      have m2 : Wa.cell? ⟨pc, 0, none⟩ = some (.slice b us.length d) := (Ext.mk Wa belA).cell hc2
      clear hc1 hc2
      go_wp2_with fail
      refine Calls.mono (variable_ans _ _) ?_
      rintro e' w' ⟨r', NB, y, rfl, rfl, hnew, hlo⟩
      clear m1 m2
      have bRy := y.blk bR
      have n0 := blk_cell bRy 0
      have n1 := blk_cell bRy 1
      have n2 := blk_cell bRy 2
      have n3 := blk_cell bRy 3
      have p0 := blk_free bRy 0
      have p1 := blk_free bRy 1
      have p2 := blk_free bRy 2
      have p3 := blk_free bRy 3
      simp at n0 n1 n2 n3
      go_wp2
      clear n0 n1 n2 n3 p0 p1 p2 p3
      generalize hY4 : World.setCell _ _ _ = Y4
      obtain ⟨belD, hsame, hgr, r0, r1, r2, r3⟩ := ret4 (W := W) (belA.trans (y.below.mono belA.size)) (Nat.le_refl _) bRy hY4
      refine bodyPost_ret (v := r'.val (varT (j - (us.length : Int) + a))) (by simp [TV.val, results, Tryd.results112, go_sem, r0, r1, r2, r3]) rfl ?_
      exact ⟨r', NB, ⟨Y4, belD⟩, rfl, rfl, hnew.keep (fun g hg => hsame g (by have h1 := hlo g hg; omega)), fun g hg => by have h1 := hlo g hg; omega⟩

set_option maxHeartbeats 8000000 in
theorem substitute_ans {W : World} (TF : TForms W) {lo lo2 : Nat} {t : Tm} {r : TV} (h : TmIn W lo t r) {size vars : Int} {closed : Bool} (okt : OkT size closed vars t) (hsz : t.sz ≤ 1000) (hv : vars + 2 * (t.sz : Int) ≤ 50000) {i0 : Int} (hi : 0 ≤ i0 ∧ i0 ≤ 9223372036854775807)
    {us : List Tm} {b : Option Addr} {d : Nat} (hu : TmIn W lo2 (.mk 0 0 [] us) ⟨none, 0, b, d⟩) (hl : us.length ≤ 3) (ok : ∀ u ∈ us, ∃ size vars closed, OkT size closed vars u ∧ u.sz ≤ 1000 ∧ vars + 2 * (u.sz : Int) ≤ 50000) (x : Ext W) :
    Calls Tryd.prog 96 #[r.val t, .int .i64 i0, .slice b us.length d] x.w (NewTmO W (t.rv (subf i0 us) 0)) := by
  obtain ⟨ra, rc, rb, rd⟩ := r
  unfold TV.val
  have hsp := t.sz_pos
  go_enter Tryd.func96, Tryd.ntmps96
  go_upto_region 1 with fail
  have hxW := x.size
  generalize hW3 : ((x.w.alloc _).alloc _).alloc _ = W3
  generalize hB : x.w.heap.size = B at *
  obtain ⟨bA3, bI3, bP3, sA3, bel3⟩ := blocks3 hB hW3
  have belW3 : Below W.heap.size W W3 := x.below.trans (bel3.mono (by omega))
  clear hW3 bel3
  generalize hWa : W3.alloc _ = Wa
  have bR := new_blk hWa
  have bA := (blk_of_alloc bA3 hWa)
  have bI := (blk_of_alloc bI3 hWa)
  have bP := (blk_of_alloc bP3 hWa)
  have sA : Wa.heap.size = B + 3 + 1 := by rw [← hWa]; simp; omega
  have belA : Below W.heap.size W Wa := by rw [← hWa]; exact belW3.alloc belW3.size _
  rw [sA3] at bR
  clear hWa bA3 bI3 bP3
  have c0 := blk_cell bA 0
  have c1 := blk_cell bA 1
  have c2 := blk_cell bA 2
  have c3 := blk_cell bA 3
  have c4 := blk_cell bI 0
  have c5 := blk_cell bP 0
  simp at c0 c1 c2 c3 c4 c5
  have hc4 := Lib.hid c4
  have hc5 := Lib.hid c5
  clear c4 c5
  have CC := rv_ans t (W := Wa) (TF.ext ⟨Wa, belA⟩) (h.ext ⟨Wa, belA⟩) okt hsz hv 0 (by omega) (by omega) (subf i0 us) 112 [.pointer (some ⟨B + 1, 0, none⟩), .pointer (some ⟨B + 2, 0, none⟩)] enters_sub1
    (fun y i b h1 h2 h3 h4 => sub1_ans ((TF.ext ⟨Wa, belA⟩).ext y) (y.cell hc4.out) (y.cell hc5.out) ((hu.ext ⟨Wa, belA⟩).ext y) hl ok i b ⟨h1, by omega⟩ ⟨h3, by omega⟩ hi) (Ext.self Wa)
  unfold TV.val at CC
  go_wp2_with fail
  clear c0 c1 c2 c3
  refine Calls.mono CC ?_
  clear CC
  rintro e w' ⟨r', NB, y, rfl, rfl, hnew, hlo⟩
  have bRy := y.blk bR
  have n0 := blk_cell bRy 0
  have n1 := blk_cell bRy 1
  have n2 := blk_cell bRy 2
  have n3 := blk_cell bRy 3
  have p0 := blk_free bRy 0
  have p1 := blk_free bRy 1
  have p2 := blk_free bRy 2
  have p3 := blk_free bRy 3
  simp at n0 n1 n2 n3
  go_wp2
  clear n0 n1 n2 n3 p0 p1 p2 p3
  generalize hY4 : World.setCell _ _ _ = Y4
  obtain ⟨belD, hsame, hgr, r0, r1, r2, r3⟩ := ret4 (W := W) (belA.trans (y.below.mono belA.size)) (by omega) bRy hY4
  refine bodyPost_ret (v := r'.val (t.rv (subf i0 us) 0)) (by simp [TV.val, results, Tryd.results96, go_sem, r0, r1, r2, r3]) rfl ?_
  exact ⟨r', NB, ⟨Y4, belD⟩, rfl, rfl, hnew.keep (fun g hg => hsame g (by have h1 := hlo g hg; omega)), fun g hg => by have h1 := hlo g hg; omega⟩

end Go.Proofs.YtncfbljablbglaaDoor
