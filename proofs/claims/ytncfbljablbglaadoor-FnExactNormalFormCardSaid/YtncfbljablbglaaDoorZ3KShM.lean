/- The model's shift. -/
import Derived.Test.YtncfbljablbglaaDoorZ3GI
import Derived.Test.YtncfbljablbglaaDoorZ3GA
import Derived.Test.YtncfbljablbglaaDoorZ3GF
import Derived.Test.YtncfbljablbglaaDoorZ3GG
import Derived.Deep.RegionHeld3
import Derived.Deep.Cut
import Derived.RegionTactic
import Derived.Outline
set_option linter.unusedVariables false
set_option linter.unusedSimpArgs false
namespace Go.Proofs.YtncfbljablbglaaDoor
open Go.RowKit

/-- The node of a shifted term. -/
theorem shf_node {size vars : Int} {closed : Bool} {t : Tm} (ok : OkT size closed vars t) {by' from' a n' : Int} (hf : 0 ≤ from') (hn : n' = if t.op = 0 ∧ from' + a ≤ t.n then t.n + by' else t.n) :
    Tm.mk t.op n' t.ty (Tm.rvL (shf by' from') t.op a 0 t.kids) = t.rv (shf by' from') a := by
  by_cases h : t.op = 0 ∧ a ≤ t.n
  · rw [Tm.rv_var h.1 h.2]
    have e := Tm.var_eq ok h.1
    have h1 : t.ty = [] := by rw [e]; rfl
    have h2 : t.kids = [] := by rw [e]; rfl
    rw [h1, h2, h.1]
    unfold shf varT
    simp only [Tm.rvL]
    congr 1
    rw [hn]
    split <;> split <;> omega
  · rw [Tm.rv_node h]
    congr 1
    rw [hn, if_neg]
    exact fun q => h ⟨q.1, by omega⟩
set_option maxRecDepth 100000 in
set_option maxHeartbeats 16000000 in
theorem l2Shift_ans (t : Tm) : ∀ {W : World} {lo : Nat} {r : TV} (_ : TmIn W lo t r) {size vars : Int} {closed : Bool} (_ : OkT size closed vars t) (_ : t.sz ≤ 1000) (_ : vars + 2 * (t.sz : Int) ≤ 50000) (by' from' : Int) (_ : 0 ≤ by') (_ : by' ≤ 10000) (_ : 0 ≤ from') (a : Int) (_ : 0 ≤ a) (_ : from' + a + 2 * (t.sz : Int) ≤ 50000) (x : Ext W),
    Calls Tryd.prog 31 #[r.val t, .int .i64 by', .int .i64 (from' + a)] x.w (NewTmO W (t.rv (shf by' from') a)) := by
  induction t using Tm.ind with
  | h t ih =>
    intro W lo r h size vars closed ok hsz hv by' from' hb0 hb1 hf0 a ha0 ha x
    have HI := Lib.hid ih
    clear ih
    obtain ⟨ra, rc, rb, rd⟩ := r
    unfold TV.val
    have hn := ok.node
    have h13 : 0 ≤ t.op ∧ t.op ≤ 12 := manyO_in (by rw [← hn.many]; omega)
    have hk3 : t.kids.length ≤ 3 := by have := hn.many; have := manyO_le t.op; omega
    have hsp := t.sz_pos
    have hty := hn.ty40
    have HNV : Hid (t.op = 0 → 0 ≤ t.n ∧ t.n < vars) := fun e0 => by have := hn.nok; unfold NOk at this; rw [if_pos e0] at this; exact this
    clear hn
    obtain ⟨n', hn'⟩ : ∃ n', n' = if t.op = 0 ∧ from' + a ≤ t.n then t.n + by' else t.n := ⟨_, rfl⟩
    have HN := Lib.hid hn'
    clear hn'
    obtain ⟨fa, hfa⟩ : ∃ fa, fa = from' + a := ⟨_, rfl⟩
    have HFA := Lib.hid hfa
    rw [← hfa]
    have hfa0 : 0 ≤ fa := by omega
    have hfa1 : fa + 2 * (t.sz : Int) ≤ 50000 := by omega
    clear hfa
    obtain ⟨iT, hiT, hzT0, hzT1, hzT2⟩ := info_parts info_term
    go_enter Tryd.func31, Tryd.ntmps31
    go_wp2_with fail
    have hxW := x.size
    generalize hWa : (x.w.alloc _).alloc _ = Wa
    generalize hB : x.w.heap.size = B at *
    obtain ⟨bA, bR, sA, bel⟩ := blocks2 hB hWa
    have belA : Below W.heap.size W Wa := x.below.trans (bel.mono (by omega))
    clear hWa bel
    have SA := Lib.hid sA
    have hBW : B < Wa.heap.size ∧ B + 1 < Wa.heap.size := by omega
    clear sA
    have bAc : ∀ y : Ext Wa, y.w.heap[B]? = _ := fun y => y.blk bA
    have d0 : ∀ y : Ext Wa, y.w.cell? ⟨B, 0, none⟩ = some (.int .i64 t.op) := fun y => blk_cell (bAc y) 0
    have d1 : ∀ y : Ext Wa, y.w.cell? ⟨B, 1, none⟩ = some (.int .i64 t.n) := fun y => blk_cell (bAc y) 1
    have d2 : ∀ y : Ext Wa, y.w.cell? ⟨B, 2, none⟩ = some (.slice ra t.ty.length rc) := fun y => blk_cell (bAc y) 2
    have d3 : ∀ y : Ext Wa, y.w.cell? ⟨B, 3, none⟩ = some (.slice rb t.kids.length rd) := fun y => blk_cell (bAc y) 3
    clear bAc
    obtain ⟨kr0, A⟩ := (h.ext ⟨Wa, belA⟩).out
    have hlk := A.lk
    have rowA : Row Wa (Value.int .i64) ra t.ty := A.row
    have KEEP : ∀ w' : World, Below Wa.heap.size Wa w' → w'.cell? ⟨B, 0, none⟩ = some (.int .i64 t.op) ∧ w'.cell? ⟨B, 1, none⟩ = some (.int .i64 t.n) ∧ w'.cell? ⟨B, 2, none⟩ = some (.slice ra t.ty.length rc) := fun w' b => ⟨d0 ⟨w', b⟩, d1 ⟨w', b⟩, d2 ⟨w', b⟩⟩
    have d0' := d0
    have COPY : Hid (∀ w', Below Wa.heap.size Wa w' → Calls Tryd.prog 64 #[.slice ra t.ty.length rc] w' (NewRow w' 22 3 (Value.int .i64) t.ty)) := fun w' b => l1Copy_ans (c := rc) (rowA.ext ⟨w', b⟩) (by omega) (Ext.self w')
    go_cut [7] from 9 (fun s7 wc => ∃ (C : Nat) (A' : Option Addr) (c : Nat), s7 = .pointer (some ⟨C, 0, none⟩) ∧ TB Wa wc C t.op t.n t.ty A' c [] none 0 (fun _ => ⟨none, 0, none, 0⟩) [] (fun _ _ => False))
    case first =>
      go_region_held3 (fun w' => w'.cell? ⟨B, 0, none⟩ = some (.int .i64 t.op) ∧ w'.cell? ⟨B, 1, none⟩ = some (.int .i64 t.n) ∧ w'.cell? ⟨B, 2, none⟩ = some (.slice ra t.ty.length rc)) ((refine KEEP _ ?_; (repeat (first | exact Below.refl _ _ | refine below_alloc ?_ _ | refine below_drew ?_ | refine below_ext ?_ _ | refine below_set ?_ ?_))))
        ((go_at_call 64; refine Calls.mono (COPY.out _ (by (repeat (first | exact Below.refl _ _ | refine below_alloc ?_ _ | refine below_drew ?_ | refine below_ext ?_ _ | refine below_set ?_ ?_)))) ?_; rintro e w' ⟨v, y0, rfl, rfl, own0⟩; obtain ⟨c0, d0', rfl, r0, l0⟩ := owned_row own0; (first | obtain ⟨n0, n1, n2, n3, p0, p1, p2, p3⟩ := zfacts (y0.blk (new_blk_drew Wa zbox)) | skip)))
      · go_wp2_with fail
        go_meet
        case rel => exact ⟨_, _, _, rfl, TB.new (by (repeat (first | exact Below.refl _ _ | refine below_alloc ?_ _ | refine below_drew ?_ | refine below_ext ?_ _ | refine below_set ?_ ?_))) own0⟩
      · go_wp2_with fail
        go_meet
        case rel => exact ⟨_, _, _, rfl, TB.set (by (repeat (first | exact Below.refl _ _ | refine below_alloc ?_ _ | refine below_drew ?_ | refine below_ext ?_ _ | refine below_set ?_ ?_))) (Nat.le_refl _) (y0.blk (new_blk_drew Wa zbox)) (owns_lower own0 (by simp)) rfl⟩
    case rest =>
      obtain ⟨C, a', c', rfl, T0⟩ := hcut
      clear KEEP COPY
      obtain ⟨p, hp⟩ := bool_of (t.op = 0 ∧ fa ≤ t.n)
      have HP := Lib.hid hp
      clear hp
      have belc := T0.bel
      have m0 : wc.cell? ⟨B, 0, none⟩ = some (.int .i64 t.op) := d0 ⟨wc, belc⟩
      have m1 : wc.cell? ⟨B, 1, none⟩ = some (.int .i64 t.n) := d1 ⟨wc, belc⟩
      have HT0 := Lib.hid T0
      clear T0 d0 d1 d2
      go_upto_region 2 with fail
      go_cut [25] from 26 (fun s25 wd => s25 = .bool p ∧ wd = wc)
      case first =>
        by_cases e0 : t.op = 0
        · have f0 : (t.op == 0) = true := by simpa using e0
          by_cases e1 : fa ≤ t.n
          · have f1 : decide (fa ≤ t.n) = true := by simpa using e1
            obtain rfl : p = true := HP.out.2 ⟨e0, e1⟩
            clear e0 e1
            go_wp2_with fail
            go_meet
            case rel => exact ⟨rfl, rfl⟩
          · have f1 : decide (fa ≤ t.n) = false := by simpa using e1
            obtain rfl : p = false := by cases p; rfl; exact absurd (HP.out.1 rfl).2 e1
            clear e0 e1
            go_wp2_with fail
            go_meet
            case rel => exact ⟨rfl, rfl⟩
        · have f0 : (t.op == 0) = false := by simpa using e0
          obtain rfl : p = false := by cases p; rfl; exact absurd (HP.out.1 rfl).1 e0
          clear e0
          go_wp2_with fail
          go_meet
          case rel => exact ⟨rfl, rfl⟩
      case rest =>
        obtain ⟨rfl, hwd⟩ := hcut
        subst hwd
        go_upto_if 25 with fail
        go_cut [7] from 26 (fun s7 we => s7 = .pointer (some ⟨C, 0, none⟩) ∧ TB Wa we C t.op n' t.ty a' c' [] none 0 (fun _ => ⟨none, 0, none, 0⟩) [] (fun _ _ => False))
        case first =>
          cases p with
          | false =>
            go_wp2_with fail
            go_meet
            case rel =>
              have e : n' = t.n := by rw [HN.out, if_neg]; exact fun q => by have := HP.out.2 ⟨q.1, by rw [HFA.out]; exact q.2⟩; cases this
              rw [e]
              exact ⟨rfl, HT0.out⟩
          | true =>
            have hq := HP.out.1 rfl
            have hnv := HNV.out hq.1
            have e : n' = t.n + by' := by rw [HN.out, if_pos]; exact ⟨hq.1, by rw [← HFA.out]; exact hq.2⟩
            have HE := Lib.hid e
            clear e hq
            have k1 := blk_cell HT0.out.box 1
            have k2 := blk_free HT0.out.box 1
            simp at k1
            go_wp2_with fail
            go_meet
            case rel =>
              rw [HE.out]
              exact ⟨rfl, HT0.out.setN rfl⟩
        case rest =>
          obtain ⟨rfl, T0⟩ := hcut
          clear m0 m1 HT0 HNV HP belc
          obtain ⟨wl, hwl⟩ : ∃ wl : World, wl = wc := ⟨_, rfl⟩
          rw [← hwl] at T0 ⊢
          clear hwl
          go_wp2_with fail
          go_loopw [8] (fun iz wr => ∃ (k : Nat) (b' : Option Addr) (d' : Nat) (kq : Nat → TV) (xq : List Value) (KB : Nat → Nat → Prop), iz = .int .i64 k ∧ k ≤ t.kids.length ∧ TB Wa wr C t.op n' t.ty a' c' (Tm.rvL (shf by' from') t.op a 0 (t.kids.take k)) b' d' kq xq KB) (fun i _ => t.kids.length - (intOf i).toNat)
          case atStart => exact ⟨0, _, _, _, _, _, rfl, by omega, by simpa [Tm.rvL] using T0⟩
          case round =>
            obtain ⟨k, b', d', kq, xq, KB, rfl, hk, T⟩ := hrel
            have bWr := T.bel
            have m3 := d3 ⟨wr, bWr⟩
            by_cases hlt : k < t.kids.length
            · have hlt' : (k : Int) < (t.kids.length : Int) := by omega
              have hk0 : (0 : Int) ≤ (k : Int) := by omega
              obtain ⟨kid, hkid⟩ : ∃ kid, t.kids[k]? = some kid := ⟨_, List.getElem?_eq_getElem hlt⟩
              have hmem : kid ∈ t.kids := List.mem_of_getElem? hkid
              have HKID := Lib.hid hkid
              obtain ⟨b0, o0, hrb, K⟩ := A.kid k kid hkid
              have hsub := A.sub k kid hkid
              dsimp only at hrb
              subst hrb
              have KEEP : Hid (∀ w' : World, Below Wa.heap.size Wa w' → w'.cell? ⟨B, 0, none⟩ = some (.int .i64 t.op) ∧ w'.cell? ⟨B, 3, none⟩ = some (.slice (some ⟨b0, o0, none⟩) t.kids.length rd) ∧ w'.cell? ⟨b0, o0 + k * 4, none⟩ = some (.int .i64 kid.op) ∧ w'.cell? ⟨b0, o0 + k * 4 + 1, none⟩ = some (.int .i64 kid.n) ∧ w'.cell? ⟨b0, o0 + k * 4 + 2, none⟩ = some (.slice (kr0 k).a kid.ty.length (kr0 k).c) ∧ w'.cell? ⟨b0, o0 + k * 4 + 3, none⟩ = some (.slice (kr0 k).b kid.kids.length (kr0 k).d)) := fun w' b => ⟨d0' ⟨w', b⟩, d3 ⟨w', b⟩, (Ext.mk w' b).cell K.c0, (Ext.mk w' b).cell K.c1, (Ext.mk w' b).cell K.c2, (Ext.mk w' b).cell K.c3⟩
              obtain ⟨ks, hks⟩ : ∃ ks, ks = Tm.rvL (shf by' from') t.op a 0 (t.kids.take k) := ⟨_, rfl⟩
              have hkl : ks.length = k := by rw [hks, Tm.rvL_len, List.length_take]; omega
              have hkl3 : ks.length ≤ 3 := by omega
              have HKS := Lib.hid hks
              rw [← hks] at T
              clear hks hkl K hkid
              have hszk : kid.sz + 1 ≤ t.sz := Tm.sz_kid hmem
              have hadd0 := addsO_ge t.op k
              have hadd2 := addsO_le t.op k
              obtain ⟨ad, had⟩ : ∃ ad, ad = addsO t.op k := ⟨_, rfl⟩
              have HAD := Lib.hid had
              rw [← had] at hadd0 hadd2
              clear had
              obtain ⟨u, hu⟩ : ∃ u, u = kid.rv (shf by' from') (a + ad) := ⟨_, rfl⟩
              have HU := Lib.hid hu
              clear hu
              have hok : OkT size closed (vars + ad) kid := by rw [HAD.out]; exact ok.kid HKID.out
              have CC : Hid (∀ w', Below wr.heap.size wr w' → Calls Tryd.prog 31 #[.agg #[.int .i64 kid.op, .int .i64 kid.n, .slice (kr0 k).a kid.ty.length (kr0 k).c, .slice (kr0 k).b kid.kids.length (kr0 k).d], .int .i64 by', .int .i64 (fa + ad)] w' (NewTmO w' u)) := fun w' b => by
                have b2 := bWr.trans (b.mono bWr.size)
                have hz : kid.sz ≤ 1000 := by omega
                have he : fa + ad = from' + (a + ad) := by rw [HFA.out]; omega
                rw [he, HU.out]
                exact HI.out kid hmem (hsub.ext ⟨w', b2⟩) hok hz (by omega) by' from' hb0 hb1 hf0 (a + ad) (by omega) (by rw [← he]; omega) (Ext.self w')
              have ADDS : Hid (∀ w', Below wr.heap.size wr w' → Calls Tryd.prog 65 #[.int .i64 t.op, .int .i64 k] w' (Ans w' (.int .i64 ad))) := fun w' b => by
                have b2 := bWr.trans (b.mono bWr.size)
                rw [HAD.out]
                exact l2Adds_ans (W := w') t.op h13 k (by omega) (Ext.self w')
              have c3 : ∀ w', Below wr.heap.size wr w' → w'.cell? ⟨C, 3, none⟩ = some (.slice b' ks.length d') := fun w' b => T.cells.2.2.2 ⟨w', b⟩
              have c30 := c3 wr (Below.refl _ _)
              have ROW : Hid (∀ w', Below wr.heap.size wr w' → w'.ownsRow 0 29 4 (.slice b' ks.length d') ks.length xq) := fun w' b => owns_ext T.kids.row ⟨w', b⟩
              have hClo := T.lo
              have HKC : Hid (∀ (w0 w1 : World), Below wr.heap.size wr w0 → w0.grownBy w1 (Value.slice b' ks.length d').ownBlock → w1.cell? ⟨C, 3, none⟩ = some (.slice b' ks.length d') ∧ w1.frozen? ⟨C, 3, none⟩ = false) := fun w0 w1 b gr => by
                have hb : some C ≠ (Value.slice b' ks.length d').ownBlock := by rw [ob_eq]; exact fun e => (T.lk C (.inl e.symm)).2 rfl
                have mC : w1.heap[C]? = some (boxT t.op n' a' t.ty.length c' b' ks.length d') := (gr.block C (Nat.lt_of_lt_of_le T.cLt b.size) hb).trans ((Ext.mk w0 b).blk T.box)
                exact ⟨blk_cell mC 3, blk_free mC 3⟩
              have HB1 : Hid (∀ (w0 w1 : World), Below wr.heap.size wr w0 → w0.grownBy w1 (Value.slice b' ks.length d').ownBlock → Below Wa.heap.size Wa w1) := fun w0 w1 b gr =>
                (bWr.trans (b.mono bWr.size)).grown gr (Nat.le_trans bWr.size b.size) (fun g e => by rw [ob_eq] at e; exact (T.lk g (.inl e)).1)
              have HT := Lib.hid T
              clear T hok hmem hsub
              have hmx : ks.length + 1 ≤ maxLen := by unfold maxLen; omega
              have hbx : (ks.length + 1) * 64 ≤ 140737488355328 := by omega
              have wad : IntKind.i64.wrap (fa + ad) = fa + ad := wrap_in (by omega) (by omega)
              go_upto_region 7 with fail
              refine wp_region_noPanic ?_
              refine wp_region_held_drew (S := (fun w' => w'.cell? ⟨B, 0, none⟩ = some (.int .i64 t.op) ∧ w'.cell? ⟨B, 3, none⟩ = some (.slice (some ⟨b0, o0, none⟩) t.kids.length rd) ∧ w'.cell? ⟨b0, o0 + k * 4, none⟩ = some (.int .i64 kid.op) ∧ w'.cell? ⟨b0, o0 + k * 4 + 1, none⟩ = some (.int .i64 kid.n) ∧ w'.cell? ⟨b0, o0 + k * 4 + 2, none⟩ = some (.slice (kr0 k).a kid.ty.length (kr0 k).c) ∧ w'.cell? ⟨b0, o0 + k * 4 + 3, none⟩ = some (.slice (kr0 k).b kid.kids.length (kr0 k).d))) (by kernel_rfl) ?_ (fun hHeld => ?_)
              · (try dsimp only)
                refine KEEP.out _ ?_
                (repeat (first | exact Below.refl _ _ | exact bW1 | exact bWr | exact b1 | refine Below.setCell ?_ hClo _ | refine below_alloc ?_ _ | refine below_drew ?_ | refine below_ext ?_ _))
              refine wpAnyH_take (i := 0) (v := ?_) rfl (by kernel_rfl) (by kernel_rfl) (by kernel_rfl) (fun _ _ _ h => h) (Or.inl ⟨by rfl, ?_⟩) hHeld ?_
              rotate_left
              · intro w hSw; (try dsimp only at hSw); (try simp only [List.getElem_toArray, List.getElem_cons_zero]); first | (go_simp; done) | (go_simp; with_reducible rfl)
              try simp only [List.getElem_toArray, List.getElem_cons_zero, Act.put, List.setIfInBounds_toArray, List.set_cons_zero, List.set_cons_succ]
              refine wpAnyH_take (i := 2) (v := ?_) rfl (by kernel_rfl) (by kernel_rfl) (by kernel_rfl) (fun _ _ _ h => h) (Or.inl ⟨by rfl, ?_⟩) hHeld ?_
              rotate_left
              · intro w hSw; (try dsimp only at hSw); (try simp only [List.getElem_toArray, List.getElem_cons_succ, List.getElem_cons_zero]); first | (go_simp; done) | (go_simp; with_reducible rfl)
              try simp only [List.getElem_toArray, List.getElem_cons_succ, List.getElem_cons_zero, Act.put, List.setIfInBounds_toArray, List.set_cons_zero, List.set_cons_succ]
              refine wpAnyH_take (i := 3) (v := ?_) rfl (by kernel_rfl) (by kernel_rfl) (by kernel_rfl) (fun _ _ _ h => h) (Or.inl ⟨by rfl, ?_⟩) hHeld ?_
              rotate_left
              · intro w hSw; (try dsimp only at hSw); (try simp only [List.getElem_toArray, List.getElem_cons_succ, List.getElem_cons_zero]); first | (go_simp; done) | (go_simp; with_reducible rfl)
              try simp only [List.getElem_toArray, List.getElem_cons_succ, List.getElem_cons_zero, Act.put, List.setIfInBounds_toArray, List.set_cons_zero, List.set_cons_succ]
              refine wpAnyH_take (i := 4) (v := ?_) rfl (by kernel_rfl) (by kernel_rfl) (by kernel_rfl) (fun _ _ _ h => h) (Or.inl ⟨by rfl, ?_⟩) hHeld ?_
              rotate_left
              · intro w hSw; (try dsimp only at hSw); (try simp only [List.getElem_toArray, List.getElem_cons_succ, List.getElem_cons_zero]); first | (go_simp; done) | (go_simp; with_reducible rfl)
              try simp only [List.getElem_toArray, List.getElem_cons_succ, List.getElem_cons_zero, Act.put, List.setIfInBounds_toArray, List.set_cons_zero, List.set_cons_succ]
              refine wpAnyH_take (i := 5) (v := ?_) rfl (by kernel_rfl) (by kernel_rfl) (by kernel_rfl) (fun _ _ _ h => h) (Or.inl ⟨by rfl, ?_⟩) hHeld ?_
              rotate_left
              · intro w hSw; (try dsimp only at hSw); (try simp only [List.getElem_toArray, List.getElem_cons_succ, List.getElem_cons_zero]); first | (go_simp; done) | (go_simp; with_reducible rfl)
              try simp only [List.getElem_toArray, List.getElem_cons_succ, List.getElem_cons_zero, Act.put, List.setIfInBounds_toArray, List.set_cons_zero, List.set_cons_succ]
              refine wpAnyH_take (i := 6) (v := ?_) rfl (by kernel_rfl) (by kernel_rfl) (by kernel_rfl) (fun _ _ _ h => h) (Or.inl ⟨by rfl, ?_⟩) hHeld ?_
              rotate_left
              · intro w hSw; (try dsimp only at hSw); (try simp only [List.getElem_toArray, List.getElem_cons_succ, List.getElem_cons_zero]); first | (go_simp; done) | (go_simp; with_reducible rfl)
              try simp only [List.getElem_toArray, List.getElem_cons_succ, List.getElem_cons_zero, Act.put, List.setIfInBounds_toArray, List.set_cons_zero, List.set_cons_succ]
              refine wpAnyH_take (i := 7) (v := ?_) rfl (by kernel_rfl) (by kernel_rfl) (by kernel_rfl) (fun _ _ _ h => h) (Or.inl ⟨by rfl, ?_⟩) hHeld ?_
              rotate_left
              · intro w hSw; (try dsimp only at hSw); (try simp only [List.getElem_toArray, List.getElem_cons_succ, List.getElem_cons_zero]); first | (go_simp; done) | (go_simp; with_reducible rfl)
              try simp only [List.getElem_toArray, List.getElem_cons_succ, List.getElem_cons_zero, Act.put, List.setIfInBounds_toArray, List.set_cons_zero, List.set_cons_succ]
              refine wpAnyH_take (i := 8) (v := ?_) rfl (by kernel_rfl) (by kernel_rfl) (by kernel_rfl) (fun _ _ _ h => h) (Or.inl ⟨by rfl, ?_⟩) hHeld ?_
              rotate_left
              · intro w hSw; (try dsimp only at hSw); (try simp only [List.getElem_toArray, List.getElem_cons_succ, List.getElem_cons_zero]); first | (go_simp; done) | (go_simp; with_reducible rfl)
              try simp only [List.getElem_toArray, List.getElem_cons_succ, List.getElem_cons_zero, Act.put, List.setIfInBounds_toArray, List.set_cons_zero, List.set_cons_succ]
              refine wpAnyH_take (i := 9) (v := ?_) rfl (by kernel_rfl) (by kernel_rfl) (by kernel_rfl) (fun _ _ _ h => h) (Or.inl ⟨by rfl, ?_⟩) hHeld ?_
              rotate_left
              · intro w hSw; (try dsimp only at hSw); (try simp only [List.getElem_toArray, List.getElem_cons_succ, List.getElem_cons_zero]); first | (go_simp; done) | (go_simp; with_reducible rfl)
              try simp only [List.getElem_toArray, List.getElem_cons_succ, List.getElem_cons_zero, Act.put, List.setIfInBounds_toArray, List.set_cons_zero, List.set_cons_succ]
              refine wpAnyH_take (i := 10) (v := ?_) rfl (by kernel_rfl) (by kernel_rfl) (by kernel_rfl) (fun _ _ _ h => h) (Or.inl ⟨by rfl, ?_⟩) hHeld ?_
              rotate_left
              · intro w hSw; (try dsimp only at hSw); (try simp only [List.getElem_toArray, List.getElem_cons_succ, List.getElem_cons_zero]); first | (go_simp; done) | (go_simp; with_reducible rfl)
              try simp only [List.getElem_toArray, List.getElem_cons_succ, List.getElem_cons_zero, Act.put, List.setIfInBounds_toArray, List.set_cons_zero, List.set_cons_succ]
              refine wpAnyH_take (i := 11) (v := ?_) rfl (by kernel_rfl) (by kernel_rfl) (by kernel_rfl) (fun _ _ _ h => h) (Or.inl ⟨by rfl, ?_⟩) hHeld ?_
              rotate_left
              · intro w hSw; (try dsimp only at hSw); (try simp only [List.getElem_toArray, List.getElem_cons_succ, List.getElem_cons_zero]); first | (go_simp; done) | (go_simp; with_reducible rfl)
              try simp only [List.getElem_toArray, List.getElem_cons_succ, List.getElem_cons_zero, Act.put, List.setIfInBounds_toArray, List.set_cons_zero, List.set_cons_succ]
              refine wpAnyH_ready (rs := [1, 12]) (by kernel_rfl) (by simp) ?_
              refine AllReadyH.cons rfl (fun K hK => ?_) ?_
              · skip
                try simp only [List.getElem_toArray, List.getElem_cons_succ, List.getElem_cons_zero]
                go_simp
                refine hK.out _ _ ?_ (fun hHeld2 => ?_)
                · (try dsimp only)
                  refine KEEP.out _ ?_
                  (repeat (first | exact Below.refl _ _ | exact bW1 | exact bWr | exact b1 | refine Below.setCell ?_ hClo _ | refine below_alloc ?_ _ | refine below_drew ?_ | refine below_ext ?_ _))
                clear hK K hHeld
                have hHeld := hHeld2
                clear hHeld2
                try simp only [List.getElem_toArray, List.getElem_cons_succ, List.getElem_cons_zero, Act.put, List.setIfInBounds_toArray, List.set_cons_zero, List.set_cons_succ]
                refine wpAnyH_ready (rs := [12]) (by kernel_rfl) (by simp) ?_
                refine AllReadyH.cons rfl (fun K hK => ?_) ?_
                · skip
                  try simp only [List.getElem_toArray, List.getElem_cons_succ, List.getElem_cons_zero]
                  go_simp
                  refine Calls.mono (ADDS.out _ (by (repeat (first | exact Below.refl _ _ | exact bR1 | refine below_alloc ?_ _ | refine below_drew ?_ | refine below_ext ?_ _)))) ?_
                  rintro e w' ⟨rfl, y0, rfl⟩
                  have c31 := c3 _ (by (repeat (first | exact Below.refl _ _ | exact bR1 | refine below_alloc ?_ _ | refine below_drew ?_ | refine below_ext ?_ _)) : Below wr.heap.size wr y0.w)
                  (try dsimp only)
                  refine hK.out _ _ ?_ (fun hHeld2 => ?_)
                  · (try dsimp only)
                    refine KEEP.out _ ?_
                    (repeat (first | exact Below.refl _ _ | exact bW1 | exact bWr | exact b1 | refine Below.setCell ?_ hClo _ | refine below_alloc ?_ _ | refine below_drew ?_ | refine below_ext ?_ _))
                  clear hK K hHeld
                  have hHeld := hHeld2
                  clear hHeld2
                  try simp only [List.getElem_toArray, List.getElem_cons_succ, List.getElem_cons_zero, Act.put, List.setIfInBounds_toArray, List.set_cons_zero, List.set_cons_succ]
                  refine wpAnyH_take (i := 13) (v := ?_) rfl (by kernel_rfl) (by kernel_rfl) (by kernel_rfl) (fun _ _ _ h => h) (Or.inl ⟨by rfl, ?_⟩) hHeld ?_
                  rotate_left
                  · intro w hSw; (try dsimp only at hSw); (try simp only [List.getElem_toArray, List.getElem_cons_succ, List.getElem_cons_zero]); first | (go_simp; done) | (go_simp; with_reducible rfl)
                  try simp only [List.getElem_toArray, List.getElem_cons_succ, List.getElem_cons_zero, Act.put, List.setIfInBounds_toArray, List.set_cons_zero, List.set_cons_succ]
                  refine wpAnyH_ready (rs := [14]) (by kernel_rfl) (by simp) ?_
                  refine AllReadyH.cons rfl (fun K hK => ?_) ?_
                  · skip
                    try simp only [List.getElem_toArray, List.getElem_cons_succ, List.getElem_cons_zero]
                    go_simp
                    refine Calls.mono (CC.out _ (by (repeat (first | exact Below.refl _ _ | exact bR1 | refine below_alloc ?_ _ | refine below_drew ?_ | refine below_ext ?_ _)))) ?_
                    rintro e w' ⟨r', NB, y1, rfl, rfl, hnew, hlo⟩
                    have c32 := c3 _ (by (repeat (first | exact Below.refl _ _ | exact bR1 | refine below_alloc ?_ _ | refine below_drew ?_ | refine below_ext ?_ _)) : Below wr.heap.size wr y1.w)
                    have c33 := fun o => c3 _ (by (repeat (first | exact Below.refl _ _ | exact bR1 | refine below_alloc ?_ _ | refine below_drew ?_ | refine below_ext ?_ _)) : Below wr.heap.size wr (y1.w.alloc o))
                    (try dsimp only)
                    refine hK.out _ _ ?_ (fun hHeld2 => ?_)
                    · (try dsimp only)
                      refine KEEP.out _ ?_
                      (repeat (first | exact Below.refl _ _ | exact bW1 | exact bWr | exact b1 | refine Below.setCell ?_ hClo _ | refine below_alloc ?_ _ | refine below_drew ?_ | refine below_ext ?_ _))
                    clear hK K hHeld
                    have hHeld := hHeld2
                    clear hHeld2
                    try simp only [List.getElem_toArray, List.getElem_cons_succ, List.getElem_cons_zero, Act.put, List.setIfInBounds_toArray, List.set_cons_zero, List.set_cons_succ]
                    refine wpAnyH_ready (rs := [15]) (by kernel_rfl) (by simp) ?_
                    refine AllReadyH.cons rfl (fun K hK => ?_) ?_
                    · skip
                      try simp only [List.getElem_toArray, List.getElem_cons_succ, List.getElem_cons_zero]
                      go_simp
                      refine hK.out _ _ ?_ (fun hHeld2 => ?_)
                      · (try dsimp only)
                        refine KEEP.out _ ?_
                        (repeat (first | exact Below.refl _ _ | exact bW1 | exact bWr | exact b1 | refine Below.setCell ?_ hClo _ | refine below_alloc ?_ _ | refine below_drew ?_ | refine below_ext ?_ _))
                      clear hK K hHeld
                      have hHeld := hHeld2
                      clear hHeld2
                      try simp only [List.getElem_toArray, List.getElem_cons_succ, List.getElem_cons_zero, Act.put, List.setIfInBounds_toArray, List.set_cons_zero, List.set_cons_succ]
                      refine wpAnyH_ready (rs := [16]) (by kernel_rfl) (by simp) ?_
                      refine AllReadyH.cons rfl (fun K hK => ?_) ?_
                      · skip
                        refine step_app_src (by rfl) _ _ 27 (by rfl) 0 29 iT (.agg #[.int .i64 0, .int .i64 0, .slice none 0 0, .slice none 0 0]) 4 64 Tryd.underlying27 hiT hzT0 hzT1 hzT2 rfl (by decide) (.slice b' ks.length d') ks.length xq (by rfl) (ROW.out _ (by (repeat (first | exact Below.refl _ _ | exact bR1 | refine below_alloc ?_ _ | refine below_drew ?_ | refine below_ext ?_ _)))) (some ⟨y1.w.heap.size, 0, none⟩) 1 1 [.int .i64 u.op, .int .i64 u.n, .slice r'.a u.ty.length r'.c, .slice r'.b u.kids.length r'.d] (by rfl) ⟨rfl, four_one _ _ _ _ rfl rfl rfl rfl, .inr ⟨_, rfl, cell_four_at _ _ _ _ _ _ _ rfl⟩⟩ hmx hbx (Nat.zero_le _) ?_
                        intro A2 c2 w1 own1 gr1 hat1
                        obtain ⟨kc3, kf3⟩ := HKC.out _ _ (by (repeat (first | exact Below.refl _ _ | exact bR1 | refine below_alloc ?_ _ | refine below_drew ?_ | refine below_ext ?_ _))) gr1
                        have b1 := HB1.out _ _ (by (repeat (first | exact Below.refl _ _ | exact bR1 | refine below_alloc ?_ _ | refine below_drew ?_ | refine below_ext ?_ _))) gr1
                        refine hK.out _ _ ?_ (fun hHeld2 => ?_)
                        · (try dsimp only)
                          refine KEEP.out _ ?_
                          (repeat (first | exact Below.refl _ _ | exact bW1 | exact bWr | exact b1 | refine Below.setCell ?_ hClo _ | refine below_alloc ?_ _ | refine below_drew ?_ | refine below_ext ?_ _))
                        clear hK K hHeld
                        have hHeld := hHeld2
                        clear hHeld2
                        try simp only [List.getElem_toArray, List.getElem_cons_succ, List.getElem_cons_zero, Act.put, List.setIfInBounds_toArray, List.set_cons_zero, List.set_cons_succ]
                        refine wpAnyH_take (i := 17) (v := ?_) rfl (by kernel_rfl) (by kernel_rfl) (by kernel_rfl) (fun _ _ _ h => h) (Or.inl ⟨by rfl, ?_⟩) hHeld ?_
                        rotate_left
                        · intro w hSw; (try dsimp only at hSw); (try simp only [List.getElem_toArray, List.getElem_cons_succ, List.getElem_cons_zero]); first | (go_simp; done) | (go_simp; with_reducible rfl)
                        try simp only [List.getElem_toArray, List.getElem_cons_succ, List.getElem_cons_zero, Act.put, List.setIfInBounds_toArray, List.set_cons_zero, List.set_cons_succ]
                        refine wpAnyH_ready (rs := [18]) (by kernel_rfl) (by simp) ?_
                        refine AllReadyH.cons rfl (fun K hK => ?_) ?_
                        · skip
                          try simp only [List.getElem_toArray, List.getElem_cons_succ, List.getElem_cons_zero]
                          go_simp
                          refine hK.out _ _ ?_ (fun hHeld2 => ?_)
                          · (try dsimp only)
                            refine KEEP.out _ ?_
                            (repeat (first | exact Below.refl _ _ | exact bW1 | exact bWr | exact b1 | refine Below.setCell ?_ hClo _ | refine below_alloc ?_ _ | refine below_drew ?_ | refine below_ext ?_ _))
                          clear hK K hHeld
                          have hHeld := hHeld2
                          clear hHeld2
                          try simp only [List.getElem_toArray, List.getElem_cons_succ, List.getElem_cons_zero, Act.put, List.setIfInBounds_toArray, List.set_cons_zero, List.set_cons_succ]
                          refine wpAnyH_done (by kernel_rfl) ?_ _
                          refine NoPanic.normal ?_
                          clear wad
                          go_wp2_with fail
                          go_roundw
                          case rel =>
                            rw [ob_eq] at gr1
                            rw [ob_eq b'] at hat1
                            obtain ⟨b2, d2, kr2, xs2, KB2, hv2, T2⟩ := HT.out.snoc (⟨y1.w.alloc _, by (repeat (first | exact Below.refl _ _ | exact bR1 | refine below_alloc ?_ _ | refine below_drew ?_ | refine below_ext ?_ _))⟩) (hnew.ext ((Ext.self y1.w).alloc _)) (fun g hg => by have q1 := hlo g hg; have q2 := y0.size; simp at q2; omega) own1 gr1 hat1 rfl
                            refine ⟨k + 1, b2, d2, kr2, xs2, KB2, by go_num, by omega, ?_⟩
                            rw [Tm.rvL_take_succ _ _ _ HKID.out, Nat.zero_add, ← HAD.out, ← HKS.out, ← HU.out]
                            exact T2
                          case measure => simp [intOf]; omega
                        exact AllReadyH.nil
                      exact AllReadyH.nil
                    exact AllReadyH.nil
                  exact AllReadyH.nil
                exact AllReadyH.nil
              refine AllReadyH.cons rfl (fun K hK => ?_) ?_
              · skip
                try simp only [List.getElem_toArray, List.getElem_cons_succ, List.getElem_cons_zero]
                go_simp
                refine Calls.mono (ADDS.out _ (by (repeat (first | exact Below.refl _ _ | exact bR1 | refine below_alloc ?_ _ | refine below_drew ?_ | refine below_ext ?_ _)))) ?_
                rintro e w' ⟨rfl, y0, rfl⟩
                have c31 := c3 _ (by (repeat (first | exact Below.refl _ _ | exact bR1 | refine below_alloc ?_ _ | refine below_drew ?_ | refine below_ext ?_ _)) : Below wr.heap.size wr y0.w)
                (try dsimp only)
                refine hK.out _ _ ?_ (fun hHeld2 => ?_)
                · (try dsimp only)
                  refine KEEP.out _ ?_
                  (repeat (first | exact Below.refl _ _ | exact bW1 | exact bWr | exact b1 | refine Below.setCell ?_ hClo _ | refine below_alloc ?_ _ | refine below_drew ?_ | refine below_ext ?_ _))
                clear hK K hHeld
                have hHeld := hHeld2
                clear hHeld2
                try simp only [List.getElem_toArray, List.getElem_cons_succ, List.getElem_cons_zero, Act.put, List.setIfInBounds_toArray, List.set_cons_zero, List.set_cons_succ]
                refine wpAnyH_take (i := 13) (v := ?_) rfl (by kernel_rfl) (by kernel_rfl) (by kernel_rfl) (fun _ _ _ h => h) (Or.inl ⟨by rfl, ?_⟩) hHeld ?_
                rotate_left
                · intro w hSw; (try dsimp only at hSw); (try simp only [List.getElem_toArray, List.getElem_cons_succ, List.getElem_cons_zero]); first | (go_simp; done) | (go_simp; with_reducible rfl)
                try simp only [List.getElem_toArray, List.getElem_cons_succ, List.getElem_cons_zero, Act.put, List.setIfInBounds_toArray, List.set_cons_zero, List.set_cons_succ]
                refine wpAnyH_ready (rs := [1, 14]) (by kernel_rfl) (by simp) ?_
                refine AllReadyH.cons rfl (fun K hK => ?_) ?_
                · skip
                  try simp only [List.getElem_toArray, List.getElem_cons_succ, List.getElem_cons_zero]
                  go_simp
                  refine hK.out _ _ ?_ (fun hHeld2 => ?_)
                  · (try dsimp only)
                    refine KEEP.out _ ?_
                    (repeat (first | exact Below.refl _ _ | exact bW1 | exact bWr | exact b1 | refine Below.setCell ?_ hClo _ | refine below_alloc ?_ _ | refine below_drew ?_ | refine below_ext ?_ _))
                  clear hK K hHeld
                  have hHeld := hHeld2
                  clear hHeld2
                  try simp only [List.getElem_toArray, List.getElem_cons_succ, List.getElem_cons_zero, Act.put, List.setIfInBounds_toArray, List.set_cons_zero, List.set_cons_succ]
                  refine wpAnyH_ready (rs := [14]) (by kernel_rfl) (by simp) ?_
                  refine AllReadyH.cons rfl (fun K hK => ?_) ?_
                  · skip
                    try simp only [List.getElem_toArray, List.getElem_cons_succ, List.getElem_cons_zero]
                    go_simp
                    refine Calls.mono (CC.out _ (by (repeat (first | exact Below.refl _ _ | exact bR1 | refine below_alloc ?_ _ | refine below_drew ?_ | refine below_ext ?_ _)))) ?_
                    rintro e w' ⟨r', NB, y1, rfl, rfl, hnew, hlo⟩
                    have c32 := c3 _ (by (repeat (first | exact Below.refl _ _ | exact bR1 | refine below_alloc ?_ _ | refine below_drew ?_ | refine below_ext ?_ _)) : Below wr.heap.size wr y1.w)
                    have c33 := fun o => c3 _ (by (repeat (first | exact Below.refl _ _ | exact bR1 | refine below_alloc ?_ _ | refine below_drew ?_ | refine below_ext ?_ _)) : Below wr.heap.size wr (y1.w.alloc o))
                    (try dsimp only)
                    refine hK.out _ _ ?_ (fun hHeld2 => ?_)
                    · (try dsimp only)
                      refine KEEP.out _ ?_
                      (repeat (first | exact Below.refl _ _ | exact bW1 | exact bWr | exact b1 | refine Below.setCell ?_ hClo _ | refine below_alloc ?_ _ | refine below_drew ?_ | refine below_ext ?_ _))
                    clear hK K hHeld
                    have hHeld := hHeld2
                    clear hHeld2
                    try simp only [List.getElem_toArray, List.getElem_cons_succ, List.getElem_cons_zero, Act.put, List.setIfInBounds_toArray, List.set_cons_zero, List.set_cons_succ]
                    refine wpAnyH_ready (rs := [15]) (by kernel_rfl) (by simp) ?_
                    refine AllReadyH.cons rfl (fun K hK => ?_) ?_
                    · skip
                      try simp only [List.getElem_toArray, List.getElem_cons_succ, List.getElem_cons_zero]
                      go_simp
                      refine hK.out _ _ ?_ (fun hHeld2 => ?_)
                      · (try dsimp only)
                        refine KEEP.out _ ?_
                        (repeat (first | exact Below.refl _ _ | exact bW1 | exact bWr | exact b1 | refine Below.setCell ?_ hClo _ | refine below_alloc ?_ _ | refine below_drew ?_ | refine below_ext ?_ _))
                      clear hK K hHeld
                      have hHeld := hHeld2
                      clear hHeld2
                      try simp only [List.getElem_toArray, List.getElem_cons_succ, List.getElem_cons_zero, Act.put, List.setIfInBounds_toArray, List.set_cons_zero, List.set_cons_succ]
                      refine wpAnyH_ready (rs := [16]) (by kernel_rfl) (by simp) ?_
                      refine AllReadyH.cons rfl (fun K hK => ?_) ?_
                      · skip
                        refine step_app_src (by rfl) _ _ 27 (by rfl) 0 29 iT (.agg #[.int .i64 0, .int .i64 0, .slice none 0 0, .slice none 0 0]) 4 64 Tryd.underlying27 hiT hzT0 hzT1 hzT2 rfl (by decide) (.slice b' ks.length d') ks.length xq (by rfl) (ROW.out _ (by (repeat (first | exact Below.refl _ _ | exact bR1 | refine below_alloc ?_ _ | refine below_drew ?_ | refine below_ext ?_ _)))) (some ⟨y1.w.heap.size, 0, none⟩) 1 1 [.int .i64 u.op, .int .i64 u.n, .slice r'.a u.ty.length r'.c, .slice r'.b u.kids.length r'.d] (by rfl) ⟨rfl, four_one _ _ _ _ rfl rfl rfl rfl, .inr ⟨_, rfl, cell_four_at _ _ _ _ _ _ _ rfl⟩⟩ hmx hbx (Nat.zero_le _) ?_
                        intro A2 c2 w1 own1 gr1 hat1
                        obtain ⟨kc3, kf3⟩ := HKC.out _ _ (by (repeat (first | exact Below.refl _ _ | exact bR1 | refine below_alloc ?_ _ | refine below_drew ?_ | refine below_ext ?_ _))) gr1
                        have b1 := HB1.out _ _ (by (repeat (first | exact Below.refl _ _ | exact bR1 | refine below_alloc ?_ _ | refine below_drew ?_ | refine below_ext ?_ _))) gr1
                        refine hK.out _ _ ?_ (fun hHeld2 => ?_)
                        · (try dsimp only)
                          refine KEEP.out _ ?_
                          (repeat (first | exact Below.refl _ _ | exact bW1 | exact bWr | exact b1 | refine Below.setCell ?_ hClo _ | refine below_alloc ?_ _ | refine below_drew ?_ | refine below_ext ?_ _))
                        clear hK K hHeld
                        have hHeld := hHeld2
                        clear hHeld2
                        try simp only [List.getElem_toArray, List.getElem_cons_succ, List.getElem_cons_zero, Act.put, List.setIfInBounds_toArray, List.set_cons_zero, List.set_cons_succ]
                        refine wpAnyH_take (i := 17) (v := ?_) rfl (by kernel_rfl) (by kernel_rfl) (by kernel_rfl) (fun _ _ _ h => h) (Or.inl ⟨by rfl, ?_⟩) hHeld ?_
                        rotate_left
                        · intro w hSw; (try dsimp only at hSw); (try simp only [List.getElem_toArray, List.getElem_cons_succ, List.getElem_cons_zero]); first | (go_simp; done) | (go_simp; with_reducible rfl)
                        try simp only [List.getElem_toArray, List.getElem_cons_succ, List.getElem_cons_zero, Act.put, List.setIfInBounds_toArray, List.set_cons_zero, List.set_cons_succ]
                        refine wpAnyH_ready (rs := [18]) (by kernel_rfl) (by simp) ?_
                        refine AllReadyH.cons rfl (fun K hK => ?_) ?_
                        · skip
                          try simp only [List.getElem_toArray, List.getElem_cons_succ, List.getElem_cons_zero]
                          go_simp
                          refine hK.out _ _ ?_ (fun hHeld2 => ?_)
                          · (try dsimp only)
                            refine KEEP.out _ ?_
                            (repeat (first | exact Below.refl _ _ | exact bW1 | exact bWr | exact b1 | refine Below.setCell ?_ hClo _ | refine below_alloc ?_ _ | refine below_drew ?_ | refine below_ext ?_ _))
                          clear hK K hHeld
                          have hHeld := hHeld2
                          clear hHeld2
                          try simp only [List.getElem_toArray, List.getElem_cons_succ, List.getElem_cons_zero, Act.put, List.setIfInBounds_toArray, List.set_cons_zero, List.set_cons_succ]
                          refine wpAnyH_done (by kernel_rfl) ?_ _
                          refine NoPanic.normal ?_
                          clear wad
                          go_wp2_with fail
                          go_roundw
                          case rel =>
                            rw [ob_eq] at gr1
                            rw [ob_eq b'] at hat1
                            obtain ⟨b2, d2, kr2, xs2, KB2, hv2, T2⟩ := HT.out.snoc (⟨y1.w.alloc _, by (repeat (first | exact Below.refl _ _ | exact bR1 | refine below_alloc ?_ _ | refine below_drew ?_ | refine below_ext ?_ _))⟩) (hnew.ext ((Ext.self y1.w).alloc _)) (fun g hg => by have q1 := hlo g hg; have q2 := y0.size; simp at q2; omega) own1 gr1 hat1 rfl
                            refine ⟨k + 1, b2, d2, kr2, xs2, KB2, by go_num, by omega, ?_⟩
                            rw [Tm.rvL_take_succ _ _ _ HKID.out, Nat.zero_add, ← HAD.out, ← HKS.out, ← HU.out]
                            exact T2
                          case measure => simp [intOf]; omega
                        exact AllReadyH.nil
                      exact AllReadyH.nil
                    exact AllReadyH.nil
                  exact AllReadyH.nil
                refine AllReadyH.cons rfl (fun K hK => ?_) ?_
                · skip
                  try simp only [List.getElem_toArray, List.getElem_cons_succ, List.getElem_cons_zero]
                  go_simp
                  refine Calls.mono (CC.out _ (by (repeat (first | exact Below.refl _ _ | exact bR1 | refine below_alloc ?_ _ | refine below_drew ?_ | refine below_ext ?_ _)))) ?_
                  rintro e w' ⟨r', NB, y1, rfl, rfl, hnew, hlo⟩
                  have c32 := c3 _ (by (repeat (first | exact Below.refl _ _ | exact bR1 | refine below_alloc ?_ _ | refine below_drew ?_ | refine below_ext ?_ _)) : Below wr.heap.size wr y1.w)
                  have c33 := fun o => c3 _ (by (repeat (first | exact Below.refl _ _ | exact bR1 | refine below_alloc ?_ _ | refine below_drew ?_ | refine below_ext ?_ _)) : Below wr.heap.size wr (y1.w.alloc o))
                  (try dsimp only)
                  refine hK.out _ _ ?_ (fun hHeld2 => ?_)
                  · (try dsimp only)
                    refine KEEP.out _ ?_
                    (repeat (first | exact Below.refl _ _ | exact bW1 | exact bWr | exact b1 | refine Below.setCell ?_ hClo _ | refine below_alloc ?_ _ | refine below_drew ?_ | refine below_ext ?_ _))
                  clear hK K hHeld
                  have hHeld := hHeld2
                  clear hHeld2
                  try simp only [List.getElem_toArray, List.getElem_cons_succ, List.getElem_cons_zero, Act.put, List.setIfInBounds_toArray, List.set_cons_zero, List.set_cons_succ]
                  refine wpAnyH_ready (rs := [1, 15]) (by kernel_rfl) (by simp) ?_
                  refine AllReadyH.cons rfl (fun K hK => ?_) ?_
                  · skip
                    try simp only [List.getElem_toArray, List.getElem_cons_succ, List.getElem_cons_zero]
                    go_simp
                    refine hK.out _ _ ?_ (fun hHeld2 => ?_)
                    · (try dsimp only)
                      refine KEEP.out _ ?_
                      (repeat (first | exact Below.refl _ _ | exact bW1 | exact bWr | exact b1 | refine Below.setCell ?_ hClo _ | refine below_alloc ?_ _ | refine below_drew ?_ | refine below_ext ?_ _))
                    clear hK K hHeld
                    have hHeld := hHeld2
                    clear hHeld2
                    try simp only [List.getElem_toArray, List.getElem_cons_succ, List.getElem_cons_zero, Act.put, List.setIfInBounds_toArray, List.set_cons_zero, List.set_cons_succ]
                    refine wpAnyH_ready (rs := [15]) (by kernel_rfl) (by simp) ?_
                    refine AllReadyH.cons rfl (fun K hK => ?_) ?_
                    · skip
                      try simp only [List.getElem_toArray, List.getElem_cons_succ, List.getElem_cons_zero]
                      go_simp
                      refine hK.out _ _ ?_ (fun hHeld2 => ?_)
                      · (try dsimp only)
                        refine KEEP.out _ ?_
                        (repeat (first | exact Below.refl _ _ | exact bW1 | exact bWr | exact b1 | refine Below.setCell ?_ hClo _ | refine below_alloc ?_ _ | refine below_drew ?_ | refine below_ext ?_ _))
                      clear hK K hHeld
                      have hHeld := hHeld2
                      clear hHeld2
                      try simp only [List.getElem_toArray, List.getElem_cons_succ, List.getElem_cons_zero, Act.put, List.setIfInBounds_toArray, List.set_cons_zero, List.set_cons_succ]
                      refine wpAnyH_ready (rs := [16]) (by kernel_rfl) (by simp) ?_
                      refine AllReadyH.cons rfl (fun K hK => ?_) ?_
                      · skip
                        refine step_app_src (by rfl) _ _ 27 (by rfl) 0 29 iT (.agg #[.int .i64 0, .int .i64 0, .slice none 0 0, .slice none 0 0]) 4 64 Tryd.underlying27 hiT hzT0 hzT1 hzT2 rfl (by decide) (.slice b' ks.length d') ks.length xq (by rfl) (ROW.out _ (by (repeat (first | exact Below.refl _ _ | exact bR1 | refine below_alloc ?_ _ | refine below_drew ?_ | refine below_ext ?_ _)))) (some ⟨y1.w.heap.size, 0, none⟩) 1 1 [.int .i64 u.op, .int .i64 u.n, .slice r'.a u.ty.length r'.c, .slice r'.b u.kids.length r'.d] (by rfl) ⟨rfl, four_one _ _ _ _ rfl rfl rfl rfl, .inr ⟨_, rfl, cell_four_at _ _ _ _ _ _ _ rfl⟩⟩ hmx hbx (Nat.zero_le _) ?_
                        intro A2 c2 w1 own1 gr1 hat1
                        obtain ⟨kc3, kf3⟩ := HKC.out _ _ (by (repeat (first | exact Below.refl _ _ | exact bR1 | refine below_alloc ?_ _ | refine below_drew ?_ | refine below_ext ?_ _))) gr1
                        have b1 := HB1.out _ _ (by (repeat (first | exact Below.refl _ _ | exact bR1 | refine below_alloc ?_ _ | refine below_drew ?_ | refine below_ext ?_ _))) gr1
                        refine hK.out _ _ ?_ (fun hHeld2 => ?_)
                        · (try dsimp only)
                          refine KEEP.out _ ?_
                          (repeat (first | exact Below.refl _ _ | exact bW1 | exact bWr | exact b1 | refine Below.setCell ?_ hClo _ | refine below_alloc ?_ _ | refine below_drew ?_ | refine below_ext ?_ _))
                        clear hK K hHeld
                        have hHeld := hHeld2
                        clear hHeld2
                        try simp only [List.getElem_toArray, List.getElem_cons_succ, List.getElem_cons_zero, Act.put, List.setIfInBounds_toArray, List.set_cons_zero, List.set_cons_succ]
                        refine wpAnyH_take (i := 17) (v := ?_) rfl (by kernel_rfl) (by kernel_rfl) (by kernel_rfl) (fun _ _ _ h => h) (Or.inl ⟨by rfl, ?_⟩) hHeld ?_
                        rotate_left
                        · intro w hSw; (try dsimp only at hSw); (try simp only [List.getElem_toArray, List.getElem_cons_succ, List.getElem_cons_zero]); first | (go_simp; done) | (go_simp; with_reducible rfl)
                        try simp only [List.getElem_toArray, List.getElem_cons_succ, List.getElem_cons_zero, Act.put, List.setIfInBounds_toArray, List.set_cons_zero, List.set_cons_succ]
                        refine wpAnyH_ready (rs := [18]) (by kernel_rfl) (by simp) ?_
                        refine AllReadyH.cons rfl (fun K hK => ?_) ?_
                        · skip
                          try simp only [List.getElem_toArray, List.getElem_cons_succ, List.getElem_cons_zero]
                          go_simp
                          refine hK.out _ _ ?_ (fun hHeld2 => ?_)
                          · (try dsimp only)
                            refine KEEP.out _ ?_
                            (repeat (first | exact Below.refl _ _ | exact bW1 | exact bWr | exact b1 | refine Below.setCell ?_ hClo _ | refine below_alloc ?_ _ | refine below_drew ?_ | refine below_ext ?_ _))
                          clear hK K hHeld
                          have hHeld := hHeld2
                          clear hHeld2
                          try simp only [List.getElem_toArray, List.getElem_cons_succ, List.getElem_cons_zero, Act.put, List.setIfInBounds_toArray, List.set_cons_zero, List.set_cons_succ]
                          refine wpAnyH_done (by kernel_rfl) ?_ _
                          refine NoPanic.normal ?_
                          clear wad
                          go_wp2_with fail
                          go_roundw
                          case rel =>
                            rw [ob_eq] at gr1
                            rw [ob_eq b'] at hat1
                            obtain ⟨b2, d2, kr2, xs2, KB2, hv2, T2⟩ := HT.out.snoc (⟨y1.w.alloc _, by (repeat (first | exact Below.refl _ _ | exact bR1 | refine below_alloc ?_ _ | refine below_drew ?_ | refine below_ext ?_ _))⟩) (hnew.ext ((Ext.self y1.w).alloc _)) (fun g hg => by have q1 := hlo g hg; have q2 := y0.size; simp at q2; omega) own1 gr1 hat1 rfl
                            refine ⟨k + 1, b2, d2, kr2, xs2, KB2, by go_num, by omega, ?_⟩
                            rw [Tm.rvL_take_succ _ _ _ HKID.out, Nat.zero_add, ← HAD.out, ← HKS.out, ← HU.out]
                            exact T2
                          case measure => simp [intOf]; omega
                        exact AllReadyH.nil
                      exact AllReadyH.nil
                    exact AllReadyH.nil
                  refine AllReadyH.cons rfl (fun K hK => ?_) ?_
                  · skip
                    try simp only [List.getElem_toArray, List.getElem_cons_succ, List.getElem_cons_zero]
                    go_simp
                    refine hK.out _ _ ?_ (fun hHeld2 => ?_)
                    · (try dsimp only)
                      refine KEEP.out _ ?_
                      (repeat (first | exact Below.refl _ _ | exact bW1 | exact bWr | exact b1 | refine Below.setCell ?_ hClo _ | refine below_alloc ?_ _ | refine below_drew ?_ | refine below_ext ?_ _))
                    clear hK K hHeld
                    have hHeld := hHeld2
                    clear hHeld2
                    try simp only [List.getElem_toArray, List.getElem_cons_succ, List.getElem_cons_zero, Act.put, List.setIfInBounds_toArray, List.set_cons_zero, List.set_cons_succ]
                    refine wpAnyH_ready (rs := [1]) (by kernel_rfl) (by simp) ?_
                    refine AllReadyH.cons rfl (fun K hK => ?_) ?_
                    · skip
                      try simp only [List.getElem_toArray, List.getElem_cons_succ, List.getElem_cons_zero]
                      go_simp
                      refine hK.out _ _ ?_ (fun hHeld2 => ?_)
                      · (try dsimp only)
                        refine KEEP.out _ ?_
                        (repeat (first | exact Below.refl _ _ | exact bW1 | exact bWr | exact b1 | refine Below.setCell ?_ hClo _ | refine below_alloc ?_ _ | refine below_drew ?_ | refine below_ext ?_ _))
                      clear hK K hHeld
                      have hHeld := hHeld2
                      clear hHeld2
                      try simp only [List.getElem_toArray, List.getElem_cons_succ, List.getElem_cons_zero, Act.put, List.setIfInBounds_toArray, List.set_cons_zero, List.set_cons_succ]
                      refine wpAnyH_ready (rs := [16]) (by kernel_rfl) (by simp) ?_
                      refine AllReadyH.cons rfl (fun K hK => ?_) ?_
                      · skip
                        refine step_app_src (by rfl) _ _ 27 (by rfl) 0 29 iT (.agg #[.int .i64 0, .int .i64 0, .slice none 0 0, .slice none 0 0]) 4 64 Tryd.underlying27 hiT hzT0 hzT1 hzT2 rfl (by decide) (.slice b' ks.length d') ks.length xq (by rfl) (ROW.out _ (by (repeat (first | exact Below.refl _ _ | exact bR1 | refine below_alloc ?_ _ | refine below_drew ?_ | refine below_ext ?_ _)))) (some ⟨y1.w.heap.size, 0, none⟩) 1 1 [.int .i64 u.op, .int .i64 u.n, .slice r'.a u.ty.length r'.c, .slice r'.b u.kids.length r'.d] (by rfl) ⟨rfl, four_one _ _ _ _ rfl rfl rfl rfl, .inr ⟨_, rfl, cell_four_at _ _ _ _ _ _ _ rfl⟩⟩ hmx hbx (Nat.zero_le _) ?_
                        intro A2 c2 w1 own1 gr1 hat1
                        obtain ⟨kc3, kf3⟩ := HKC.out _ _ (by (repeat (first | exact Below.refl _ _ | exact bR1 | refine below_alloc ?_ _ | refine below_drew ?_ | refine below_ext ?_ _))) gr1
                        have b1 := HB1.out _ _ (by (repeat (first | exact Below.refl _ _ | exact bR1 | refine below_alloc ?_ _ | refine below_drew ?_ | refine below_ext ?_ _))) gr1
                        refine hK.out _ _ ?_ (fun hHeld2 => ?_)
                        · (try dsimp only)
                          refine KEEP.out _ ?_
                          (repeat (first | exact Below.refl _ _ | exact bW1 | exact bWr | exact b1 | refine Below.setCell ?_ hClo _ | refine below_alloc ?_ _ | refine below_drew ?_ | refine below_ext ?_ _))
                        clear hK K hHeld
                        have hHeld := hHeld2
                        clear hHeld2
                        try simp only [List.getElem_toArray, List.getElem_cons_succ, List.getElem_cons_zero, Act.put, List.setIfInBounds_toArray, List.set_cons_zero, List.set_cons_succ]
                        refine wpAnyH_take (i := 17) (v := ?_) rfl (by kernel_rfl) (by kernel_rfl) (by kernel_rfl) (fun _ _ _ h => h) (Or.inl ⟨by rfl, ?_⟩) hHeld ?_
                        rotate_left
                        · intro w hSw; (try dsimp only at hSw); (try simp only [List.getElem_toArray, List.getElem_cons_succ, List.getElem_cons_zero]); first | (go_simp; done) | (go_simp; with_reducible rfl)
                        try simp only [List.getElem_toArray, List.getElem_cons_succ, List.getElem_cons_zero, Act.put, List.setIfInBounds_toArray, List.set_cons_zero, List.set_cons_succ]
                        refine wpAnyH_ready (rs := [18]) (by kernel_rfl) (by simp) ?_
                        refine AllReadyH.cons rfl (fun K hK => ?_) ?_
                        · skip
                          try simp only [List.getElem_toArray, List.getElem_cons_succ, List.getElem_cons_zero]
                          go_simp
                          refine hK.out _ _ ?_ (fun hHeld2 => ?_)
                          · (try dsimp only)
                            refine KEEP.out _ ?_
                            (repeat (first | exact Below.refl _ _ | exact bW1 | exact bWr | exact b1 | refine Below.setCell ?_ hClo _ | refine below_alloc ?_ _ | refine below_drew ?_ | refine below_ext ?_ _))
                          clear hK K hHeld
                          have hHeld := hHeld2
                          clear hHeld2
                          try simp only [List.getElem_toArray, List.getElem_cons_succ, List.getElem_cons_zero, Act.put, List.setIfInBounds_toArray, List.set_cons_zero, List.set_cons_succ]
                          refine wpAnyH_done (by kernel_rfl) ?_ _
                          refine NoPanic.normal ?_
                          clear wad
                          go_wp2_with fail
                          go_roundw
                          case rel =>
                            rw [ob_eq] at gr1
                            rw [ob_eq b'] at hat1
                            obtain ⟨b2, d2, kr2, xs2, KB2, hv2, T2⟩ := HT.out.snoc (⟨y1.w.alloc _, by (repeat (first | exact Below.refl _ _ | exact bR1 | refine below_alloc ?_ _ | refine below_drew ?_ | refine below_ext ?_ _))⟩) (hnew.ext ((Ext.self y1.w).alloc _)) (fun g hg => by have q1 := hlo g hg; have q2 := y0.size; simp at q2; omega) own1 gr1 hat1 rfl
                            refine ⟨k + 1, b2, d2, kr2, xs2, KB2, by go_num, by omega, ?_⟩
                            rw [Tm.rvL_take_succ _ _ _ HKID.out, Nat.zero_add, ← HAD.out, ← HKS.out, ← HU.out]
                            exact T2
                          case measure => simp [intOf]; omega
                        exact AllReadyH.nil
                      exact AllReadyH.nil
                    exact AllReadyH.nil
                  exact AllReadyH.nil
                exact AllReadyH.nil
              exact AllReadyH.nil
            · have hke : k = t.kids.length := by omega
              have hlt' : ¬ (k : Int) < (t.kids.length : Int) := by omega
              rw [hke, List.take_length] at T
              have bRr : wr.heap[B + 1]? = _ := (Ext.mk wr bWr).blk bR
              obtain ⟨ks, hks⟩ : ∃ ks, ks = Tm.rvL (shf by' from') t.op a 0 t.kids := ⟨_, rfl⟩
              rw [← hks] at T
              have HKS := Lib.hid hks
              have HKE := Lib.hid hke
              clear hks hke
              have c0 := blk_cell T.box 0
              have c1 := blk_cell T.box 1
              have c2 := blk_cell T.box 2
              have c3 := blk_cell T.box 3
              simp at c0 c1 c2 c3
              have n0 := blk_cell bRr 0
              have n1 := blk_cell bRr 1
              have n2 := blk_cell bRr 2
              have n3 := blk_cell bRr 3
              have p0 := blk_free bRr 0
              have p1 := blk_free bRr 1
              have p2 := blk_free bRr 2
              have p3 := blk_free bRr 3
              simp at n0 n1 n2 n3
              have HT := Lib.hid T
              have hsz2 : B + 1 < Wa.heap.size := hBW.2
              have belr := belA.trans (bWr.mono belA.size)
              clear T
              go_wp2
              clear n0 n1 n2 n3 p0 p1 p2 p3 c0 c1 c2 c3
              generalize hY4 : World.setCell _ _ _ = Y4
              obtain ⟨belD, hsame, hgr, r0, r1, r2, r3⟩ := ret4 (W := W) belr (by omega) bRr hY4
              refine bodyPost_ret (v := TV.val ⟨a', c', b', d'⟩ (.mk t.op n' t.ty ks)) (by simp [TV.val, Tm.op, Tm.n, Tm.ty, Tm.kids, results, Tryd.results31, go_sem, r0, r1, r2, r3]) rfl ?_
              obtain ⟨own, olo⟩ := HT.out.done hsame (.inl hsz2)
              have e : Tm.mk t.op n' t.ty ks = t.rv (shf by' from') a := by rw [HKS.out]; exact shf_node ok hf0 HN.out
              rw [← e]
              exact ⟨_, _, ⟨Y4, belD⟩, rfl, rfl, own, fun g hg => Nat.le_trans belA.size (olo g hg)⟩

end Go.Proofs.YtncfbljablbglaaDoor
