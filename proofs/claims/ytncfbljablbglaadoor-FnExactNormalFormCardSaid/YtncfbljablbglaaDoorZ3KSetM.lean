/- The model's putting of a term at a path. -/
import Derived.Test.YtncfbljablbglaaDoorZ3KShM
import Derived.Test.YtncfbljablbglaaDoorZ3GX0
import Derived.Test.YtncfbljablbglaaDoorZ3GQ
set_option linter.unusedVariables false
set_option linter.unusedSimpArgs false
namespace Go.Proofs.YtncfbljablbglaaDoor
open Go.RowKit

theorem row_tl {W : World} {b o : Nat} {k : Int} {p : List Int} (h : Row W (Value.int .i64) (some ⟨b, o, none⟩) (k :: p)) : Row W (Value.int .i64) (some ⟨b, o + 1, none⟩) p := by
  rcases h with h | ⟨b', o', e, h⟩
  · cases h
  · cases e
    refine .inr ⟨b, o + 1, rfl, fun i v hi => ?_⟩
    have := h (i + 1) v (by simpa using hi)
    rw [show o + 1 + i = o + (i + 1) by omega]
    exact this
theorem Tm.shf_id {size vars : Int} {closed : Bool} {t : Tm} (ok : OkT size closed vars t) : t.rv (shf 0 0) 0 = t := by
  rw [Tm.rv_congr (g := mvf 0) (V := vars) (fun j a h1 _ _ => Tm.shf_mvf 0 h1) t ok (Int.le_refl _) (by omega), Tm.rv_id t ok 0]
set_option maxRecDepth 100000 in
set_option maxHeartbeats 16000000 in
theorem l4Set_ans (p : List Int) : ∀ {W : World} {lo : Nat} {t : Tm} {r : TV} (_ : TmIn W lo t r) {size vars : Int} {closed : Bool} (_ : OkT size closed vars t) (_ : t.sz ≤ 1000) (_ : vars + 2 * (t.sz : Int) ≤ 50000)
    {v : Tm} {q : TV} (_ : Hid (∀ w', Below W.heap.size W w' → Calls Tryd.prog 31 #[q.val v, .int .i64 0, .int .i64 0] w' (NewTmO w' v))) {pa : Option Addr} {pc : Nat} (_ : Row W (Value.int .i64) pa p) (_ : p.length ≤ 1099511627776) (_ : p.length ≤ pc) (z : Tm) (_ : t.putP p v = some z) (x : Ext W),
    Calls Tryd.prog 106 #[r.val t, .slice pa p.length pc, q.val v] x.w (NewTmO W z) := by
  induction p with
  | nil =>
    intro W lo t r h size vars closed ok hsz hv v q HS pa pc hp hpl hcap z hput x
    cases hput
    obtain ⟨ra, rc, rb, rd⟩ := r
    obtain ⟨va, vc, vb, vd⟩ := q
    unfold TV.val
    go_enter Tryd.func106, Tryd.ntmps106
    go_upto_region 1 with fail
    have hxW := x.size
    generalize hWa : ((x.w.alloc _).alloc _).alloc _ = Wa
    generalize hB : x.w.heap.size = B at *
    obtain ⟨bA, bU, bR, sA, bel⟩ := blocks3 hB hWa
    have belA : Below W.heap.size W Wa := x.below.trans (bel.mono (by omega))
    clear hWa bel
    have f0 : ((([] : List Int).length : Int) == 0) = true := rfl
    have u0 := blk_cell bU 0
    have u1 := blk_cell bU 1
    have u2 := blk_cell bU 2
    have u3 := blk_cell bU 3
    simp at u0 u1 u2 u3
    have CC := HS.out Wa belA
    unfold TV.val at CC
    go_wp2_with fail
    refine Calls.mono CC ?_
    clear CC u0 u1 u2 u3
    rintro e w' ⟨r', NB, y, rfl, rfl, hnew, hlo⟩
    have bRy := y.blk bR
    have n0 := blk_cell bRy 0
    have n1 := blk_cell bRy 1
    have n2 := blk_cell bRy 2
    have n3 := blk_cell bRy 3
    have p0 := blk_free bRy 0
    have p1 := blk_free bRy 1
    have p2 := blk_free bRy 2
    have p3 := blk_free bRy 3
    simp at n0 n1 n2 n3
    unfold TV.val
    go_wp2
    clear n0 n1 n2 n3 p0 p1 p2 p3
    generalize hY4 : World.setCell _ _ _ = Y4
    obtain ⟨belD, hsame, hgr, r0, r1, r2, r3⟩ := ret4 (W := W) (belA.trans (y.below.mono belA.size)) (by omega) bRy hY4
    refine bodyPost_ret (v := r'.val v) (by simp [TV.val, results, Tryd.results106, go_sem, r0, r1, r2, r3]) rfl ?_
    exact ⟨r', NB, ⟨Y4, belD⟩, rfl, rfl, hnew.keep (fun g hg => hsame g (by have h1 := hlo g hg; omega)), fun g hg => by have h1 := hlo g hg; omega⟩
  | cons kk p ih =>
    intro W lo t r h size vars closed ok hsz hv v q HS pa pc hp hpl hcap z hput x
    have HI := Lib.hid (fun (W : World) (lo : Nat) (t : Tm) (r : TV) (h : TmIn W lo t r) (size vars : Int) (closed : Bool) (ok : OkT size closed vars t) (h1 : t.sz ≤ 1000) (h2 : vars + 2 * (t.sz : Int) ≤ 50000) (v : Tm) (q : TV) (HS : Hid (∀ w', Below W.heap.size W w' → Calls Tryd.prog 31 #[q.val v, .int .i64 0, .int .i64 0] w' (NewTmO w' v))) (pa : Option Addr) (pc : Nat) => ih h ok h1 h2 HS (pa := pa) (pc := pc))
    clear ih
    obtain ⟨ra, rc, rb, rd⟩ := r
    obtain ⟨va, vc, vb, vd⟩ := q
    unfold TV.val at HS ⊢
    go_enter Tryd.func106, Tryd.ntmps106
    go_upto_region 1 with fail
    have hxW := x.size
    generalize hWa : ((x.w.alloc _).alloc _).alloc _ = Wa
    generalize hB : x.w.heap.size = B at *
    obtain ⟨bA, bU, bR, sA, bel⟩ := blocks3 hB hWa
    have belA : Below W.heap.size W Wa := x.below.trans (bel.mono (by omega))
    clear hWa bel
    obtain ⟨b1, o1, rfl, hc1⟩ := hp.at (i := 0) (by simp)
    have m0 : ∀ w', Below W.heap.size W w' → w'.cell? ⟨b1, o1, none⟩ = some (.int .i64 kk) := fun w' b => (Ext.mk w' b).cell (by simpa using hc1 0 kk rfl)
    have ht := row_tl hp
    have f0 : (((kk :: p).length : Int) == 0) = false := by rw [beq_eq_false_iff_ne]; simp; omega
    have hlc : (kk :: p).length = p.length + 1 := by simp
    rw [hlc] at f0 hcap hpl
    have hl0 : (0 : Int) < ((p.length + 1 : Nat) : Int) := by omega
    have hl1 : (1 : Int) ≤ ((p.length + 1 : Nat) : Int) := by omega
    have hl2 : (0 : Nat) < p.length + 1 := by omega
    have hl3 : (1 : Nat) ≤ p.length + 1 := by omega
    clear hlc hc1 hp
    cases hkI : t.kidI kk with
    | none => rw [Tm.putP, hkI] at hput; cases hput
    | some c =>
      obtain ⟨j, rfl, hj⟩ := Tm.kidI_some hkI
      obtain ⟨d, hd, rfl⟩ : ∃ d, c.putP p v = some d ∧ z = .mk t.op t.n t.ty (t.kids.set j d) := by
        rw [Tm.putP, hkI] at hput
        have h1 : (c.putP p v).map (fun c' => (Tm.mk t.op t.n t.ty (t.kids.set (j : Int).toNat c'))) = some z := hput
        cases hq : c.putP p v with
        | none => rw [hq] at h1; cases h1
        | some d => rw [hq] at h1; exact ⟨d, rfl, by simpa using h1.symm⟩
      have HJ := Lib.hid hj
      have HC := Lib.hid hd
      clear hj hd hput hkI
      have hn := ok.node
      have hk3 : t.kids.length ≤ 3 := by have := hn.many; have := manyO_le t.op; omega
      have hsp := t.sz_pos
      have hty := hn.ty40
      clear hn
      obtain ⟨iT, hiT, hzT0, hzT1, hzT2⟩ := info_parts info_term
      have SA := Lib.hid sA
      have hBW : B < Wa.heap.size ∧ B + 1 < Wa.heap.size ∧ B + 2 < Wa.heap.size := by omega
      clear sA
      have bAc : ∀ y : Ext Wa, y.w.heap[B]? = _ := fun y => y.blk bA
      have bUc : ∀ y : Ext Wa, y.w.heap[B + 1]? = _ := fun y => y.blk bU
      have d0 : ∀ y : Ext Wa, y.w.cell? ⟨B, 0, none⟩ = some (.int .i64 t.op) := fun y => blk_cell (bAc y) 0
      have d1 : ∀ y : Ext Wa, y.w.cell? ⟨B, 1, none⟩ = some (.int .i64 t.n) := fun y => blk_cell (bAc y) 1
      have d2 : ∀ y : Ext Wa, y.w.cell? ⟨B, 2, none⟩ = some (.slice ra t.ty.length rc) := fun y => blk_cell (bAc y) 2
      have d3 : ∀ y : Ext Wa, y.w.cell? ⟨B, 3, none⟩ = some (.slice rb t.kids.length rd) := fun y => blk_cell (bAc y) 3
      have u0 : ∀ y : Ext Wa, y.w.cell? ⟨B + 1, 0, none⟩ = some (.int .i64 v.op) := fun y => blk_cell (bUc y) 0
      have u1 : ∀ y : Ext Wa, y.w.cell? ⟨B + 1, 1, none⟩ = some (.int .i64 v.n) := fun y => blk_cell (bUc y) 1
      have u2 : ∀ y : Ext Wa, y.w.cell? ⟨B + 1, 2, none⟩ = some (.slice va v.ty.length vc) := fun y => blk_cell (bUc y) 2
      have u3 : ∀ y : Ext Wa, y.w.cell? ⟨B + 1, 3, none⟩ = some (.slice vb v.kids.length vd) := fun y => blk_cell (bUc y) 3
      clear bAc bUc
      obtain ⟨kr0, A⟩ := (h.ext ⟨Wa, belA⟩).out
      have hlk := A.lk
      have rowA : Row Wa (Value.int .i64) ra t.ty := A.row
      have KEEP : ∀ w' : World, Below Wa.heap.size Wa w' → w'.cell? ⟨B, 0, none⟩ = some (.int .i64 t.op) ∧ w'.cell? ⟨B, 1, none⟩ = some (.int .i64 t.n) ∧ w'.cell? ⟨B, 2, none⟩ = some (.slice ra t.ty.length rc) := fun w' b => ⟨d0 ⟨w', b⟩, d1 ⟨w', b⟩, d2 ⟨w', b⟩⟩
      have m1 : ∀ w', Below Wa.heap.size Wa w' → w'.cell? ⟨b1, o1, none⟩ = some (.int .i64 (j : Int)) := fun w' b => m0 w' (belA.trans (b.mono belA.size))
      clear m0
      go_upto_region 3 with fail
      have htA := ht.ext ⟨Wa, belA⟩
      have COPY : Hid (∀ w', Below Wa.heap.size Wa w' → Calls Tryd.prog 64 #[.slice ra t.ty.length rc] w' (NewRow w' 22 3 (Value.int .i64) t.ty)) := fun w' b => l1Copy_ans (c := rc) (rowA.ext ⟨w', b⟩) (by omega) (Ext.self w')
      go_cut [7] from 14 (fun s7 wc => ∃ (C : Nat) (A' : Option Addr) (c : Nat), s7 = .pointer (some ⟨C, 0, none⟩) ∧ TB Wa wc C t.op t.n t.ty A' c [] none 0 (fun _ => ⟨none, 0, none, 0⟩) [] (fun _ _ => False))
      case first =>
        go_region_held3 (fun w' => w'.cell? ⟨B, 0, none⟩ = some (.int .i64 t.op) ∧ w'.cell? ⟨B, 1, none⟩ = some (.int .i64 t.n) ∧ w'.cell? ⟨B, 2, none⟩ = some (.slice ra t.ty.length rc)) ((refine KEEP _ ?_; (repeat (first | exact Below.refl _ _ | refine below_alloc ?_ _ | refine below_drew ?_ | refine below_ext ?_ _ | refine below_set ?_ ?_))))
          ((go_at_call 64; refine Calls.mono (COPY.out _ (by (repeat (first | exact Below.refl _ _ | refine below_alloc ?_ _ | refine below_drew ?_ | refine below_ext ?_ _ | refine below_set ?_ ?_)))) ?_; rintro e w' ⟨v, y0, rfl, rfl, own0⟩; obtain ⟨c0, d0', rfl, r0, l0⟩ := owned_row own0; (first | obtain ⟨n0, n1, n2, n3, p0, p1, p2, p3⟩ := zfacts (y0.blk (new_blk_drew Wa zbox)) | skip)))
        · go_wp2_with fail
          go_meet
          case rel => exact ⟨_, _, _, rfl, TB.new (by (repeat (first | exact Below.refl _ _ | refine below_alloc ?_ _ | refine below_drew ?_ | refine below_ext ?_ _ | refine below_set ?_ ?_))) own0⟩
        · go_wp2_with fail
          go_meet
          case rel => exact ⟨_, _, _, rfl, TB.set (by (repeat (first | exact Below.refl _ _ | refine below_alloc ?_ _ | refine below_drew ?_ | refine below_ext ?_ _ | refine below_set ?_ ?_))) (Nat.le_refl _) (y0.blk (new_blk_drew Wa zbox)) (owns_lower own0 (by simp)) rfl⟩
      case rest =>
        obtain ⟨C, a', c', rfl, T0⟩ := hcut
        clear KEEP COPY d0 d1 d2
        by_cases hpc1 : pc = 1
        · subst hpc1
          obtain rfl : p = [] := List.eq_nil_of_length_eq_zero (by omega)
          have L0 := T0
          clear L0
          obtain ⟨L, hL⟩ : ∃ L, L = t.kids.set j d := ⟨_, rfl⟩
          have hLl : L.length = t.kids.length := by rw [hL, List.length_set]
          have HL := Lib.hid hL
          have HLl := Lib.hid hLl
          clear hL hLl
          obtain ⟨wl, hwl⟩ : ∃ wl : World, wl = wc := ⟨_, rfl⟩
          rw [← hwl] at T0 ⊢
          clear hwl
          have HU := Lib.hid (⟨u0, u1, u2, u3⟩ : _ ∧ _ ∧ _ ∧ _)
          clear u0 u1 u2 u3
          go_wp2_with fail
          go_loopw [8] (fun iz wr => ∃ (k : Nat) (b' : Option Addr) (d' : Nat) (kq : Nat → TV) (xq : List Value) (KB : Nat → Nat → Prop), iz = .int .i64 k ∧ k ≤ t.kids.length ∧ TB Wa wr C t.op t.n t.ty a' c' (L.take k) b' d' kq xq KB) (fun i _ => t.kids.length - (intOf i).toNat)
          case atStart => exact ⟨0, _, _, _, _, _, rfl, by omega, by simpa using T0⟩
          case round =>
            obtain ⟨k, b', d', kq, xq, KB, rfl, hk, T⟩ := hrel
            have bWr := T.bel
            have m3 := d3 ⟨wr, bWr⟩
            by_cases hlt : k < t.kids.length
            · have hlt' : (k : Int) < (t.kids.length : Int) := by omega
              have hk0 : (0 : Int) ≤ (k : Int) := by omega
              obtain ⟨kid, hkid⟩ : ∃ kid, t.kids[k]? = some kid := ⟨_, List.getElem?_eq_getElem hlt⟩
              have hmem : kid ∈ t.kids := List.mem_of_getElem? hkid
              have HKID := Lib.hid hkid
              obtain ⟨b0, o0, hrb, K⟩ := A.kid k kid hkid
              have hsub := A.sub k kid hkid
              dsimp only at hrb
              subst hrb
              obtain ⟨ks, hks⟩ : ∃ ks, ks = L.take k := ⟨_, rfl⟩
              have hkl : ks.length = k := by have := HLl.out; rw [hks, List.length_take]; omega
              have hkl3 : ks.length ≤ 3 := by omega
              have HKS := Lib.hid hks
              rw [← hks] at T
              clear hks hkl
              have hszk : kid.sz + 1 ≤ t.sz := Tm.sz_kid hmem
              have hadd0 := addsO_ge t.op k
              have hadd2 := addsO_le t.op k
              have hok : OkT size closed (vars + addsO t.op k) kid := ok.kid hkid
              have mc := m1 wr bWr
              by_cases hkj : k = j
              · subst hkj
                have ec : kid = c := Option.some.inj (hkid.symm.trans HJ.out)
                have hz : kid.putP ([]) v = some d := by rw [ec]; exact HC.out
                clear ec
                clear hkid
                obtain ⟨u, hu9⟩ : ∃ u, u = d := ⟨_, rfl⟩
                have HLU : Hid (L[k]? = some u) := by rw [HL.out]; rw [List.getElem?_set_self hlt]; exact congrArg some hu9.symm
                have HU9 := Lib.hid hu9
                clear hu9
                have KEEP : Hid (∀ w' : World, Below Wa.heap.size Wa w' → w'.cell? ⟨b1, o1, none⟩ = some (.int .i64 (k : Int)) ∧ w'.cell? ⟨B, 3, none⟩ = some (.slice (some ⟨b0, o0, none⟩) t.kids.length rd) ∧ w'.cell? ⟨b0, o0 + k * 4, none⟩ = some (.int .i64 kid.op) ∧ w'.cell? ⟨b0, o0 + k * 4 + 1, none⟩ = some (.int .i64 kid.n) ∧ w'.cell? ⟨b0, o0 + k * 4 + 2, none⟩ = some (.slice (kr0 k).a kid.ty.length (kr0 k).c) ∧ w'.cell? ⟨b0, o0 + k * 4 + 3, none⟩ = some (.slice (kr0 k).b kid.kids.length (kr0 k).d) ∧ w'.cell? ⟨B + 1, 0, none⟩ = some (.int .i64 v.op) ∧ w'.cell? ⟨B + 1, 1, none⟩ = some (.int .i64 v.n) ∧ w'.cell? ⟨B + 1, 2, none⟩ = some (.slice va v.ty.length vc) ∧ w'.cell? ⟨B + 1, 3, none⟩ = some (.slice vb v.kids.length vd)) := fun w' b => ⟨m1 w' b, d3 ⟨w', b⟩, (Ext.mk w' b).cell K.c0, (Ext.mk w' b).cell K.c1, (Ext.mk w' b).cell K.c2, (Ext.mk w' b).cell K.c3, HU.out.1 ⟨w', b⟩, HU.out.2.1 ⟨w', b⟩, HU.out.2.2.1 ⟨w', b⟩, HU.out.2.2.2 ⟨w', b⟩⟩
                have CC : Hid (∀ w', Below wr.heap.size wr w' → Calls Tryd.prog 106 #[.agg #[.int .i64 kid.op, .int .i64 kid.n, .slice (kr0 k).a kid.ty.length (kr0 k).c, .slice (kr0 k).b kid.kids.length (kr0 k).d], .slice (some ⟨b1, o1, none⟩) 0 (0), .agg #[.int .i64 v.op, .int .i64 v.n, .slice va v.ty.length vc, .slice vb v.kids.length vd]] w' (NewTmO w' u)) := fun w' b => by
                  have b2 := bWr.trans (b.mono bWr.size)
                  have b3 : Below W.heap.size W w' := belA.trans (b2.mono belA.size)
                  rw [HU9.out]
                  have CQ : Calls Tryd.prog 106 #[(kr0 k).val kid, .slice (some ⟨b1, o1, none⟩) 0 (0), (TV.mk va vc vb vd).val v] w' (NewTmO w' d) 
                      := HI.out w' 0 kid (kr0 k) ((hsub.lower (Nat.zero_le _)).ext ⟨w', b2⟩) size _ closed hok (by omega) (by omega) v ⟨va, vc, vb, vd⟩ (Lib.hid fun w2 b4 => HS.out w2 (b3.trans (b4.mono b3.size))) (some ⟨b1, o1, none⟩) (0) (.inl rfl) (by first | (simp; done) | omega) (by first | (simp; done) | omega) d hz (Ext.self w')
                  unfold TV.val at CQ
                  exact CQ
                have c3 : ∀ w', Below wr.heap.size wr w' → w'.cell? ⟨C, 3, none⟩ = some (.slice b' ks.length d') := fun w' b => T.cells.2.2.2 ⟨w', b⟩
                have c30 := c3 wr (Below.refl _ _)
                have ROW : Hid (∀ w', Below wr.heap.size wr w' → w'.ownsRow 0 29 4 (.slice b' ks.length d') ks.length xq) := fun w' b => owns_ext T.kids.row ⟨w', b⟩
                have hClo := T.lo
                have HKC : Hid (∀ (w0 w1 : World), Below wr.heap.size wr w0 → w0.grownBy w1 (Value.slice b' ks.length d').ownBlock → w1.cell? ⟨C, 3, none⟩ = some (.slice b' ks.length d') ∧ w1.frozen? ⟨C, 3, none⟩ = false) := fun w0 w1 b gr => by
                  have hb : some C ≠ (Value.slice b' ks.length d').ownBlock := by rw [ob_eq]; exact fun e => (T.lk C (.inl e.symm)).2 rfl
                  have mC : w1.heap[C]? = some (boxT t.op t.n a' t.ty.length c' b' ks.length d') := (gr.block C (Nat.lt_of_lt_of_le T.cLt b.size) hb).trans ((Ext.mk w0 b).blk T.box)
                  exact ⟨blk_cell mC 3, blk_free mC 3⟩
                have HB1 : Hid (∀ (w0 w1 : World), Below wr.heap.size wr w0 → w0.grownBy w1 (Value.slice b' ks.length d').ownBlock → Below Wa.heap.size Wa w1) := fun w0 w1 b gr =>
                  (bWr.trans (b.mono bWr.size)).grown gr (Nat.le_trans bWr.size b.size) (fun g e => by rw [ob_eq] at e; exact (T.lk g (.inl e)).1)
                have HT := Lib.hid T
                clear T hmem hsub
                have hmx : ks.length + 1 ≤ maxLen := by unfold maxLen; omega
                have hbx : (ks.length + 1) * 64 ≤ 140737488355328 := by omega
                go_upto_region 8 with fail
                refine wp_region_noPanic ?_
                refine wp_region_held_drew (S := (fun w' => w'.cell? ⟨b1, o1, none⟩ = some (.int .i64 (k : Int)) ∧ w'.cell? ⟨B, 3, none⟩ = some (.slice (some ⟨b0, o0, none⟩) t.kids.length rd) ∧ w'.cell? ⟨b0, o0 + k * 4, none⟩ = some (.int .i64 kid.op) ∧ w'.cell? ⟨b0, o0 + k * 4 + 1, none⟩ = some (.int .i64 kid.n) ∧ w'.cell? ⟨b0, o0 + k * 4 + 2, none⟩ = some (.slice (kr0 k).a kid.ty.length (kr0 k).c) ∧ w'.cell? ⟨b0, o0 + k * 4 + 3, none⟩ = some (.slice (kr0 k).b kid.kids.length (kr0 k).d) ∧ w'.cell? ⟨B + 1, 0, none⟩ = some (.int .i64 v.op) ∧ w'.cell? ⟨B + 1, 1, none⟩ = some (.int .i64 v.n) ∧ w'.cell? ⟨B + 1, 2, none⟩ = some (.slice va v.ty.length vc) ∧ w'.cell? ⟨B + 1, 3, none⟩ = some (.slice vb v.kids.length vd))) (by kernel_rfl) ?_ (fun hHeld => ?_)
                · (try dsimp only)
                  refine KEEP.out _ ?_
                  (repeat (first | exact Below.refl _ _ | exact bW1 | exact bWr | exact b1 | refine Below.setCell ?_ hClo _ | refine below_alloc ?_ _ | refine below_drew ?_ | refine below_ext ?_ _))
                refine wpAnyH_take (i := 0) (v := ?_) rfl (by kernel_rfl) (by kernel_rfl) (by kernel_rfl) (fun _ _ _ h => h) (Or.inl ⟨by rfl, ?_⟩) hHeld ?_
                rotate_left
                · intro w hSw; (try dsimp only at hSw); (try simp only [List.getElem_toArray, List.getElem_cons_zero]); first | (go_simp; done) | (go_simp; with_reducible rfl)
                try simp only [List.getElem_toArray, List.getElem_cons_zero, Act.put, List.setIfInBounds_toArray, List.set_cons_zero, List.set_cons_succ]
                refine wpAnyH_take (i := 2) (v := ?_) rfl (by kernel_rfl) (by kernel_rfl) (by kernel_rfl) (fun _ _ _ h => h) (Or.inl ⟨by rfl, ?_⟩) hHeld ?_
                rotate_left
                · intro w hSw; (try dsimp only at hSw); (try simp only [List.getElem_toArray, List.getElem_cons_succ, List.getElem_cons_zero]); first | (go_simp; done) | (go_simp; with_reducible rfl)
                try simp only [List.getElem_toArray, List.getElem_cons_succ, List.getElem_cons_zero, Act.put, List.setIfInBounds_toArray, List.set_cons_zero, List.set_cons_succ]
                refine wpAnyH_take (i := 3) (v := ?_) rfl (by kernel_rfl) (by kernel_rfl) (by kernel_rfl) (fun _ _ _ h => h) (Or.inl ⟨by rfl, ?_⟩) hHeld ?_
                rotate_left
                · intro w hSw; (try dsimp only at hSw); (try simp only [List.getElem_toArray, List.getElem_cons_succ, List.getElem_cons_zero]); first | (go_simp; done) | (go_simp; with_reducible rfl)
                try simp only [List.getElem_toArray, List.getElem_cons_succ, List.getElem_cons_zero, Act.put, List.setIfInBounds_toArray, List.set_cons_zero, List.set_cons_succ]
                refine wpAnyH_take (i := 4) (v := ?_) rfl (by kernel_rfl) (by kernel_rfl) (by kernel_rfl) (fun _ _ _ h => h) (Or.inl ⟨by rfl, ?_⟩) hHeld ?_
                rotate_left
                · intro w hSw; (try dsimp only at hSw); (try simp only [List.getElem_toArray, List.getElem_cons_succ, List.getElem_cons_zero]); first | (go_simp; done) | (go_simp; with_reducible rfl)
                try simp only [List.getElem_toArray, List.getElem_cons_succ, List.getElem_cons_zero, Act.put, List.setIfInBounds_toArray, List.set_cons_zero, List.set_cons_succ]
                refine wpAnyH_take (i := 5) (v := ?_) rfl (by kernel_rfl) (by kernel_rfl) (by kernel_rfl) (fun _ _ _ h => h) (Or.inl ⟨by rfl, ?_⟩) hHeld ?_
                rotate_left
                · intro w hSw; (try dsimp only at hSw); (try simp only [List.getElem_toArray, List.getElem_cons_succ, List.getElem_cons_zero]); first | (go_simp; done) | (go_simp; with_reducible rfl)
                try simp only [List.getElem_toArray, List.getElem_cons_succ, List.getElem_cons_zero, Act.put, List.setIfInBounds_toArray, List.set_cons_zero, List.set_cons_succ]
                refine wpAnyH_take (i := 6) (v := ?_) rfl (by kernel_rfl) (by kernel_rfl) (by kernel_rfl) (fun _ _ _ h => h) (Or.inl ⟨by rfl, ?_⟩) hHeld ?_
                rotate_left
                · intro w hSw; (try dsimp only at hSw); (try simp only [List.getElem_toArray, List.getElem_cons_succ, List.getElem_cons_zero]); first | (go_simp; done) | (go_simp; with_reducible rfl)
                try simp only [List.getElem_toArray, List.getElem_cons_succ, List.getElem_cons_zero, Act.put, List.setIfInBounds_toArray, List.set_cons_zero, List.set_cons_succ]
                refine wpAnyH_take (i := 7) (v := ?_) rfl (by kernel_rfl) (by kernel_rfl) (by kernel_rfl) (fun _ _ _ h => h) (Or.inl ⟨by rfl, ?_⟩) hHeld ?_
                rotate_left
                · intro w hSw; (try dsimp only at hSw); (try simp only [List.getElem_toArray, List.getElem_cons_succ, List.getElem_cons_zero]); first | (go_simp; done) | (go_simp; with_reducible rfl)
                try simp only [List.getElem_toArray, List.getElem_cons_succ, List.getElem_cons_zero, Act.put, List.setIfInBounds_toArray, List.set_cons_zero, List.set_cons_succ]
                refine wpAnyH_take (i := 8) (v := ?_) rfl (by kernel_rfl) (by kernel_rfl) (by kernel_rfl) (fun _ _ _ h => h) (Or.inl ⟨by rfl, ?_⟩) hHeld ?_
                rotate_left
                · intro w hSw; (try dsimp only at hSw); (try simp only [List.getElem_toArray, List.getElem_cons_succ, List.getElem_cons_zero]); first | (go_simp; done) | (go_simp; with_reducible rfl)
                try simp only [List.getElem_toArray, List.getElem_cons_succ, List.getElem_cons_zero, Act.put, List.setIfInBounds_toArray, List.set_cons_zero, List.set_cons_succ]
                refine wpAnyH_take (i := 9) (v := ?_) rfl (by kernel_rfl) (by kernel_rfl) (by kernel_rfl) (fun _ _ _ h => h) (Or.inl ⟨by rfl, ?_⟩) hHeld ?_
                rotate_left
                · intro w hSw; (try dsimp only at hSw); (try simp only [List.getElem_toArray, List.getElem_cons_succ, List.getElem_cons_zero]); first | (go_simp; done) | (go_simp; with_reducible rfl)
                try simp only [List.getElem_toArray, List.getElem_cons_succ, List.getElem_cons_zero, Act.put, List.setIfInBounds_toArray, List.set_cons_zero, List.set_cons_succ]
                refine wpAnyH_ready (rs := [1, 10]) (by kernel_rfl) (by simp) ?_
                refine AllReadyH.cons rfl (fun K hK => ?_) ?_
                · skip
                  try simp only [List.getElem_toArray, List.getElem_cons_succ, List.getElem_cons_zero]
                  go_simp
                  refine hK.out _ _ ?_ (fun hHeld2 => ?_)
                  · (try dsimp only)
                    refine KEEP.out _ ?_
                    (repeat (first | exact Below.refl _ _ | exact bW1 | exact bWr | exact b1 | refine Below.setCell ?_ hClo _ | refine below_alloc ?_ _ | refine below_drew ?_ | refine below_ext ?_ _))
                  clear hK K hHeld
                  have hHeld := hHeld2
                  clear hHeld2
                  try simp only [List.getElem_toArray, List.getElem_cons_succ, List.getElem_cons_zero, Act.put, List.setIfInBounds_toArray, List.set_cons_zero, List.set_cons_succ]
                  refine wpAnyH_ready (rs := [10]) (by kernel_rfl) (by simp) ?_
                  refine AllReadyH.cons rfl (fun K hK => ?_) ?_
                  · skip
                    try simp only [List.getElem_toArray, List.getElem_cons_succ, List.getElem_cons_zero]
                    go_simp
                    refine Calls.mono (CC.out _ (by (repeat (first | exact Below.refl _ _ | exact bR1 | refine below_alloc ?_ _ | refine below_drew ?_ | refine below_ext ?_ _)))) ?_
                    rintro e w' ⟨r', NB, y1, rfl, rfl, hnew, hlo⟩
                    have c32 := c3 _ (by (repeat (first | exact Below.refl _ _ | exact bR1 | refine below_alloc ?_ _ | refine below_drew ?_ | refine below_ext ?_ _)) : Below wr.heap.size wr y1.w)
                    have c33 := fun o => c3 _ (by (repeat (first | exact Below.refl _ _ | exact bR1 | refine below_alloc ?_ _ | refine below_drew ?_ | refine below_ext ?_ _)) : Below wr.heap.size wr (y1.w.alloc o))
                    (try dsimp only)
                    refine hK.out _ _ ?_ (fun hHeld2 => ?_)
                    · (try dsimp only)
                      refine KEEP.out _ ?_
                      (repeat (first | exact Below.refl _ _ | exact bW1 | exact bWr | exact b1 | refine Below.setCell ?_ hClo _ | refine below_alloc ?_ _ | refine below_drew ?_ | refine below_ext ?_ _))
                    clear hK K hHeld
                    have hHeld := hHeld2
                    clear hHeld2
                    try simp only [List.getElem_toArray, List.getElem_cons_succ, List.getElem_cons_zero, Act.put, List.setIfInBounds_toArray, List.set_cons_zero, List.set_cons_succ]
                    refine wpAnyH_ready (rs := [11]) (by kernel_rfl) (by simp) ?_
                    refine AllReadyH.cons rfl (fun K hK => ?_) ?_
                    · skip
                      try simp only [List.getElem_toArray, List.getElem_cons_succ, List.getElem_cons_zero]
                      go_simp
                      refine hK.out _ _ ?_ (fun hHeld2 => ?_)
                      · (try dsimp only)
                        refine KEEP.out _ ?_
                        (repeat (first | exact Below.refl _ _ | exact bW1 | exact bWr | exact b1 | refine Below.setCell ?_ hClo _ | refine below_alloc ?_ _ | refine below_drew ?_ | refine below_ext ?_ _))
                      clear hK K hHeld
                      have hHeld := hHeld2
                      clear hHeld2
                      try simp only [List.getElem_toArray, List.getElem_cons_succ, List.getElem_cons_zero, Act.put, List.setIfInBounds_toArray, List.set_cons_zero, List.set_cons_succ]
                      refine wpAnyH_ready (rs := [12]) (by kernel_rfl) (by simp) ?_
                      refine AllReadyH.cons rfl (fun K hK => ?_) ?_
                      · skip
                        refine step_app_src (by rfl) _ _ 27 (by rfl) 0 29 iT (.agg #[.int .i64 0, .int .i64 0, .slice none 0 0, .slice none 0 0]) 4 64 Tryd.underlying27 hiT hzT0 hzT1 hzT2 rfl (by decide) (.slice b' ks.length d') ks.length xq (by rfl) (ROW.out _ (by (repeat (first | exact Below.refl _ _ | exact bR1 | refine below_alloc ?_ _ | refine below_drew ?_ | refine below_ext ?_ _)))) (some ⟨y1.w.heap.size, 0, none⟩) 1 1 [.int .i64 u.op, .int .i64 u.n, .slice r'.a u.ty.length r'.c, .slice r'.b u.kids.length r'.d] (by rfl) ⟨rfl, four_one _ _ _ _ rfl rfl rfl rfl, .inr ⟨_, rfl, cell_four_at _ _ _ _ _ _ _ rfl⟩⟩ hmx hbx (Nat.zero_le _) ?_
                        intro A2 c2 w1 own1 gr1 hat1
                        obtain ⟨kc3, kf3⟩ := HKC.out _ _ (by (repeat (first | exact Below.refl _ _ | exact bR1 | refine below_alloc ?_ _ | refine below_drew ?_ | refine below_ext ?_ _))) gr1
                        have b1 := HB1.out _ _ (by (repeat (first | exact Below.refl _ _ | exact bR1 | refine below_alloc ?_ _ | refine below_drew ?_ | refine below_ext ?_ _))) gr1
                        refine hK.out _ _ ?_ (fun hHeld2 => ?_)
                        · (try dsimp only)
                          refine KEEP.out _ ?_
                          (repeat (first | exact Below.refl _ _ | exact bW1 | exact bWr | exact b1 | refine Below.setCell ?_ hClo _ | refine below_alloc ?_ _ | refine below_drew ?_ | refine below_ext ?_ _))
                        clear hK K hHeld
                        have hHeld := hHeld2
                        clear hHeld2
                        try simp only [List.getElem_toArray, List.getElem_cons_succ, List.getElem_cons_zero, Act.put, List.setIfInBounds_toArray, List.set_cons_zero, List.set_cons_succ]
                        refine wpAnyH_take (i := 13) (v := ?_) rfl (by kernel_rfl) (by kernel_rfl) (by kernel_rfl) (fun _ _ _ h => h) (Or.inl ⟨by rfl, ?_⟩) hHeld ?_
                        rotate_left
                        · intro w hSw; (try dsimp only at hSw); (try simp only [List.getElem_toArray, List.getElem_cons_succ, List.getElem_cons_zero]); first | (go_simp; done) | (go_simp; with_reducible rfl)
                        try simp only [List.getElem_toArray, List.getElem_cons_succ, List.getElem_cons_zero, Act.put, List.setIfInBounds_toArray, List.set_cons_zero, List.set_cons_succ]
                        refine wpAnyH_ready (rs := [14]) (by kernel_rfl) (by simp) ?_
                        refine AllReadyH.cons rfl (fun K hK => ?_) ?_
                        · skip
                          try simp only [List.getElem_toArray, List.getElem_cons_succ, List.getElem_cons_zero]
                          go_simp
                          refine hK.out _ _ ?_ (fun hHeld2 => ?_)
                          · (try dsimp only)
                            refine KEEP.out _ ?_
                            (repeat (first | exact Below.refl _ _ | exact bW1 | exact bWr | exact b1 | refine Below.setCell ?_ hClo _ | refine below_alloc ?_ _ | refine below_drew ?_ | refine below_ext ?_ _))
                          clear hK K hHeld
                          have hHeld := hHeld2
                          clear hHeld2
                          try simp only [List.getElem_toArray, List.getElem_cons_succ, List.getElem_cons_zero, Act.put, List.setIfInBounds_toArray, List.set_cons_zero, List.set_cons_succ]
                          refine wpAnyH_done (by kernel_rfl) ?_ _
                          refine NoPanic.normal ?_
                          go_wp2_with fail
                          go_roundw
                          case rel =>
                            rw [ob_eq] at gr1
                            rw [ob_eq b'] at hat1
                            obtain ⟨b2, d2, kr2, xs2, KB2, hv2, T2⟩ := HT.out.snoc (⟨y1.w.alloc _, by (repeat (first | exact Below.refl _ _ | exact bR1 | refine below_alloc ?_ _ | refine below_drew ?_ | refine below_ext ?_ _))⟩) (hnew.ext ((Ext.self y1.w).alloc _)) (fun g hg => by have q1 := hlo g hg; simp at q1; omega) own1 gr1 hat1 rfl
                            refine ⟨k + 1, b2, d2, kr2, xs2, KB2, by go_num, by omega, ?_⟩
                            rw [List.take_add_one, HLU.out, ← HKS.out]
                            exact T2
                          case measure => simp [intOf]; omega
                        exact AllReadyH.nil
                      exact AllReadyH.nil
                    exact AllReadyH.nil
                  exact AllReadyH.nil
                refine AllReadyH.cons rfl (fun K hK => ?_) ?_
                · skip
                  try simp only [List.getElem_toArray, List.getElem_cons_succ, List.getElem_cons_zero]
                  go_simp
                  refine Calls.mono (CC.out _ (by (repeat (first | exact Below.refl _ _ | exact bR1 | refine below_alloc ?_ _ | refine below_drew ?_ | refine below_ext ?_ _)))) ?_
                  rintro e w' ⟨r', NB, y1, rfl, rfl, hnew, hlo⟩
                  have c32 := c3 _ (by (repeat (first | exact Below.refl _ _ | exact bR1 | refine below_alloc ?_ _ | refine below_drew ?_ | refine below_ext ?_ _)) : Below wr.heap.size wr y1.w)
                  have c33 := fun o => c3 _ (by (repeat (first | exact Below.refl _ _ | exact bR1 | refine below_alloc ?_ _ | refine below_drew ?_ | refine below_ext ?_ _)) : Below wr.heap.size wr (y1.w.alloc o))
                  (try dsimp only)
                  refine hK.out _ _ ?_ (fun hHeld2 => ?_)
                  · (try dsimp only)
                    refine KEEP.out _ ?_
                    (repeat (first | exact Below.refl _ _ | exact bW1 | exact bWr | exact b1 | refine Below.setCell ?_ hClo _ | refine below_alloc ?_ _ | refine below_drew ?_ | refine below_ext ?_ _))
                  clear hK K hHeld
                  have hHeld := hHeld2
                  clear hHeld2
                  try simp only [List.getElem_toArray, List.getElem_cons_succ, List.getElem_cons_zero, Act.put, List.setIfInBounds_toArray, List.set_cons_zero, List.set_cons_succ]
                  refine wpAnyH_ready (rs := [1, 11]) (by kernel_rfl) (by simp) ?_
                  refine AllReadyH.cons rfl (fun K hK => ?_) ?_
                  · skip
                    try simp only [List.getElem_toArray, List.getElem_cons_succ, List.getElem_cons_zero]
                    go_simp
                    refine hK.out _ _ ?_ (fun hHeld2 => ?_)
                    · (try dsimp only)
                      refine KEEP.out _ ?_
                      (repeat (first | exact Below.refl _ _ | exact bW1 | exact bWr | exact b1 | refine Below.setCell ?_ hClo _ | refine below_alloc ?_ _ | refine below_drew ?_ | refine below_ext ?_ _))
                    clear hK K hHeld
                    have hHeld := hHeld2
                    clear hHeld2
                    try simp only [List.getElem_toArray, List.getElem_cons_succ, List.getElem_cons_zero, Act.put, List.setIfInBounds_toArray, List.set_cons_zero, List.set_cons_succ]
                    refine wpAnyH_ready (rs := [11]) (by kernel_rfl) (by simp) ?_
                    refine AllReadyH.cons rfl (fun K hK => ?_) ?_
                    · skip
                      try simp only [List.getElem_toArray, List.getElem_cons_succ, List.getElem_cons_zero]
                      go_simp
                      refine hK.out _ _ ?_ (fun hHeld2 => ?_)
                      · (try dsimp only)
                        refine KEEP.out _ ?_
                        (repeat (first | exact Below.refl _ _ | exact bW1 | exact bWr | exact b1 | refine Below.setCell ?_ hClo _ | refine below_alloc ?_ _ | refine below_drew ?_ | refine below_ext ?_ _))
                      clear hK K hHeld
                      have hHeld := hHeld2
                      clear hHeld2
                      try simp only [List.getElem_toArray, List.getElem_cons_succ, List.getElem_cons_zero, Act.put, List.setIfInBounds_toArray, List.set_cons_zero, List.set_cons_succ]
                      refine wpAnyH_ready (rs := [12]) (by kernel_rfl) (by simp) ?_
                      refine AllReadyH.cons rfl (fun K hK => ?_) ?_
                      · skip
                        refine step_app_src (by rfl) _ _ 27 (by rfl) 0 29 iT (.agg #[.int .i64 0, .int .i64 0, .slice none 0 0, .slice none 0 0]) 4 64 Tryd.underlying27 hiT hzT0 hzT1 hzT2 rfl (by decide) (.slice b' ks.length d') ks.length xq (by rfl) (ROW.out _ (by (repeat (first | exact Below.refl _ _ | exact bR1 | refine below_alloc ?_ _ | refine below_drew ?_ | refine below_ext ?_ _)))) (some ⟨y1.w.heap.size, 0, none⟩) 1 1 [.int .i64 u.op, .int .i64 u.n, .slice r'.a u.ty.length r'.c, .slice r'.b u.kids.length r'.d] (by rfl) ⟨rfl, four_one _ _ _ _ rfl rfl rfl rfl, .inr ⟨_, rfl, cell_four_at _ _ _ _ _ _ _ rfl⟩⟩ hmx hbx (Nat.zero_le _) ?_
                        intro A2 c2 w1 own1 gr1 hat1
                        obtain ⟨kc3, kf3⟩ := HKC.out _ _ (by (repeat (first | exact Below.refl _ _ | exact bR1 | refine below_alloc ?_ _ | refine below_drew ?_ | refine below_ext ?_ _))) gr1
                        have b1 := HB1.out _ _ (by (repeat (first | exact Below.refl _ _ | exact bR1 | refine below_alloc ?_ _ | refine below_drew ?_ | refine below_ext ?_ _))) gr1
                        refine hK.out _ _ ?_ (fun hHeld2 => ?_)
                        · (try dsimp only)
                          refine KEEP.out _ ?_
                          (repeat (first | exact Below.refl _ _ | exact bW1 | exact bWr | exact b1 | refine Below.setCell ?_ hClo _ | refine below_alloc ?_ _ | refine below_drew ?_ | refine below_ext ?_ _))
                        clear hK K hHeld
                        have hHeld := hHeld2
                        clear hHeld2
                        try simp only [List.getElem_toArray, List.getElem_cons_succ, List.getElem_cons_zero, Act.put, List.setIfInBounds_toArray, List.set_cons_zero, List.set_cons_succ]
                        refine wpAnyH_take (i := 13) (v := ?_) rfl (by kernel_rfl) (by kernel_rfl) (by kernel_rfl) (fun _ _ _ h => h) (Or.inl ⟨by rfl, ?_⟩) hHeld ?_
                        rotate_left
                        · intro w hSw; (try dsimp only at hSw); (try simp only [List.getElem_toArray, List.getElem_cons_succ, List.getElem_cons_zero]); first | (go_simp; done) | (go_simp; with_reducible rfl)
                        try simp only [List.getElem_toArray, List.getElem_cons_succ, List.getElem_cons_zero, Act.put, List.setIfInBounds_toArray, List.set_cons_zero, List.set_cons_succ]
                        refine wpAnyH_ready (rs := [14]) (by kernel_rfl) (by simp) ?_
                        refine AllReadyH.cons rfl (fun K hK => ?_) ?_
                        · skip
                          try simp only [List.getElem_toArray, List.getElem_cons_succ, List.getElem_cons_zero]
                          go_simp
                          refine hK.out _ _ ?_ (fun hHeld2 => ?_)
                          · (try dsimp only)
                            refine KEEP.out _ ?_
                            (repeat (first | exact Below.refl _ _ | exact bW1 | exact bWr | exact b1 | refine Below.setCell ?_ hClo _ | refine below_alloc ?_ _ | refine below_drew ?_ | refine below_ext ?_ _))
                          clear hK K hHeld
                          have hHeld := hHeld2
                          clear hHeld2
                          try simp only [List.getElem_toArray, List.getElem_cons_succ, List.getElem_cons_zero, Act.put, List.setIfInBounds_toArray, List.set_cons_zero, List.set_cons_succ]
                          refine wpAnyH_done (by kernel_rfl) ?_ _
                          refine NoPanic.normal ?_
                          go_wp2_with fail
                          go_roundw
                          case rel =>
                            rw [ob_eq] at gr1
                            rw [ob_eq b'] at hat1
                            obtain ⟨b2, d2, kr2, xs2, KB2, hv2, T2⟩ := HT.out.snoc (⟨y1.w.alloc _, by (repeat (first | exact Below.refl _ _ | exact bR1 | refine below_alloc ?_ _ | refine below_drew ?_ | refine below_ext ?_ _))⟩) (hnew.ext ((Ext.self y1.w).alloc _)) (fun g hg => by have q1 := hlo g hg; simp at q1; omega) own1 gr1 hat1 rfl
                            refine ⟨k + 1, b2, d2, kr2, xs2, KB2, by go_num, by omega, ?_⟩
                            rw [List.take_add_one, HLU.out, ← HKS.out]
                            exact T2
                          case measure => simp [intOf]; omega
                        exact AllReadyH.nil
                      exact AllReadyH.nil
                    exact AllReadyH.nil
                  refine AllReadyH.cons rfl (fun K hK => ?_) ?_
                  · skip
                    try simp only [List.getElem_toArray, List.getElem_cons_succ, List.getElem_cons_zero]
                    go_simp
                    refine hK.out _ _ ?_ (fun hHeld2 => ?_)
                    · (try dsimp only)
                      refine KEEP.out _ ?_
                      (repeat (first | exact Below.refl _ _ | exact bW1 | exact bWr | exact b1 | refine Below.setCell ?_ hClo _ | refine below_alloc ?_ _ | refine below_drew ?_ | refine below_ext ?_ _))
                    clear hK K hHeld
                    have hHeld := hHeld2
                    clear hHeld2
                    try simp only [List.getElem_toArray, List.getElem_cons_succ, List.getElem_cons_zero, Act.put, List.setIfInBounds_toArray, List.set_cons_zero, List.set_cons_succ]
                    refine wpAnyH_ready (rs := [1]) (by kernel_rfl) (by simp) ?_
                    refine AllReadyH.cons rfl (fun K hK => ?_) ?_
                    · skip
                      try simp only [List.getElem_toArray, List.getElem_cons_succ, List.getElem_cons_zero]
                      go_simp
                      refine hK.out _ _ ?_ (fun hHeld2 => ?_)
                      · (try dsimp only)
                        refine KEEP.out _ ?_
                        (repeat (first | exact Below.refl _ _ | exact bW1 | exact bWr | exact b1 | refine Below.setCell ?_ hClo _ | refine below_alloc ?_ _ | refine below_drew ?_ | refine below_ext ?_ _))
                      clear hK K hHeld
                      have hHeld := hHeld2
                      clear hHeld2
                      try simp only [List.getElem_toArray, List.getElem_cons_succ, List.getElem_cons_zero, Act.put, List.setIfInBounds_toArray, List.set_cons_zero, List.set_cons_succ]
                      refine wpAnyH_ready (rs := [12]) (by kernel_rfl) (by simp) ?_
                      refine AllReadyH.cons rfl (fun K hK => ?_) ?_
                      · skip
                        refine step_app_src (by rfl) _ _ 27 (by rfl) 0 29 iT (.agg #[.int .i64 0, .int .i64 0, .slice none 0 0, .slice none 0 0]) 4 64 Tryd.underlying27 hiT hzT0 hzT1 hzT2 rfl (by decide) (.slice b' ks.length d') ks.length xq (by rfl) (ROW.out _ (by (repeat (first | exact Below.refl _ _ | exact bR1 | refine below_alloc ?_ _ | refine below_drew ?_ | refine below_ext ?_ _)))) (some ⟨y1.w.heap.size, 0, none⟩) 1 1 [.int .i64 u.op, .int .i64 u.n, .slice r'.a u.ty.length r'.c, .slice r'.b u.kids.length r'.d] (by rfl) ⟨rfl, four_one _ _ _ _ rfl rfl rfl rfl, .inr ⟨_, rfl, cell_four_at _ _ _ _ _ _ _ rfl⟩⟩ hmx hbx (Nat.zero_le _) ?_
                        intro A2 c2 w1 own1 gr1 hat1
                        obtain ⟨kc3, kf3⟩ := HKC.out _ _ (by (repeat (first | exact Below.refl _ _ | exact bR1 | refine below_alloc ?_ _ | refine below_drew ?_ | refine below_ext ?_ _))) gr1
                        have b1 := HB1.out _ _ (by (repeat (first | exact Below.refl _ _ | exact bR1 | refine below_alloc ?_ _ | refine below_drew ?_ | refine below_ext ?_ _))) gr1
                        refine hK.out _ _ ?_ (fun hHeld2 => ?_)
                        · (try dsimp only)
                          refine KEEP.out _ ?_
                          (repeat (first | exact Below.refl _ _ | exact bW1 | exact bWr | exact b1 | refine Below.setCell ?_ hClo _ | refine below_alloc ?_ _ | refine below_drew ?_ | refine below_ext ?_ _))
                        clear hK K hHeld
                        have hHeld := hHeld2
                        clear hHeld2
                        try simp only [List.getElem_toArray, List.getElem_cons_succ, List.getElem_cons_zero, Act.put, List.setIfInBounds_toArray, List.set_cons_zero, List.set_cons_succ]
                        refine wpAnyH_take (i := 13) (v := ?_) rfl (by kernel_rfl) (by kernel_rfl) (by kernel_rfl) (fun _ _ _ h => h) (Or.inl ⟨by rfl, ?_⟩) hHeld ?_
                        rotate_left
                        · intro w hSw; (try dsimp only at hSw); (try simp only [List.getElem_toArray, List.getElem_cons_succ, List.getElem_cons_zero]); first | (go_simp; done) | (go_simp; with_reducible rfl)
                        try simp only [List.getElem_toArray, List.getElem_cons_succ, List.getElem_cons_zero, Act.put, List.setIfInBounds_toArray, List.set_cons_zero, List.set_cons_succ]
                        refine wpAnyH_ready (rs := [14]) (by kernel_rfl) (by simp) ?_
                        refine AllReadyH.cons rfl (fun K hK => ?_) ?_
                        · skip
                          try simp only [List.getElem_toArray, List.getElem_cons_succ, List.getElem_cons_zero]
                          go_simp
                          refine hK.out _ _ ?_ (fun hHeld2 => ?_)
                          · (try dsimp only)
                            refine KEEP.out _ ?_
                            (repeat (first | exact Below.refl _ _ | exact bW1 | exact bWr | exact b1 | refine Below.setCell ?_ hClo _ | refine below_alloc ?_ _ | refine below_drew ?_ | refine below_ext ?_ _))
                          clear hK K hHeld
                          have hHeld := hHeld2
                          clear hHeld2
                          try simp only [List.getElem_toArray, List.getElem_cons_succ, List.getElem_cons_zero, Act.put, List.setIfInBounds_toArray, List.set_cons_zero, List.set_cons_succ]
                          refine wpAnyH_done (by kernel_rfl) ?_ _
                          refine NoPanic.normal ?_
                          go_wp2_with fail
                          go_roundw
                          case rel =>
                            rw [ob_eq] at gr1
                            rw [ob_eq b'] at hat1
                            obtain ⟨b2, d2, kr2, xs2, KB2, hv2, T2⟩ := HT.out.snoc (⟨y1.w.alloc _, by (repeat (first | exact Below.refl _ _ | exact bR1 | refine below_alloc ?_ _ | refine below_drew ?_ | refine below_ext ?_ _))⟩) (hnew.ext ((Ext.self y1.w).alloc _)) (fun g hg => by have q1 := hlo g hg; simp at q1; omega) own1 gr1 hat1 rfl
                            refine ⟨k + 1, b2, d2, kr2, xs2, KB2, by go_num, by omega, ?_⟩
                            rw [List.take_add_one, HLU.out, ← HKS.out]
                            exact T2
                          case measure => simp [intOf]; omega
                        exact AllReadyH.nil
                      exact AllReadyH.nil
                    exact AllReadyH.nil
                  exact AllReadyH.nil
                exact AllReadyH.nil
              · have fk : ((k : Int) == (j : Int)) = false := by rw [beq_eq_false_iff_ne]; omega
                clear hkid
                obtain ⟨u, hu9⟩ : ∃ u, u = kid := ⟨_, rfl⟩
                have HLU : Hid (L[k]? = some u) := by rw [HL.out]; rw [List.getElem?_set_ne (fun e => hkj (by omega))]; exact HKID.out.trans (congrArg some hu9.symm)
                have HU9 := Lib.hid hu9
                clear hu9
                have KEEP : Hid (∀ w' : World, Below Wa.heap.size Wa w' → w'.cell? ⟨B, 3, none⟩ = some (.slice (some ⟨b0, o0, none⟩) t.kids.length rd) ∧ w'.cell? ⟨b0, o0 + k * 4, none⟩ = some (.int .i64 kid.op) ∧ w'.cell? ⟨b0, o0 + k * 4 + 1, none⟩ = some (.int .i64 kid.n) ∧ w'.cell? ⟨b0, o0 + k * 4 + 2, none⟩ = some (.slice (kr0 k).a kid.ty.length (kr0 k).c) ∧ w'.cell? ⟨b0, o0 + k * 4 + 3, none⟩ = some (.slice (kr0 k).b kid.kids.length (kr0 k).d)) := fun w' b => ⟨d3 ⟨w', b⟩, (Ext.mk w' b).cell K.c0, (Ext.mk w' b).cell K.c1, (Ext.mk w' b).cell K.c2, (Ext.mk w' b).cell K.c3⟩
                have CC : Hid (∀ w', Below wr.heap.size wr w' → Calls Tryd.prog 31 #[.agg #[.int .i64 kid.op, .int .i64 kid.n, .slice (kr0 k).a kid.ty.length (kr0 k).c, .slice (kr0 k).b kid.kids.length (kr0 k).d], .int .i64 0, .int .i64 0] w' (NewTmO w' u)) := fun w' b => by
                  have b2 := bWr.trans (b.mono bWr.size)
                  rw [HU9.out]
                  have CQ := l2Shift_ans kid (hsub.ext ⟨w', b2⟩) hok (by omega) (by omega) 0 0 (by omega) (by omega) (by omega) 0 (by omega) (by omega) (Ext.self w')
                  rw [show (0 : Int) + 0 = 0 from rfl, Tm.shf_id hok] at CQ
                  exact CQ
                have c3 : ∀ w', Below wr.heap.size wr w' → w'.cell? ⟨C, 3, none⟩ = some (.slice b' ks.length d') := fun w' b => T.cells.2.2.2 ⟨w', b⟩
                have c30 := c3 wr (Below.refl _ _)
                have ROW : Hid (∀ w', Below wr.heap.size wr w' → w'.ownsRow 0 29 4 (.slice b' ks.length d') ks.length xq) := fun w' b => owns_ext T.kids.row ⟨w', b⟩
                have hClo := T.lo
                have HKC : Hid (∀ (w0 w1 : World), Below wr.heap.size wr w0 → w0.grownBy w1 (Value.slice b' ks.length d').ownBlock → w1.cell? ⟨C, 3, none⟩ = some (.slice b' ks.length d') ∧ w1.frozen? ⟨C, 3, none⟩ = false) := fun w0 w1 b gr => by
                  have hb : some C ≠ (Value.slice b' ks.length d').ownBlock := by rw [ob_eq]; exact fun e => (T.lk C (.inl e.symm)).2 rfl
                  have mC : w1.heap[C]? = some (boxT t.op t.n a' t.ty.length c' b' ks.length d') := (gr.block C (Nat.lt_of_lt_of_le T.cLt b.size) hb).trans ((Ext.mk w0 b).blk T.box)
                  exact ⟨blk_cell mC 3, blk_free mC 3⟩
                have HB1 : Hid (∀ (w0 w1 : World), Below wr.heap.size wr w0 → w0.grownBy w1 (Value.slice b' ks.length d').ownBlock → Below Wa.heap.size Wa w1) := fun w0 w1 b gr =>
                  (bWr.trans (b.mono bWr.size)).grown gr (Nat.le_trans bWr.size b.size) (fun g e => by rw [ob_eq] at e; exact (T.lk g (.inl e)).1)
                have HT := Lib.hid T
                clear T hmem hsub
                have hmx : ks.length + 1 ≤ maxLen := by unfold maxLen; omega
                have hbx : (ks.length + 1) * 64 ≤ 140737488355328 := by omega
                go_upto_region 9 with fail
                refine wp_region_noPanic ?_
                refine wp_region_held_drew (S := (fun w' => w'.cell? ⟨B, 3, none⟩ = some (.slice (some ⟨b0, o0, none⟩) t.kids.length rd) ∧ w'.cell? ⟨b0, o0 + k * 4, none⟩ = some (.int .i64 kid.op) ∧ w'.cell? ⟨b0, o0 + k * 4 + 1, none⟩ = some (.int .i64 kid.n) ∧ w'.cell? ⟨b0, o0 + k * 4 + 2, none⟩ = some (.slice (kr0 k).a kid.ty.length (kr0 k).c) ∧ w'.cell? ⟨b0, o0 + k * 4 + 3, none⟩ = some (.slice (kr0 k).b kid.kids.length (kr0 k).d))) (by kernel_rfl) ?_ (fun hHeld => ?_)
                · (try dsimp only)
                  refine KEEP.out _ ?_
                  (repeat (first | exact Below.refl _ _ | exact bW1 | exact bWr | exact b1 | refine Below.setCell ?_ hClo _ | refine below_alloc ?_ _ | refine below_drew ?_ | refine below_ext ?_ _))
                refine wpAnyH_take (i := 0) (v := ?_) rfl (by kernel_rfl) (by kernel_rfl) (by kernel_rfl) (fun _ _ _ h => h) (Or.inl ⟨by rfl, ?_⟩) hHeld ?_
                rotate_left
                · intro w hSw; (try dsimp only at hSw); (try simp only [List.getElem_toArray, List.getElem_cons_zero]); first | (go_simp; done) | (go_simp; with_reducible rfl)
                try simp only [List.getElem_toArray, List.getElem_cons_zero, Act.put, List.setIfInBounds_toArray, List.set_cons_zero, List.set_cons_succ]
                refine wpAnyH_take (i := 2) (v := ?_) rfl (by kernel_rfl) (by kernel_rfl) (by kernel_rfl) (fun _ _ _ h => h) (Or.inl ⟨by rfl, ?_⟩) hHeld ?_
                rotate_left
                · intro w hSw; (try dsimp only at hSw); (try simp only [List.getElem_toArray, List.getElem_cons_succ, List.getElem_cons_zero]); first | (go_simp; done) | (go_simp; with_reducible rfl)
                try simp only [List.getElem_toArray, List.getElem_cons_succ, List.getElem_cons_zero, Act.put, List.setIfInBounds_toArray, List.set_cons_zero, List.set_cons_succ]
                refine wpAnyH_take (i := 3) (v := ?_) rfl (by kernel_rfl) (by kernel_rfl) (by kernel_rfl) (fun _ _ _ h => h) (Or.inl ⟨by rfl, ?_⟩) hHeld ?_
                rotate_left
                · intro w hSw; (try dsimp only at hSw); (try simp only [List.getElem_toArray, List.getElem_cons_succ, List.getElem_cons_zero]); first | (go_simp; done) | (go_simp; with_reducible rfl)
                try simp only [List.getElem_toArray, List.getElem_cons_succ, List.getElem_cons_zero, Act.put, List.setIfInBounds_toArray, List.set_cons_zero, List.set_cons_succ]
                refine wpAnyH_take (i := 4) (v := ?_) rfl (by kernel_rfl) (by kernel_rfl) (by kernel_rfl) (fun _ _ _ h => h) (Or.inl ⟨by rfl, ?_⟩) hHeld ?_
                rotate_left
                · intro w hSw; (try dsimp only at hSw); (try simp only [List.getElem_toArray, List.getElem_cons_succ, List.getElem_cons_zero]); first | (go_simp; done) | (go_simp; with_reducible rfl)
                try simp only [List.getElem_toArray, List.getElem_cons_succ, List.getElem_cons_zero, Act.put, List.setIfInBounds_toArray, List.set_cons_zero, List.set_cons_succ]
                refine wpAnyH_take (i := 5) (v := ?_) rfl (by kernel_rfl) (by kernel_rfl) (by kernel_rfl) (fun _ _ _ h => h) (Or.inl ⟨by rfl, ?_⟩) hHeld ?_
                rotate_left
                · intro w hSw; (try dsimp only at hSw); (try simp only [List.getElem_toArray, List.getElem_cons_succ, List.getElem_cons_zero]); first | (go_simp; done) | (go_simp; with_reducible rfl)
                try simp only [List.getElem_toArray, List.getElem_cons_succ, List.getElem_cons_zero, Act.put, List.setIfInBounds_toArray, List.set_cons_zero, List.set_cons_succ]
                refine wpAnyH_take (i := 6) (v := ?_) rfl (by kernel_rfl) (by kernel_rfl) (by kernel_rfl) (fun _ _ _ h => h) (Or.inl ⟨by rfl, ?_⟩) hHeld ?_
                rotate_left
                · intro w hSw; (try dsimp only at hSw); (try simp only [List.getElem_toArray, List.getElem_cons_succ, List.getElem_cons_zero]); first | (go_simp; done) | (go_simp; with_reducible rfl)
                try simp only [List.getElem_toArray, List.getElem_cons_succ, List.getElem_cons_zero, Act.put, List.setIfInBounds_toArray, List.set_cons_zero, List.set_cons_succ]
                refine wpAnyH_ready (rs := [1, 7]) (by kernel_rfl) (by simp) ?_
                refine AllReadyH.cons rfl (fun K hK => ?_) ?_
                · skip
                  try simp only [List.getElem_toArray, List.getElem_cons_succ, List.getElem_cons_zero]
                  go_simp
                  refine hK.out _ _ ?_ (fun hHeld2 => ?_)
                  · (try dsimp only)
                    refine KEEP.out _ ?_
                    (repeat (first | exact Below.refl _ _ | exact bW1 | exact bWr | exact b1 | refine Below.setCell ?_ hClo _ | refine below_alloc ?_ _ | refine below_drew ?_ | refine below_ext ?_ _))
                  clear hK K hHeld
                  have hHeld := hHeld2
                  clear hHeld2
                  try simp only [List.getElem_toArray, List.getElem_cons_succ, List.getElem_cons_zero, Act.put, List.setIfInBounds_toArray, List.set_cons_zero, List.set_cons_succ]
                  refine wpAnyH_ready (rs := [7]) (by kernel_rfl) (by simp) ?_
                  refine AllReadyH.cons rfl (fun K hK => ?_) ?_
                  · skip
                    try simp only [List.getElem_toArray, List.getElem_cons_succ, List.getElem_cons_zero]
                    go_simp
                    refine Calls.mono (CC.out _ (by (repeat (first | exact Below.refl _ _ | exact bR1 | refine below_alloc ?_ _ | refine below_drew ?_ | refine below_ext ?_ _)))) ?_
                    rintro e w' ⟨r', NB, y1, rfl, rfl, hnew, hlo⟩
                    have c32 := c3 _ (by (repeat (first | exact Below.refl _ _ | exact bR1 | refine below_alloc ?_ _ | refine below_drew ?_ | refine below_ext ?_ _)) : Below wr.heap.size wr y1.w)
                    have c33 := fun o => c3 _ (by (repeat (first | exact Below.refl _ _ | exact bR1 | refine below_alloc ?_ _ | refine below_drew ?_ | refine below_ext ?_ _)) : Below wr.heap.size wr (y1.w.alloc o))
                    (try dsimp only)
                    refine hK.out _ _ ?_ (fun hHeld2 => ?_)
                    · (try dsimp only)
                      refine KEEP.out _ ?_
                      (repeat (first | exact Below.refl _ _ | exact bW1 | exact bWr | exact b1 | refine Below.setCell ?_ hClo _ | refine below_alloc ?_ _ | refine below_drew ?_ | refine below_ext ?_ _))
                    clear hK K hHeld
                    have hHeld := hHeld2
                    clear hHeld2
                    try simp only [List.getElem_toArray, List.getElem_cons_succ, List.getElem_cons_zero, Act.put, List.setIfInBounds_toArray, List.set_cons_zero, List.set_cons_succ]
                    refine wpAnyH_ready (rs := [8]) (by kernel_rfl) (by simp) ?_
                    refine AllReadyH.cons rfl (fun K hK => ?_) ?_
                    · skip
                      try simp only [List.getElem_toArray, List.getElem_cons_succ, List.getElem_cons_zero]
                      go_simp
                      refine hK.out _ _ ?_ (fun hHeld2 => ?_)
                      · (try dsimp only)
                        refine KEEP.out _ ?_
                        (repeat (first | exact Below.refl _ _ | exact bW1 | exact bWr | exact b1 | refine Below.setCell ?_ hClo _ | refine below_alloc ?_ _ | refine below_drew ?_ | refine below_ext ?_ _))
                      clear hK K hHeld
                      have hHeld := hHeld2
                      clear hHeld2
                      try simp only [List.getElem_toArray, List.getElem_cons_succ, List.getElem_cons_zero, Act.put, List.setIfInBounds_toArray, List.set_cons_zero, List.set_cons_succ]
                      refine wpAnyH_ready (rs := [9]) (by kernel_rfl) (by simp) ?_
                      refine AllReadyH.cons rfl (fun K hK => ?_) ?_
                      · skip
                        refine step_app_src (by rfl) _ _ 27 (by rfl) 0 29 iT (.agg #[.int .i64 0, .int .i64 0, .slice none 0 0, .slice none 0 0]) 4 64 Tryd.underlying27 hiT hzT0 hzT1 hzT2 rfl (by decide) (.slice b' ks.length d') ks.length xq (by rfl) (ROW.out _ (by (repeat (first | exact Below.refl _ _ | exact bR1 | refine below_alloc ?_ _ | refine below_drew ?_ | refine below_ext ?_ _)))) (some ⟨y1.w.heap.size, 0, none⟩) 1 1 [.int .i64 u.op, .int .i64 u.n, .slice r'.a u.ty.length r'.c, .slice r'.b u.kids.length r'.d] (by rfl) ⟨rfl, four_one _ _ _ _ rfl rfl rfl rfl, .inr ⟨_, rfl, cell_four_at _ _ _ _ _ _ _ rfl⟩⟩ hmx hbx (Nat.zero_le _) ?_
                        intro A2 c2 w1 own1 gr1 hat1
                        obtain ⟨kc3, kf3⟩ := HKC.out _ _ (by (repeat (first | exact Below.refl _ _ | exact bR1 | refine below_alloc ?_ _ | refine below_drew ?_ | refine below_ext ?_ _))) gr1
                        have b1 := HB1.out _ _ (by (repeat (first | exact Below.refl _ _ | exact bR1 | refine below_alloc ?_ _ | refine below_drew ?_ | refine below_ext ?_ _))) gr1
                        refine hK.out _ _ ?_ (fun hHeld2 => ?_)
                        · (try dsimp only)
                          refine KEEP.out _ ?_
                          (repeat (first | exact Below.refl _ _ | exact bW1 | exact bWr | exact b1 | refine Below.setCell ?_ hClo _ | refine below_alloc ?_ _ | refine below_drew ?_ | refine below_ext ?_ _))
                        clear hK K hHeld
                        have hHeld := hHeld2
                        clear hHeld2
                        try simp only [List.getElem_toArray, List.getElem_cons_succ, List.getElem_cons_zero, Act.put, List.setIfInBounds_toArray, List.set_cons_zero, List.set_cons_succ]
                        refine wpAnyH_take (i := 10) (v := ?_) rfl (by kernel_rfl) (by kernel_rfl) (by kernel_rfl) (fun _ _ _ h => h) (Or.inl ⟨by rfl, ?_⟩) hHeld ?_
                        rotate_left
                        · intro w hSw; (try dsimp only at hSw); (try simp only [List.getElem_toArray, List.getElem_cons_succ, List.getElem_cons_zero]); first | (go_simp; done) | (go_simp; with_reducible rfl)
                        try simp only [List.getElem_toArray, List.getElem_cons_succ, List.getElem_cons_zero, Act.put, List.setIfInBounds_toArray, List.set_cons_zero, List.set_cons_succ]
                        refine wpAnyH_ready (rs := [11]) (by kernel_rfl) (by simp) ?_
                        refine AllReadyH.cons rfl (fun K hK => ?_) ?_
                        · skip
                          try simp only [List.getElem_toArray, List.getElem_cons_succ, List.getElem_cons_zero]
                          go_simp
                          refine hK.out _ _ ?_ (fun hHeld2 => ?_)
                          · (try dsimp only)
                            refine KEEP.out _ ?_
                            (repeat (first | exact Below.refl _ _ | exact bW1 | exact bWr | exact b1 | refine Below.setCell ?_ hClo _ | refine below_alloc ?_ _ | refine below_drew ?_ | refine below_ext ?_ _))
                          clear hK K hHeld
                          have hHeld := hHeld2
                          clear hHeld2
                          try simp only [List.getElem_toArray, List.getElem_cons_succ, List.getElem_cons_zero, Act.put, List.setIfInBounds_toArray, List.set_cons_zero, List.set_cons_succ]
                          refine wpAnyH_done (by kernel_rfl) ?_ _
                          refine NoPanic.normal ?_
                          go_wp2_with fail
                          go_roundw
                          case rel =>
                            rw [ob_eq] at gr1
                            rw [ob_eq b'] at hat1
                            obtain ⟨b2, d2, kr2, xs2, KB2, hv2, T2⟩ := HT.out.snoc (⟨y1.w.alloc _, by (repeat (first | exact Below.refl _ _ | exact bR1 | refine below_alloc ?_ _ | refine below_drew ?_ | refine below_ext ?_ _))⟩) (hnew.ext ((Ext.self y1.w).alloc _)) (fun g hg => by have q1 := hlo g hg; simp at q1; omega) own1 gr1 hat1 rfl
                            refine ⟨k + 1, b2, d2, kr2, xs2, KB2, by go_num, by omega, ?_⟩
                            rw [List.take_add_one, HLU.out, ← HKS.out]
                            exact T2
                          case measure => simp [intOf]; omega
                        exact AllReadyH.nil
                      exact AllReadyH.nil
                    exact AllReadyH.nil
                  exact AllReadyH.nil
                refine AllReadyH.cons rfl (fun K hK => ?_) ?_
                · skip
                  try simp only [List.getElem_toArray, List.getElem_cons_succ, List.getElem_cons_zero]
                  go_simp
                  refine Calls.mono (CC.out _ (by (repeat (first | exact Below.refl _ _ | exact bR1 | refine below_alloc ?_ _ | refine below_drew ?_ | refine below_ext ?_ _)))) ?_
                  rintro e w' ⟨r', NB, y1, rfl, rfl, hnew, hlo⟩
                  have c32 := c3 _ (by (repeat (first | exact Below.refl _ _ | exact bR1 | refine below_alloc ?_ _ | refine below_drew ?_ | refine below_ext ?_ _)) : Below wr.heap.size wr y1.w)
                  have c33 := fun o => c3 _ (by (repeat (first | exact Below.refl _ _ | exact bR1 | refine below_alloc ?_ _ | refine below_drew ?_ | refine below_ext ?_ _)) : Below wr.heap.size wr (y1.w.alloc o))
                  (try dsimp only)
                  refine hK.out _ _ ?_ (fun hHeld2 => ?_)
                  · (try dsimp only)
                    refine KEEP.out _ ?_
                    (repeat (first | exact Below.refl _ _ | exact bW1 | exact bWr | exact b1 | refine Below.setCell ?_ hClo _ | refine below_alloc ?_ _ | refine below_drew ?_ | refine below_ext ?_ _))
                  clear hK K hHeld
                  have hHeld := hHeld2
                  clear hHeld2
                  try simp only [List.getElem_toArray, List.getElem_cons_succ, List.getElem_cons_zero, Act.put, List.setIfInBounds_toArray, List.set_cons_zero, List.set_cons_succ]
                  refine wpAnyH_ready (rs := [1, 8]) (by kernel_rfl) (by simp) ?_
                  refine AllReadyH.cons rfl (fun K hK => ?_) ?_
                  · skip
                    try simp only [List.getElem_toArray, List.getElem_cons_succ, List.getElem_cons_zero]
                    go_simp
                    refine hK.out _ _ ?_ (fun hHeld2 => ?_)
                    · (try dsimp only)
                      refine KEEP.out _ ?_
                      (repeat (first | exact Below.refl _ _ | exact bW1 | exact bWr | exact b1 | refine Below.setCell ?_ hClo _ | refine below_alloc ?_ _ | refine below_drew ?_ | refine below_ext ?_ _))
                    clear hK K hHeld
                    have hHeld := hHeld2
                    clear hHeld2
                    try simp only [List.getElem_toArray, List.getElem_cons_succ, List.getElem_cons_zero, Act.put, List.setIfInBounds_toArray, List.set_cons_zero, List.set_cons_succ]
                    refine wpAnyH_ready (rs := [8]) (by kernel_rfl) (by simp) ?_
                    refine AllReadyH.cons rfl (fun K hK => ?_) ?_
                    · skip
                      try simp only [List.getElem_toArray, List.getElem_cons_succ, List.getElem_cons_zero]
                      go_simp
                      refine hK.out _ _ ?_ (fun hHeld2 => ?_)
                      · (try dsimp only)
                        refine KEEP.out _ ?_
                        (repeat (first | exact Below.refl _ _ | exact bW1 | exact bWr | exact b1 | refine Below.setCell ?_ hClo _ | refine below_alloc ?_ _ | refine below_drew ?_ | refine below_ext ?_ _))
                      clear hK K hHeld
                      have hHeld := hHeld2
                      clear hHeld2
                      try simp only [List.getElem_toArray, List.getElem_cons_succ, List.getElem_cons_zero, Act.put, List.setIfInBounds_toArray, List.set_cons_zero, List.set_cons_succ]
                      refine wpAnyH_ready (rs := [9]) (by kernel_rfl) (by simp) ?_
                      refine AllReadyH.cons rfl (fun K hK => ?_) ?_
                      · skip
                        refine step_app_src (by rfl) _ _ 27 (by rfl) 0 29 iT (.agg #[.int .i64 0, .int .i64 0, .slice none 0 0, .slice none 0 0]) 4 64 Tryd.underlying27 hiT hzT0 hzT1 hzT2 rfl (by decide) (.slice b' ks.length d') ks.length xq (by rfl) (ROW.out _ (by (repeat (first | exact Below.refl _ _ | exact bR1 | refine below_alloc ?_ _ | refine below_drew ?_ | refine below_ext ?_ _)))) (some ⟨y1.w.heap.size, 0, none⟩) 1 1 [.int .i64 u.op, .int .i64 u.n, .slice r'.a u.ty.length r'.c, .slice r'.b u.kids.length r'.d] (by rfl) ⟨rfl, four_one _ _ _ _ rfl rfl rfl rfl, .inr ⟨_, rfl, cell_four_at _ _ _ _ _ _ _ rfl⟩⟩ hmx hbx (Nat.zero_le _) ?_
                        intro A2 c2 w1 own1 gr1 hat1
                        obtain ⟨kc3, kf3⟩ := HKC.out _ _ (by (repeat (first | exact Below.refl _ _ | exact bR1 | refine below_alloc ?_ _ | refine below_drew ?_ | refine below_ext ?_ _))) gr1
                        have b1 := HB1.out _ _ (by (repeat (first | exact Below.refl _ _ | exact bR1 | refine below_alloc ?_ _ | refine below_drew ?_ | refine below_ext ?_ _))) gr1
                        refine hK.out _ _ ?_ (fun hHeld2 => ?_)
                        · (try dsimp only)
                          refine KEEP.out _ ?_
                          (repeat (first | exact Below.refl _ _ | exact bW1 | exact bWr | exact b1 | refine Below.setCell ?_ hClo _ | refine below_alloc ?_ _ | refine below_drew ?_ | refine below_ext ?_ _))
                        clear hK K hHeld
                        have hHeld := hHeld2
                        clear hHeld2
                        try simp only [List.getElem_toArray, List.getElem_cons_succ, List.getElem_cons_zero, Act.put, List.setIfInBounds_toArray, List.set_cons_zero, List.set_cons_succ]
                        refine wpAnyH_take (i := 10) (v := ?_) rfl (by kernel_rfl) (by kernel_rfl) (by kernel_rfl) (fun _ _ _ h => h) (Or.inl ⟨by rfl, ?_⟩) hHeld ?_
                        rotate_left
                        · intro w hSw; (try dsimp only at hSw); (try simp only [List.getElem_toArray, List.getElem_cons_succ, List.getElem_cons_zero]); first | (go_simp; done) | (go_simp; with_reducible rfl)
                        try simp only [List.getElem_toArray, List.getElem_cons_succ, List.getElem_cons_zero, Act.put, List.setIfInBounds_toArray, List.set_cons_zero, List.set_cons_succ]
                        refine wpAnyH_ready (rs := [11]) (by kernel_rfl) (by simp) ?_
                        refine AllReadyH.cons rfl (fun K hK => ?_) ?_
                        · skip
                          try simp only [List.getElem_toArray, List.getElem_cons_succ, List.getElem_cons_zero]
                          go_simp
                          refine hK.out _ _ ?_ (fun hHeld2 => ?_)
                          · (try dsimp only)
                            refine KEEP.out _ ?_
                            (repeat (first | exact Below.refl _ _ | exact bW1 | exact bWr | exact b1 | refine Below.setCell ?_ hClo _ | refine below_alloc ?_ _ | refine below_drew ?_ | refine below_ext ?_ _))
                          clear hK K hHeld
                          have hHeld := hHeld2
                          clear hHeld2
                          try simp only [List.getElem_toArray, List.getElem_cons_succ, List.getElem_cons_zero, Act.put, List.setIfInBounds_toArray, List.set_cons_zero, List.set_cons_succ]
                          refine wpAnyH_done (by kernel_rfl) ?_ _
                          refine NoPanic.normal ?_
                          go_wp2_with fail
                          go_roundw
                          case rel =>
                            rw [ob_eq] at gr1
                            rw [ob_eq b'] at hat1
                            obtain ⟨b2, d2, kr2, xs2, KB2, hv2, T2⟩ := HT.out.snoc (⟨y1.w.alloc _, by (repeat (first | exact Below.refl _ _ | exact bR1 | refine below_alloc ?_ _ | refine below_drew ?_ | refine below_ext ?_ _))⟩) (hnew.ext ((Ext.self y1.w).alloc _)) (fun g hg => by have q1 := hlo g hg; simp at q1; omega) own1 gr1 hat1 rfl
                            refine ⟨k + 1, b2, d2, kr2, xs2, KB2, by go_num, by omega, ?_⟩
                            rw [List.take_add_one, HLU.out, ← HKS.out]
                            exact T2
                          case measure => simp [intOf]; omega
                        exact AllReadyH.nil
                      exact AllReadyH.nil
                    exact AllReadyH.nil
                  refine AllReadyH.cons rfl (fun K hK => ?_) ?_
                  · skip
                    try simp only [List.getElem_toArray, List.getElem_cons_succ, List.getElem_cons_zero]
                    go_simp
                    refine hK.out _ _ ?_ (fun hHeld2 => ?_)
                    · (try dsimp only)
                      refine KEEP.out _ ?_
                      (repeat (first | exact Below.refl _ _ | exact bW1 | exact bWr | exact b1 | refine Below.setCell ?_ hClo _ | refine below_alloc ?_ _ | refine below_drew ?_ | refine below_ext ?_ _))
                    clear hK K hHeld
                    have hHeld := hHeld2
                    clear hHeld2
                    try simp only [List.getElem_toArray, List.getElem_cons_succ, List.getElem_cons_zero, Act.put, List.setIfInBounds_toArray, List.set_cons_zero, List.set_cons_succ]
                    refine wpAnyH_ready (rs := [1]) (by kernel_rfl) (by simp) ?_
                    refine AllReadyH.cons rfl (fun K hK => ?_) ?_
                    · skip
                      try simp only [List.getElem_toArray, List.getElem_cons_succ, List.getElem_cons_zero]
                      go_simp
                      refine hK.out _ _ ?_ (fun hHeld2 => ?_)
                      · (try dsimp only)
                        refine KEEP.out _ ?_
                        (repeat (first | exact Below.refl _ _ | exact bW1 | exact bWr | exact b1 | refine Below.setCell ?_ hClo _ | refine below_alloc ?_ _ | refine below_drew ?_ | refine below_ext ?_ _))
                      clear hK K hHeld
                      have hHeld := hHeld2
                      clear hHeld2
                      try simp only [List.getElem_toArray, List.getElem_cons_succ, List.getElem_cons_zero, Act.put, List.setIfInBounds_toArray, List.set_cons_zero, List.set_cons_succ]
                      refine wpAnyH_ready (rs := [9]) (by kernel_rfl) (by simp) ?_
                      refine AllReadyH.cons rfl (fun K hK => ?_) ?_
                      · skip
                        refine step_app_src (by rfl) _ _ 27 (by rfl) 0 29 iT (.agg #[.int .i64 0, .int .i64 0, .slice none 0 0, .slice none 0 0]) 4 64 Tryd.underlying27 hiT hzT0 hzT1 hzT2 rfl (by decide) (.slice b' ks.length d') ks.length xq (by rfl) (ROW.out _ (by (repeat (first | exact Below.refl _ _ | exact bR1 | refine below_alloc ?_ _ | refine below_drew ?_ | refine below_ext ?_ _)))) (some ⟨y1.w.heap.size, 0, none⟩) 1 1 [.int .i64 u.op, .int .i64 u.n, .slice r'.a u.ty.length r'.c, .slice r'.b u.kids.length r'.d] (by rfl) ⟨rfl, four_one _ _ _ _ rfl rfl rfl rfl, .inr ⟨_, rfl, cell_four_at _ _ _ _ _ _ _ rfl⟩⟩ hmx hbx (Nat.zero_le _) ?_
                        intro A2 c2 w1 own1 gr1 hat1
                        obtain ⟨kc3, kf3⟩ := HKC.out _ _ (by (repeat (first | exact Below.refl _ _ | exact bR1 | refine below_alloc ?_ _ | refine below_drew ?_ | refine below_ext ?_ _))) gr1
                        have b1 := HB1.out _ _ (by (repeat (first | exact Below.refl _ _ | exact bR1 | refine below_alloc ?_ _ | refine below_drew ?_ | refine below_ext ?_ _))) gr1
                        refine hK.out _ _ ?_ (fun hHeld2 => ?_)
                        · (try dsimp only)
                          refine KEEP.out _ ?_
                          (repeat (first | exact Below.refl _ _ | exact bW1 | exact bWr | exact b1 | refine Below.setCell ?_ hClo _ | refine below_alloc ?_ _ | refine below_drew ?_ | refine below_ext ?_ _))
                        clear hK K hHeld
                        have hHeld := hHeld2
                        clear hHeld2
                        try simp only [List.getElem_toArray, List.getElem_cons_succ, List.getElem_cons_zero, Act.put, List.setIfInBounds_toArray, List.set_cons_zero, List.set_cons_succ]
                        refine wpAnyH_take (i := 10) (v := ?_) rfl (by kernel_rfl) (by kernel_rfl) (by kernel_rfl) (fun _ _ _ h => h) (Or.inl ⟨by rfl, ?_⟩) hHeld ?_
                        rotate_left
                        · intro w hSw; (try dsimp only at hSw); (try simp only [List.getElem_toArray, List.getElem_cons_succ, List.getElem_cons_zero]); first | (go_simp; done) | (go_simp; with_reducible rfl)
                        try simp only [List.getElem_toArray, List.getElem_cons_succ, List.getElem_cons_zero, Act.put, List.setIfInBounds_toArray, List.set_cons_zero, List.set_cons_succ]
                        refine wpAnyH_ready (rs := [11]) (by kernel_rfl) (by simp) ?_
                        refine AllReadyH.cons rfl (fun K hK => ?_) ?_
                        · skip
                          try simp only [List.getElem_toArray, List.getElem_cons_succ, List.getElem_cons_zero]
                          go_simp
                          refine hK.out _ _ ?_ (fun hHeld2 => ?_)
                          · (try dsimp only)
                            refine KEEP.out _ ?_
                            (repeat (first | exact Below.refl _ _ | exact bW1 | exact bWr | exact b1 | refine Below.setCell ?_ hClo _ | refine below_alloc ?_ _ | refine below_drew ?_ | refine below_ext ?_ _))
                          clear hK K hHeld
                          have hHeld := hHeld2
                          clear hHeld2
                          try simp only [List.getElem_toArray, List.getElem_cons_succ, List.getElem_cons_zero, Act.put, List.setIfInBounds_toArray, List.set_cons_zero, List.set_cons_succ]
                          refine wpAnyH_done (by kernel_rfl) ?_ _
                          refine NoPanic.normal ?_
                          go_wp2_with fail
                          go_roundw
                          case rel =>
                            rw [ob_eq] at gr1
                            rw [ob_eq b'] at hat1
                            obtain ⟨b2, d2, kr2, xs2, KB2, hv2, T2⟩ := HT.out.snoc (⟨y1.w.alloc _, by (repeat (first | exact Below.refl _ _ | exact bR1 | refine below_alloc ?_ _ | refine below_drew ?_ | refine below_ext ?_ _))⟩) (hnew.ext ((Ext.self y1.w).alloc _)) (fun g hg => by have q1 := hlo g hg; simp at q1; omega) own1 gr1 hat1 rfl
                            refine ⟨k + 1, b2, d2, kr2, xs2, KB2, by go_num, by omega, ?_⟩
                            rw [List.take_add_one, HLU.out, ← HKS.out]
                            exact T2
                          case measure => simp [intOf]; omega
                        exact AllReadyH.nil
                      exact AllReadyH.nil
                    exact AllReadyH.nil
                  exact AllReadyH.nil
                exact AllReadyH.nil
            · have hke : k = t.kids.length := by omega
              have hlt' : ¬ (k : Int) < (t.kids.length : Int) := by omega
              rw [show L.take k = L by rw [hke, ← HLl.out, List.take_length]] at T
              have bRr : wr.heap[B + 2]? = _ := (Ext.mk wr bWr).blk bR
              have HKE := Lib.hid hke
              clear hke
              have c0 := blk_cell T.box 0
              have c1 := blk_cell T.box 1
              have c2 := blk_cell T.box 2
              have c3 := blk_cell T.box 3
              simp at c0 c1 c2 c3
              have n0 := blk_cell bRr 0
              have n1 := blk_cell bRr 1
              have n2 := blk_cell bRr 2
              have n3 := blk_cell bRr 3
              have p0 := blk_free bRr 0
              have p1 := blk_free bRr 1
              have p2 := blk_free bRr 2
              have p3 := blk_free bRr 3
              simp at n0 n1 n2 n3
              have HT := Lib.hid T
              have hsz2 : B + 2 < Wa.heap.size := hBW.2.2
              have belr := belA.trans (bWr.mono belA.size)
              clear T
              go_wp2
              clear n0 n1 n2 n3 p0 p1 p2 p3 c0 c1 c2 c3
              generalize hY4 : World.setCell _ _ _ = Y4
              obtain ⟨belD, hsame, hgr, r0, r1, r2, r3⟩ := ret4 (W := W) belr (by omega) bRr hY4
              refine bodyPost_ret (v := TV.val ⟨a', c', b', d'⟩ (.mk t.op t.n t.ty L)) (by simp [TV.val, Tm.op, Tm.n, Tm.ty, Tm.kids, results, Tryd.results106, go_sem, r0, r1, r2, r3]) rfl ?_
              obtain ⟨own, olo⟩ := HT.out.done hsame (.inl hsz2)
              rw [← HL.out]
              exact ⟨_, _, ⟨Y4, belD⟩, rfl, rfl, own, fun g hg => Nat.le_trans belA.size (olo g hg)⟩
        · have hpc2 : 1 < pc := by omega
          have hq1 : (1 : Int) ≤ (p.length : Int) + 1 := by omega
          have hq2 : (p.length : Int) + 1 ≤ (pc : Int) := by omega
          have hq3 : (1 : Int) < (pc : Int) := by omega
          have L0 := T0
          clear L0
          obtain ⟨L, hL⟩ : ∃ L, L = t.kids.set j d := ⟨_, rfl⟩
          have hLl : L.length = t.kids.length := by rw [hL, List.length_set]
          have HL := Lib.hid hL
          have HLl := Lib.hid hLl
          clear hL hLl
          obtain ⟨wl, hwl⟩ : ∃ wl : World, wl = wc := ⟨_, rfl⟩
          rw [← hwl] at T0 ⊢
          clear hwl
          have HU := Lib.hid (⟨u0, u1, u2, u3⟩ : _ ∧ _ ∧ _ ∧ _)
          clear u0 u1 u2 u3
          go_wp2_with fail
          go_loopw [8] (fun iz wr => ∃ (k : Nat) (b' : Option Addr) (d' : Nat) (kq : Nat → TV) (xq : List Value) (KB : Nat → Nat → Prop), iz = .int .i64 k ∧ k ≤ t.kids.length ∧ TB Wa wr C t.op t.n t.ty a' c' (L.take k) b' d' kq xq KB) (fun i _ => t.kids.length - (intOf i).toNat)
          case atStart => exact ⟨0, _, _, _, _, _, rfl, by omega, by simpa using T0⟩
          case round =>
            obtain ⟨k, b', d', kq, xq, KB, rfl, hk, T⟩ := hrel
            have bWr := T.bel
            have m3 := d3 ⟨wr, bWr⟩
            by_cases hlt : k < t.kids.length
            · have hlt' : (k : Int) < (t.kids.length : Int) := by omega
              have hk0 : (0 : Int) ≤ (k : Int) := by omega
              obtain ⟨kid, hkid⟩ : ∃ kid, t.kids[k]? = some kid := ⟨_, List.getElem?_eq_getElem hlt⟩
              have hmem : kid ∈ t.kids := List.mem_of_getElem? hkid
              have HKID := Lib.hid hkid
              obtain ⟨b0, o0, hrb, K⟩ := A.kid k kid hkid
              have hsub := A.sub k kid hkid
              dsimp only at hrb
              subst hrb
              obtain ⟨ks, hks⟩ : ∃ ks, ks = L.take k := ⟨_, rfl⟩
              have hkl : ks.length = k := by have := HLl.out; rw [hks, List.length_take]; omega
              have hkl3 : ks.length ≤ 3 := by omega
              have HKS := Lib.hid hks
              rw [← hks] at T
              clear hks hkl
              have hszk : kid.sz + 1 ≤ t.sz := Tm.sz_kid hmem
              have hadd0 := addsO_ge t.op k
              have hadd2 := addsO_le t.op k
              have hok : OkT size closed (vars + addsO t.op k) kid := ok.kid hkid
              have mc := m1 wr bWr
              by_cases hkj : k = j
              · subst hkj
                have ec : kid = c := Option.some.inj (hkid.symm.trans HJ.out)
                have hz : kid.putP (p) v = some d := by rw [ec]; exact HC.out
                clear ec
                clear hkid
                obtain ⟨u, hu9⟩ : ∃ u, u = d := ⟨_, rfl⟩
                have HLU : Hid (L[k]? = some u) := by rw [HL.out]; rw [List.getElem?_set_self hlt]; exact congrArg some hu9.symm
                have HU9 := Lib.hid hu9
                clear hu9
                have KEEP : Hid (∀ w' : World, Below Wa.heap.size Wa w' → w'.cell? ⟨b1, o1, none⟩ = some (.int .i64 (k : Int)) ∧ w'.cell? ⟨B, 3, none⟩ = some (.slice (some ⟨b0, o0, none⟩) t.kids.length rd) ∧ w'.cell? ⟨b0, o0 + k * 4, none⟩ = some (.int .i64 kid.op) ∧ w'.cell? ⟨b0, o0 + k * 4 + 1, none⟩ = some (.int .i64 kid.n) ∧ w'.cell? ⟨b0, o0 + k * 4 + 2, none⟩ = some (.slice (kr0 k).a kid.ty.length (kr0 k).c) ∧ w'.cell? ⟨b0, o0 + k * 4 + 3, none⟩ = some (.slice (kr0 k).b kid.kids.length (kr0 k).d) ∧ w'.cell? ⟨B + 1, 0, none⟩ = some (.int .i64 v.op) ∧ w'.cell? ⟨B + 1, 1, none⟩ = some (.int .i64 v.n) ∧ w'.cell? ⟨B + 1, 2, none⟩ = some (.slice va v.ty.length vc) ∧ w'.cell? ⟨B + 1, 3, none⟩ = some (.slice vb v.kids.length vd)) := fun w' b => ⟨m1 w' b, d3 ⟨w', b⟩, (Ext.mk w' b).cell K.c0, (Ext.mk w' b).cell K.c1, (Ext.mk w' b).cell K.c2, (Ext.mk w' b).cell K.c3, HU.out.1 ⟨w', b⟩, HU.out.2.1 ⟨w', b⟩, HU.out.2.2.1 ⟨w', b⟩, HU.out.2.2.2 ⟨w', b⟩⟩
                have CC : Hid (∀ w', Below wr.heap.size wr w' → Calls Tryd.prog 106 #[.agg #[.int .i64 kid.op, .int .i64 kid.n, .slice (kr0 k).a kid.ty.length (kr0 k).c, .slice (kr0 k).b kid.kids.length (kr0 k).d], .slice (some ⟨b1, o1 + 1, none⟩) p.length (pc - 1), .agg #[.int .i64 v.op, .int .i64 v.n, .slice va v.ty.length vc, .slice vb v.kids.length vd]] w' (NewTmO w' u)) := fun w' b => by
                  have b2 := bWr.trans (b.mono bWr.size)
                  have b3 : Below W.heap.size W w' := belA.trans (b2.mono belA.size)
                  rw [HU9.out]
                  have CQ : Calls Tryd.prog 106 #[(kr0 k).val kid, .slice (some ⟨b1, o1 + 1, none⟩) p.length (pc - 1), (TV.mk va vc vb vd).val v] w' (NewTmO w' d) 
                      := HI.out w' 0 kid (kr0 k) ((hsub.lower (Nat.zero_le _)).ext ⟨w', b2⟩) size _ closed hok (by omega) (by omega) v ⟨va, vc, vb, vd⟩ (Lib.hid fun w2 b4 => HS.out w2 (b3.trans (b4.mono b3.size))) (some ⟨b1, o1 + 1, none⟩) (pc - 1) (htA.ext ⟨w', b2⟩) (by first | (simp; done) | omega) (by first | (simp; done) | omega) d hz (Ext.self w')
                  unfold TV.val at CQ
                  exact CQ
                have c3 : ∀ w', Below wr.heap.size wr w' → w'.cell? ⟨C, 3, none⟩ = some (.slice b' ks.length d') := fun w' b => T.cells.2.2.2 ⟨w', b⟩
                have c30 := c3 wr (Below.refl _ _)
                have ROW : Hid (∀ w', Below wr.heap.size wr w' → w'.ownsRow 0 29 4 (.slice b' ks.length d') ks.length xq) := fun w' b => owns_ext T.kids.row ⟨w', b⟩
                have hClo := T.lo
                have HKC : Hid (∀ (w0 w1 : World), Below wr.heap.size wr w0 → w0.grownBy w1 (Value.slice b' ks.length d').ownBlock → w1.cell? ⟨C, 3, none⟩ = some (.slice b' ks.length d') ∧ w1.frozen? ⟨C, 3, none⟩ = false) := fun w0 w1 b gr => by
                  have hb : some C ≠ (Value.slice b' ks.length d').ownBlock := by rw [ob_eq]; exact fun e => (T.lk C (.inl e.symm)).2 rfl
                  have mC : w1.heap[C]? = some (boxT t.op t.n a' t.ty.length c' b' ks.length d') := (gr.block C (Nat.lt_of_lt_of_le T.cLt b.size) hb).trans ((Ext.mk w0 b).blk T.box)
                  exact ⟨blk_cell mC 3, blk_free mC 3⟩
                have HB1 : Hid (∀ (w0 w1 : World), Below wr.heap.size wr w0 → w0.grownBy w1 (Value.slice b' ks.length d').ownBlock → Below Wa.heap.size Wa w1) := fun w0 w1 b gr =>
                  (bWr.trans (b.mono bWr.size)).grown gr (Nat.le_trans bWr.size b.size) (fun g e => by rw [ob_eq] at e; exact (T.lk g (.inl e)).1)
                have HT := Lib.hid T
                clear T hmem hsub
                have hmx : ks.length + 1 ≤ maxLen := by unfold maxLen; omega
                have hbx : (ks.length + 1) * 64 ≤ 140737488355328 := by omega
                go_upto_region 8 with fail
                refine wp_region_noPanic ?_
                refine wp_region_held_drew (S := (fun w' => w'.cell? ⟨b1, o1, none⟩ = some (.int .i64 (k : Int)) ∧ w'.cell? ⟨B, 3, none⟩ = some (.slice (some ⟨b0, o0, none⟩) t.kids.length rd) ∧ w'.cell? ⟨b0, o0 + k * 4, none⟩ = some (.int .i64 kid.op) ∧ w'.cell? ⟨b0, o0 + k * 4 + 1, none⟩ = some (.int .i64 kid.n) ∧ w'.cell? ⟨b0, o0 + k * 4 + 2, none⟩ = some (.slice (kr0 k).a kid.ty.length (kr0 k).c) ∧ w'.cell? ⟨b0, o0 + k * 4 + 3, none⟩ = some (.slice (kr0 k).b kid.kids.length (kr0 k).d) ∧ w'.cell? ⟨B + 1, 0, none⟩ = some (.int .i64 v.op) ∧ w'.cell? ⟨B + 1, 1, none⟩ = some (.int .i64 v.n) ∧ w'.cell? ⟨B + 1, 2, none⟩ = some (.slice va v.ty.length vc) ∧ w'.cell? ⟨B + 1, 3, none⟩ = some (.slice vb v.kids.length vd))) (by kernel_rfl) ?_ (fun hHeld => ?_)
                · (try dsimp only)
                  refine KEEP.out _ ?_
                  (repeat (first | exact Below.refl _ _ | exact bW1 | exact bWr | exact b1 | refine Below.setCell ?_ hClo _ | refine below_alloc ?_ _ | refine below_drew ?_ | refine below_ext ?_ _))
                refine wpAnyH_take (i := 0) (v := ?_) rfl (by kernel_rfl) (by kernel_rfl) (by kernel_rfl) (fun _ _ _ h => h) (Or.inl ⟨by rfl, ?_⟩) hHeld ?_
                rotate_left
                · intro w hSw; (try dsimp only at hSw); (try simp only [List.getElem_toArray, List.getElem_cons_zero]); first | (go_simp; done) | (go_simp; with_reducible rfl)
                try simp only [List.getElem_toArray, List.getElem_cons_zero, Act.put, List.setIfInBounds_toArray, List.set_cons_zero, List.set_cons_succ]
                refine wpAnyH_take (i := 2) (v := ?_) rfl (by kernel_rfl) (by kernel_rfl) (by kernel_rfl) (fun _ _ _ h => h) (Or.inl ⟨by rfl, ?_⟩) hHeld ?_
                rotate_left
                · intro w hSw; (try dsimp only at hSw); (try simp only [List.getElem_toArray, List.getElem_cons_succ, List.getElem_cons_zero]); first | (go_simp; done) | (go_simp; with_reducible rfl)
                try simp only [List.getElem_toArray, List.getElem_cons_succ, List.getElem_cons_zero, Act.put, List.setIfInBounds_toArray, List.set_cons_zero, List.set_cons_succ]
                refine wpAnyH_take (i := 3) (v := ?_) rfl (by kernel_rfl) (by kernel_rfl) (by kernel_rfl) (fun _ _ _ h => h) (Or.inl ⟨by rfl, ?_⟩) hHeld ?_
                rotate_left
                · intro w hSw; (try dsimp only at hSw); (try simp only [List.getElem_toArray, List.getElem_cons_succ, List.getElem_cons_zero]); first | (go_simp; done) | (go_simp; with_reducible rfl)
                try simp only [List.getElem_toArray, List.getElem_cons_succ, List.getElem_cons_zero, Act.put, List.setIfInBounds_toArray, List.set_cons_zero, List.set_cons_succ]
                refine wpAnyH_take (i := 4) (v := ?_) rfl (by kernel_rfl) (by kernel_rfl) (by kernel_rfl) (fun _ _ _ h => h) (Or.inl ⟨by rfl, ?_⟩) hHeld ?_
                rotate_left
                · intro w hSw; (try dsimp only at hSw); (try simp only [List.getElem_toArray, List.getElem_cons_succ, List.getElem_cons_zero]); first | (go_simp; done) | (go_simp; with_reducible rfl)
                try simp only [List.getElem_toArray, List.getElem_cons_succ, List.getElem_cons_zero, Act.put, List.setIfInBounds_toArray, List.set_cons_zero, List.set_cons_succ]
                refine wpAnyH_take (i := 5) (v := ?_) rfl (by kernel_rfl) (by kernel_rfl) (by kernel_rfl) (fun _ _ _ h => h) (Or.inl ⟨by rfl, ?_⟩) hHeld ?_
                rotate_left
                · intro w hSw; (try dsimp only at hSw); (try simp only [List.getElem_toArray, List.getElem_cons_succ, List.getElem_cons_zero]); first | (go_simp; done) | (go_simp; with_reducible rfl)
                try simp only [List.getElem_toArray, List.getElem_cons_succ, List.getElem_cons_zero, Act.put, List.setIfInBounds_toArray, List.set_cons_zero, List.set_cons_succ]
                refine wpAnyH_take (i := 6) (v := ?_) rfl (by kernel_rfl) (by kernel_rfl) (by kernel_rfl) (fun _ _ _ h => h) (Or.inl ⟨by rfl, ?_⟩) hHeld ?_
                rotate_left
                · intro w hSw; (try dsimp only at hSw); (try simp only [List.getElem_toArray, List.getElem_cons_succ, List.getElem_cons_zero]); first | (go_simp; done) | (go_simp; with_reducible rfl)
                try simp only [List.getElem_toArray, List.getElem_cons_succ, List.getElem_cons_zero, Act.put, List.setIfInBounds_toArray, List.set_cons_zero, List.set_cons_succ]
                refine wpAnyH_take (i := 7) (v := ?_) rfl (by kernel_rfl) (by kernel_rfl) (by kernel_rfl) (fun _ _ _ h => h) (Or.inl ⟨by rfl, ?_⟩) hHeld ?_
                rotate_left
                · intro w hSw; (try dsimp only at hSw); (try simp only [List.getElem_toArray, List.getElem_cons_succ, List.getElem_cons_zero]); first | (go_simp; done) | (go_simp; with_reducible rfl)
                try simp only [List.getElem_toArray, List.getElem_cons_succ, List.getElem_cons_zero, Act.put, List.setIfInBounds_toArray, List.set_cons_zero, List.set_cons_succ]
                refine wpAnyH_take (i := 8) (v := ?_) rfl (by kernel_rfl) (by kernel_rfl) (by kernel_rfl) (fun _ _ _ h => h) (Or.inl ⟨by rfl, ?_⟩) hHeld ?_
                rotate_left
                · intro w hSw; (try dsimp only at hSw); (try simp only [List.getElem_toArray, List.getElem_cons_succ, List.getElem_cons_zero]); first | (go_simp; done) | (go_simp; with_reducible rfl)
                try simp only [List.getElem_toArray, List.getElem_cons_succ, List.getElem_cons_zero, Act.put, List.setIfInBounds_toArray, List.set_cons_zero, List.set_cons_succ]
                refine wpAnyH_take (i := 9) (v := ?_) rfl (by kernel_rfl) (by kernel_rfl) (by kernel_rfl) (fun _ _ _ h => h) (Or.inl ⟨by rfl, ?_⟩) hHeld ?_
                rotate_left
                · intro w hSw; (try dsimp only at hSw); (try simp only [List.getElem_toArray, List.getElem_cons_succ, List.getElem_cons_zero]); first | (go_simp; done) | (go_simp; with_reducible rfl)
                try simp only [List.getElem_toArray, List.getElem_cons_succ, List.getElem_cons_zero, Act.put, List.setIfInBounds_toArray, List.set_cons_zero, List.set_cons_succ]
                refine wpAnyH_ready (rs := [1, 10]) (by kernel_rfl) (by simp) ?_
                refine AllReadyH.cons rfl (fun K hK => ?_) ?_
                · skip
                  try simp only [List.getElem_toArray, List.getElem_cons_succ, List.getElem_cons_zero]
                  go_simp
                  refine hK.out _ _ ?_ (fun hHeld2 => ?_)
                  · (try dsimp only)
                    refine KEEP.out _ ?_
                    (repeat (first | exact Below.refl _ _ | exact bW1 | exact bWr | exact b1 | refine Below.setCell ?_ hClo _ | refine below_alloc ?_ _ | refine below_drew ?_ | refine below_ext ?_ _))
                  clear hK K hHeld
                  have hHeld := hHeld2
                  clear hHeld2
                  try simp only [List.getElem_toArray, List.getElem_cons_succ, List.getElem_cons_zero, Act.put, List.setIfInBounds_toArray, List.set_cons_zero, List.set_cons_succ]
                  refine wpAnyH_ready (rs := [10]) (by kernel_rfl) (by simp) ?_
                  refine AllReadyH.cons rfl (fun K hK => ?_) ?_
                  · skip
                    try simp only [List.getElem_toArray, List.getElem_cons_succ, List.getElem_cons_zero]
                    go_simp
                    refine Calls.mono (CC.out _ (by (repeat (first | exact Below.refl _ _ | exact bR1 | refine below_alloc ?_ _ | refine below_drew ?_ | refine below_ext ?_ _)))) ?_
                    rintro e w' ⟨r', NB, y1, rfl, rfl, hnew, hlo⟩
                    have c32 := c3 _ (by (repeat (first | exact Below.refl _ _ | exact bR1 | refine below_alloc ?_ _ | refine below_drew ?_ | refine below_ext ?_ _)) : Below wr.heap.size wr y1.w)
                    have c33 := fun o => c3 _ (by (repeat (first | exact Below.refl _ _ | exact bR1 | refine below_alloc ?_ _ | refine below_drew ?_ | refine below_ext ?_ _)) : Below wr.heap.size wr (y1.w.alloc o))
                    (try dsimp only)
                    refine hK.out _ _ ?_ (fun hHeld2 => ?_)
                    · (try dsimp only)
                      refine KEEP.out _ ?_
                      (repeat (first | exact Below.refl _ _ | exact bW1 | exact bWr | exact b1 | refine Below.setCell ?_ hClo _ | refine below_alloc ?_ _ | refine below_drew ?_ | refine below_ext ?_ _))
                    clear hK K hHeld
                    have hHeld := hHeld2
                    clear hHeld2
                    try simp only [List.getElem_toArray, List.getElem_cons_succ, List.getElem_cons_zero, Act.put, List.setIfInBounds_toArray, List.set_cons_zero, List.set_cons_succ]
                    refine wpAnyH_ready (rs := [11]) (by kernel_rfl) (by simp) ?_
                    refine AllReadyH.cons rfl (fun K hK => ?_) ?_
                    · skip
                      try simp only [List.getElem_toArray, List.getElem_cons_succ, List.getElem_cons_zero]
                      go_simp
                      refine hK.out _ _ ?_ (fun hHeld2 => ?_)
                      · (try dsimp only)
                        refine KEEP.out _ ?_
                        (repeat (first | exact Below.refl _ _ | exact bW1 | exact bWr | exact b1 | refine Below.setCell ?_ hClo _ | refine below_alloc ?_ _ | refine below_drew ?_ | refine below_ext ?_ _))
                      clear hK K hHeld
                      have hHeld := hHeld2
                      clear hHeld2
                      try simp only [List.getElem_toArray, List.getElem_cons_succ, List.getElem_cons_zero, Act.put, List.setIfInBounds_toArray, List.set_cons_zero, List.set_cons_succ]
                      refine wpAnyH_ready (rs := [12]) (by kernel_rfl) (by simp) ?_
                      refine AllReadyH.cons rfl (fun K hK => ?_) ?_
                      · skip
                        refine step_app_src (by rfl) _ _ 27 (by rfl) 0 29 iT (.agg #[.int .i64 0, .int .i64 0, .slice none 0 0, .slice none 0 0]) 4 64 Tryd.underlying27 hiT hzT0 hzT1 hzT2 rfl (by decide) (.slice b' ks.length d') ks.length xq (by rfl) (ROW.out _ (by (repeat (first | exact Below.refl _ _ | exact bR1 | refine below_alloc ?_ _ | refine below_drew ?_ | refine below_ext ?_ _)))) (some ⟨y1.w.heap.size, 0, none⟩) 1 1 [.int .i64 u.op, .int .i64 u.n, .slice r'.a u.ty.length r'.c, .slice r'.b u.kids.length r'.d] (by rfl) ⟨rfl, four_one _ _ _ _ rfl rfl rfl rfl, .inr ⟨_, rfl, cell_four_at _ _ _ _ _ _ _ rfl⟩⟩ hmx hbx (Nat.zero_le _) ?_
                        intro A2 c2 w1 own1 gr1 hat1
                        obtain ⟨kc3, kf3⟩ := HKC.out _ _ (by (repeat (first | exact Below.refl _ _ | exact bR1 | refine below_alloc ?_ _ | refine below_drew ?_ | refine below_ext ?_ _))) gr1
                        have b1 := HB1.out _ _ (by (repeat (first | exact Below.refl _ _ | exact bR1 | refine below_alloc ?_ _ | refine below_drew ?_ | refine below_ext ?_ _))) gr1
                        refine hK.out _ _ ?_ (fun hHeld2 => ?_)
                        · (try dsimp only)
                          refine KEEP.out _ ?_
                          (repeat (first | exact Below.refl _ _ | exact bW1 | exact bWr | exact b1 | refine Below.setCell ?_ hClo _ | refine below_alloc ?_ _ | refine below_drew ?_ | refine below_ext ?_ _))
                        clear hK K hHeld
                        have hHeld := hHeld2
                        clear hHeld2
                        try simp only [List.getElem_toArray, List.getElem_cons_succ, List.getElem_cons_zero, Act.put, List.setIfInBounds_toArray, List.set_cons_zero, List.set_cons_succ]
                        refine wpAnyH_take (i := 13) (v := ?_) rfl (by kernel_rfl) (by kernel_rfl) (by kernel_rfl) (fun _ _ _ h => h) (Or.inl ⟨by rfl, ?_⟩) hHeld ?_
                        rotate_left
                        · intro w hSw; (try dsimp only at hSw); (try simp only [List.getElem_toArray, List.getElem_cons_succ, List.getElem_cons_zero]); first | (go_simp; done) | (go_simp; with_reducible rfl)
                        try simp only [List.getElem_toArray, List.getElem_cons_succ, List.getElem_cons_zero, Act.put, List.setIfInBounds_toArray, List.set_cons_zero, List.set_cons_succ]
                        refine wpAnyH_ready (rs := [14]) (by kernel_rfl) (by simp) ?_
                        refine AllReadyH.cons rfl (fun K hK => ?_) ?_
                        · skip
                          try simp only [List.getElem_toArray, List.getElem_cons_succ, List.getElem_cons_zero]
                          go_simp
                          refine hK.out _ _ ?_ (fun hHeld2 => ?_)
                          · (try dsimp only)
                            refine KEEP.out _ ?_
                            (repeat (first | exact Below.refl _ _ | exact bW1 | exact bWr | exact b1 | refine Below.setCell ?_ hClo _ | refine below_alloc ?_ _ | refine below_drew ?_ | refine below_ext ?_ _))
                          clear hK K hHeld
                          have hHeld := hHeld2
                          clear hHeld2
                          try simp only [List.getElem_toArray, List.getElem_cons_succ, List.getElem_cons_zero, Act.put, List.setIfInBounds_toArray, List.set_cons_zero, List.set_cons_succ]
                          refine wpAnyH_done (by kernel_rfl) ?_ _
                          refine NoPanic.normal ?_
                          go_wp2_with fail
                          go_roundw
                          case rel =>
                            rw [ob_eq] at gr1
                            rw [ob_eq b'] at hat1
                            obtain ⟨b2, d2, kr2, xs2, KB2, hv2, T2⟩ := HT.out.snoc (⟨y1.w.alloc _, by (repeat (first | exact Below.refl _ _ | exact bR1 | refine below_alloc ?_ _ | refine below_drew ?_ | refine below_ext ?_ _))⟩) (hnew.ext ((Ext.self y1.w).alloc _)) (fun g hg => by have q1 := hlo g hg; simp at q1; omega) own1 gr1 hat1 rfl
                            refine ⟨k + 1, b2, d2, kr2, xs2, KB2, by go_num, by omega, ?_⟩
                            rw [List.take_add_one, HLU.out, ← HKS.out]
                            exact T2
                          case measure => simp [intOf]; omega
                        exact AllReadyH.nil
                      exact AllReadyH.nil
                    exact AllReadyH.nil
                  exact AllReadyH.nil
                refine AllReadyH.cons rfl (fun K hK => ?_) ?_
                · skip
                  try simp only [List.getElem_toArray, List.getElem_cons_succ, List.getElem_cons_zero]
                  go_simp
                  refine Calls.mono (CC.out _ (by (repeat (first | exact Below.refl _ _ | exact bR1 | refine below_alloc ?_ _ | refine below_drew ?_ | refine below_ext ?_ _)))) ?_
                  rintro e w' ⟨r', NB, y1, rfl, rfl, hnew, hlo⟩
                  have c32 := c3 _ (by (repeat (first | exact Below.refl _ _ | exact bR1 | refine below_alloc ?_ _ | refine below_drew ?_ | refine below_ext ?_ _)) : Below wr.heap.size wr y1.w)
                  have c33 := fun o => c3 _ (by (repeat (first | exact Below.refl _ _ | exact bR1 | refine below_alloc ?_ _ | refine below_drew ?_ | refine below_ext ?_ _)) : Below wr.heap.size wr (y1.w.alloc o))
                  (try dsimp only)
                  refine hK.out _ _ ?_ (fun hHeld2 => ?_)
                  · (try dsimp only)
                    refine KEEP.out _ ?_
                    (repeat (first | exact Below.refl _ _ | exact bW1 | exact bWr | exact b1 | refine Below.setCell ?_ hClo _ | refine below_alloc ?_ _ | refine below_drew ?_ | refine below_ext ?_ _))
                  clear hK K hHeld
                  have hHeld := hHeld2
                  clear hHeld2
                  try simp only [List.getElem_toArray, List.getElem_cons_succ, List.getElem_cons_zero, Act.put, List.setIfInBounds_toArray, List.set_cons_zero, List.set_cons_succ]
                  refine wpAnyH_ready (rs := [1, 11]) (by kernel_rfl) (by simp) ?_
                  refine AllReadyH.cons rfl (fun K hK => ?_) ?_
                  · skip
                    try simp only [List.getElem_toArray, List.getElem_cons_succ, List.getElem_cons_zero]
                    go_simp
                    refine hK.out _ _ ?_ (fun hHeld2 => ?_)
                    · (try dsimp only)
                      refine KEEP.out _ ?_
                      (repeat (first | exact Below.refl _ _ | exact bW1 | exact bWr | exact b1 | refine Below.setCell ?_ hClo _ | refine below_alloc ?_ _ | refine below_drew ?_ | refine below_ext ?_ _))
                    clear hK K hHeld
                    have hHeld := hHeld2
                    clear hHeld2
                    try simp only [List.getElem_toArray, List.getElem_cons_succ, List.getElem_cons_zero, Act.put, List.setIfInBounds_toArray, List.set_cons_zero, List.set_cons_succ]
                    refine wpAnyH_ready (rs := [11]) (by kernel_rfl) (by simp) ?_
                    refine AllReadyH.cons rfl (fun K hK => ?_) ?_
                    · skip
                      try simp only [List.getElem_toArray, List.getElem_cons_succ, List.getElem_cons_zero]
                      go_simp
                      refine hK.out _ _ ?_ (fun hHeld2 => ?_)
                      · (try dsimp only)
                        refine KEEP.out _ ?_
                        (repeat (first | exact Below.refl _ _ | exact bW1 | exact bWr | exact b1 | refine Below.setCell ?_ hClo _ | refine below_alloc ?_ _ | refine below_drew ?_ | refine below_ext ?_ _))
                      clear hK K hHeld
                      have hHeld := hHeld2
                      clear hHeld2
                      try simp only [List.getElem_toArray, List.getElem_cons_succ, List.getElem_cons_zero, Act.put, List.setIfInBounds_toArray, List.set_cons_zero, List.set_cons_succ]
                      refine wpAnyH_ready (rs := [12]) (by kernel_rfl) (by simp) ?_
                      refine AllReadyH.cons rfl (fun K hK => ?_) ?_
                      · skip
                        refine step_app_src (by rfl) _ _ 27 (by rfl) 0 29 iT (.agg #[.int .i64 0, .int .i64 0, .slice none 0 0, .slice none 0 0]) 4 64 Tryd.underlying27 hiT hzT0 hzT1 hzT2 rfl (by decide) (.slice b' ks.length d') ks.length xq (by rfl) (ROW.out _ (by (repeat (first | exact Below.refl _ _ | exact bR1 | refine below_alloc ?_ _ | refine below_drew ?_ | refine below_ext ?_ _)))) (some ⟨y1.w.heap.size, 0, none⟩) 1 1 [.int .i64 u.op, .int .i64 u.n, .slice r'.a u.ty.length r'.c, .slice r'.b u.kids.length r'.d] (by rfl) ⟨rfl, four_one _ _ _ _ rfl rfl rfl rfl, .inr ⟨_, rfl, cell_four_at _ _ _ _ _ _ _ rfl⟩⟩ hmx hbx (Nat.zero_le _) ?_
                        intro A2 c2 w1 own1 gr1 hat1
                        obtain ⟨kc3, kf3⟩ := HKC.out _ _ (by (repeat (first | exact Below.refl _ _ | exact bR1 | refine below_alloc ?_ _ | refine below_drew ?_ | refine below_ext ?_ _))) gr1
                        have b1 := HB1.out _ _ (by (repeat (first | exact Below.refl _ _ | exact bR1 | refine below_alloc ?_ _ | refine below_drew ?_ | refine below_ext ?_ _))) gr1
                        refine hK.out _ _ ?_ (fun hHeld2 => ?_)
                        · (try dsimp only)
                          refine KEEP.out _ ?_
                          (repeat (first | exact Below.refl _ _ | exact bW1 | exact bWr | exact b1 | refine Below.setCell ?_ hClo _ | refine below_alloc ?_ _ | refine below_drew ?_ | refine below_ext ?_ _))
                        clear hK K hHeld
                        have hHeld := hHeld2
                        clear hHeld2
                        try simp only [List.getElem_toArray, List.getElem_cons_succ, List.getElem_cons_zero, Act.put, List.setIfInBounds_toArray, List.set_cons_zero, List.set_cons_succ]
                        refine wpAnyH_take (i := 13) (v := ?_) rfl (by kernel_rfl) (by kernel_rfl) (by kernel_rfl) (fun _ _ _ h => h) (Or.inl ⟨by rfl, ?_⟩) hHeld ?_
                        rotate_left
                        · intro w hSw; (try dsimp only at hSw); (try simp only [List.getElem_toArray, List.getElem_cons_succ, List.getElem_cons_zero]); first | (go_simp; done) | (go_simp; with_reducible rfl)
                        try simp only [List.getElem_toArray, List.getElem_cons_succ, List.getElem_cons_zero, Act.put, List.setIfInBounds_toArray, List.set_cons_zero, List.set_cons_succ]
                        refine wpAnyH_ready (rs := [14]) (by kernel_rfl) (by simp) ?_
                        refine AllReadyH.cons rfl (fun K hK => ?_) ?_
                        · skip
                          try simp only [List.getElem_toArray, List.getElem_cons_succ, List.getElem_cons_zero]
                          go_simp
                          refine hK.out _ _ ?_ (fun hHeld2 => ?_)
                          · (try dsimp only)
                            refine KEEP.out _ ?_
                            (repeat (first | exact Below.refl _ _ | exact bW1 | exact bWr | exact b1 | refine Below.setCell ?_ hClo _ | refine below_alloc ?_ _ | refine below_drew ?_ | refine below_ext ?_ _))
                          clear hK K hHeld
                          have hHeld := hHeld2
                          clear hHeld2
                          try simp only [List.getElem_toArray, List.getElem_cons_succ, List.getElem_cons_zero, Act.put, List.setIfInBounds_toArray, List.set_cons_zero, List.set_cons_succ]
                          refine wpAnyH_done (by kernel_rfl) ?_ _
                          refine NoPanic.normal ?_
                          go_wp2_with fail
                          go_roundw
                          case rel =>
                            rw [ob_eq] at gr1
                            rw [ob_eq b'] at hat1
                            obtain ⟨b2, d2, kr2, xs2, KB2, hv2, T2⟩ := HT.out.snoc (⟨y1.w.alloc _, by (repeat (first | exact Below.refl _ _ | exact bR1 | refine below_alloc ?_ _ | refine below_drew ?_ | refine below_ext ?_ _))⟩) (hnew.ext ((Ext.self y1.w).alloc _)) (fun g hg => by have q1 := hlo g hg; simp at q1; omega) own1 gr1 hat1 rfl
                            refine ⟨k + 1, b2, d2, kr2, xs2, KB2, by go_num, by omega, ?_⟩
                            rw [List.take_add_one, HLU.out, ← HKS.out]
                            exact T2
                          case measure => simp [intOf]; omega
                        exact AllReadyH.nil
                      exact AllReadyH.nil
                    exact AllReadyH.nil
                  refine AllReadyH.cons rfl (fun K hK => ?_) ?_
                  · skip
                    try simp only [List.getElem_toArray, List.getElem_cons_succ, List.getElem_cons_zero]
                    go_simp
                    refine hK.out _ _ ?_ (fun hHeld2 => ?_)
                    · (try dsimp only)
                      refine KEEP.out _ ?_
                      (repeat (first | exact Below.refl _ _ | exact bW1 | exact bWr | exact b1 | refine Below.setCell ?_ hClo _ | refine below_alloc ?_ _ | refine below_drew ?_ | refine below_ext ?_ _))
                    clear hK K hHeld
                    have hHeld := hHeld2
                    clear hHeld2
                    try simp only [List.getElem_toArray, List.getElem_cons_succ, List.getElem_cons_zero, Act.put, List.setIfInBounds_toArray, List.set_cons_zero, List.set_cons_succ]
                    refine wpAnyH_ready (rs := [1]) (by kernel_rfl) (by simp) ?_
                    refine AllReadyH.cons rfl (fun K hK => ?_) ?_
                    · skip
                      try simp only [List.getElem_toArray, List.getElem_cons_succ, List.getElem_cons_zero]
                      go_simp
                      refine hK.out _ _ ?_ (fun hHeld2 => ?_)
                      · (try dsimp only)
                        refine KEEP.out _ ?_
                        (repeat (first | exact Below.refl _ _ | exact bW1 | exact bWr | exact b1 | refine Below.setCell ?_ hClo _ | refine below_alloc ?_ _ | refine below_drew ?_ | refine below_ext ?_ _))
                      clear hK K hHeld
                      have hHeld := hHeld2
                      clear hHeld2
                      try simp only [List.getElem_toArray, List.getElem_cons_succ, List.getElem_cons_zero, Act.put, List.setIfInBounds_toArray, List.set_cons_zero, List.set_cons_succ]
                      refine wpAnyH_ready (rs := [12]) (by kernel_rfl) (by simp) ?_
                      refine AllReadyH.cons rfl (fun K hK => ?_) ?_
                      · skip
                        refine step_app_src (by rfl) _ _ 27 (by rfl) 0 29 iT (.agg #[.int .i64 0, .int .i64 0, .slice none 0 0, .slice none 0 0]) 4 64 Tryd.underlying27 hiT hzT0 hzT1 hzT2 rfl (by decide) (.slice b' ks.length d') ks.length xq (by rfl) (ROW.out _ (by (repeat (first | exact Below.refl _ _ | exact bR1 | refine below_alloc ?_ _ | refine below_drew ?_ | refine below_ext ?_ _)))) (some ⟨y1.w.heap.size, 0, none⟩) 1 1 [.int .i64 u.op, .int .i64 u.n, .slice r'.a u.ty.length r'.c, .slice r'.b u.kids.length r'.d] (by rfl) ⟨rfl, four_one _ _ _ _ rfl rfl rfl rfl, .inr ⟨_, rfl, cell_four_at _ _ _ _ _ _ _ rfl⟩⟩ hmx hbx (Nat.zero_le _) ?_
                        intro A2 c2 w1 own1 gr1 hat1
                        obtain ⟨kc3, kf3⟩ := HKC.out _ _ (by (repeat (first | exact Below.refl _ _ | exact bR1 | refine below_alloc ?_ _ | refine below_drew ?_ | refine below_ext ?_ _))) gr1
                        have b1 := HB1.out _ _ (by (repeat (first | exact Below.refl _ _ | exact bR1 | refine below_alloc ?_ _ | refine below_drew ?_ | refine below_ext ?_ _))) gr1
                        refine hK.out _ _ ?_ (fun hHeld2 => ?_)
                        · (try dsimp only)
                          refine KEEP.out _ ?_
                          (repeat (first | exact Below.refl _ _ | exact bW1 | exact bWr | exact b1 | refine Below.setCell ?_ hClo _ | refine below_alloc ?_ _ | refine below_drew ?_ | refine below_ext ?_ _))
                        clear hK K hHeld
                        have hHeld := hHeld2
                        clear hHeld2
                        try simp only [List.getElem_toArray, List.getElem_cons_succ, List.getElem_cons_zero, Act.put, List.setIfInBounds_toArray, List.set_cons_zero, List.set_cons_succ]
                        refine wpAnyH_take (i := 13) (v := ?_) rfl (by kernel_rfl) (by kernel_rfl) (by kernel_rfl) (fun _ _ _ h => h) (Or.inl ⟨by rfl, ?_⟩) hHeld ?_
                        rotate_left
                        · intro w hSw; (try dsimp only at hSw); (try simp only [List.getElem_toArray, List.getElem_cons_succ, List.getElem_cons_zero]); first | (go_simp; done) | (go_simp; with_reducible rfl)
                        try simp only [List.getElem_toArray, List.getElem_cons_succ, List.getElem_cons_zero, Act.put, List.setIfInBounds_toArray, List.set_cons_zero, List.set_cons_succ]
                        refine wpAnyH_ready (rs := [14]) (by kernel_rfl) (by simp) ?_
                        refine AllReadyH.cons rfl (fun K hK => ?_) ?_
                        · skip
                          try simp only [List.getElem_toArray, List.getElem_cons_succ, List.getElem_cons_zero]
                          go_simp
                          refine hK.out _ _ ?_ (fun hHeld2 => ?_)
                          · (try dsimp only)
                            refine KEEP.out _ ?_
                            (repeat (first | exact Below.refl _ _ | exact bW1 | exact bWr | exact b1 | refine Below.setCell ?_ hClo _ | refine below_alloc ?_ _ | refine below_drew ?_ | refine below_ext ?_ _))
                          clear hK K hHeld
                          have hHeld := hHeld2
                          clear hHeld2
                          try simp only [List.getElem_toArray, List.getElem_cons_succ, List.getElem_cons_zero, Act.put, List.setIfInBounds_toArray, List.set_cons_zero, List.set_cons_succ]
                          refine wpAnyH_done (by kernel_rfl) ?_ _
                          refine NoPanic.normal ?_
                          go_wp2_with fail
                          go_roundw
                          case rel =>
                            rw [ob_eq] at gr1
                            rw [ob_eq b'] at hat1
                            obtain ⟨b2, d2, kr2, xs2, KB2, hv2, T2⟩ := HT.out.snoc (⟨y1.w.alloc _, by (repeat (first | exact Below.refl _ _ | exact bR1 | refine below_alloc ?_ _ | refine below_drew ?_ | refine below_ext ?_ _))⟩) (hnew.ext ((Ext.self y1.w).alloc _)) (fun g hg => by have q1 := hlo g hg; simp at q1; omega) own1 gr1 hat1 rfl
                            refine ⟨k + 1, b2, d2, kr2, xs2, KB2, by go_num, by omega, ?_⟩
                            rw [List.take_add_one, HLU.out, ← HKS.out]
                            exact T2
                          case measure => simp [intOf]; omega
                        exact AllReadyH.nil
                      exact AllReadyH.nil
                    exact AllReadyH.nil
                  exact AllReadyH.nil
                exact AllReadyH.nil
              · have fk : ((k : Int) == (j : Int)) = false := by rw [beq_eq_false_iff_ne]; omega
                clear hkid
                obtain ⟨u, hu9⟩ : ∃ u, u = kid := ⟨_, rfl⟩
                have HLU : Hid (L[k]? = some u) := by rw [HL.out]; rw [List.getElem?_set_ne (fun e => hkj (by omega))]; exact HKID.out.trans (congrArg some hu9.symm)
                have HU9 := Lib.hid hu9
                clear hu9
                have KEEP : Hid (∀ w' : World, Below Wa.heap.size Wa w' → w'.cell? ⟨B, 3, none⟩ = some (.slice (some ⟨b0, o0, none⟩) t.kids.length rd) ∧ w'.cell? ⟨b0, o0 + k * 4, none⟩ = some (.int .i64 kid.op) ∧ w'.cell? ⟨b0, o0 + k * 4 + 1, none⟩ = some (.int .i64 kid.n) ∧ w'.cell? ⟨b0, o0 + k * 4 + 2, none⟩ = some (.slice (kr0 k).a kid.ty.length (kr0 k).c) ∧ w'.cell? ⟨b0, o0 + k * 4 + 3, none⟩ = some (.slice (kr0 k).b kid.kids.length (kr0 k).d)) := fun w' b => ⟨d3 ⟨w', b⟩, (Ext.mk w' b).cell K.c0, (Ext.mk w' b).cell K.c1, (Ext.mk w' b).cell K.c2, (Ext.mk w' b).cell K.c3⟩
                have CC : Hid (∀ w', Below wr.heap.size wr w' → Calls Tryd.prog 31 #[.agg #[.int .i64 kid.op, .int .i64 kid.n, .slice (kr0 k).a kid.ty.length (kr0 k).c, .slice (kr0 k).b kid.kids.length (kr0 k).d], .int .i64 0, .int .i64 0] w' (NewTmO w' u)) := fun w' b => by
                  have b2 := bWr.trans (b.mono bWr.size)
                  rw [HU9.out]
                  have CQ := l2Shift_ans kid (hsub.ext ⟨w', b2⟩) hok (by omega) (by omega) 0 0 (by omega) (by omega) (by omega) 0 (by omega) (by omega) (Ext.self w')
                  rw [show (0 : Int) + 0 = 0 from rfl, Tm.shf_id hok] at CQ
                  exact CQ
                have c3 : ∀ w', Below wr.heap.size wr w' → w'.cell? ⟨C, 3, none⟩ = some (.slice b' ks.length d') := fun w' b => T.cells.2.2.2 ⟨w', b⟩
                have c30 := c3 wr (Below.refl _ _)
                have ROW : Hid (∀ w', Below wr.heap.size wr w' → w'.ownsRow 0 29 4 (.slice b' ks.length d') ks.length xq) := fun w' b => owns_ext T.kids.row ⟨w', b⟩
                have hClo := T.lo
                have HKC : Hid (∀ (w0 w1 : World), Below wr.heap.size wr w0 → w0.grownBy w1 (Value.slice b' ks.length d').ownBlock → w1.cell? ⟨C, 3, none⟩ = some (.slice b' ks.length d') ∧ w1.frozen? ⟨C, 3, none⟩ = false) := fun w0 w1 b gr => by
                  have hb : some C ≠ (Value.slice b' ks.length d').ownBlock := by rw [ob_eq]; exact fun e => (T.lk C (.inl e.symm)).2 rfl
                  have mC : w1.heap[C]? = some (boxT t.op t.n a' t.ty.length c' b' ks.length d') := (gr.block C (Nat.lt_of_lt_of_le T.cLt b.size) hb).trans ((Ext.mk w0 b).blk T.box)
                  exact ⟨blk_cell mC 3, blk_free mC 3⟩
                have HB1 : Hid (∀ (w0 w1 : World), Below wr.heap.size wr w0 → w0.grownBy w1 (Value.slice b' ks.length d').ownBlock → Below Wa.heap.size Wa w1) := fun w0 w1 b gr =>
                  (bWr.trans (b.mono bWr.size)).grown gr (Nat.le_trans bWr.size b.size) (fun g e => by rw [ob_eq] at e; exact (T.lk g (.inl e)).1)
                have HT := Lib.hid T
                clear T hmem hsub
                have hmx : ks.length + 1 ≤ maxLen := by unfold maxLen; omega
                have hbx : (ks.length + 1) * 64 ≤ 140737488355328 := by omega
                go_upto_region 9 with fail
                refine wp_region_noPanic ?_
                refine wp_region_held_drew (S := (fun w' => w'.cell? ⟨B, 3, none⟩ = some (.slice (some ⟨b0, o0, none⟩) t.kids.length rd) ∧ w'.cell? ⟨b0, o0 + k * 4, none⟩ = some (.int .i64 kid.op) ∧ w'.cell? ⟨b0, o0 + k * 4 + 1, none⟩ = some (.int .i64 kid.n) ∧ w'.cell? ⟨b0, o0 + k * 4 + 2, none⟩ = some (.slice (kr0 k).a kid.ty.length (kr0 k).c) ∧ w'.cell? ⟨b0, o0 + k * 4 + 3, none⟩ = some (.slice (kr0 k).b kid.kids.length (kr0 k).d))) (by kernel_rfl) ?_ (fun hHeld => ?_)
                · (try dsimp only)
                  refine KEEP.out _ ?_
                  (repeat (first | exact Below.refl _ _ | exact bW1 | exact bWr | exact b1 | refine Below.setCell ?_ hClo _ | refine below_alloc ?_ _ | refine below_drew ?_ | refine below_ext ?_ _))
                refine wpAnyH_take (i := 0) (v := ?_) rfl (by kernel_rfl) (by kernel_rfl) (by kernel_rfl) (fun _ _ _ h => h) (Or.inl ⟨by rfl, ?_⟩) hHeld ?_
                rotate_left
                · intro w hSw; (try dsimp only at hSw); (try simp only [List.getElem_toArray, List.getElem_cons_zero]); first | (go_simp; done) | (go_simp; with_reducible rfl)
                try simp only [List.getElem_toArray, List.getElem_cons_zero, Act.put, List.setIfInBounds_toArray, List.set_cons_zero, List.set_cons_succ]
                refine wpAnyH_take (i := 2) (v := ?_) rfl (by kernel_rfl) (by kernel_rfl) (by kernel_rfl) (fun _ _ _ h => h) (Or.inl ⟨by rfl, ?_⟩) hHeld ?_
                rotate_left
                · intro w hSw; (try dsimp only at hSw); (try simp only [List.getElem_toArray, List.getElem_cons_succ, List.getElem_cons_zero]); first | (go_simp; done) | (go_simp; with_reducible rfl)
                try simp only [List.getElem_toArray, List.getElem_cons_succ, List.getElem_cons_zero, Act.put, List.setIfInBounds_toArray, List.set_cons_zero, List.set_cons_succ]
                refine wpAnyH_take (i := 3) (v := ?_) rfl (by kernel_rfl) (by kernel_rfl) (by kernel_rfl) (fun _ _ _ h => h) (Or.inl ⟨by rfl, ?_⟩) hHeld ?_
                rotate_left
                · intro w hSw; (try dsimp only at hSw); (try simp only [List.getElem_toArray, List.getElem_cons_succ, List.getElem_cons_zero]); first | (go_simp; done) | (go_simp; with_reducible rfl)
                try simp only [List.getElem_toArray, List.getElem_cons_succ, List.getElem_cons_zero, Act.put, List.setIfInBounds_toArray, List.set_cons_zero, List.set_cons_succ]
                refine wpAnyH_take (i := 4) (v := ?_) rfl (by kernel_rfl) (by kernel_rfl) (by kernel_rfl) (fun _ _ _ h => h) (Or.inl ⟨by rfl, ?_⟩) hHeld ?_
                rotate_left
                · intro w hSw; (try dsimp only at hSw); (try simp only [List.getElem_toArray, List.getElem_cons_succ, List.getElem_cons_zero]); first | (go_simp; done) | (go_simp; with_reducible rfl)
                try simp only [List.getElem_toArray, List.getElem_cons_succ, List.getElem_cons_zero, Act.put, List.setIfInBounds_toArray, List.set_cons_zero, List.set_cons_succ]
                refine wpAnyH_take (i := 5) (v := ?_) rfl (by kernel_rfl) (by kernel_rfl) (by kernel_rfl) (fun _ _ _ h => h) (Or.inl ⟨by rfl, ?_⟩) hHeld ?_
                rotate_left
                · intro w hSw; (try dsimp only at hSw); (try simp only [List.getElem_toArray, List.getElem_cons_succ, List.getElem_cons_zero]); first | (go_simp; done) | (go_simp; with_reducible rfl)
                try simp only [List.getElem_toArray, List.getElem_cons_succ, List.getElem_cons_zero, Act.put, List.setIfInBounds_toArray, List.set_cons_zero, List.set_cons_succ]
                refine wpAnyH_take (i := 6) (v := ?_) rfl (by kernel_rfl) (by kernel_rfl) (by kernel_rfl) (fun _ _ _ h => h) (Or.inl ⟨by rfl, ?_⟩) hHeld ?_
                rotate_left
                · intro w hSw; (try dsimp only at hSw); (try simp only [List.getElem_toArray, List.getElem_cons_succ, List.getElem_cons_zero]); first | (go_simp; done) | (go_simp; with_reducible rfl)
                try simp only [List.getElem_toArray, List.getElem_cons_succ, List.getElem_cons_zero, Act.put, List.setIfInBounds_toArray, List.set_cons_zero, List.set_cons_succ]
                refine wpAnyH_ready (rs := [1, 7]) (by kernel_rfl) (by simp) ?_
                refine AllReadyH.cons rfl (fun K hK => ?_) ?_
                · skip
                  try simp only [List.getElem_toArray, List.getElem_cons_succ, List.getElem_cons_zero]
                  go_simp
                  refine hK.out _ _ ?_ (fun hHeld2 => ?_)
                  · (try dsimp only)
                    refine KEEP.out _ ?_
                    (repeat (first | exact Below.refl _ _ | exact bW1 | exact bWr | exact b1 | refine Below.setCell ?_ hClo _ | refine below_alloc ?_ _ | refine below_drew ?_ | refine below_ext ?_ _))
                  clear hK K hHeld
                  have hHeld := hHeld2
                  clear hHeld2
                  try simp only [List.getElem_toArray, List.getElem_cons_succ, List.getElem_cons_zero, Act.put, List.setIfInBounds_toArray, List.set_cons_zero, List.set_cons_succ]
                  refine wpAnyH_ready (rs := [7]) (by kernel_rfl) (by simp) ?_
                  refine AllReadyH.cons rfl (fun K hK => ?_) ?_
                  · skip
                    try simp only [List.getElem_toArray, List.getElem_cons_succ, List.getElem_cons_zero]
                    go_simp
                    refine Calls.mono (CC.out _ (by (repeat (first | exact Below.refl _ _ | exact bR1 | refine below_alloc ?_ _ | refine below_drew ?_ | refine below_ext ?_ _)))) ?_
                    rintro e w' ⟨r', NB, y1, rfl, rfl, hnew, hlo⟩
                    have c32 := c3 _ (by (repeat (first | exact Below.refl _ _ | exact bR1 | refine below_alloc ?_ _ | refine below_drew ?_ | refine below_ext ?_ _)) : Below wr.heap.size wr y1.w)
                    have c33 := fun o => c3 _ (by (repeat (first | exact Below.refl _ _ | exact bR1 | refine below_alloc ?_ _ | refine below_drew ?_ | refine below_ext ?_ _)) : Below wr.heap.size wr (y1.w.alloc o))
                    (try dsimp only)
                    refine hK.out _ _ ?_ (fun hHeld2 => ?_)
                    · (try dsimp only)
                      refine KEEP.out _ ?_
                      (repeat (first | exact Below.refl _ _ | exact bW1 | exact bWr | exact b1 | refine Below.setCell ?_ hClo _ | refine below_alloc ?_ _ | refine below_drew ?_ | refine below_ext ?_ _))
                    clear hK K hHeld
                    have hHeld := hHeld2
                    clear hHeld2
                    try simp only [List.getElem_toArray, List.getElem_cons_succ, List.getElem_cons_zero, Act.put, List.setIfInBounds_toArray, List.set_cons_zero, List.set_cons_succ]
                    refine wpAnyH_ready (rs := [8]) (by kernel_rfl) (by simp) ?_
                    refine AllReadyH.cons rfl (fun K hK => ?_) ?_
                    · skip
                      try simp only [List.getElem_toArray, List.getElem_cons_succ, List.getElem_cons_zero]
                      go_simp
                      refine hK.out _ _ ?_ (fun hHeld2 => ?_)
                      · (try dsimp only)
                        refine KEEP.out _ ?_
                        (repeat (first | exact Below.refl _ _ | exact bW1 | exact bWr | exact b1 | refine Below.setCell ?_ hClo _ | refine below_alloc ?_ _ | refine below_drew ?_ | refine below_ext ?_ _))
                      clear hK K hHeld
                      have hHeld := hHeld2
                      clear hHeld2
                      try simp only [List.getElem_toArray, List.getElem_cons_succ, List.getElem_cons_zero, Act.put, List.setIfInBounds_toArray, List.set_cons_zero, List.set_cons_succ]
                      refine wpAnyH_ready (rs := [9]) (by kernel_rfl) (by simp) ?_
                      refine AllReadyH.cons rfl (fun K hK => ?_) ?_
                      · skip
                        refine step_app_src (by rfl) _ _ 27 (by rfl) 0 29 iT (.agg #[.int .i64 0, .int .i64 0, .slice none 0 0, .slice none 0 0]) 4 64 Tryd.underlying27 hiT hzT0 hzT1 hzT2 rfl (by decide) (.slice b' ks.length d') ks.length xq (by rfl) (ROW.out _ (by (repeat (first | exact Below.refl _ _ | exact bR1 | refine below_alloc ?_ _ | refine below_drew ?_ | refine below_ext ?_ _)))) (some ⟨y1.w.heap.size, 0, none⟩) 1 1 [.int .i64 u.op, .int .i64 u.n, .slice r'.a u.ty.length r'.c, .slice r'.b u.kids.length r'.d] (by rfl) ⟨rfl, four_one _ _ _ _ rfl rfl rfl rfl, .inr ⟨_, rfl, cell_four_at _ _ _ _ _ _ _ rfl⟩⟩ hmx hbx (Nat.zero_le _) ?_
                        intro A2 c2 w1 own1 gr1 hat1
                        obtain ⟨kc3, kf3⟩ := HKC.out _ _ (by (repeat (first | exact Below.refl _ _ | exact bR1 | refine below_alloc ?_ _ | refine below_drew ?_ | refine below_ext ?_ _))) gr1
                        have b1 := HB1.out _ _ (by (repeat (first | exact Below.refl _ _ | exact bR1 | refine below_alloc ?_ _ | refine below_drew ?_ | refine below_ext ?_ _))) gr1
                        refine hK.out _ _ ?_ (fun hHeld2 => ?_)
                        · (try dsimp only)
                          refine KEEP.out _ ?_
                          (repeat (first | exact Below.refl _ _ | exact bW1 | exact bWr | exact b1 | refine Below.setCell ?_ hClo _ | refine below_alloc ?_ _ | refine below_drew ?_ | refine below_ext ?_ _))
                        clear hK K hHeld
                        have hHeld := hHeld2
                        clear hHeld2
                        try simp only [List.getElem_toArray, List.getElem_cons_succ, List.getElem_cons_zero, Act.put, List.setIfInBounds_toArray, List.set_cons_zero, List.set_cons_succ]
                        refine wpAnyH_take (i := 10) (v := ?_) rfl (by kernel_rfl) (by kernel_rfl) (by kernel_rfl) (fun _ _ _ h => h) (Or.inl ⟨by rfl, ?_⟩) hHeld ?_
                        rotate_left
                        · intro w hSw; (try dsimp only at hSw); (try simp only [List.getElem_toArray, List.getElem_cons_succ, List.getElem_cons_zero]); first | (go_simp; done) | (go_simp; with_reducible rfl)
                        try simp only [List.getElem_toArray, List.getElem_cons_succ, List.getElem_cons_zero, Act.put, List.setIfInBounds_toArray, List.set_cons_zero, List.set_cons_succ]
                        refine wpAnyH_ready (rs := [11]) (by kernel_rfl) (by simp) ?_
                        refine AllReadyH.cons rfl (fun K hK => ?_) ?_
                        · skip
                          try simp only [List.getElem_toArray, List.getElem_cons_succ, List.getElem_cons_zero]
                          go_simp
                          refine hK.out _ _ ?_ (fun hHeld2 => ?_)
                          · (try dsimp only)
                            refine KEEP.out _ ?_
                            (repeat (first | exact Below.refl _ _ | exact bW1 | exact bWr | exact b1 | refine Below.setCell ?_ hClo _ | refine below_alloc ?_ _ | refine below_drew ?_ | refine below_ext ?_ _))
                          clear hK K hHeld
                          have hHeld := hHeld2
                          clear hHeld2
                          try simp only [List.getElem_toArray, List.getElem_cons_succ, List.getElem_cons_zero, Act.put, List.setIfInBounds_toArray, List.set_cons_zero, List.set_cons_succ]
                          refine wpAnyH_done (by kernel_rfl) ?_ _
                          refine NoPanic.normal ?_
                          go_wp2_with fail
                          go_roundw
                          case rel =>
                            rw [ob_eq] at gr1
                            rw [ob_eq b'] at hat1
                            obtain ⟨b2, d2, kr2, xs2, KB2, hv2, T2⟩ := HT.out.snoc (⟨y1.w.alloc _, by (repeat (first | exact Below.refl _ _ | exact bR1 | refine below_alloc ?_ _ | refine below_drew ?_ | refine below_ext ?_ _))⟩) (hnew.ext ((Ext.self y1.w).alloc _)) (fun g hg => by have q1 := hlo g hg; simp at q1; omega) own1 gr1 hat1 rfl
                            refine ⟨k + 1, b2, d2, kr2, xs2, KB2, by go_num, by omega, ?_⟩
                            rw [List.take_add_one, HLU.out, ← HKS.out]
                            exact T2
                          case measure => simp [intOf]; omega
                        exact AllReadyH.nil
                      exact AllReadyH.nil
                    exact AllReadyH.nil
                  exact AllReadyH.nil
                refine AllReadyH.cons rfl (fun K hK => ?_) ?_
                · skip
                  try simp only [List.getElem_toArray, List.getElem_cons_succ, List.getElem_cons_zero]
                  go_simp
                  refine Calls.mono (CC.out _ (by (repeat (first | exact Below.refl _ _ | exact bR1 | refine below_alloc ?_ _ | refine below_drew ?_ | refine below_ext ?_ _)))) ?_
                  rintro e w' ⟨r', NB, y1, rfl, rfl, hnew, hlo⟩
                  have c32 := c3 _ (by (repeat (first | exact Below.refl _ _ | exact bR1 | refine below_alloc ?_ _ | refine below_drew ?_ | refine below_ext ?_ _)) : Below wr.heap.size wr y1.w)
                  have c33 := fun o => c3 _ (by (repeat (first | exact Below.refl _ _ | exact bR1 | refine below_alloc ?_ _ | refine below_drew ?_ | refine below_ext ?_ _)) : Below wr.heap.size wr (y1.w.alloc o))
                  (try dsimp only)
                  refine hK.out _ _ ?_ (fun hHeld2 => ?_)
                  · (try dsimp only)
                    refine KEEP.out _ ?_
                    (repeat (first | exact Below.refl _ _ | exact bW1 | exact bWr | exact b1 | refine Below.setCell ?_ hClo _ | refine below_alloc ?_ _ | refine below_drew ?_ | refine below_ext ?_ _))
                  clear hK K hHeld
                  have hHeld := hHeld2
                  clear hHeld2
                  try simp only [List.getElem_toArray, List.getElem_cons_succ, List.getElem_cons_zero, Act.put, List.setIfInBounds_toArray, List.set_cons_zero, List.set_cons_succ]
                  refine wpAnyH_ready (rs := [1, 8]) (by kernel_rfl) (by simp) ?_
                  refine AllReadyH.cons rfl (fun K hK => ?_) ?_
                  · skip
                    try simp only [List.getElem_toArray, List.getElem_cons_succ, List.getElem_cons_zero]
                    go_simp
                    refine hK.out _ _ ?_ (fun hHeld2 => ?_)
                    · (try dsimp only)
                      refine KEEP.out _ ?_
                      (repeat (first | exact Below.refl _ _ | exact bW1 | exact bWr | exact b1 | refine Below.setCell ?_ hClo _ | refine below_alloc ?_ _ | refine below_drew ?_ | refine below_ext ?_ _))
                    clear hK K hHeld
                    have hHeld := hHeld2
                    clear hHeld2
                    try simp only [List.getElem_toArray, List.getElem_cons_succ, List.getElem_cons_zero, Act.put, List.setIfInBounds_toArray, List.set_cons_zero, List.set_cons_succ]
                    refine wpAnyH_ready (rs := [8]) (by kernel_rfl) (by simp) ?_
                    refine AllReadyH.cons rfl (fun K hK => ?_) ?_
                    · skip
                      try simp only [List.getElem_toArray, List.getElem_cons_succ, List.getElem_cons_zero]
                      go_simp
                      refine hK.out _ _ ?_ (fun hHeld2 => ?_)
                      · (try dsimp only)
                        refine KEEP.out _ ?_
                        (repeat (first | exact Below.refl _ _ | exact bW1 | exact bWr | exact b1 | refine Below.setCell ?_ hClo _ | refine below_alloc ?_ _ | refine below_drew ?_ | refine below_ext ?_ _))
                      clear hK K hHeld
                      have hHeld := hHeld2
                      clear hHeld2
                      try simp only [List.getElem_toArray, List.getElem_cons_succ, List.getElem_cons_zero, Act.put, List.setIfInBounds_toArray, List.set_cons_zero, List.set_cons_succ]
                      refine wpAnyH_ready (rs := [9]) (by kernel_rfl) (by simp) ?_
                      refine AllReadyH.cons rfl (fun K hK => ?_) ?_
                      · skip
                        refine step_app_src (by rfl) _ _ 27 (by rfl) 0 29 iT (.agg #[.int .i64 0, .int .i64 0, .slice none 0 0, .slice none 0 0]) 4 64 Tryd.underlying27 hiT hzT0 hzT1 hzT2 rfl (by decide) (.slice b' ks.length d') ks.length xq (by rfl) (ROW.out _ (by (repeat (first | exact Below.refl _ _ | exact bR1 | refine below_alloc ?_ _ | refine below_drew ?_ | refine below_ext ?_ _)))) (some ⟨y1.w.heap.size, 0, none⟩) 1 1 [.int .i64 u.op, .int .i64 u.n, .slice r'.a u.ty.length r'.c, .slice r'.b u.kids.length r'.d] (by rfl) ⟨rfl, four_one _ _ _ _ rfl rfl rfl rfl, .inr ⟨_, rfl, cell_four_at _ _ _ _ _ _ _ rfl⟩⟩ hmx hbx (Nat.zero_le _) ?_
                        intro A2 c2 w1 own1 gr1 hat1
                        obtain ⟨kc3, kf3⟩ := HKC.out _ _ (by (repeat (first | exact Below.refl _ _ | exact bR1 | refine below_alloc ?_ _ | refine below_drew ?_ | refine below_ext ?_ _))) gr1
                        have b1 := HB1.out _ _ (by (repeat (first | exact Below.refl _ _ | exact bR1 | refine below_alloc ?_ _ | refine below_drew ?_ | refine below_ext ?_ _))) gr1
                        refine hK.out _ _ ?_ (fun hHeld2 => ?_)
                        · (try dsimp only)
                          refine KEEP.out _ ?_
                          (repeat (first | exact Below.refl _ _ | exact bW1 | exact bWr | exact b1 | refine Below.setCell ?_ hClo _ | refine below_alloc ?_ _ | refine below_drew ?_ | refine below_ext ?_ _))
                        clear hK K hHeld
                        have hHeld := hHeld2
                        clear hHeld2
                        try simp only [List.getElem_toArray, List.getElem_cons_succ, List.getElem_cons_zero, Act.put, List.setIfInBounds_toArray, List.set_cons_zero, List.set_cons_succ]
                        refine wpAnyH_take (i := 10) (v := ?_) rfl (by kernel_rfl) (by kernel_rfl) (by kernel_rfl) (fun _ _ _ h => h) (Or.inl ⟨by rfl, ?_⟩) hHeld ?_
                        rotate_left
                        · intro w hSw; (try dsimp only at hSw); (try simp only [List.getElem_toArray, List.getElem_cons_succ, List.getElem_cons_zero]); first | (go_simp; done) | (go_simp; with_reducible rfl)
                        try simp only [List.getElem_toArray, List.getElem_cons_succ, List.getElem_cons_zero, Act.put, List.setIfInBounds_toArray, List.set_cons_zero, List.set_cons_succ]
                        refine wpAnyH_ready (rs := [11]) (by kernel_rfl) (by simp) ?_
                        refine AllReadyH.cons rfl (fun K hK => ?_) ?_
                        · skip
                          try simp only [List.getElem_toArray, List.getElem_cons_succ, List.getElem_cons_zero]
                          go_simp
                          refine hK.out _ _ ?_ (fun hHeld2 => ?_)
                          · (try dsimp only)
                            refine KEEP.out _ ?_
                            (repeat (first | exact Below.refl _ _ | exact bW1 | exact bWr | exact b1 | refine Below.setCell ?_ hClo _ | refine below_alloc ?_ _ | refine below_drew ?_ | refine below_ext ?_ _))
                          clear hK K hHeld
                          have hHeld := hHeld2
                          clear hHeld2
                          try simp only [List.getElem_toArray, List.getElem_cons_succ, List.getElem_cons_zero, Act.put, List.setIfInBounds_toArray, List.set_cons_zero, List.set_cons_succ]
                          refine wpAnyH_done (by kernel_rfl) ?_ _
                          refine NoPanic.normal ?_
                          go_wp2_with fail
                          go_roundw
                          case rel =>
                            rw [ob_eq] at gr1
                            rw [ob_eq b'] at hat1
                            obtain ⟨b2, d2, kr2, xs2, KB2, hv2, T2⟩ := HT.out.snoc (⟨y1.w.alloc _, by (repeat (first | exact Below.refl _ _ | exact bR1 | refine below_alloc ?_ _ | refine below_drew ?_ | refine below_ext ?_ _))⟩) (hnew.ext ((Ext.self y1.w).alloc _)) (fun g hg => by have q1 := hlo g hg; simp at q1; omega) own1 gr1 hat1 rfl
                            refine ⟨k + 1, b2, d2, kr2, xs2, KB2, by go_num, by omega, ?_⟩
                            rw [List.take_add_one, HLU.out, ← HKS.out]
                            exact T2
                          case measure => simp [intOf]; omega
                        exact AllReadyH.nil
                      exact AllReadyH.nil
                    exact AllReadyH.nil
                  refine AllReadyH.cons rfl (fun K hK => ?_) ?_
                  · skip
                    try simp only [List.getElem_toArray, List.getElem_cons_succ, List.getElem_cons_zero]
                    go_simp
                    refine hK.out _ _ ?_ (fun hHeld2 => ?_)
                    · (try dsimp only)
                      refine KEEP.out _ ?_
                      (repeat (first | exact Below.refl _ _ | exact bW1 | exact bWr | exact b1 | refine Below.setCell ?_ hClo _ | refine below_alloc ?_ _ | refine below_drew ?_ | refine below_ext ?_ _))
                    clear hK K hHeld
                    have hHeld := hHeld2
                    clear hHeld2
                    try simp only [List.getElem_toArray, List.getElem_cons_succ, List.getElem_cons_zero, Act.put, List.setIfInBounds_toArray, List.set_cons_zero, List.set_cons_succ]
                    refine wpAnyH_ready (rs := [1]) (by kernel_rfl) (by simp) ?_
                    refine AllReadyH.cons rfl (fun K hK => ?_) ?_
                    · skip
                      try simp only [List.getElem_toArray, List.getElem_cons_succ, List.getElem_cons_zero]
                      go_simp
                      refine hK.out _ _ ?_ (fun hHeld2 => ?_)
                      · (try dsimp only)
                        refine KEEP.out _ ?_
                        (repeat (first | exact Below.refl _ _ | exact bW1 | exact bWr | exact b1 | refine Below.setCell ?_ hClo _ | refine below_alloc ?_ _ | refine below_drew ?_ | refine below_ext ?_ _))
                      clear hK K hHeld
                      have hHeld := hHeld2
                      clear hHeld2
                      try simp only [List.getElem_toArray, List.getElem_cons_succ, List.getElem_cons_zero, Act.put, List.setIfInBounds_toArray, List.set_cons_zero, List.set_cons_succ]
                      refine wpAnyH_ready (rs := [9]) (by kernel_rfl) (by simp) ?_
                      refine AllReadyH.cons rfl (fun K hK => ?_) ?_
                      · skip
                        refine step_app_src (by rfl) _ _ 27 (by rfl) 0 29 iT (.agg #[.int .i64 0, .int .i64 0, .slice none 0 0, .slice none 0 0]) 4 64 Tryd.underlying27 hiT hzT0 hzT1 hzT2 rfl (by decide) (.slice b' ks.length d') ks.length xq (by rfl) (ROW.out _ (by (repeat (first | exact Below.refl _ _ | exact bR1 | refine below_alloc ?_ _ | refine below_drew ?_ | refine below_ext ?_ _)))) (some ⟨y1.w.heap.size, 0, none⟩) 1 1 [.int .i64 u.op, .int .i64 u.n, .slice r'.a u.ty.length r'.c, .slice r'.b u.kids.length r'.d] (by rfl) ⟨rfl, four_one _ _ _ _ rfl rfl rfl rfl, .inr ⟨_, rfl, cell_four_at _ _ _ _ _ _ _ rfl⟩⟩ hmx hbx (Nat.zero_le _) ?_
                        intro A2 c2 w1 own1 gr1 hat1
                        obtain ⟨kc3, kf3⟩ := HKC.out _ _ (by (repeat (first | exact Below.refl _ _ | exact bR1 | refine below_alloc ?_ _ | refine below_drew ?_ | refine below_ext ?_ _))) gr1
                        have b1 := HB1.out _ _ (by (repeat (first | exact Below.refl _ _ | exact bR1 | refine below_alloc ?_ _ | refine below_drew ?_ | refine below_ext ?_ _))) gr1
                        refine hK.out _ _ ?_ (fun hHeld2 => ?_)
                        · (try dsimp only)
                          refine KEEP.out _ ?_
                          (repeat (first | exact Below.refl _ _ | exact bW1 | exact bWr | exact b1 | refine Below.setCell ?_ hClo _ | refine below_alloc ?_ _ | refine below_drew ?_ | refine below_ext ?_ _))
                        clear hK K hHeld
                        have hHeld := hHeld2
                        clear hHeld2
                        try simp only [List.getElem_toArray, List.getElem_cons_succ, List.getElem_cons_zero, Act.put, List.setIfInBounds_toArray, List.set_cons_zero, List.set_cons_succ]
                        refine wpAnyH_take (i := 10) (v := ?_) rfl (by kernel_rfl) (by kernel_rfl) (by kernel_rfl) (fun _ _ _ h => h) (Or.inl ⟨by rfl, ?_⟩) hHeld ?_
                        rotate_left
                        · intro w hSw; (try dsimp only at hSw); (try simp only [List.getElem_toArray, List.getElem_cons_succ, List.getElem_cons_zero]); first | (go_simp; done) | (go_simp; with_reducible rfl)
                        try simp only [List.getElem_toArray, List.getElem_cons_succ, List.getElem_cons_zero, Act.put, List.setIfInBounds_toArray, List.set_cons_zero, List.set_cons_succ]
                        refine wpAnyH_ready (rs := [11]) (by kernel_rfl) (by simp) ?_
                        refine AllReadyH.cons rfl (fun K hK => ?_) ?_
                        · skip
                          try simp only [List.getElem_toArray, List.getElem_cons_succ, List.getElem_cons_zero]
                          go_simp
                          refine hK.out _ _ ?_ (fun hHeld2 => ?_)
                          · (try dsimp only)
                            refine KEEP.out _ ?_
                            (repeat (first | exact Below.refl _ _ | exact bW1 | exact bWr | exact b1 | refine Below.setCell ?_ hClo _ | refine below_alloc ?_ _ | refine below_drew ?_ | refine below_ext ?_ _))
                          clear hK K hHeld
                          have hHeld := hHeld2
                          clear hHeld2
                          try simp only [List.getElem_toArray, List.getElem_cons_succ, List.getElem_cons_zero, Act.put, List.setIfInBounds_toArray, List.set_cons_zero, List.set_cons_succ]
                          refine wpAnyH_done (by kernel_rfl) ?_ _
                          refine NoPanic.normal ?_
                          go_wp2_with fail
                          go_roundw
                          case rel =>
                            rw [ob_eq] at gr1
                            rw [ob_eq b'] at hat1
                            obtain ⟨b2, d2, kr2, xs2, KB2, hv2, T2⟩ := HT.out.snoc (⟨y1.w.alloc _, by (repeat (first | exact Below.refl _ _ | exact bR1 | refine below_alloc ?_ _ | refine below_drew ?_ | refine below_ext ?_ _))⟩) (hnew.ext ((Ext.self y1.w).alloc _)) (fun g hg => by have q1 := hlo g hg; simp at q1; omega) own1 gr1 hat1 rfl
                            refine ⟨k + 1, b2, d2, kr2, xs2, KB2, by go_num, by omega, ?_⟩
                            rw [List.take_add_one, HLU.out, ← HKS.out]
                            exact T2
                          case measure => simp [intOf]; omega
                        exact AllReadyH.nil
                      exact AllReadyH.nil
                    exact AllReadyH.nil
                  exact AllReadyH.nil
                exact AllReadyH.nil
            · have hke : k = t.kids.length := by omega
              have hlt' : ¬ (k : Int) < (t.kids.length : Int) := by omega
              rw [show L.take k = L by rw [hke, ← HLl.out, List.take_length]] at T
              have bRr : wr.heap[B + 2]? = _ := (Ext.mk wr bWr).blk bR
              have HKE := Lib.hid hke
              clear hke
              have c0 := blk_cell T.box 0
              have c1 := blk_cell T.box 1
              have c2 := blk_cell T.box 2
              have c3 := blk_cell T.box 3
              simp at c0 c1 c2 c3
              have n0 := blk_cell bRr 0
              have n1 := blk_cell bRr 1
              have n2 := blk_cell bRr 2
              have n3 := blk_cell bRr 3
              have p0 := blk_free bRr 0
              have p1 := blk_free bRr 1
              have p2 := blk_free bRr 2
              have p3 := blk_free bRr 3
              simp at n0 n1 n2 n3
              have HT := Lib.hid T
              have hsz2 : B + 2 < Wa.heap.size := hBW.2.2
              have belr := belA.trans (bWr.mono belA.size)
              clear T
              go_wp2
              clear n0 n1 n2 n3 p0 p1 p2 p3 c0 c1 c2 c3
              generalize hY4 : World.setCell _ _ _ = Y4
              obtain ⟨belD, hsame, hgr, r0, r1, r2, r3⟩ := ret4 (W := W) belr (by omega) bRr hY4
              refine bodyPost_ret (v := TV.val ⟨a', c', b', d'⟩ (.mk t.op t.n t.ty L)) (by simp [TV.val, Tm.op, Tm.n, Tm.ty, Tm.kids, results, Tryd.results106, go_sem, r0, r1, r2, r3]) rfl ?_
              obtain ⟨own, olo⟩ := HT.out.done hsame (.inl hsz2)
              rw [← HL.out]
              exact ⟨_, _, ⟨Y4, belD⟩, rfl, rfl, own, fun g hg => Nat.le_trans belA.size (olo g hg)⟩

end Go.Proofs.YtncfbljablbglaaDoor
