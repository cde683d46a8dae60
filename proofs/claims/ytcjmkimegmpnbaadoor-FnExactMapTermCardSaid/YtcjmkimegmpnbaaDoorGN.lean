/- Texts of one claim, laid together: MtA, MtT, MtB, MtC. -/
import Derived.Test.YtcjmkimegmpnbaaDoorGM
import Derived.Test.YtcjmkimegmpnbaaDoorGF
import Derived.Test.YtcjmkimegmpnbaaDoorGH
import Derived.Deep.Cut
import Derived.Outline
import Derived.Maps.AppendAt
import Derived.Test.YtcjmkimegmpnbaaDoorGG

/- The program's terms with other grades. -/
namespace Go.Proofs.YtcjmkimegmpnbaaDoor
open Go.RowKit

theorem imageOf_any {W : World} {a : Option Addr} {c : Nat} {f : List Int} (hr : Row W (Value.int .i64) a f) (hl : f.length ≤ 9223372036854775807) (g u : Int) (hg : -1 ≤ g) (hu : imgO f g = some u) (x : Ext W) : Calls Tryd.prog 109 #[.slice a f.length c, .int .i64 g] x.w (ImgA W u true) := by
  unfold imgO at hu
  split at hu
  · cases hu
    obtain rfl : g = -1 := by omega
    exact imageOf_open a f.length c x
  · exact imageOf_ok hr hl g u (by omega) hu x
theorem imageOf_none {W : World} {a : Option Addr} {c : Nat} {f : List Int} (hr : Row W (Value.int .i64) a f) (hl : f.length ≤ 9223372036854775807) (g : Int) (hg : g ≤ 1000) (hu : imgO f g = none) (x : Ext W) : Calls Tryd.prog 109 #[.slice a f.length c, .int .i64 g] x.w (ImgA W 0 false) := by
  unfold imgO at hu
  split at hu
  · cases hu
  · exact imageOf_bad hr hl g (by omega) hg hu x

/-- What mapTerm answers. -/
def MtP (f : List Int) (t u : Tm) (b : Bool) : Prop := (t.mapT f = some u ∧ b = true) ∨ (t.mapT f = none ∧ u = zeroT ∧ b = false)
theorem mtP_ex (f : List Int) (t : Tm) : ∃ u b, MtP f t u b := by
  cases h : t.mapT f with
  | none => exact ⟨zeroT, false, .inr ⟨h, rfl, rfl⟩⟩
  | some u => exact ⟨u, true, .inl ⟨h, rfl⟩⟩
theorem mtP_none {f : List Int} {t u : Tm} {b : Bool} (h : MtP f t u b) (hn : t.mapT f = none) : u = zeroT ∧ b = false := by
  rcases h with ⟨e, _⟩ | ⟨_, e⟩
  · rw [hn] at e; cases e
  · exact e
theorem mtP_some {f : List Int} {t u v : Tm} {b : Bool} (h : MtP f t u b) (hn : t.mapT f = some v) : u = v ∧ b = true := by
  rcases h with ⟨e, e2⟩ | ⟨e, _⟩
  · rw [hn] at e; cases e; exact ⟨rfl, e2⟩
  · rw [hn] at e; cases e

set_option maxRecDepth 100000 in
set_option maxHeartbeats 16000000 in
theorem mapTerm_ans (t : Tm) : ∀ {W : World} (_ : Forms W) (_ : TForms W) {af : Option Addr} {cf : Nat} {f : List Int} (_ : Row W (Value.int .i64) af f) (_ : f.length ≤ 9223372036854775807) {lo : Nat} {r : TV} (_ : TmIn W lo t r) {vars : Int} (_ : OkT 16 false vars t) (o : Tm) (b : Bool) (_ : MtP f t o b) (x : Ext W),
    Calls Tryd.prog 76 #[.slice af f.length cf, r.val t] x.w (NewTmB W o b) := by
  induction t using Tm.ind with
  | h t ih =>
    intro W F TF af cf f hf hfl lo r h vars ok o b ho x
    have HI := Lib.hid ih
    have HO := Lib.hid ho
    clear ih ho
    obtain ⟨ra, rc, rb, rd⟩ := r
    unfold TV.val
    have hn := ok.node
    have h13 : 0 ≤ t.op ∧ t.op ≤ 12 := manyO_in (by rw [← hn.many]; omega)
    have hk3 : t.kids.length ≤ 3 := by have := hn.many; have := manyO_le t.op; omega
    have hty : t.ty.length ≤ 40 := by
      have := hn.tok
      unfold TyOk at this
      split at this
      · exact this.1.1
      · rw [this]; simp
    have hN : HasG t.op → -1 ≤ t.n ∧ t.n < 16 := fun hg => by
      have := hn.nok
      unfold NOk at this
      rw [if_neg (by unfold HasG at hg; omega), if_neg (by unfold HasG at hg; omega), if_pos hg] at this
      exact ⟨this.2.1, this.1⟩
    have HN := Lib.hid hN
    have OK := Lib.hid ok
    obtain ⟨iT, hiT, hzT0, hzT1, hzT2⟩ := info_parts info_term
    obtain ⟨j, hj⟩ : ∃ j : Nat, t.op = (j : Int) := ⟨t.op.toNat, by omega⟩
    have hj12 : j ≤ 12 := by omega
    have hj12' : (j : Int) < 13 := by omega
    have HJ := Lib.hid hj
    obtain ⟨gr, hgr⟩ : ∃ gr, decide (HasG j) = gr := ⟨_, rfl⟩
    have HGR := Lib.hid hgr
    clear hj hgr hn hN ok h13
    cases hm : mapL f t.ty with
    | none =>
      have HM := Lib.hid hm
      go_enter Tryd.func76, Tryd.ntmps76
      go_wp2_with fail
      have hxW := x.size
      generalize hWa : (x.w.alloc _).alloc _ = Wa
      generalize hB : x.w.heap.size = B at *
      obtain ⟨bA, bR, sA, bel⟩ := blocks2 hB hWa
      have belA : Below W.heap.size W Wa := x.below.trans (bel.mono (by omega))
      clear hWa bel
      have FA : Forms Wa := F.ext ⟨Wa, belA⟩
      have TA : TForms Wa := TF.ext ⟨Wa, belA⟩
      have hfA : Row Wa (Value.int .i64) af f := hf.ext ⟨Wa, belA⟩
      have hA := h.ext ⟨Wa, belA⟩
      obtain ⟨kr0, A⟩ := hA.out
      have hlk := A.lk
      have MAP := mapType_ans (W := Wa) (cf := cf) (cl := rc) FA hfA hfl A.row (by omega) (Ext.self Wa)
      refine Calls.mono MAP ?_
      clear MAP
      rw [hm]
      clear hm
      rintro e w' (⟨xs, v, y, hxs, rfl, rfl, own1⟩ | ⟨hno, y, rfl, rfl⟩)
      · cases hxs
      clear hno
      have bRy := y.blk bR
      obtain ⟨rfl, rfl⟩ := mtP_none HO.out (Tm.mapT_no1 HM.out)
      have n0 := blk_cell bRy 0
      have n1 := blk_cell bRy 1
      have n2 := blk_cell bRy 2
      have n3 := blk_cell bRy 3
      have p0 := blk_free bRy 0
      have p1 := blk_free bRy 1
      have p2 := blk_free bRy 2
      have p3 := blk_free bRy 3
      simp at n0 n1 n2 n3
      go_wp2
      clear n0 n1 n2 n3 p0 p1 p2 p3
      generalize hY4 : World.setCell _ _ _ = Y4
      obtain ⟨belD, hsame, hgr, r0, r1, r2, r3⟩ := ret4 (W := W) (belA.trans (y.below.mono belA.size)) (by omega) bRy hY4
      refine bodyPost_ret (v := .tuple #[TV.val ⟨none, 0, none, 0⟩ zeroT, .bool false]) (by simp [TV.val, Tm.op, Tm.n, Tm.ty, Tm.kids, results, Tryd.results76, go_sem, r0, r1, r2, r3]) rfl ?_
      exact ⟨_, _, ⟨Y4, belD⟩, rfl, rfl, zero_own _, fun q hq => hq.elim⟩
    | some xs =>
      have HM := Lib.hid hm
      have hxl : xs.length = t.ty.length := mapL_len hm
      have hxl40 : xs.length ≤ 40 := by omega
      clear hxl
      go_enter Tryd.func76, Tryd.ntmps76
      go_wp2_with fail
      have hxW := x.size
      generalize hWa : (x.w.alloc _).alloc _ = Wa
      generalize hB : x.w.heap.size = B at *
      obtain ⟨bA, bR, sA, bel⟩ := blocks2 hB hWa
      have belA : Below W.heap.size W Wa := x.below.trans (bel.mono (by omega))
      clear hWa bel
      have FA : Forms Wa := F.ext ⟨Wa, belA⟩
      have TA : TForms Wa := TF.ext ⟨Wa, belA⟩
      have hfA : Row Wa (Value.int .i64) af f := hf.ext ⟨Wa, belA⟩
      have hA := h.ext ⟨Wa, belA⟩
      obtain ⟨kr0, A⟩ := hA.out
      have hlk := A.lk
      have MAP := mapType_ans (W := Wa) (cf := cf) (cl := rc) FA hfA hfl A.row (by omega) (Ext.self Wa)
      refine Calls.mono MAP ?_
      clear MAP
      rw [hm]
      clear hm
      rintro e w' hh
      rcases hh.symm with ⟨hno, _⟩ | ⟨xs', v, y, hxs, rfl, rfl, own1⟩
      · cases hno
      clear hh
      cases hxs
      obtain ⟨a', c', rfl, -, pl1⟩ := owned_row own1
      have bAy := y.blk bA
      have m0 := blk_cell bAy 0
      have m1 := blk_cell bAy 1
      simp at m0 m1
      go_upto_region 5 with fail
      clear m0 m1
      generalize hWc : World.alloc _ _ = Wc
      have szy := y.size
      obtain ⟨zc, hzc⟩ : ∃ z : Ext y.w, z.w = Wc := ⟨(Ext.self y.w).alloc _, hWc⟩
      have bC := new_blk hWc
      have hbelc : Below Wa.heap.size Wa Wc := by rw [← hzc]; exact y.below.trans (zc.below.mono szy)
      have bAc : Wc.heap[B]? = _ := (Ext.mk Wc hbelc).blk bA
      have bRc : Wc.heap[B + 1]? = _ := (Ext.mk Wc hbelc).blk bR
      have ownc : Wc.ownsRow Wa.heap.size 3 1 (.slice a' xs.length c') xs.length (xs.map (Value.int .i64)) := by rw [← hzc]; exact owns_ext own1 zc
      generalize hC : y.w.heap.size = C at *
      have hCc : C < Wc.heap.size := (Array.getElem?_eq_some_iff.1 bC).1
      have TC := (TA.ext ⟨Wc, hbelc⟩).at hj12
      obtain ⟨-, -, -, -, -, q5, -⟩ := TC
      rw [HGR.out] at q5
      have m0 : Wc.cell? ⟨B, 0, none⟩ = some (.int .i64 j) := by have := blk_cell bAc 0; rw [HJ.out] at this; exact this
      have m1 : Wc.cell? ⟨B, 1, none⟩ = some (.int .i64 t.n) := blk_cell bAc 1
      clear hWc hzc zc own1 hC bAy
      cases gr with
      | true =>
        have hg : HasG t.op := by rw [HJ.out]; exact of_decide_eq_true HGR.out
        have hnn := HN.out hg
        have HG := Lib.hid hg
        clear hg
        have hfc : Row Wc (Value.int .i64) af f := hfA.ext ⟨Wc, hbelc⟩
        cases hi : imgO f t.n with
        | none =>
          have IM := imageOf_none (c := cf) hfc hfl t.n (by omega) hi (Ext.self Wc)
          have HIM := Lib.hid hi
          clear hi
          obtain ⟨rfl, rfl⟩ := mtP_none HO.out (Tm.mapT_no2 (by unfold mapN; rw [if_pos HG.out]; exact HIM.out))
          go_wp2_with fail
          refine Calls.mono IM ?_
          rintro e w' ⟨rfl, z, rfl⟩
          clear IM q5 m0 m1
          have bCz := z.blk bC
          have k1 := blk_cell bCz 1
          have k2 := blk_free bCz 1
          simp at k1
          go_upto_region 8 with fail
          clear k1 k2
          generalize hWl : World.setCell _ _ _ = wl
          have belz : Below Wa.heap.size Wa z.w := hbelc.trans (z.below.mono hbelc.size)
          have bell : Below Wa.heap.size Wa wl := by subst hWl; exact belz.setCell (by omega) _
          have bRl : wl.heap[B + 1]? = _ := (set_other hWl (by omega)).trans (z.blk bRc)
          clear hWl belz bCz
          have n0 := blk_cell bRl 0
          have n1 := blk_cell bRl 1
          have n2 := blk_cell bRl 2
          have n3 := blk_cell bRl 3
          have p0 := blk_free bRl 0
          have p1 := blk_free bRl 1
          have p2 := blk_free bRl 2
          have p3 := blk_free bRl 3
          simp at n0 n1 n2 n3
          go_wp2
          clear n0 n1 n2 n3 p0 p1 p2 p3
          generalize hY4 : World.setCell _ _ _ = Y4
          obtain ⟨belD, hsame, hgr, r0, r1, r2, r3⟩ := ret4 (W := W) (belA.trans (bell.mono belA.size)) (by omega) bRl hY4
          refine bodyPost_ret (v := .tuple #[TV.val ⟨none, 0, none, 0⟩ zeroT, .bool false]) (by simp [TV.val, Tm.op, Tm.n, Tm.ty, Tm.kids, results, Tryd.results76, go_sem, r0, r1, r2, r3]) rfl ?_
          exact ⟨_, _, ⟨Y4, belD⟩, rfl, rfl, zero_own _, fun q hq => hq.elim⟩
        | some n' =>
          have IM := imageOf_any (c := cf) hfc hfl t.n n' (by omega) hi (Ext.self Wc)
          have HIM := Lib.hid hi
          clear hi
          have HMN : Hid (mapN f t.op t.n = some n') := by show _ = _; unfold mapN; rw [if_pos HG.out]; exact HIM.out
          go_wp2_with fail
          refine Calls.mono IM ?_
          rintro e w' ⟨rfl, z, rfl⟩
          clear IM q5 m0 m1
          have bCz := z.blk bC
          have k1 := blk_cell bCz 1
          have k2 := blk_free bCz 1
          simp at k1
          go_upto_region 9 with fail
          clear k1 k2
          generalize hWl : World.setCell _ _ _ = wl
          have bCl := set_blk bCz 1 _ hWl
          simp at bCl
          have hsl := set_size hWl
          have belz : Below Wa.heap.size Wa z.w := hbelc.trans (z.below.mono hbelc.size)
          have bell : Below Wa.heap.size Wa wl := by subst hWl; exact belz.setCell (by omega) _
          have ownl : wl.ownsRow Wa.heap.size 3 1 (.slice a' xs.length c') xs.length (xs.map (Value.int .i64)) := owns_of_block (owns_ext ownc z) (fun g hg => set_other hWl (by rw [ob_eq] at hg; have := pl1; cases a' with | none => cases hg | some p => cases hg; have := (pl1 p rfl).2; omega))
          have TB0 : TB Wa wl C t.op n' xs a' c' [] none 0 (fun _ => ⟨none, 0, none, 0⟩) [] (fun _ _ => False) := TB.start bCl ownl (by omega) bell
          clear hWl bCl hsl belz bell ownl bCz z hfc
          have hCl := TB0.cLt
          have m3 : wl.cell? ⟨B, 3, none⟩ = some (.slice rb t.kids.length rd) := blk_cell ((Ext.mk wl TB0.bel).blk bA) 3
          go_wp2_with fail
          clear m3
          go_loopw [48] (fun i wr => ∃ (k : Nat) (ks : List Tm) (b' : Option Addr) (d' : Nat) (kq : Nat → TV) (xq : List Value) (KB : Nat → Nat → Prop), i = .int .i64 k ∧ k ≤ t.kids.length ∧ Hid (Tm.mapTL f (t.kids.take k) = some ks) ∧ TB Wa wr C t.op n' xs a' c' ks b' d' kq xq KB) (fun i _ => t.kids.length - (intOf i).toNat)
          case atStart => exact ⟨0, [], _, _, _, _, _, rfl, by omega, by show _ = _; simp [Tm.mapTL], TB0⟩
          case round =>
            obtain ⟨k, ks, b', d', kq, xq, KB, rfl, hk, HKS, T⟩ := hrel
            have hkl : ks.length = k := by have := Tm.mapTL_len HKS.out; rw [List.length_take] at this; omega
            have hkl3 : ks.length ≤ 3 := by omega
            clear hkl
            have hwr := T.bel.size
            by_cases hlt : k < t.kids.length
            · have hlt' : (k : Int) < (t.kids.length : Int) := by omega
              obtain ⟨kid, hkid⟩ : ∃ kid, t.kids[k]? = some kid := ⟨_, List.getElem?_eq_getElem hlt⟩
              have hmem : kid ∈ t.kids := List.mem_of_getElem? hkid
              have HKID := Lib.hid hkid
              obtain ⟨b0, o0, hrb, K⟩ := A.kid k kid hkid
              have hsub := A.sub k kid hkid
              dsimp only at hrb
              have HRB := Lib.hid hrb
              have d0 : wr.cell? ⟨b0, o0 + k * 4, none⟩ = some (.int .i64 kid.op) := (Ext.mk wr T.bel).cell K.c0
              have d1 : wr.cell? ⟨b0, o0 + k * 4 + 1, none⟩ = some (.int .i64 kid.n) := (Ext.mk wr T.bel).cell K.c1
              have d2 : wr.cell? ⟨b0, o0 + k * 4 + 2, none⟩ = some (.slice (kr0 k).a kid.ty.length (kr0 k).c) := (Ext.mk wr T.bel).cell K.c2
              have d3 : wr.cell? ⟨b0, o0 + k * 4 + 3, none⟩ = some (.slice (kr0 k).b kid.kids.length (kr0 k).d) := (Ext.mk wr T.bel).cell K.c3
              clear K hkid
              subst hrb
              go_wp2_with fail
              generalize hW1 : wr.alloc _ = W1
              obtain ⟨z1, hz1⟩ : ∃ z : Ext wr, z.w = W1 := ⟨(Ext.self wr).alloc _, hW1⟩
              have bel1 : Below Wa.heap.size Wa W1 := by rw [← hz1]; exact T.bel.trans (z1.below.mono hwr)
              have T1 : TB Wa W1 C t.op n' xs a' c' ks b' d' kq xq KB := by rw [← hz1]; exact T.ext z1
              clear hW1 z1 hz1 d0 d1 d2 d3
              obtain ⟨u, bb, hub⟩ := mtP_ex f kid
              have HUB := Lib.hid hub
              have hok : OkT 16 false (vars + addsO t.op k) kid := OK.out.kid HKID.out
              have CC := HI.out kid hmem (W := W1) (cf := cf) (FA.ext ⟨W1, bel1⟩) (TA.ext ⟨W1, bel1⟩) (hfA.ext ⟨W1, bel1⟩) hfl (hsub.ext ⟨W1, bel1⟩) hok u bb hub (Ext.self W1)
              clear hub hok hmem hsub T
              refine Calls.mono CC ?_
              rintro e w' ⟨r', NB, y, rfl, rfl, hnew, hlo⟩
              clear CC
              have bel2 : Below Wa.heap.size Wa y.w := bel1.trans (y.below.mono bel1.size)
              have HNEW := Lib.hid hnew
              have HLO := Lib.hid hlo
              clear hnew hlo
              cases bb with
              | false =>
                have bRy : y.w.heap[B + 1]? = _ := (Ext.mk y.w bel2).blk bR
                have hno : kid.mapT f = none := by rcases HUB.out with ⟨_, e⟩ | ⟨e, _⟩; cases e; exact e
                obtain ⟨rfl, rfl⟩ := mtP_none HO.out (Tm.mapT_no3 (Tm.mapTL_none HKID.out hno))
                clear hno
                go_upto_region 13 with fail
                generalize hW2 : World.alloc _ _ = W2
                obtain ⟨z2, hz2⟩ : ∃ z : Ext y.w, z.w = W2 := ⟨(Ext.self y.w).alloc _, hW2⟩
                have bR2 := z2.blk bRy
                rw [hz2] at bR2
                have bel3 : Below W.heap.size W W2 := by rw [← hz2]; exact (belA.trans (bel2.mono belA.size)).trans (z2.below.mono (by have := belA.size; have := bel2.size; omega))
                clear hW2 hz2 z2 bRy
                have n0 := blk_cell bR2 0
                have n1 := blk_cell bR2 1
                have n2 := blk_cell bR2 2
                have n3 := blk_cell bR2 3
                have p0 := blk_free bR2 0
                have p1 := blk_free bR2 1
                have p2 := blk_free bR2 2
                have p3 := blk_free bR2 3
                simp at n0 n1 n2 n3
                go_wp2
                clear n0 n1 n2 n3 p0 p1 p2 p3
                generalize hY4 : World.setCell _ _ _ = Y4
                obtain ⟨belD, hsame, hgr, r0, r1, r2, r3⟩ := ret4 (W := W) (bel3) (by omega) bR2 hY4
                refine bodyPost_ret (v := .tuple #[TV.val ⟨none, 0, none, 0⟩ zeroT, .bool false]) (by simp [TV.val, Tm.op, Tm.n, Tm.ty, Tm.kids, results, Tryd.results76, go_sem, r0, r1, r2, r3]) rfl ?_
                exact ⟨_, _, ⟨Y4, belD⟩, rfl, rfl, zero_own _, fun q hq => hq.elim⟩
              | true =>
                have hyes : kid.mapT f = some u := by rcases HUB.out with ⟨e, _⟩ | ⟨_, _, e⟩; exact e; cases e
                have HYES := Lib.hid hyes
                clear hyes
                go_upto_region 15 with fail
                generalize hW2 : World.alloc _ _ = W2
                obtain ⟨z2, hz2⟩ : ∃ z : Ext y.w, z.w = W2 := ⟨(Ext.self y.w).alloc _, hW2⟩
                have hn2 := new_blk hW2
                have szy := y.size
                have szz : y.w.heap.size < W2.heap.size := by rw [← hW2]; simp
                generalize hD : y.w.heap.size = D at *
                have e0 : W2.cell? ⟨D, 0, none⟩ = some (.int .i64 u.op) := blk_cell hn2 0
                have e1 : W2.cell? ⟨D, 1, none⟩ = some (.int .i64 u.n) := blk_cell hn2 1
                have e2 : W2.cell? ⟨D, 2, none⟩ = some (.slice r'.a u.ty.length r'.c) := blk_cell hn2 2
                have e3 : W2.cell? ⟨D, 3, none⟩ = some (.slice r'.b u.kids.length r'.d) := blk_cell hn2 3
                have T2 : TB Wa W2 C t.op n' xs a' c' ks b' d' kq xq KB := by rw [← hz2]; exact (T1.ext y).ext z2
                have f3 : W2.cell? ⟨C, 3, none⟩ = some (.slice b' ks.length d') := T2.cells.2.2.2 (Ext.self W2)
                have f4 : W2.frozen? ⟨C, 3, none⟩ = false := blk_free T2.box 3
                have hC2 := T2.cLt
                have hrow2 := T2.kids.row
                have HZ2 := Lib.hid (⟨T1, hz2⟩ : _ ∧ _)
                have KC : ∀ (ob' : Obj) (w1 : World), (W2.alloc ob').grownBy w1 (Value.slice b' ks.length d').ownBlock → w1.cell? ⟨C, 3, none⟩ = some (.slice b' ks.length d') ∧ w1.frozen? ⟨C, 3, none⟩ = false := fun ob' w1 gr => by
                  have hb : some C ≠ (Value.slice b' ks.length d').ownBlock := by rw [ob_eq]; exact fun e => (T2.lk C (.inl e.symm)).2 rfl
                  have mC : w1.heap[C]? = some (boxT t.op n' a' xs.length c' b' ks.length d') := (gr.block C (by simp; omega) hb).trans (((Ext.self W2).alloc ob').blk T2.box)
                  exact ⟨blk_cell mC 3, blk_free mC 3⟩
                have HKC := Lib.hid KC
                clear KC
                clear hW2 T1 hz2 hn2 T2
                go_wp2_with (at_builtin; refine wpList_append_own_at _ rfl (.tmp 62) (.tmp 64) 35 rfl 0 37 iT (.agg #[.int .i64 0, .int .i64 0, .slice none 0 0, .slice none 0 0]) 4 64 Tryd.underlying35 hiT hzT0 hzT1 hzT2 rfl (by decide) (.slice b' ks.length d') ks.length xq rfl (hrow2.alloc _) ⟨W2.heap.size, 0, none⟩ 1 1 [.int .i64 u.op, .int .i64 u.n, .slice r'.a u.ty.length r'.c, .slice r'.b u.kids.length r'.d] rfl rfl (cell_four_at _ _ _ _ _ _ _ rfl) (four_one _ _ _ _ rfl rfl rfl rfl) (by unfold maxLen; omega) (by omega) (Nat.zero_le _) ?_; intro v' w1 own1 gr1 _ hat1; obtain ⟨A2, c2, hv2⟩ := owns_slice own1; subst hv2; obtain ⟨kc3, kf3⟩ := HKC.out _ _ gr1; have HO1 := Lib.hid (⟨own1, gr1, hat1⟩ : _ ∧ _ ∧ _); clear own1 gr1 hat1)
                clear kc3 kf3 e0 e1 e2 e3 f3 f4 hrow2
                go_roundw
                case rel =>
                  obtain ⟨own1, gr1, hat1⟩ := HO1.out
                  obtain ⟨T1, hz2⟩ := HZ2.out
                  have nu := HNEW.out
                  have nlo := HLO.out
                  subst hz2
                  rw [ob_eq] at gr1
                  rw [ob_eq b'] at hat1
                  obtain ⟨b2, d2, kr2, xs2, KB2, hv, TT⟩ := T1.snoc (y.trans (z2.alloc _)) ((nu.ext z2).ext ((Ext.self _).alloc _)) nlo own1 gr1 hat1 rfl
                  exact ⟨k + 1, ks ++ [u], b2, d2, kr2, xs2, KB2, by go_num, by omega, Tm.mapTL_step HKID.out HKS.out HYES.out, TT⟩
                case measure => simp [intOf]; omega
            · have hke : k = t.kids.length := by omega
              have hlt' : ¬ (k : Int) < (t.kids.length : Int) := by omega
              have HKE := Lib.hid hke
              clear hke
              have bRr : wr.heap[B + 1]? = _ := (Ext.mk wr T.bel).blk bR
              have c0 := blk_cell T.box 0
              have c1 := blk_cell T.box 1
              have c2 := blk_cell T.box 2
              have c3 := blk_cell T.box 3
              simp at c0 c1 c2 c3
              have n0 := blk_cell bRr 0
              have n1 := blk_cell bRr 1
              have n2 := blk_cell bRr 2
              have n3 := blk_cell bRr 3
              have p0 := blk_free bRr 0
              have p1 := blk_free bRr 1
              have p2 := blk_free bRr 2
              have p3 := blk_free bRr 3
              simp at n0 n1 n2 n3
              have HT := Lib.hid T
              have hsz : B + 1 < Wa.heap.size := by omega
              have belr := belA.trans (T.bel.mono belA.size)
              clear T
              go_wp2
              clear n0 n1 n2 n3 p0 p1 p2 p3 c0 c1 c2 c3
              generalize hY4 : World.setCell _ _ _ = Y4
              obtain ⟨belD, hsame, hgr, r0, r1, r2, r3⟩ := ret4 (W := W) belr (by omega) bRr hY4
              refine bodyPost_ret (v := .tuple #[TV.val ⟨a', c', b', d'⟩ (.mk t.op n' xs ks), .bool true]) (by simp [TV.val, Tm.op, Tm.n, Tm.ty, Tm.kids, results, Tryd.results76, go_sem, r0, r1, r2, r3]) rfl ?_
              obtain ⟨rfl, rfl⟩ := mtP_some HO.out (Tm.mapT_mk HM.out HMN.out (by have := HKS.out; rw [HKE.out, List.take_length] at this; exact this))
              obtain ⟨own, olo⟩ := HT.out.done hsame (.inl hsz)
              exact ⟨_, _, ⟨Y4, belD⟩, rfl, rfl, own, fun g hg => Nat.le_trans belA.size (olo g hg)⟩
      | false =>
        have hg : ¬ HasG t.op := by rw [HJ.out]; exact of_decide_eq_false HGR.out
        obtain ⟨n', hn'⟩ : ∃ n', t.n = n' := ⟨_, rfl⟩
        have HMN : Hid (mapN f t.op t.n = some n') := (mapN_plain hg).trans (congrArg some hn')
        clear hg
        rw [hn'] at bC
        have TB0 : TB Wa Wc C t.op n' xs a' c' [] none 0 (fun _ => ⟨none, 0, none, 0⟩) [] (fun _ _ => False) := TB.start bC ownc (by omega) hbelc
        clear hn'
        go_upto_region 9 with fail
        clear q5 m0 m1
        obtain ⟨wl, hwl⟩ : ∃ wl, Wc = wl := ⟨_, rfl⟩
        rw [hwl] at TB0 ⊢
        clear hwl
        have hCl := TB0.cLt
        have m3 : wl.cell? ⟨B, 3, none⟩ = some (.slice rb t.kids.length rd) := blk_cell ((Ext.mk wl TB0.bel).blk bA) 3
        go_wp2_with fail
        clear m3
        go_loopw [48] (fun i wr => ∃ (k : Nat) (ks : List Tm) (b' : Option Addr) (d' : Nat) (kq : Nat → TV) (xq : List Value) (KB : Nat → Nat → Prop), i = .int .i64 k ∧ k ≤ t.kids.length ∧ Hid (Tm.mapTL f (t.kids.take k) = some ks) ∧ TB Wa wr C t.op n' xs a' c' ks b' d' kq xq KB) (fun i _ => t.kids.length - (intOf i).toNat)
        case atStart => exact ⟨0, [], _, _, _, _, _, rfl, by omega, by show _ = _; simp [Tm.mapTL], TB0⟩
        case round =>
          obtain ⟨k, ks, b', d', kq, xq, KB, rfl, hk, HKS, T⟩ := hrel
          have hkl : ks.length = k := by have := Tm.mapTL_len HKS.out; rw [List.length_take] at this; omega
          have hkl3 : ks.length ≤ 3 := by omega
          clear hkl
          have hwr := T.bel.size
          by_cases hlt : k < t.kids.length
          · have hlt' : (k : Int) < (t.kids.length : Int) := by omega
            obtain ⟨kid, hkid⟩ : ∃ kid, t.kids[k]? = some kid := ⟨_, List.getElem?_eq_getElem hlt⟩
            have hmem : kid ∈ t.kids := List.mem_of_getElem? hkid
            have HKID := Lib.hid hkid
            obtain ⟨b0, o0, hrb, K⟩ := A.kid k kid hkid
            have hsub := A.sub k kid hkid
            dsimp only at hrb
            have HRB := Lib.hid hrb
            have d0 : wr.cell? ⟨b0, o0 + k * 4, none⟩ = some (.int .i64 kid.op) := (Ext.mk wr T.bel).cell K.c0
            have d1 : wr.cell? ⟨b0, o0 + k * 4 + 1, none⟩ = some (.int .i64 kid.n) := (Ext.mk wr T.bel).cell K.c1
            have d2 : wr.cell? ⟨b0, o0 + k * 4 + 2, none⟩ = some (.slice (kr0 k).a kid.ty.length (kr0 k).c) := (Ext.mk wr T.bel).cell K.c2
            have d3 : wr.cell? ⟨b0, o0 + k * 4 + 3, none⟩ = some (.slice (kr0 k).b kid.kids.length (kr0 k).d) := (Ext.mk wr T.bel).cell K.c3
            clear K hkid
            subst hrb
            go_wp2_with fail
            generalize hW1 : wr.alloc _ = W1
            obtain ⟨z1, hz1⟩ : ∃ z : Ext wr, z.w = W1 := ⟨(Ext.self wr).alloc _, hW1⟩
            have bel1 : Below Wa.heap.size Wa W1 := by rw [← hz1]; exact T.bel.trans (z1.below.mono hwr)
            have T1 : TB Wa W1 C t.op n' xs a' c' ks b' d' kq xq KB := by rw [← hz1]; exact T.ext z1
            clear hW1 z1 hz1 d0 d1 d2 d3
            obtain ⟨u, bb, hub⟩ := mtP_ex f kid
            have HUB := Lib.hid hub
            have hok : OkT 16 false (vars + addsO t.op k) kid := OK.out.kid HKID.out
            have CC := HI.out kid hmem (W := W1) (cf := cf) (FA.ext ⟨W1, bel1⟩) (TA.ext ⟨W1, bel1⟩) (hfA.ext ⟨W1, bel1⟩) hfl (hsub.ext ⟨W1, bel1⟩) hok u bb hub (Ext.self W1)
            clear hub hok hmem hsub T
            refine Calls.mono CC ?_
            rintro e w' ⟨r', NB, y, rfl, rfl, hnew, hlo⟩
            clear CC
            have bel2 : Below Wa.heap.size Wa y.w := bel1.trans (y.below.mono bel1.size)
            have HNEW := Lib.hid hnew
            have HLO := Lib.hid hlo
            clear hnew hlo
            cases bb with
            | false =>
              have bRy : y.w.heap[B + 1]? = _ := (Ext.mk y.w bel2).blk bR
              have hno : kid.mapT f = none := by rcases HUB.out with ⟨_, e⟩ | ⟨e, _⟩; cases e; exact e
              obtain ⟨rfl, rfl⟩ := mtP_none HO.out (Tm.mapT_no3 (Tm.mapTL_none HKID.out hno))
              clear hno
              go_upto_region 13 with fail
              generalize hW2 : World.alloc _ _ = W2
              obtain ⟨z2, hz2⟩ : ∃ z : Ext y.w, z.w = W2 := ⟨(Ext.self y.w).alloc _, hW2⟩
              have bR2 := z2.blk bRy
              rw [hz2] at bR2
              have bel3 : Below W.heap.size W W2 := by rw [← hz2]; exact (belA.trans (bel2.mono belA.size)).trans (z2.below.mono (by have := belA.size; have := bel2.size; omega))
              clear hW2 hz2 z2 bRy
              have n0 := blk_cell bR2 0
              have n1 := blk_cell bR2 1
              have n2 := blk_cell bR2 2
              have n3 := blk_cell bR2 3
              have p0 := blk_free bR2 0
              have p1 := blk_free bR2 1
              have p2 := blk_free bR2 2
              have p3 := blk_free bR2 3
              simp at n0 n1 n2 n3
              go_wp2
              clear n0 n1 n2 n3 p0 p1 p2 p3
              generalize hY4 : World.setCell _ _ _ = Y4
              obtain ⟨belD, hsame, hgr, r0, r1, r2, r3⟩ := ret4 (W := W) (bel3) (by omega) bR2 hY4
              refine bodyPost_ret (v := .tuple #[TV.val ⟨none, 0, none, 0⟩ zeroT, .bool false]) (by simp [TV.val, Tm.op, Tm.n, Tm.ty, Tm.kids, results, Tryd.results76, go_sem, r0, r1, r2, r3]) rfl ?_
              exact ⟨_, _, ⟨Y4, belD⟩, rfl, rfl, zero_own _, fun q hq => hq.elim⟩
            | true =>
              have hyes : kid.mapT f = some u := by rcases HUB.out with ⟨e, _⟩ | ⟨_, _, e⟩; exact e; cases e
              have HYES := Lib.hid hyes
              clear hyes
              go_upto_region 15 with fail
              generalize hW2 : World.alloc _ _ = W2
              obtain ⟨z2, hz2⟩ : ∃ z : Ext y.w, z.w = W2 := ⟨(Ext.self y.w).alloc _, hW2⟩
              have hn2 := new_blk hW2
              have szy := y.size
              have szz : y.w.heap.size < W2.heap.size := by rw [← hW2]; simp
              generalize hD : y.w.heap.size = D at *
              have e0 : W2.cell? ⟨D, 0, none⟩ = some (.int .i64 u.op) := blk_cell hn2 0
              have e1 : W2.cell? ⟨D, 1, none⟩ = some (.int .i64 u.n) := blk_cell hn2 1
              have e2 : W2.cell? ⟨D, 2, none⟩ = some (.slice r'.a u.ty.length r'.c) := blk_cell hn2 2
              have e3 : W2.cell? ⟨D, 3, none⟩ = some (.slice r'.b u.kids.length r'.d) := blk_cell hn2 3
              have T2 : TB Wa W2 C t.op n' xs a' c' ks b' d' kq xq KB := by rw [← hz2]; exact (T1.ext y).ext z2
              have f3 : W2.cell? ⟨C, 3, none⟩ = some (.slice b' ks.length d') := T2.cells.2.2.2 (Ext.self W2)
              have f4 : W2.frozen? ⟨C, 3, none⟩ = false := blk_free T2.box 3
              have hC2 := T2.cLt
              have hrow2 := T2.kids.row
              have HZ2 := Lib.hid (⟨T1, hz2⟩ : _ ∧ _)
              have KC : ∀ (ob' : Obj) (w1 : World), (W2.alloc ob').grownBy w1 (Value.slice b' ks.length d').ownBlock → w1.cell? ⟨C, 3, none⟩ = some (.slice b' ks.length d') ∧ w1.frozen? ⟨C, 3, none⟩ = false := fun ob' w1 gr => by
                have hb : some C ≠ (Value.slice b' ks.length d').ownBlock := by rw [ob_eq]; exact fun e => (T2.lk C (.inl e.symm)).2 rfl
                have mC : w1.heap[C]? = some (boxT t.op n' a' xs.length c' b' ks.length d') := (gr.block C (by simp; omega) hb).trans (((Ext.self W2).alloc ob').blk T2.box)
                exact ⟨blk_cell mC 3, blk_free mC 3⟩
              have HKC := Lib.hid KC
              clear KC
              clear hW2 T1 hz2 hn2 T2
              go_wp2_with (at_builtin; refine wpList_append_own_at _ rfl (.tmp 62) (.tmp 64) 35 rfl 0 37 iT (.agg #[.int .i64 0, .int .i64 0, .slice none 0 0, .slice none 0 0]) 4 64 Tryd.underlying35 hiT hzT0 hzT1 hzT2 rfl (by decide) (.slice b' ks.length d') ks.length xq rfl (hrow2.alloc _) ⟨W2.heap.size, 0, none⟩ 1 1 [.int .i64 u.op, .int .i64 u.n, .slice r'.a u.ty.length r'.c, .slice r'.b u.kids.length r'.d] rfl rfl (cell_four_at _ _ _ _ _ _ _ rfl) (four_one _ _ _ _ rfl rfl rfl rfl) (by unfold maxLen; omega) (by omega) (Nat.zero_le _) ?_; intro v' w1 own1 gr1 _ hat1; obtain ⟨A2, c2, hv2⟩ := owns_slice own1; subst hv2; obtain ⟨kc3, kf3⟩ := HKC.out _ _ gr1; have HO1 := Lib.hid (⟨own1, gr1, hat1⟩ : _ ∧ _ ∧ _); clear own1 gr1 hat1)
              clear kc3 kf3 e0 e1 e2 e3 f3 f4 hrow2
              go_roundw
              case rel =>
                obtain ⟨own1, gr1, hat1⟩ := HO1.out
                obtain ⟨T1, hz2⟩ := HZ2.out
                have nu := HNEW.out
                have nlo := HLO.out
                subst hz2
                rw [ob_eq] at gr1
                rw [ob_eq b'] at hat1
                obtain ⟨b2, d2, kr2, xs2, KB2, hv, TT⟩ := T1.snoc (y.trans (z2.alloc _)) ((nu.ext z2).ext ((Ext.self _).alloc _)) nlo own1 gr1 hat1 rfl
                exact ⟨k + 1, ks ++ [u], b2, d2, kr2, xs2, KB2, by go_num, by omega, Tm.mapTL_step HKID.out HKS.out HYES.out, TT⟩
              case measure => simp [intOf]; omega
          · have hke : k = t.kids.length := by omega
            have hlt' : ¬ (k : Int) < (t.kids.length : Int) := by omega
            have HKE := Lib.hid hke
            clear hke
            have bRr : wr.heap[B + 1]? = _ := (Ext.mk wr T.bel).blk bR
            have c0 := blk_cell T.box 0
            have c1 := blk_cell T.box 1
            have c2 := blk_cell T.box 2
            have c3 := blk_cell T.box 3
            simp at c0 c1 c2 c3
            have n0 := blk_cell bRr 0
            have n1 := blk_cell bRr 1
            have n2 := blk_cell bRr 2
            have n3 := blk_cell bRr 3
            have p0 := blk_free bRr 0
            have p1 := blk_free bRr 1
            have p2 := blk_free bRr 2
            have p3 := blk_free bRr 3
            simp at n0 n1 n2 n3
            have HT := Lib.hid T
            have hsz : B + 1 < Wa.heap.size := by omega
            have belr := belA.trans (T.bel.mono belA.size)
            clear T
            go_wp2
            clear n0 n1 n2 n3 p0 p1 p2 p3 c0 c1 c2 c3
            generalize hY4 : World.setCell _ _ _ = Y4
            obtain ⟨belD, hsame, hgr, r0, r1, r2, r3⟩ := ret4 (W := W) belr (by omega) bRr hY4
            refine bodyPost_ret (v := .tuple #[TV.val ⟨a', c', b', d'⟩ (.mk t.op n' xs ks), .bool true]) (by simp [TV.val, Tm.op, Tm.n, Tm.ty, Tm.kids, results, Tryd.results76, go_sem, r0, r1, r2, r3]) rfl ?_
            obtain ⟨rfl, rfl⟩ := mtP_some HO.out (Tm.mapT_mk HM.out HMN.out (by have := HKS.out; rw [HKE.out, List.take_length] at this; exact this))
            obtain ⟨own, olo⟩ := HT.out.done hsame (.inl hsz)
            exact ⟨_, _, ⟨Y4, belD⟩, rfl, rfl, own, fun g hg => Nat.le_trans belA.size (olo g hg)⟩

end Go.Proofs.YtcjmkimegmpnbaaDoor

/- The program's MapTerm. -/
namespace Go.Proofs.YtcjmkimegmpnbaaDoor
open Go.RowKit

set_option maxRecDepth 100000 in
set_option maxHeartbeats 4000000 in
theorem mapTermTop_ans {W : World} (F : Forms W) (TF : TForms W) {af : Option Addr} {cf : Nat} {f : List Int} (hf : Row W (Value.int .i64) af f) (hfl : f.length ≤ 1099511627776) {lo : Nat} {t : Tm} {r : TV} (h : TmIn W lo t r) (o : Tm) (b : Bool) (ho : MapTmV f t o b) (x : Ext W) :
    Calls Tryd.prog 33 #[.slice af f.length cf, r.val t] x.w (NewTmB W o b) := by
  obtain ⟨ra, rc, rb, rd⟩ := r
  unfold TV.val
  have HO := Lib.hid ho
  clear ho
  by_cases hw : Written t
  · have HW := Lib.hid hw
    clear hw
    have ho2 : MtP f t o b := by
      rcases HO.out with ⟨_, h, e⟩ | ⟨h, e1, e2⟩
      · exact .inl ⟨h, e⟩
      · refine .inr ⟨?_, e1, e2⟩
        cases hm : t.mapT f with
        | none => rfl
        | some u => exact absurd ⟨HW.out, u, hm⟩ h
    have HO2 := Lib.hid ho2
    clear ho2
    go_enter Tryd.func33, Tryd.ntmps33
    go_wp2_with fail
    have hxW := x.size
    generalize hWa : (x.w.alloc _).alloc _ = Wa
    generalize hB : x.w.heap.size = B at *
    obtain ⟨bA, bR, sA, bel⟩ := blocks2 hB hWa
    have belA : Below W.heap.size W Wa := x.below.trans (bel.mono (by omega))
    clear hWa bel
    have FA : Forms Wa := F.ext ⟨Wa, belA⟩
    have TA : TForms Wa := TF.ext ⟨Wa, belA⟩
    have hfA : Row Wa (Value.int .i64) af f := hf.ext ⟨Wa, belA⟩
    have hA := h.ext ⟨Wa, belA⟩
    have ISW := isWritten_ans (W := Wa) FA TA hA true (by refine iff_tf ?_; exact HW.out) (Ext.self Wa)
    refine Calls.mono ISW ?_
    rintro e w' ⟨rfl, y, rfl⟩
    have bAy := y.blk bA
    have m0 := blk_cell bAy 0
    have m1 := blk_cell bAy 1
    have m2 := blk_cell bAy 2
    have m3 := blk_cell bAy 3
    simp at m0 m1 m2 m3
    clear ISW
    go_wp2_with fail
    clear m0 m1 m2 m3
    have CC := mapTerm_ans t (W := y.w) (cf := cf) (FA.ext y) (TA.ext y) (hfA.ext y) (by omega) (hA.ext y) HW.out.2 o b HO2.out (Ext.self y.w)
    refine Calls.mono CC ?_
    clear CC
    rintro e w' ⟨r', NB, z, rfl, rfl, hnew, hlo⟩
    have szy := y.size
    have bRz := z.blk (y.blk bR)
    have n0 := blk_cell bRz 0
    have n1 := blk_cell bRz 1
    have n2 := blk_cell bRz 2
    have n3 := blk_cell bRz 3
    have p0 := blk_free bRz 0
    have p1 := blk_free bRz 1
    have p2 := blk_free bRz 2
    have p3 := blk_free bRz 3
    simp at n0 n1 n2 n3
    go_wp2
    clear n0 n1 n2 n3 p0 p1 p2 p3
    generalize hY4 : World.setCell _ _ _ = Y4
    obtain ⟨belD, hsame, hgr, r0, r1, r2, r3⟩ := ret4 (W := W) ((belA.trans (y.below.mono belA.size)).trans (z.below.mono (by have := belA.size; omega))) (by omega) bRz hY4
    refine bodyPost_ret (v := .tuple #[r'.val o, .bool b]) (by simp [TV.val, results, Tryd.results33, go_sem, r0, r1, r2, r3]) rfl ?_
    exact ⟨r', NB, ⟨Y4, belD⟩, rfl, rfl, hnew.keep (fun g hg => hsame g (by have := hlo g hg; omega)), fun g hg => by have := hlo g hg; omega⟩
  · have HW := Lib.hid hw
    clear hw
    obtain ⟨rfl, rfl⟩ : o = zeroT ∧ b = false := by
      rcases HO.out with ⟨h, _⟩ | ⟨_, e1, e2⟩
      · exact absurd h HW.out
      · exact ⟨e1, e2⟩
    go_enter Tryd.func33, Tryd.ntmps33
    go_wp2_with fail
    have hxW := x.size
    generalize hWa : (x.w.alloc _).alloc _ = Wa
    generalize hB : x.w.heap.size = B at *
    obtain ⟨bA, bR, sA, bel⟩ := blocks2 hB hWa
    have belA : Below W.heap.size W Wa := x.below.trans (bel.mono (by omega))
    clear hWa bel
    have FA : Forms Wa := F.ext ⟨Wa, belA⟩
    have TA : TForms Wa := TF.ext ⟨Wa, belA⟩
    have hfA : Row Wa (Value.int .i64) af f := hf.ext ⟨Wa, belA⟩
    have hA := h.ext ⟨Wa, belA⟩
    have ISW := isWritten_ans (W := Wa) FA TA hA false (by refine iff_tf ?_; exact HW.out) (Ext.self Wa)
    refine Calls.mono ISW ?_
    rintro e w' ⟨rfl, y, rfl⟩
    clear ISW
    have bRy := y.blk bR
    have n0 := blk_cell bRy 0
    have n1 := blk_cell bRy 1
    have n2 := blk_cell bRy 2
    have n3 := blk_cell bRy 3
    have p0 := blk_free bRy 0
    have p1 := blk_free bRy 1
    have p2 := blk_free bRy 2
    have p3 := blk_free bRy 3
    simp at n0 n1 n2 n3
    go_wp2
    clear n0 n1 n2 n3 p0 p1 p2 p3
    generalize hY4 : World.setCell _ _ _ = Y4
    obtain ⟨belD, hsame, hgr, r0, r1, r2, r3⟩ := ret4 (W := W) (belA.trans (y.below.mono belA.size)) (by omega) bRy hY4
    refine bodyPost_ret (v := .tuple #[TV.val ⟨none, 0, none, 0⟩ zeroT, .bool false]) (by simp [TV.val, Tm.op, Tm.n, Tm.ty, Tm.kids, results, Tryd.results33, go_sem, r0, r1, r2, r3]) rfl ?_
    exact ⟨_, _, ⟨Y4, belD⟩, rfl, rfl, zero_own _, fun q hq => hq.elim⟩

end Go.Proofs.YtcjmkimegmpnbaaDoor

/- The model's terms with other grades. -/
namespace Go.Proofs.YtcjmkimegmpnbaaDoor
open Go.RowKit

/-- Where the model's copy has its grade: the box, and what lies ahead of its own blocks. -/
def StA (Y Wa w : World) (B : Nat) (op n' : Int) : Prop :=
  w.heap[B + 1]? = some (boxT op n' none 0 0 none 0 0) ∧ Below Y.heap.size Y w ∧ B + 1 + 1 + 1 ≤ w.heap.size ∧ Hid (∀ g, g < B + 1 + 1 + 1 → g ≠ B + 1 → w.heap[g]? = Wa.heap[g]?)
/-- .. and its type. -/
def StB (Y Wa w : World) (B : Nat) (op n' : Int) (xs : List Int) (a' : Option Addr) (c' : Nat) : Prop :=
  w.heap[B + 1]? = some (boxT op n' a' xs.length c' none 0 0) ∧ Below Y.heap.size Y w ∧ B + 1 + 1 + 1 ≤ w.heap.size ∧ Hid (∀ g, g < B + 1 + 1 + 1 → g ≠ B + 1 → w.heap[g]? = Wa.heap[g]?) ∧
    w.ownsRow (B + 1 + 1 + 1) 3 1 (.slice a' xs.length c') xs.length (xs.map (Value.int .i64))

set_option maxRecDepth 100000 in
set_option maxHeartbeats 16000000 in
theorem l3Map_ans (t : Tm) : ∀ {W : World} {af : Option Addr} {cf : Nat} {f : List Int} (_ : Row W (Value.int .i64) af f) (_ : f.length ≤ 1099511627776) {lo : Nat} {r : TV} (_ : TmIn W lo t r) {vars : Int} (_ : OkT 16 false vars t) (o : Tm) (b : Bool) (_ : MtP f t o b) (x : Ext W),
    Calls Tryd.prog 75 #[.slice af f.length cf, r.val t, .agg #[.int .i64 t.op, .int .i64 t.n, .slice none 0 0, .slice none 0 0]] x.w (NewTmB W o b) := by
  induction t using Tm.ind with
  | h t ih =>
    intro W af cf f hf hfl lo r h vars ok o b ho x
    have HI := Lib.hid ih
    have HO := Lib.hid ho
    clear ih ho
    obtain ⟨ra, rc, rb, rd⟩ := r
    unfold TV.val
    have hn := ok.node
    have hk3 : t.kids.length ≤ 3 := by have := hn.many; have := manyO_le t.op; omega
    have hty : t.ty.length ≤ 40 := by
      have := hn.tok
      unfold TyOk at this
      split at this
      · exact this.1.1
      · rw [this]; simp
    have hN : HasG t.op → -1 ≤ t.n ∧ t.n < 16 := fun hg => by
      have := hn.nok
      unfold NOk at this
      rw [if_neg (by unfold HasG at hg; omega), if_neg (by unfold HasG at hg; omega), if_pos hg] at this
      exact ⟨this.2.1, this.1⟩
    have HN := Lib.hid hN
    have OK := Lib.hid ok
    obtain ⟨iT, hiT, hzT0, hzT1, hzT2⟩ := info_parts info_term
    clear hn hN ok
    obtain ⟨p, hp⟩ := bool_of (HasG t.op ∧ 0 ≤ t.n)
    obtain ⟨q, hq⟩ := bool_of (TypedO t.op)
    have HP := Lib.hid hp
    have HQ := Lib.hid hq
    clear hp hq
    go_enter Tryd.func75, Tryd.ntmps75
    go_upto_region 1 with fail
    have hxW := x.size
    generalize hY : x.w.alloc _ = Y
    have bA := new_blk hY
    have sY : Y.heap.size = x.w.heap.size + 1 := by rw [← hY]; simp
    obtain ⟨zY, hzY⟩ : ∃ z : Ext W, z.w = Y := ⟨x.alloc _, hY⟩
    have hfY := hf.ext zY
    rw [hzY] at hfY
    generalize hB : x.w.heap.size = B at *
    have hIY : TmIn Y lo t ⟨ra, rc, rb, rd⟩ := by rw [← hzY]; exact h.ext zY
    have belY : Below W.heap.size W Y := by rw [← hzY]; exact zY.below
    clear hY hzY zY
    generalize hWa : World.alloc _ _ = Wa
    obtain ⟨bC, bR, sA, bel⟩ := blocks2 sY hWa
    clear hWa
    obtain ⟨kr0, A⟩ := hIY.out
    have hlk := A.lk
    obtain ⟨ya, hya⟩ : ∃ y : Ext Wa, y.w = Wa := ⟨Ext.self Wa, rfl⟩
    rw [← hya]
    clear hya
    go_cut [19] from 20 (fun s19 wc => s19 = .bool p ∧ ∃ y : Ext Wa, wc = y.w)
    case first =>
      have m0 : ∀ y : Ext Wa, y.w.cell? ⟨B, 0, none⟩ = some (.int .i64 t.op) := fun y => blk_cell (y.blk ((Ext.mk Wa bel).blk bA)) 0
      have m1 : ∀ y : Ext Wa, y.w.cell? ⟨B, 1, none⟩ = some (.int .i64 t.n) := fun y => blk_cell (y.blk ((Ext.mk Wa bel).blk bA)) 1
      by_cases hg : HasG t.op
      · by_cases hop : 0 ≤ t.n
        · go_wp2_with (go_at_call 104; with_reducible refine Calls.mono (l2Has_ans (W := Wa) t.op true (by refine iff_tf ?_; exact hg) _) ?_; rintro e w' ⟨rfl, yy, rfl⟩)
          go_meet
          case rel => exact ⟨congrArg Value.bool (HP.out.2 ⟨hg, hop⟩).symm, yy, rfl⟩
        · have hop' : decide (0 ≤ t.n) = false := by rw [decide_eq_false_iff_not]; exact hop
          go_wp2_with (go_at_call 104; with_reducible refine Calls.mono (l2Has_ans (W := Wa) t.op true (by refine iff_tf ?_; exact hg) _) ?_; rintro e w' ⟨rfl, yy, rfl⟩)
          go_meet
          case rel => exact ⟨congrArg Value.bool (by cases p; rfl; exact absurd (HP.out.1 rfl).2 (by omega)), yy, rfl⟩
      · go_wp2_with (go_at_call 104; with_reducible refine Calls.mono (l2Has_ans (W := Wa) t.op false (by refine iff_tf ?_; exact hg) _) ?_; rintro e w' ⟨rfl, yy, rfl⟩)
        go_meet
        case rel => exact ⟨congrArg Value.bool (by cases p; rfl; exact absurd (HP.out.1 rfl).1 hg), yy, rfl⟩
    case rest =>
      obtain ⟨rfl, yy, rfl⟩ := hcut
      go_upto_if 19 with fail
      go_cut [7] from 20 (fun s7 wc => ∃ n', Hid (mapN f t.op t.n = some n') ∧ StA Y Wa wc B t.op n')
      case first =>
        have bRy := yy.blk bR
        have syy := yy.size
        have bely : Below Y.heap.size Y yy.w := bel.trans (yy.below.mono (by omega))
        cases p with
        | false =>
          go_wp2_with fail
          go_meet
          case rel =>
            refine ⟨t.n, ?_, yy.blk bC, bely, by omega, fun g h1 h2 => yy.below.block g (by omega)⟩
            show _ = _
            by_cases hg : HasG t.op
            · exact mapN_open (by have : ¬ 0 ≤ t.n := fun h => (by have := HP.out.2 ⟨hg, h⟩; cases this); omega)
            · exact mapN_plain hg
        | true =>
          obtain ⟨hg, hop⟩ := HP.out.1 rfl
          cases hi : imgOf f t.n with
          | none =>
            obtain ⟨rfl, rfl⟩ := mtP_none HO.out (Tm.mapT_no2 (by rw [mapN_ok hg hop]; exact hi))
            have m1 : ∀ y : Ext yy.w, y.w.cell? ⟨B, 1, none⟩ = some (.int .i64 t.n) := fun y => blk_cell (y.blk ((Ext.mk yy.w bely).blk bA)) 1
            have C3 : ∀ y : Ext yy.w, Calls Tryd.prog 105 #[.slice af f.length cf, .int .i64 t.n] y.w (Ans yy.w (.bool false)) := fun y => l3Mapped_bad (W := yy.w) (c := cf) (hfY.ext ⟨yy.w, bely⟩) (by omega) t.n hop hi y
            have HIM := Lib.hid hi
            have HG := Lib.hid hg
            clear hi hg
            obtain ⟨y0, hy0⟩ : ∃ y : Ext yy.w, y.w = yy.w := ⟨Ext.self _, rfl⟩
            rw [← hy0]
            clear hy0
            go_upto_region 3 with (go_at_call 105; with_reducible refine Calls.mono (C3 _) ?_; rintro e w' ⟨rfl, y0, rfl⟩)
            have bR2 := y0.blk bRy
            have bel2 : Below W.heap.size W y0.w := (belY.trans (bely.mono belY.size)).trans (y0.below.mono (by have := belY.size; omega))
            have n0 := blk_cell bR2 0
            have n1 := blk_cell bR2 1
            have n2 := blk_cell bR2 2
            have n3 := blk_cell bR2 3
            have p0 := blk_free bR2 0
            have p1 := blk_free bR2 1
            have p2 := blk_free bR2 2
            have p3 := blk_free bR2 3
            simp at n0 n1 n2 n3
            go_wp2
            clear n0 n1 n2 n3 p0 p1 p2 p3
            generalize hY4 : World.setCell _ _ _ = Y4
            obtain ⟨belD, hsame, hgr, r0, r1, r2, r3⟩ := ret4 (W := W) (bel2) (by omega) bR2 hY4
            refine bodyPost_ret (v := .tuple #[TV.val ⟨none, 0, none, 0⟩ zeroT, .bool false]) (by simp [TV.val, Tm.op, Tm.n, Tm.ty, Tm.kids, results, Tryd.results75, go_sem, r0, r1, r2, r3]) rfl ?_
            exact ⟨_, _, ⟨Y4, belD⟩, rfl, rfl, zero_own _, fun q hq => hq.elim⟩
          | some u =>
            have HMN0 : Hid (mapN f t.op t.n = some u) := by show _ = _; rw [mapN_ok hg hop]; exact hi
            obtain ⟨h1, -, -⟩ := imgOf_some hi
            have hflt : t.n.toNat < f.length := (List.getElem?_eq_some_iff.1 h1).1
            obtain ⟨k0, hk0⟩ : ∃ k0 : Nat, t.n = (k0 : Int) := ⟨t.n.toNat, by omega⟩
            have hk1 : t.n.toNat = k0 := by omega
            rw [hk1] at h1 hflt
            clear hk1
            obtain ⟨bf, of, rfl, hcf⟩ := hfY.at hflt
            have hcell := hcf k0 u h1
            clear hcf h1
            have hflt' : (k0 : Int) < (f.length : Int) := by omega
            have hk00 : (0 : Int) ≤ k0 := by omega
            have HK0 := Lib.hid hk0
            have HIM := Lib.hid hi
            have HG := Lib.hid hg
            clear hk0 hi hg
            have m1 : ∀ y : Ext yy.w, y.w.cell? ⟨B, 1, none⟩ = some (.int .i64 k0) := fun y => by rw [← HK0.out]; exact blk_cell (y.blk ((Ext.mk yy.w bely).blk bA)) 1
            have mf : ∀ y : Ext yy.w, y.w.cell? ⟨bf, of + k0, none⟩ = some (.int .i64 u) := fun y => y.cell ((Ext.mk yy.w bely).cell hcell)
            have C3 : ∀ y : Ext yy.w, Calls Tryd.prog 105 #[.slice (some ⟨bf, of, none⟩) f.length cf, .int .i64 k0] y.w (Ans yy.w (.bool true)) := fun y => l3Mapped_ok (W := yy.w) (c := cf) (hfY.ext ⟨yy.w, bely⟩) (by omega) k0 u hk00 (by rw [← HK0.out]; exact HIM.out) y
            have bCy := yy.blk bC
            have mc1 : ∀ y : Ext yy.w, y.w.cell? ⟨B + 1, 1, none⟩ = some (.int .i64 t.n) := fun y => blk_cell (y.blk bCy) 1
            have mc2 : ∀ y : Ext yy.w, y.w.frozen? ⟨B + 1, 1, none⟩ = false := fun y => blk_free (y.blk bCy) 1
            clear hcell
            obtain ⟨y0, hy0⟩ : ∃ y : Ext yy.w, y.w = yy.w := ⟨Ext.self _, rfl⟩
            rw [← hy0]
            clear hy0
            go_wp2_with (go_at_call 105; with_reducible refine Calls.mono (C3 _) ?_; rintro e w' ⟨rfl, y0, rfl⟩)
            go_meet
            case rel =>
              clear m1 mf mc1 mc2 C3
              generalize hWl : World.setCell _ _ _ = wa
              have bCa := set_blk (y0.blk bCy) 1 _ hWl
              simp at bCa
              have hsl := set_size hWl
              have sy0 := y0.size
              have bel0 : Below Y.heap.size Y y0.w := bely.trans (y0.below.mono (by omega))
              exact ⟨u, HMN0.out, bCa, by subst hWl; exact bel0.setCell (show Y.heap.size ≤ B + 1 by omega) _, by omega, fun g h1 h2 => (set_other hWl h2).trans ((y0.below.block g (by omega)).trans (yy.below.block g (by omega)))⟩
      case rest =>
        obtain ⟨n', HMN, bCa, bela, swa, LOWA⟩ := hcut
        obtain ⟨wa, hwa⟩ : ∃ wa : World, wa = wc := ⟨_, rfl⟩
        rw [← hwa] at bCa bela swa LOWA ⊢
        clear hwa
        have m0 : wa.cell? ⟨B, 0, none⟩ = some (.int .i64 t.op) := blk_cell ((Ext.mk wa bela).blk bA) 0
        go_upto_if 34 with (go_at_call 106; with_reducible refine Calls.mono (l2Typed_ans (W := wa) t.op q HQ.out (Ext.self wa)) ?_; rintro e w' ⟨rfl, zz, rfl⟩)
        clear m0
        have belz : Below Y.heap.size Y zz.w := bela.trans (zz.below.mono bela.size)
        have bCz := zz.blk bCa
        have szz := zz.size
        go_cut [7] from 35 (fun s7 wc => ∃ (xs : List Int) (a' : Option Addr) (c' : Nat), xs.length ≤ 40 ∧ Hid (mapL f t.ty = some xs) ∧ StB Y Wa wc B t.op n' xs a' c')
        case first =>
          cases q with
          | false =>
            have ht : ¬ TypedO t.op := fun h => (by have := HQ.out.2 h; cases this)
            have hty0 : t.ty = [] := by have := OK.out.node.tok; unfold TyOk at this; rw [if_neg ht] at this; exact this
            have HTY := Lib.hid hty0
            clear hty0
            go_wp2_with fail
            go_meet
            case rel => exact ⟨[], none, 0, by simp, (show _ = _ by rw [HTY.out]; rfl), bCz, belz, by omega, fun g h1 h2 => (zz.below.block g (by omega)).trans (LOWA.out g h1 h2), World.ownsRow_nil _ _ _ _⟩
          | true =>
            have ht : TypedO t.op := HQ.out.1 rfl
            obtain ⟨o', ho'⟩ := mapTyV_ex f t.ty
            have HO' := Lib.hid ho'
            clear ho'
            have hwty : WT t.ty := by have := OK.out.node.tok; unfold TyOk at this; rw [if_pos ht] at this; exact this.1
            have HWTY := Lib.hid hwty
            clear hwty
            have m2 : zz.w.cell? ⟨B, 2, none⟩ = some (.slice ra t.ty.length rc) := blk_cell ((Ext.mk zz.w belz).blk bA) 2
            go_wp2_with fail
            have MT := specMapType_ans (W := zz.w) (cf := cf) (cl := rc) (hfY.ext ⟨zz.w, belz⟩) hfl (A.row.ext ⟨zz.w, belz⟩) (by omega) o' HO'.out (Ext.self zz.w)
            refine Calls.mono MT ?_
            rintro e w' ⟨v, y, rfl, rfl, own1⟩
            clear MT m2
            obtain ⟨a', c', rfl, -, pl1⟩ := owned_row own1
            have bCy := y.blk bCz
            have k2 := blk_cell bCy 2
            have k3 := blk_free bCy 2
            simp at k2
            have szy := y.size
            have LOWY : Hid (∀ g, g < B + 1 + 1 + 1 → g ≠ B + 1 → y.w.heap[g]? = Wa.heap[g]?) := fun g h1 h2 => (y.below.block g (by omega)).trans ((zz.below.block g (by omega)).trans (LOWA.out g h1 h2))
            have bely : Below Y.heap.size Y y.w := belz.trans (y.below.mono belz.size)
            go_upto_region 7 with fail
            clear k2 k3
            generalize hWl : World.setCell _ _ _ = wl
            have bCl := set_blk bCy 2 _ hWl
            simp at bCl
            have hsl := set_size hWl
            have hwl : B + 1 + 1 + 1 ≤ wl.heap.size := by omega
            have bell : Below Y.heap.size Y wl := by subst hWl; exact bely.setCell (show Y.heap.size ≤ B + 1 by omega) _
            have LOW : Hid (∀ g, g < B + 1 + 1 + 1 → g ≠ B + 1 → wl.heap[g]? = Wa.heap[g]?) := fun g h1 h2 => (set_other hWl h2).trans (LOWY.out g h1 h2)
            have ownl : wl.ownsRow (B + 1 + 1 + 1) 3 1 (.slice a' o'.length c') o'.length (o'.map (Value.int .i64)) := owns_lower (owns_of_block own1 (fun g hg => set_other hWl (by rw [ob_eq] at hg; cases a' with | none => cases hg | some p => cases hg; have := (pl1 p rfl).1; omega))) (by omega)
            have HOW := Lib.hid ownl
            clear hWl hsl bCy own1 pl1 LOWY bely szy y ownl
            have k2 : wl.cell? ⟨B + 1, 2, none⟩ = some (.slice a' o'.length c') := blk_cell bCl 2
            cases hm : mapL f t.ty with
            | none =>
              have e0 : o' = [] := by rcases HO'.out with ⟨_, e⟩ | ⟨_, e⟩; rw [hm] at e; cases e; exact e
              obtain ⟨rfl, rfl⟩ := mtP_none HO.out (Tm.mapT_no1 hm)
              clear hm
              subst e0
              have bRl : wl.heap[B + 1 + 1]? = _ := (LOW.out (B + 1 + 1) (by omega) (by omega)).trans bR
              have n0 := blk_cell bRl 0
              have n1 := blk_cell bRl 1
              have n2 := blk_cell bRl 2
              have n3 := blk_cell bRl 3
              have p0 := blk_free bRl 0
              have p1 := blk_free bRl 1
              have p2 := blk_free bRl 2
              have p3 := blk_free bRl 3
              simp at n0 n1 n2 n3
              go_wp2
              clear n0 n1 n2 n3 p0 p1 p2 p3
              generalize hY4 : World.setCell _ _ _ = Y4
              obtain ⟨belD, hsame, hgr, r0, r1, r2, r3⟩ := ret4 (W := W) (belY.trans (bell.mono belY.size)) (by omega) bRl hY4
              refine bodyPost_ret (v := .tuple #[TV.val ⟨none, 0, none, 0⟩ zeroT, .bool false]) (by simp [TV.val, Tm.op, Tm.n, Tm.ty, Tm.kids, results, Tryd.results75, go_sem, r0, r1, r2, r3]) rfl ?_
              exact ⟨_, _, ⟨Y4, belD⟩, rfl, rfl, zero_own _, fun q hq => hq.elim⟩
            | some xs =>
              have e0 : o' = xs := by rcases HO'.out with ⟨_, e⟩ | ⟨h, _⟩; rw [hm] at e; cases e; rfl; exact absurd ⟨HWTY.out, xs, hm⟩ h
              have HXS := Lib.hid hm
              subst e0
              have hx0 : 0 < o'.length := by rw [mapL_len hm]; have := HWTY.out; cases hl : t.ty with | nil => rw [hl] at this; have h2 := this.2; simp [endOf, endL] at h2 | cons a l => simp
              have hx1 : ((o'.length : Int) == 0) = false := by rw [beq_eq_false_iff_ne]; omega
              have hx2 : o'.length ≤ 40 := by rw [mapL_len hm]; exact HWTY.out.1
              clear hm
              go_wp2_with fail
              go_meet
              case rel => exact ⟨o', a', c', hx2, HXS.out, bCl, bell, hwl, LOW.out, HOW.out⟩
        case rest =>
          obtain ⟨xs, a', c', hx2, HXS, bCl, bell, hwl, LOW, ownl⟩ := hcut
          obtain ⟨wl, hwl0⟩ : ∃ wl : World, wl = wc := ⟨_, rfl⟩
          rw [← hwl0] at bCl bell hwl LOW ownl ⊢
          clear hwl0 belz bCz szz zz bela bCa LOWA swa
          have T0 : TC Y Wa wl (B + 1 + 1 + 1) (B + 1) t.op n' xs a' c' [] none 0 (fun _ => ⟨none, 0, none, 0⟩) [] (fun _ _ => False) := TC.start (by omega) hwl LOW.out bCl ownl (by omega) bell
          have KS : ∀ wq, Below Y.heap.size Y wq → wq.cell? ⟨B, 3, none⟩ = some (.slice rb t.kids.length rd) := fun wq b => blk_cell ((Ext.mk wq b).blk bA) 3
          have HKS2 := Lib.hid KS
          clear KS hwl LOW bCl ownl bell
          go_wp2_with fail
          go_loopw [8] (fun i wr => ∃ (k : Nat) (ks : List Tm) (b' : Option Addr) (d' : Nat) (kq : Nat → TV) (xq : List Value) (KB : Nat → Nat → Prop), i = .int .i64 k ∧ k ≤ t.kids.length ∧ Hid (Tm.mapTL f (t.kids.take k) = some ks) ∧ TC Y Wa wr (B + 1 + 1 + 1) (B + 1) t.op n' xs a' c' ks b' d' kq xq KB) (fun i _ => t.kids.length - (intOf i).toNat)
          case atStart => exact ⟨0, [], _, _, _, _, _, rfl, by omega, by show _ = _; simp [Tm.mapTL], T0⟩
          case round =>
            obtain ⟨k, ks, b', d', kq, xq, KB, rfl, hk, HKS, T⟩ := hrel
            have hkl : ks.length = k := by have := Tm.mapTL_len HKS.out; rw [List.length_take] at this; omega
            have hkl3 : ks.length ≤ 3 := by omega
            clear hkl
            have hwr := T.bel.size
            have m3 := HKS2.out wr T.bel
            by_cases hlt : k < t.kids.length
            · have hlt' : (k : Int) < (t.kids.length : Int) := by omega
              obtain ⟨kid, hkid⟩ : ∃ kid, t.kids[k]? = some kid := ⟨_, List.getElem?_eq_getElem hlt⟩
              have hmem : kid ∈ t.kids := List.mem_of_getElem? hkid
              have HKID := Lib.hid hkid
              obtain ⟨b0, o0, hrb, K⟩ := A.kid k kid hkid
              have hsub := A.sub k kid hkid
              dsimp only at hrb
              have d0 : wr.cell? ⟨b0, o0 + k * 4, none⟩ = some (.int .i64 kid.op) := (Ext.mk wr T.bel).cell K.c0
              have d1 : wr.cell? ⟨b0, o0 + k * 4 + 1, none⟩ = some (.int .i64 kid.n) := (Ext.mk wr T.bel).cell K.c1
              have d2 : wr.cell? ⟨b0, o0 + k * 4 + 2, none⟩ = some (.slice (kr0 k).a kid.ty.length (kr0 k).c) := (Ext.mk wr T.bel).cell K.c2
              have d3 : wr.cell? ⟨b0, o0 + k * 4 + 3, none⟩ = some (.slice (kr0 k).b kid.kids.length (kr0 k).d) := (Ext.mk wr T.bel).cell K.c3
              clear K hkid
              subst hrb
              go_wp2_with fail
              generalize hW1 : wr.alloc _ = W1
              obtain ⟨z1, hz1⟩ : ∃ z : Ext wr, z.w = W1 := ⟨(Ext.self wr).alloc _, hW1⟩
              have T1 : TC Y Wa W1 (B + 1 + 1 + 1) (B + 1) t.op n' xs a' c' ks b' d' kq xq KB := by rw [← hz1]; exact T.ext z1
              have bel1 := T1.bel
              clear hW1 z1 hz1 d0 d1 d2 d3 m3
              obtain ⟨u, bb, hub⟩ := mtP_ex f kid
              have HUB := Lib.hid hub
              have hok : OkT 16 false (vars + addsO t.op k) kid := OK.out.kid HKID.out
              have CC := HI.out kid hmem (W := W1) (cf := cf) (hfY.ext ⟨W1, bel1⟩) hfl (hsub.ext ⟨W1, bel1⟩) hok u bb hub (Ext.self W1)
              clear hub hok hmem hsub T
              refine Calls.mono CC ?_
              rintro e w' ⟨r', NB, y, rfl, rfl, hnew, hlo⟩
              clear CC
              have T1y := T1.ext y
              have HNEW := Lib.hid hnew
              have HLO := Lib.hid hlo
              clear hnew hlo
              cases bb with
              | false =>
                have hno : kid.mapT f = none := by rcases HUB.out with ⟨_, e⟩ | ⟨e, _⟩; cases e; exact e
                obtain ⟨rfl, rfl⟩ := mtP_none HO.out (Tm.mapT_no3 (Tm.mapTL_none HKID.out hno))
                clear hno
                go_upto_region 14 with fail
                generalize hW2 : World.alloc _ _ = W2
                obtain ⟨z2, hz2⟩ : ∃ z : Ext y.w, z.w = W2 := ⟨(Ext.self y.w).alloc _, hW2⟩
                have T2 := T1y.ext z2
                rw [hz2] at T2
                have bR2 : W2.heap[B + 1 + 1]? = _ := (T2.low (B + 1 + 1) (by omega) (by omega)).trans bR
                have bel3 : Below W.heap.size W W2 := belY.trans (T2.bel.mono belY.size)
                clear hW2 hz2 z2 T2 T1y
                have n0 := blk_cell bR2 0
                have n1 := blk_cell bR2 1
                have n2 := blk_cell bR2 2
                have n3 := blk_cell bR2 3
                have p0 := blk_free bR2 0
                have p1 := blk_free bR2 1
                have p2 := blk_free bR2 2
                have p3 := blk_free bR2 3
                simp at n0 n1 n2 n3
                go_wp2
                clear n0 n1 n2 n3 p0 p1 p2 p3
                generalize hY4 : World.setCell _ _ _ = Y4
                obtain ⟨belD, hsame, hgr, r0, r1, r2, r3⟩ := ret4 (W := W) (bel3) (by omega) bR2 hY4
                refine bodyPost_ret (v := .tuple #[TV.val ⟨none, 0, none, 0⟩ zeroT, .bool false]) (by simp [TV.val, Tm.op, Tm.n, Tm.ty, Tm.kids, results, Tryd.results75, go_sem, r0, r1, r2, r3]) rfl ?_
                exact ⟨_, _, ⟨Y4, belD⟩, rfl, rfl, zero_own _, fun q hq => hq.elim⟩
              | true =>
                have hyes : kid.mapT f = some u := by rcases HUB.out with ⟨e, _⟩ | ⟨_, _, e⟩; exact e; cases e
                have HYES := Lib.hid hyes
                clear hyes
                go_upto_region 16 with fail
                generalize hW2 : World.alloc _ _ = W2
                obtain ⟨z2, hz2⟩ : ∃ z : Ext y.w, z.w = W2 := ⟨(Ext.self y.w).alloc _, hW2⟩
                have hn2 := new_blk hW2
                have szy := y.size
                have szz : y.w.heap.size < W2.heap.size := by rw [← hW2]; simp
                generalize hD : y.w.heap.size = D at *
                have e0 : W2.cell? ⟨D, 0, none⟩ = some (.int .i64 u.op) := blk_cell hn2 0
                have e1 : W2.cell? ⟨D, 1, none⟩ = some (.int .i64 u.n) := blk_cell hn2 1
                have e2 : W2.cell? ⟨D, 2, none⟩ = some (.slice r'.a u.ty.length r'.c) := blk_cell hn2 2
                have e3 : W2.cell? ⟨D, 3, none⟩ = some (.slice r'.b u.kids.length r'.d) := blk_cell hn2 3
                have T2 : TC Y Wa W2 (B + 1 + 1 + 1) (B + 1) t.op n' xs a' c' ks b' d' kq xq KB := by rw [← hz2]; exact T1y.ext z2
                have f3 : W2.cell? ⟨B + 1, 3, none⟩ = some (.slice b' ks.length d') := T2.cells.2.2.2 (Ext.self W2)
                have f4 : W2.frozen? ⟨B + 1, 3, none⟩ = false := blk_free T2.box 3
                have hC2 := T2.cLt
                have hrow2 := T2.kids.row
                have HZ2 := Lib.hid (⟨T1, hz2⟩ : _ ∧ _)
                have KC : ∀ (ob' : Obj) (w1 : World), (W2.alloc ob').grownBy w1 (Value.slice b' ks.length d').ownBlock → w1.cell? ⟨B + 1, 3, none⟩ = some (.slice b' ks.length d') ∧ w1.frozen? ⟨B + 1, 3, none⟩ = false := fun ob' w1 gr => by
                  have hb : some (B + 1) ≠ (Value.slice b' ks.length d').ownBlock := by rw [ob_eq]; exact fun e => (T2.lk (B + 1) (.inl e.symm)).2 rfl
                  have mC : w1.heap[B + 1]? = some (boxT t.op n' a' xs.length c' b' ks.length d') := (gr.block (B + 1) (by simp; omega) hb).trans (((Ext.self W2).alloc ob').blk T2.box)
                  exact ⟨blk_cell mC 3, blk_free mC 3⟩
                have HKC := Lib.hid KC
                clear KC
                clear hW2 T1 T1y hz2 hn2 T2
                go_wp2_with (at_builtin; refine wpList_append_own_at _ rfl (.tmp 72) (.tmp 74) 35 rfl 0 37 iT (.agg #[.int .i64 0, .int .i64 0, .slice none 0 0, .slice none 0 0]) 4 64 Tryd.underlying35 hiT hzT0 hzT1 hzT2 rfl (by decide) (.slice b' ks.length d') ks.length xq rfl (hrow2.alloc _) ⟨W2.heap.size, 0, none⟩ 1 1 [.int .i64 u.op, .int .i64 u.n, .slice r'.a u.ty.length r'.c, .slice r'.b u.kids.length r'.d] rfl rfl (cell_four_at _ _ _ _ _ _ _ rfl) (four_one _ _ _ _ rfl rfl rfl rfl) (by unfold maxLen; omega) (by omega) (Nat.zero_le _) ?_; intro v' w1 own1 gr1 _ hat1; obtain ⟨A2, c2, hv2⟩ := owns_slice own1; subst hv2; obtain ⟨kc3, kf3⟩ := HKC.out _ _ gr1; have HO1 := Lib.hid (⟨own1, gr1, hat1⟩ : _ ∧ _ ∧ _); clear own1 gr1 hat1)
                clear kc3 kf3 e0 e1 e2 e3 f3 f4 hrow2
                go_roundw
                case rel =>
                  obtain ⟨own1, gr1, hat1⟩ := HO1.out
                  obtain ⟨T1, hz2⟩ := HZ2.out
                  have nu := HNEW.out
                  have nlo := HLO.out
                  subst hz2
                  rw [ob_eq] at gr1
                  rw [ob_eq b'] at hat1
                  obtain ⟨b2, d2, kr2, xs2, KB2, hv, TT⟩ := T1.snoc (y.trans (z2.alloc _)) ((nu.ext z2).ext ((Ext.self _).alloc _)) nlo own1 gr1 hat1 rfl
                  exact ⟨k + 1, ks ++ [u], b2, d2, kr2, xs2, KB2, by go_num, by omega, Tm.mapTL_step HKID.out HKS.out HYES.out, TT⟩
                case measure => simp [intOf]; omega
            · have hke : k = t.kids.length := by omega
              have hlt' : ¬ (k : Int) < (t.kids.length : Int) := by omega
              have HKE := Lib.hid hke
              clear hke
              have bRr : wr.heap[B + 1 + 1]? = _ := (T.low (B + 1 + 1) (by omega) (by omega)).trans bR
              have c0 := blk_cell T.box 0
              have c1 := blk_cell T.box 1
              have c2 := blk_cell T.box 2
              have c3 := blk_cell T.box 3
              simp at c0 c1 c2 c3
              have n0 := blk_cell bRr 0
              have n1 := blk_cell bRr 1
              have n2 := blk_cell bRr 2
              have n3 := blk_cell bRr 3
              have p0 := blk_free bRr 0
              have p1 := blk_free bRr 1
              have p2 := blk_free bRr 2
              have p3 := blk_free bRr 3
              simp at n0 n1 n2 n3
              have HT := Lib.hid T
              have belr := belY.trans (T.bel.mono belY.size)
              clear T
              go_wp2
              clear n0 n1 n2 n3 p0 p1 p2 p3 c0 c1 c2 c3
              generalize hY4 : World.setCell _ _ _ = Y4
              obtain ⟨belD, hsame, hgr, r0, r1, r2, r3⟩ := ret4 (W := W) belr (by omega) bRr hY4
              refine bodyPost_ret (v := .tuple #[TV.val ⟨a', c', b', d'⟩ (.mk t.op n' xs ks), .bool true]) (by simp [TV.val, Tm.op, Tm.n, Tm.ty, Tm.kids, results, Tryd.results75, go_sem, r0, r1, r2, r3]) rfl ?_
              obtain ⟨rfl, rfl⟩ := mtP_some HO.out (Tm.mapT_mk HXS.out HMN.out (by have := HKS.out; rw [HKE.out, List.take_length] at this; exact this))
              obtain ⟨own, olo⟩ := HT.out.done hsame (.inl (by omega))
              exact ⟨_, _, ⟨Y4, belD⟩, rfl, rfl, own, fun g hg => by have := olo g hg; omega⟩

end Go.Proofs.YtcjmkimegmpnbaaDoor

/- The model's MapTerm. -/
namespace Go.Proofs.YtcjmkimegmpnbaaDoor
open Go.RowKit

set_option maxRecDepth 100000 in
set_option maxHeartbeats 4000000 in
theorem specMapTerm_ans {W : World} {af : Option Addr} {cf : Nat} {f : List Int} (hf : Row W (Value.int .i64) af f) (hfl : f.length ≤ 1099511627776) {lo : Nat} {t : Tm} {r : TV} (h : TmIn W lo t r) (hwt : t.wt ≤ 1099511627776) (o : Tm) (b : Bool) (ho : MapTmV f t o b) (x : Ext W) :
    Calls Tryd.prog 32 #[.slice af f.length cf, r.val t] x.w (NewTmB W o b) := by
  obtain ⟨ra, rc, rb, rd⟩ := r
  unfold TV.val
  have HO := Lib.hid ho
  clear ho
  by_cases hw : Written t
  · have HW := Lib.hid hw
    clear hw
    have ho2 : MtP f t o b := by
      rcases HO.out with ⟨_, h, e⟩ | ⟨h, e1, e2⟩
      · exact .inl ⟨h, e⟩
      · refine .inr ⟨?_, e1, e2⟩
        cases hm : t.mapT f with
        | none => rfl
        | some u => exact absurd ⟨HW.out, u, hm⟩ h
    have HO2 := Lib.hid ho2
    clear ho2
    go_enter Tryd.func32, Tryd.ntmps32
    go_wp2_with fail
    have hxW := x.size
    generalize hWa : (x.w.alloc _).alloc _ = Wa
    generalize hB : x.w.heap.size = B at *
    obtain ⟨bA, bR, sA, bel⟩ := blocks2 hB hWa
    have belA : Below W.heap.size W Wa := x.below.trans (bel.mono (by omega))
    clear hWa bel
    have hfA : Row Wa (Value.int .i64) af f := hf.ext ⟨Wa, belA⟩
    have hA := h.ext ⟨Wa, belA⟩
    have ISW := specIsWritten_ans (W := Wa) hA hwt true (by refine iff_tf ?_; exact HW.out) (Ext.self Wa)
    refine Calls.mono ISW ?_
    rintro e w' ⟨rfl, y, rfl⟩
    have bAy := y.blk bA
    have m0 := blk_cell bAy 0
    have m1 := blk_cell bAy 1
    have m2 := blk_cell bAy 2
    have m3 := blk_cell bAy 3
    simp at m0 m1 m2 m3
    clear ISW
    go_upto_region 4 with fail
    clear m0 m1 m2 m3
    generalize hW2 : World.alloc _ _ = W2
    obtain ⟨z2, hz2⟩ : ∃ z : Ext y.w, z.w = W2 := ⟨(Ext.self y.w).alloc _, hW2⟩
    have bR2 := z2.blk (y.blk bR)
    have hf2 := (hfA.ext y).ext z2
    have h2 := (hA.ext y).ext z2
    have bel2 : Below W.heap.size W z2.w := (belA.trans (y.below.mono belA.size)).trans (z2.below.mono (by have := belA.size; have := y.size; omega))
    have szz := z2.size
    have bA2 := z2.blk bAy
    have hn2 := new_blk hW2
    rw [hz2] at bR2 hf2 h2 bel2 szz bA2
    clear hW2 hz2 z2
    generalize hD : y.w.heap.size = D at *
    have m0 := blk_cell bA2 0
    have m1 := blk_cell bA2 1
    have m2 := blk_cell bA2 2
    have m3 := blk_cell bA2 3
    have q0 := blk_cell hn2 0
    have q1 := blk_cell hn2 1
    have q2 := blk_cell hn2 2
    have q3 := blk_cell hn2 3
    simp at m0 m1 m2 m3 q0 q1 q2 q3
    go_wp2_with fail
    clear m0 m1 m2 m3 q0 q1 q2 q3
    have CC := l3Map_ans t (W := W2) (cf := cf) hf2 hfl h2 HW.out.2 o b HO2.out (Ext.self W2)
    refine Calls.mono CC ?_
    clear CC
    rintro e w' ⟨r', NB, z, rfl, rfl, hnew, hlo⟩
    have szy := y.size
    have bRz := z.blk bR2
    have n0 := blk_cell bRz 0
    have n1 := blk_cell bRz 1
    have n2 := blk_cell bRz 2
    have n3 := blk_cell bRz 3
    have p0 := blk_free bRz 0
    have p1 := blk_free bRz 1
    have p2 := blk_free bRz 2
    have p3 := blk_free bRz 3
    simp at n0 n1 n2 n3
    go_wp2
    clear n0 n1 n2 n3 p0 p1 p2 p3
    generalize hY4 : World.setCell _ _ _ = Y4
    obtain ⟨belD, hsame, hgr, r0, r1, r2, r3⟩ := ret4 (W := W) (bel2.trans (z.below.mono bel2.size)) (by omega) bRz hY4
    refine bodyPost_ret (v := .tuple #[r'.val o, .bool b]) (by simp [TV.val, results, Tryd.results32, go_sem, r0, r1, r2, r3]) rfl ?_
    exact ⟨r', NB, ⟨Y4, belD⟩, rfl, rfl, hnew.keep (fun g hg => hsame g (by have := hlo g hg; omega)), fun g hg => by have := hlo g hg; omega⟩
  · have HW := Lib.hid hw
    clear hw
    obtain ⟨rfl, rfl⟩ : o = zeroT ∧ b = false := by
      rcases HO.out with ⟨h, _⟩ | ⟨_, e1, e2⟩
      · exact absurd h HW.out
      · exact ⟨e1, e2⟩
    go_enter Tryd.func32, Tryd.ntmps32
    go_wp2_with fail
    have hxW := x.size
    generalize hWa : (x.w.alloc _).alloc _ = Wa
    generalize hB : x.w.heap.size = B at *
    obtain ⟨bA, bR, sA, bel⟩ := blocks2 hB hWa
    have belA : Below W.heap.size W Wa := x.below.trans (bel.mono (by omega))
    clear hWa bel
    have hfA : Row Wa (Value.int .i64) af f := hf.ext ⟨Wa, belA⟩
    have hA := h.ext ⟨Wa, belA⟩
    have ISW := specIsWritten_ans (W := Wa) hA hwt false (by refine iff_tf ?_; exact HW.out) (Ext.self Wa)
    refine Calls.mono ISW ?_
    rintro e w' ⟨rfl, y, rfl⟩
    clear ISW
    have bRy := y.blk bR
    have n0 := blk_cell bRy 0
    have n1 := blk_cell bRy 1
    have n2 := blk_cell bRy 2
    have n3 := blk_cell bRy 3
    have p0 := blk_free bRy 0
    have p1 := blk_free bRy 1
    have p2 := blk_free bRy 2
    have p3 := blk_free bRy 3
    simp at n0 n1 n2 n3
    go_wp2
    clear n0 n1 n2 n3 p0 p1 p2 p3
    generalize hY4 : World.setCell _ _ _ = Y4
    obtain ⟨belD, hsame, hgr, r0, r1, r2, r3⟩ := ret4 (W := W) (belA.trans (y.below.mono belA.size)) (by omega) bRy hY4
    refine bodyPost_ret (v := .tuple #[TV.val ⟨none, 0, none, 0⟩ zeroT, .bool false]) (by simp [TV.val, Tm.op, Tm.n, Tm.ty, Tm.kids, results, Tryd.results32, go_sem, r0, r1, r2, r3]) rfl ?_
    exact ⟨_, _, ⟨Y4, belD⟩, rfl, rfl, zero_own _, fun q hq => hq.elim⟩

end Go.Proofs.YtcjmkimegmpnbaaDoor
