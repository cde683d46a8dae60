/- Texts of one claim, laid together: ReplM, ConAtM. -/
import Derived.Test.YtncfbljablbglaaDoorZ3KSetM
import Derived.Test.YtncfbljablbglaaDoorZ3GXA
import Derived.Test.YtncfbljablbglaaDoorZ3GG
import Derived.Test.YtncfbljablbglaaDoorZ3GX2
import Derived.Test.YtncfbljablbglaaDoorZ3KDefM
import Derived.Test.YtncfbljablbglaaDoorZ3GX6
set_option linter.unusedVariables false
set_option linter.unusedSimpArgs false
/- ReplaceAt, by the model. -/
namespace Go.Proofs.YtncfbljablbglaaDoor
open Go.RowKit

theorem Tm.wtL_set {z : Tm} : ∀ {l : List Tm} {j : Nat}, wtL (l.set j z) ≤ wtL l + z.wt
  | [], _ => by simp [wtL]
  | a :: l, 0 => by simp only [List.set_cons_zero, wtL]; omega
  | a :: l, j + 1 => by
    simp only [List.set_cons_succ, wtL]
    have := wtL_set (z := z) (l := l) (j := j)
    omega
theorem Tm.putP_wt {p : List Int} : ∀ {t u z : Tm}, putP p t u = some z → z.wt ≤ p.length * t.wt + t.wt + u.wt := by
  induction p with
  | nil => intro t u z h; cases h; simp
  | cons k p ih =>
    intro t u z h
    simp only [putP] at h
    cases hk : t.kidI k with
    | none => rw [hk] at h; cases h
    | some c =>
      rw [hk] at h
      have h1 : (putP p c u).map (fun c' => (Tm.mk t.op t.n t.ty (t.kids.set k.toNat c'))) = some z := h
      cases hz : putP p c u with
      | none => rw [hz] at h1; cases h1
      | some d =>
        rw [hz] at h1
        cases h1
        obtain ⟨j, rfl, hj⟩ := kidI_some hk
        have h2 := ih hz
        have h3 := wtL_set (z := d) (l := t.kids) (j := j)
        have h4 := wt_kid (List.mem_of_getElem? hj)
        have h5 : p.length * c.wt ≤ p.length * t.wt := Nat.mul_le_mul_left _ h4
        rw [wt_eq (Tm.mk t.op t.n t.ty _)]
        show t.ty.length + ((t.kids.set (j : Int).toNat d).length + wtL (t.kids.set (j : Int).toNat d)) ≤ _
        rw [Int.toNat_natCast, List.length_set, List.length_cons, Nat.succ_mul]
        have h6 := wt_eq t
        omega
theorem Tm.atP_len {p : List Int} : ∀ {t c : Tm}, atP p t = some c → p.length < t.sz := by
  induction p with
  | nil => intro t c _; exact t.sz_pos
  | cons k p ih =>
    intro t c h
    simp only [atP] at h
    cases hk : t.kidI k with
    | none => rw [hk] at h; cases h
    | some d =>
      rw [hk] at h
      obtain ⟨j, rfl, hj⟩ := kidI_some hk
      have h1 := ih (show atP p d = some c from h)
      have h2 := sz_kid (List.mem_of_getElem? hj)
      simp only [List.length_cons]
      omega

set_option maxRecDepth 100000 in
set_option maxHeartbeats 16000000 in
theorem specReplaceAt_ans {W : World} {lo : Nat} {t : Tm} {r : TV} (h : TmIn W lo t r) (hwt : t.wt ≤ 1099511627776) {lo2 : Nat} {u : Tm} {q : TV} (hu : TmIn W lo2 u q) (hwu : u.wt ≤ 1048576)
    (HS : u.sz ≤ 400 → Hid (∀ w', Below W.heap.size W w' → Calls Tryd.prog 31 #[q.val u, .int .i64 0, .int .i64 0] w' (NewTmO w' u)))
    {pa : Option Addr} {pc : Nat} {p : List Int} (hp : Row W (Value.int .i64) pa p) (hpl : p.length ≤ 1099511627776) (hcap : p.length ≤ pc) (o : Tm) (b : Bool) (ho : ReplV t p u o b) (x : Ext W) :
    Calls Tryd.prog 90 #[r.val t, .slice pa p.length pc, q.val u] x.w (NewTmB W o b) := by
  obtain ⟨ra, rc, rb, rd⟩ := r
  obtain ⟨ua, uc, ub, ud⟩ := q
  unfold TV.val at HS ⊢
  obtain ⟨xx, hxx⟩ : ∃ y : Ext W, x = y := ⟨x, rfl⟩
  rw [hxx]
  clear hxx x
  have HO := Lib.hid ho
  have HSS := Lib.hid HS
  clear ho HS
  by_cases hx : Written t ∧ ∃ x, t.atP p = some x
  · obtain ⟨hw, X, hX0⟩ := hx
    have HW := Lib.hid hw
    have HX := Lib.hid hX0
    have ATV : Hid (AtV t p X true) := .inl ⟨hw, hX0, rfl⟩
    obtain ⟨z, hz⟩ := Tm.putP_some (u := u) hX0
    have HZ := Lib.hid hz
    have hpl2 := Tm.atP_len hX0
    have hzw : z.wt ≤ 1099511627776 := by
      have h1 := Tm.putP_wt hz
      have h2 := hw.wt
      have h3 := hw.1
      have h4 : p.length * t.wt ≤ 400 * 16400 := Nat.mul_le_mul (by omega) h2
      omega
    clear hw hX0 hz
    by_cases hs : u.sz ≤ 400
    · have HSU := HSS.out hs
      clear HSS
      go_enter Tryd.func90, Tryd.ntmps90
      go_upto_region 1 with fail
      have hxW := xx.size
      generalize hWa : ((xx.w.alloc _).alloc _).alloc _ = Wa
      generalize hB : xx.w.heap.size = B at *
      obtain ⟨bT, bU, bR, sA, bel⟩ := blocks3 hB hWa
      have belA : Below W.heap.size W Wa := xx.below.trans (bel.mono (by omega))
      clear hWa bel
      have t0 := blk_cell bT 0
      have t1 := blk_cell bT 1
      have t2 := blk_cell bT 2
      have t3 := blk_cell bT 3
      simp at t0 t1 t2 t3
      have TAC := specTermAt_ans (h.ext ⟨Wa, belA⟩) (hp.ext ⟨Wa, belA⟩) (pc := pc) hpl hwt (X) true ATV.out (Ext.self Wa)
      unfold TV.val at TAC
      go_wp2_with fail
      refine Calls.mono TAC ?_
      clear TAC t0 t1 t2 t3
      rintro e w' ⟨r1, NB1, y1, rfl, rfl, own1, -⟩
      unfold TV.val
      go_upto_region 2 with fail
      generalize hU : y1.w.alloc _ = U
      have bX := new_blk hU
      obtain ⟨yU, hyU⟩ : ∃ y : Ext Wa, y.w = U := ⟨y1.alloc _, hU⟩
      have hX : TmIn U 0 (X) r1 := by rw [← hU]; exact (own1.tm (fun _ _ => Nat.zero_le _)).ext ((Ext.self y1.w).alloc _)
      have belU : Below W.heap.size W U := by rw [← hyU]; exact below_ext belA yU
      have bT1 : U.heap[B]? = some (boxT t.op t.n ra t.ty.length rc rb t.kids.length rd) := by rw [← hyU]; exact yU.blk bT
      have bU1 : U.heap[B + 1]? = some (boxT u.op u.n ua u.ty.length uc ub u.kids.length ud) := by rw [← hyU]; exact yU.blk bU
      have bR1 : U.heap[B + 1 + 1]? = some zbox := by rw [← hyU]; exact yU.blk bR
      have hsU : Wa.heap.size ≤ U.heap.size := by rw [← hyU]; exact yU.size
      generalize y1.w.heap.size = E at *
      clear hU hyU yU own1 bT bR
      have u0 := blk_cell bU1 0
      have u1 := blk_cell bU1 1
      have u2 := blk_cell bU1 2
      have u3 := blk_cell bU1 3
      simp at u0 u1 u2 u3
      have LC := l2Left_ans u (hu.ext ⟨U, belU⟩) 400 (by omega) (by omega) (400 - (u.sz : Int)) (.inl ⟨by omega, rfl⟩) (Ext.self U)
      unfold TV.val at LC
      go_wp2_with fail
      refine Calls.mono LC ?_
      clear LC u0 u1 u2 u3
      rintro e w' ⟨rfl, y2, rfl⟩
      have fl : decide ((400 : Int) - (u.sz : Int) < 0) = false := by simp; omega
      go_upto_region 4 with fail
      clear fl
      have bT2 := y2.blk bT1
      have bU2 := y2.blk bU1
      have bR2 := y2.blk bR1
      have belV : Below W.heap.size W y2.w := below_ext belU y2
      have hsV : U.heap.size ≤ y2.w.heap.size := y2.size
      obtain ⟨V, hV⟩ : ∃ V, V = y2.w := ⟨_, rfl⟩
      rw [← hV] at bT2 bU2 bR2 belV hsV ⊢
      clear hV y2 bT1 bU1 bR1 bX hX
      have t0 := blk_cell bT2 0
      have t1 := blk_cell bT2 1
      have t2 := blk_cell bT2 2
      have t3 := blk_cell bT2 3
      simp at t0 t1 t2 t3
      have u0 := blk_cell bU2 0
      have u1 := blk_cell bU2 1
      have u2 := blk_cell bU2 2
      have u3 := blk_cell bU2 3
      simp at u0 u1 u2 u3
      have SC := l4Set_ans p (h.ext ⟨V, belV⟩) HW.out.2 (by have := HW.out.1; omega) (by have := HW.out.1; omega) (q := ⟨ua, uc, ub, ud⟩) (Lib.hid fun w2 b4 => HSU.out w2 (belV.trans (b4.mono belV.size))) (hp.ext ⟨V, belV⟩) hpl hcap z HZ.out (Ext.self V)
      unfold TV.val at SC
      go_wp2_with fail
      refine Calls.mono SC ?_
      clear SC t0 t1 t2 t3 u0 u1 u2 u3
      rintro e w' ⟨rz, NZ, y3, rfl, rfl, ownz, loz⟩
      unfold TV.val
      go_upto_region 5 with fail
      generalize hQ : y3.w.alloc _ = Q
      have bZ := new_blk hQ
      obtain ⟨yQ, hyQ⟩ : ∃ y : Ext V, y.w = Q := ⟨y3.alloc _, hQ⟩
      have ownQ : TmOwn Q z rz NZ := by rw [← hQ]; exact ownz.ext ((Ext.self y3.w).alloc _)
      have belQ : Below W.heap.size W Q := by rw [← hyQ]; exact below_ext belV yQ
      have bR3 : Q.heap[B + 1 + 1]? = some zbox := by rw [← hyQ]; exact yQ.blk bR2
      have hsQ : V.heap.size ≤ Q.heap.size := by rw [← hyQ]; exact yQ.size
      generalize y3.w.heap.size = Z at *
      clear hQ hyQ yQ ownz bT2 bU2 bR2
      by_cases hwz : Written z
      · have HWZ := Lib.hid hwz
        clear hwz
        have d0 := blk_cell bZ 0
        have d1 := blk_cell bZ 1
        have d2 := blk_cell bZ 2
        have d3 := blk_cell bZ 3
        simp at d0 d1 d2 d3
        have IWC := specIsWritten_ans (ownQ.tm (fun _ _ => Nat.zero_le _)) (by have := HWZ.out.wt; omega) true (by refine iff_tf ?_; exact HWZ.out) (Ext.self Q)
        unfold TV.val at IWC
        go_wp2_with fail
        refine Calls.mono IWC ?_
        clear IWC
        rintro e w' ⟨rfl, y4, rfl⟩
        go_upto_region 7 with fail
        clear d0 d1 d2 d3
        have bZ4 := y4.blk bZ
        have bR4 := y4.blk bR3
        have bel4 : Below W.heap.size W y4.w := below_ext belQ y4
        have own4 := ownQ.ext y4
        have hs4 : Q.heap.size ≤ y4.w.heap.size := y4.size
        have d0 := blk_cell bZ4 0
        have d1 := blk_cell bZ4 1
        have d2 := blk_cell bZ4 2
        have d3 := blk_cell bZ4 3
        simp at d0 d1 d2 d3
        obtain ⟨rfl, rfl⟩ := HO.out.yes HW.out HZ.out HWZ.out
        have n0 := blk_cell bR4 0
        have n1 := blk_cell bR4 1
        have n2 := blk_cell bR4 2
        have n3 := blk_cell bR4 3
        have p0 := blk_free bR4 0
        have p1 := blk_free bR4 1
        have p2 := blk_free bR4 2
        have p3 := blk_free bR4 3
        simp at n0 n1 n2 n3
        go_wp2_with fail
        clear d0 d1 d2 d3 n0 n1 n2 n3 p0 p1 p2 p3
        generalize hY : World.setCell _ _ _ = Y
        obtain ⟨⟨NB9, y9, rfl, own9, lo9⟩, r0, r1, r2, r3⟩ := dft_end (W := W) bR4 own4 (fun g h => by have := loz g h; exact ⟨by omega, by omega⟩) bel4 (by omega) hY
        refine bodyPost_ret (v := .tuple #[TV.val rz o, .bool true]) (by simp [TV.val, results, Tryd.results90, go_sem, r0, r1, r2, r3]) rfl ?_
        exact ⟨_, NB9, y9, rfl, rfl, own9, lo9⟩
      · have HWZ := Lib.hid hwz
        clear hwz
        have d0 := blk_cell bZ 0
        have d1 := blk_cell bZ 1
        have d2 := blk_cell bZ 2
        have d3 := blk_cell bZ 3
        simp at d0 d1 d2 d3
        have IWC := specIsWritten_ans (ownQ.tm (fun _ _ => Nat.zero_le _)) (by omega) false (by refine iff_tf ?_; exact HWZ.out) (Ext.self Q)
        unfold TV.val at IWC
        go_wp2_with fail
        refine Calls.mono IWC ?_
        clear IWC
        rintro e w' ⟨rfl, y4, rfl⟩
        go_upto_region 6 with fail
        clear d0 d1 d2 d3
        have bR4 := y4.blk bR3
        have hs4 : Q.heap.size ≤ y4.w.heap.size := y4.size
        have n0 := blk_cell bR4 0
        have n1 := blk_cell bR4 1
        have n2 := blk_cell bR4 2
        have n3 := blk_cell bR4 3
        have p0 := blk_free bR4 0
        have p1 := blk_free bR4 1
        have p2 := blk_free bR4 2
        have p3 := blk_free bR4 3
        simp at n0 n1 n2 n3
        go_wp2_with fail
        clear n0 n1 n2 n3 p0 p1 p2 p3
        generalize hY4 : World.setCell _ _ _ = Y4
        obtain ⟨belD, hsame, hgr, r0, r1, r2, r3⟩ := ret4 (W := W) (below_ext belQ y4) (by omega) bR4 hY4
        refine bodyPost_ret (v := .tuple #[TV.val ⟨none, 0, none, 0⟩ zeroT, .bool false]) (by simp [TV.val, Tm.op, Tm.n, Tm.ty, Tm.kids, results, Tryd.results90, go_sem, r0, r1, r2, r3]) rfl ?_
        obtain ⟨rfl, rfl⟩ := HO.out.no (fun ⟨_, z', e, w⟩ => by have e9 := HZ.out; rw [e] at e9; cases e9; exact HWZ.out w)
        exact ⟨_, _, ⟨Y4, belD⟩, rfl, rfl, zero_own _, fun q hq => hq.elim⟩
    · clear HSS
      go_enter Tryd.func90, Tryd.ntmps90
      go_upto_region 1 with fail
      have hxW := xx.size
      generalize hWa : ((xx.w.alloc _).alloc _).alloc _ = Wa
      generalize hB : xx.w.heap.size = B at *
      obtain ⟨bT, bU, bR, sA, bel⟩ := blocks3 hB hWa
      have belA : Below W.heap.size W Wa := xx.below.trans (bel.mono (by omega))
      clear hWa bel
      have t0 := blk_cell bT 0
      have t1 := blk_cell bT 1
      have t2 := blk_cell bT 2
      have t3 := blk_cell bT 3
      simp at t0 t1 t2 t3
      have TAC := specTermAt_ans (h.ext ⟨Wa, belA⟩) (hp.ext ⟨Wa, belA⟩) (pc := pc) hpl hwt (X) true ATV.out (Ext.self Wa)
      unfold TV.val at TAC
      go_wp2_with fail
      refine Calls.mono TAC ?_
      clear TAC t0 t1 t2 t3
      rintro e w' ⟨r1, NB1, y1, rfl, rfl, own1, -⟩
      unfold TV.val
      go_upto_region 2 with fail
      generalize hU : y1.w.alloc _ = U
      have bX := new_blk hU
      obtain ⟨yU, hyU⟩ : ∃ y : Ext Wa, y.w = U := ⟨y1.alloc _, hU⟩
      have hX : TmIn U 0 (X) r1 := by rw [← hU]; exact (own1.tm (fun _ _ => Nat.zero_le _)).ext ((Ext.self y1.w).alloc _)
      have belU : Below W.heap.size W U := by rw [← hyU]; exact below_ext belA yU
      have bT1 : U.heap[B]? = some (boxT t.op t.n ra t.ty.length rc rb t.kids.length rd) := by rw [← hyU]; exact yU.blk bT
      have bU1 : U.heap[B + 1]? = some (boxT u.op u.n ua u.ty.length uc ub u.kids.length ud) := by rw [← hyU]; exact yU.blk bU
      have bR1 : U.heap[B + 1 + 1]? = some zbox := by rw [← hyU]; exact yU.blk bR
      have hsU : Wa.heap.size ≤ U.heap.size := by rw [← hyU]; exact yU.size
      generalize y1.w.heap.size = E at *
      clear hU hyU yU own1 bT bR
      have u0 := blk_cell bU1 0
      have u1 := blk_cell bU1 1
      have u2 := blk_cell bU1 2
      have u3 := blk_cell bU1 3
      simp at u0 u1 u2 u3
      have LC := l2Left_ans u (hu.ext ⟨U, belU⟩) 400 (by omega) (by omega) (-1) (.inr ⟨by omega, rfl⟩) (Ext.self U)
      unfold TV.val at LC
      go_wp2_with fail
      refine Calls.mono LC ?_
      clear LC u0 u1 u2 u3
      rintro e w' ⟨rfl, y2, rfl⟩
      go_upto_region 3 with fail
      have bR2 := y2.blk bR1
      have hsV : U.heap.size ≤ y2.w.heap.size := y2.size
      have n0 := blk_cell bR2 0
      have n1 := blk_cell bR2 1
      have n2 := blk_cell bR2 2
      have n3 := blk_cell bR2 3
      have p0 := blk_free bR2 0
      have p1 := blk_free bR2 1
      have p2 := blk_free bR2 2
      have p3 := blk_free bR2 3
      simp at n0 n1 n2 n3
      go_wp2_with fail
      clear n0 n1 n2 n3 p0 p1 p2 p3
      generalize hY4 : World.setCell _ _ _ = Y4
      obtain ⟨belD, hsame, hgr, r0, r1, r2, r3⟩ := ret4 (W := W) (below_ext belU y2) (by omega) bR2 hY4
      refine bodyPost_ret (v := .tuple #[TV.val ⟨none, 0, none, 0⟩ zeroT, .bool false]) (by simp [TV.val, Tm.op, Tm.n, Tm.ty, Tm.kids, results, Tryd.results90, go_sem, r0, r1, r2, r3]) rfl ?_
      obtain ⟨rfl, rfl⟩ := HO.out.no (fun ⟨_, z', e, w⟩ => by have e9 := Tm.putP_sz e; have := w.1; omega)
      exact ⟨_, _, ⟨Y4, belD⟩, rfl, rfl, zero_own _, fun q hq => hq.elim⟩
  · have HXN : Hid (¬ (Written t ∧ ∃ x, t.atP p = some x)) := hx
    have ATV : Hid (AtV t p zeroT false) := .inr ⟨fun ⟨a, c, e⟩ => hx ⟨a, c, e⟩, rfl, rfl⟩
    clear hx HSS
    go_enter Tryd.func90, Tryd.ntmps90
    go_upto_region 1 with fail
    have hxW := xx.size
    generalize hWa : ((xx.w.alloc _).alloc _).alloc _ = Wa
    generalize hB : xx.w.heap.size = B at *
    obtain ⟨bT, bU, bR, sA, bel⟩ := blocks3 hB hWa
    have belA : Below W.heap.size W Wa := xx.below.trans (bel.mono (by omega))
    clear hWa bel
    have t0 := blk_cell bT 0
    have t1 := blk_cell bT 1
    have t2 := blk_cell bT 2
    have t3 := blk_cell bT 3
    simp at t0 t1 t2 t3
    have TAC := specTermAt_ans (h.ext ⟨Wa, belA⟩) (hp.ext ⟨Wa, belA⟩) (pc := pc) hpl hwt (zeroT) false ATV.out (Ext.self Wa)
    unfold TV.val at TAC
    go_wp2_with fail
    refine Calls.mono TAC ?_
    clear TAC t0 t1 t2 t3
    rintro e w' ⟨r1, NB1, y1, rfl, rfl, own1, -⟩
    unfold TV.val
    go_upto_region 2 with fail
    generalize hU : y1.w.alloc _ = U
    have bX := new_blk hU
    obtain ⟨yU, hyU⟩ : ∃ y : Ext Wa, y.w = U := ⟨y1.alloc _, hU⟩
    have hX : TmIn U 0 (zeroT) r1 := by rw [← hU]; exact (own1.tm (fun _ _ => Nat.zero_le _)).ext ((Ext.self y1.w).alloc _)
    have belU : Below W.heap.size W U := by rw [← hyU]; exact below_ext belA yU
    have bT1 : U.heap[B]? = some (boxT t.op t.n ra t.ty.length rc rb t.kids.length rd) := by rw [← hyU]; exact yU.blk bT
    have bU1 : U.heap[B + 1]? = some (boxT u.op u.n ua u.ty.length uc ub u.kids.length ud) := by rw [← hyU]; exact yU.blk bU
    have bR1 : U.heap[B + 1 + 1]? = some zbox := by rw [← hyU]; exact yU.blk bR
    have hsU : Wa.heap.size ≤ U.heap.size := by rw [← hyU]; exact yU.size
    generalize y1.w.heap.size = E at *
    clear hU hyU yU own1 bT bR
    go_upto_region 3 with fail
    have n0 := blk_cell bR1 0
    have n1 := blk_cell bR1 1
    have n2 := blk_cell bR1 2
    have n3 := blk_cell bR1 3
    have p0 := blk_free bR1 0
    have p1 := blk_free bR1 1
    have p2 := blk_free bR1 2
    have p3 := blk_free bR1 3
    simp at n0 n1 n2 n3
    go_wp2_with fail
    clear n0 n1 n2 n3 p0 p1 p2 p3
    generalize hY4 : World.setCell _ _ _ = Y4
    obtain ⟨belD, hsame, hgr, r0, r1, r2, r3⟩ := ret4 (W := W) belU (by omega) bR1 hY4
    refine bodyPost_ret (v := .tuple #[TV.val ⟨none, 0, none, 0⟩ zeroT, .bool false]) (by simp [TV.val, Tm.op, Tm.n, Tm.ty, Tm.kids, results, Tryd.results90, go_sem, r0, r1, r2, r3]) rfl ?_
    obtain ⟨rfl, rfl⟩ := HO.out.no (fun ⟨a, z', e, w⟩ => HXN.out ⟨a, by cases ha : t.atP p with | none => have := Tm.putP_none (u := u) ha; rw [this] at e; cases e | some c => exact ⟨c, rfl⟩⟩)
    exact ⟨_, _, ⟨Y4, belD⟩, rfl, rfl, zero_own _, fun q hq => hq.elim⟩

end Go.Proofs.YtncfbljablbglaaDoor
/- ContractAt, by the model. -/
namespace Go.Proofs.YtncfbljablbglaaDoor
open Go.RowKit

set_option maxRecDepth 100000 in
set_option maxHeartbeats 16000000 in
theorem specContractAt_ans {W : World} {lo : Nat} {t : Tm} {r : TV} (h : TmIn W lo t r) (hwt : t.wt ≤ 1099511627776) {pa : Option Addr} {pc : Nat} {p : List Int} (hp : Row W (Value.int .i64) pa p) (hpl : p.length ≤ 1099511627776) (hcap : p.length ≤ pc) (o : Tm) (b : Bool) (ho : ConV t p o b) (x : Ext W) :
    Calls Tryd.prog 68 #[r.val t, .slice pa p.length pc] x.w (NewTmB W o b) := by
  obtain ⟨ra, rc, rb, rd⟩ := r
  unfold TV.val
  obtain ⟨xx, hxx⟩ : ∃ y : Ext W, x = y := ⟨x, rfl⟩
  rw [hxx]
  clear hxx x
  have HO := Lib.hid ho
  clear ho
  by_cases hx : Written t ∧ ∃ x, t.atP p = some x
  · obtain ⟨hw, X, hX0⟩ := hx
    have HW := Lib.hid hw
    have HX := Lib.hid hX0
    have ATV : Hid (AtV t p X true) := .inl ⟨hw, hX0, rfl⟩
    obtain ⟨v, hv⟩ := (Within.self hw).at hX0
    have HV := Lib.hid hv
    clear hw hX0 hv
    by_cases hred : Red X
    · obtain ⟨body, put, hc⟩ := hred
      have HC := Lib.hid hc
      obtain ⟨u, hu⟩ : ∃ u, u = body.rv (subf 0 put) 0 := ⟨_, rfl⟩
      obtain ⟨k1, k2, k3⟩ := hc.ok HV.out.ok (by have := HV.out.low; omega)
      have hok : OkT 16 false v u := by rw [hu]; exact Tm.sub_ok (by have := HV.out.low; omega) k1 k2
      have HOK := Lib.hid hok
      have HR := Lib.hid (HO.out.yes HW.out HX.out hc)
      rw [← hu] at HR
      have HU := Lib.hid hu
      clear hc hu k1 k2 k3 hok
      by_cases hs : u.sz ≤ 400
      · go_enter Tryd.func68, Tryd.ntmps68
        go_upto_region 1 with fail
        have hxW := xx.size
        generalize hWa : (xx.w.alloc _).alloc _ = Wa
        generalize hB : xx.w.heap.size = B at *
        obtain ⟨bT, bR, sA, bel⟩ := blocks2 hB hWa
        have belA : Below W.heap.size W Wa := xx.below.trans (bel.mono (by omega))
        clear hWa bel
        have t0 := blk_cell bT 0
        have t1 := blk_cell bT 1
        have t2 := blk_cell bT 2
        have t3 := blk_cell bT 3
        simp at t0 t1 t2 t3
        have TAC := specTermAt_ans (h.ext ⟨Wa, belA⟩) (hp.ext ⟨Wa, belA⟩) (pc := pc) hpl hwt (X) true ATV.out (Ext.self Wa)
        unfold TV.val at TAC
        go_wp2_with fail
        refine Calls.mono TAC ?_
        clear TAC t0 t1 t2 t3
        rintro e w' ⟨r1, NB1, y1, rfl, rfl, own1, -⟩
        unfold TV.val
        go_upto_region 2 with fail
        generalize hU : y1.w.alloc _ = U
        have bX := new_blk hU
        obtain ⟨yU, hyU⟩ : ∃ y : Ext Wa, y.w = U := ⟨y1.alloc _, hU⟩
        have hX : TmIn U 0 (X) r1 := by rw [← hU]; exact (own1.tm (fun _ _ => Nat.zero_le _)).ext ((Ext.self y1.w).alloc _)
        have belU : Below W.heap.size W U := by rw [← hyU]; exact below_ext belA yU
        have bT1 : U.heap[B]? = some (boxT t.op t.n ra t.ty.length rc rb t.kids.length rd) := by rw [← hyU]; exact yU.blk bT
        have bR1 : U.heap[B + 1]? = some zbox := by rw [← hyU]; exact yU.blk bR
        have hsU : Wa.heap.size ≤ U.heap.size := by rw [← hyU]; exact yU.size
        generalize y1.w.heap.size = E at *
        clear hU hyU yU own1 bT bR
        have x0 := blk_cell bX 0
        have x1 := blk_cell bX 1
        have x2 := blk_cell bX 2
        have x3 := blk_cell bX 3
        simp at x0 x1 x2 x3
        have RDC := l4Redex_ans hX HV.out.ok.shape true ⟨fun _ => ⟨_, _, HC.out⟩, fun _ => rfl⟩ (Ext.self U)
        unfold TV.val at RDC
        go_wp2_with fail
        refine Calls.mono RDC ?_
        clear RDC
        rintro e w' ⟨rfl, y2, rfl⟩
        go_upto_region 4 with fail
        clear x0 x1 x2 x3
        have bT2 := y2.blk bT1
        have bR2 := y2.blk bR1
        have bX2 := y2.blk bX
        have hX2 := hX.ext y2
        have belV : Below W.heap.size W y2.w := below_ext belU y2
        have hsV : U.heap.size ≤ y2.w.heap.size := y2.size
        obtain ⟨V, hV⟩ : ∃ V, V = y2.w := ⟨_, rfl⟩
        rw [← hV] at bT2 bR2 bX2 hX2 belV hsV ⊢
        clear hV y2 bT1 bR1 bX hX
        have x0 := blk_cell bX2 0
        have x1 := blk_cell bX2 1
        have x2 := blk_cell bX2 2
        have x3 := blk_cell bX2 3
        simp at x0 x1 x2 x3
        have LCC := l4Contracted_ans hX2 HV.out.ok (by have := HV.out.low; omega) (by have := HV.out.sz; have := HW.out.1; omega) (by have := HV.out.room; have := HV.out.sz; have := HW.out.1; omega) HC.out (u) true (by rw [← HU.out]; exact .inl ⟨hs, rfl, rfl⟩) (Ext.self V)
        unfold TV.val at LCC
        go_wp2_with fail
        refine Calls.mono LCC ?_
        clear LCC x0 x1 x2 x3
        rintro e w' ⟨ru, NU, y3, rfl, rfl, ownu, -⟩
        unfold TV.val
        go_upto_region 5 with fail
        generalize hQ : y3.w.alloc _ = Q
        have bY := new_blk hQ
        obtain ⟨yQ, hyQ⟩ : ∃ y : Ext V, y.w = Q := ⟨y3.alloc _, hQ⟩
        have hY : TmIn Q 0 (u) ru := by rw [← hQ]; exact (ownu.tm (fun _ _ => Nat.zero_le _)).ext ((Ext.self y3.w).alloc _)
        have belQ : Below W.heap.size W Q := by rw [← hyQ]; exact below_ext belV yQ
        have bT3 : Q.heap[B]? = some (boxT t.op t.n ra t.ty.length rc rb t.kids.length rd) := by rw [← hyQ]; exact yQ.blk bT2
        have bR3 : Q.heap[B + 1]? = some zbox := by rw [← hyQ]; exact yQ.blk bR2
        have hsQ : V.heap.size ≤ Q.heap.size := by rw [← hyQ]; exact yQ.size
        generalize y3.w.heap.size = Z at *
        clear hQ hyQ yQ ownu bT2 bR2 hX2 bX2
        go_upto_region 7 with fail
        have t0 := blk_cell bT3 0
        have t1 := blk_cell bT3 1
        have t2 := blk_cell bT3 2
        have t3 := blk_cell bT3 3
        simp at t0 t1 t2 t3
        have d0 := blk_cell bY 0
        have d1 := blk_cell bY 1
        have d2 := blk_cell bY 2
        have d3 := blk_cell bY 3
        simp at d0 d1 d2 d3
        have RPC := specReplaceAt_ans (h.ext ⟨Q, belQ⟩) hwt hY (by have := Tm.wt_bound u HOK.out; omega) (fun _ => Lib.hid fun w2 b4 => by
          have CQ := l2Shift_ans u (hY.ext ⟨w2, b4⟩) HOK.out (by omega) (by have := HV.out.room; have := HW.out.1; omega) 0 0 (by omega) (by omega) (by omega) 0 (by omega) (by omega) (Ext.self w2)
          rw [show (0 : Int) + 0 = 0 from rfl, Tm.shf_id HOK.out] at CQ
          exact CQ) (hp.ext ⟨Q, belQ⟩) hpl hcap o b HR.out (Ext.self Q)
        unfold TV.val at RPC
        go_wp2_with fail
        refine Calls.mono RPC ?_
        clear RPC t0 t1 t2 t3 d0 d1 d2 d3
        rintro e w' ⟨r4, K4, y4, rfl, rfl, own4, lo4⟩
        have bR4 := y4.blk bR3
        have bel4 : Below W.heap.size W y4.w := below_ext belQ y4
        unfold TV.val
        have n0 := blk_cell bR4 0
        have n1 := blk_cell bR4 1
        have n2 := blk_cell bR4 2
        have n3 := blk_cell bR4 3
        have p0 := blk_free bR4 0
        have p1 := blk_free bR4 1
        have p2 := blk_free bR4 2
        have p3 := blk_free bR4 3
        simp at n0 n1 n2 n3
        go_wp2_with fail
        clear n0 n1 n2 n3 p0 p1 p2 p3
        generalize hY : World.setCell _ _ _ = Y
        obtain ⟨⟨NB9, y9, rfl, own9, lo9⟩, r0, r1, r2, r3⟩ := dft_end (W := W) bR4 own4 (fun g h => by have := lo4 g h; exact ⟨by omega, by omega⟩) bel4 (by omega) hY
        refine bodyPost_ret (v := .tuple #[TV.val r4 o, .bool b]) (by simp [TV.val, results, Tryd.results68, go_sem, r0, r1, r2, r3]) rfl ?_
        exact ⟨_, NB9, y9, rfl, rfl, own9, lo9⟩
      · go_enter Tryd.func68, Tryd.ntmps68
        go_upto_region 1 with fail
        have hxW := xx.size
        generalize hWa : (xx.w.alloc _).alloc _ = Wa
        generalize hB : xx.w.heap.size = B at *
        obtain ⟨bT, bR, sA, bel⟩ := blocks2 hB hWa
        have belA : Below W.heap.size W Wa := xx.below.trans (bel.mono (by omega))
        clear hWa bel
        have t0 := blk_cell bT 0
        have t1 := blk_cell bT 1
        have t2 := blk_cell bT 2
        have t3 := blk_cell bT 3
        simp at t0 t1 t2 t3
        have TAC := specTermAt_ans (h.ext ⟨Wa, belA⟩) (hp.ext ⟨Wa, belA⟩) (pc := pc) hpl hwt (X) true ATV.out (Ext.self Wa)
        unfold TV.val at TAC
        go_wp2_with fail
        refine Calls.mono TAC ?_
        clear TAC t0 t1 t2 t3
        rintro e w' ⟨r1, NB1, y1, rfl, rfl, own1, -⟩
        unfold TV.val
        go_upto_region 2 with fail
        generalize hU : y1.w.alloc _ = U
        have bX := new_blk hU
        obtain ⟨yU, hyU⟩ : ∃ y : Ext Wa, y.w = U := ⟨y1.alloc _, hU⟩
        have hX : TmIn U 0 (X) r1 := by rw [← hU]; exact (own1.tm (fun _ _ => Nat.zero_le _)).ext ((Ext.self y1.w).alloc _)
        have belU : Below W.heap.size W U := by rw [← hyU]; exact below_ext belA yU
        have bT1 : U.heap[B]? = some (boxT t.op t.n ra t.ty.length rc rb t.kids.length rd) := by rw [← hyU]; exact yU.blk bT
        have bR1 : U.heap[B + 1]? = some zbox := by rw [← hyU]; exact yU.blk bR
        have hsU : Wa.heap.size ≤ U.heap.size := by rw [← hyU]; exact yU.size
        generalize y1.w.heap.size = E at *
        clear hU hyU yU own1 bT bR
        have x0 := blk_cell bX 0
        have x1 := blk_cell bX 1
        have x2 := blk_cell bX 2
        have x3 := blk_cell bX 3
        simp at x0 x1 x2 x3
        have RDC := l4Redex_ans hX HV.out.ok.shape true ⟨fun _ => ⟨_, _, HC.out⟩, fun _ => rfl⟩ (Ext.self U)
        unfold TV.val at RDC
        go_wp2_with fail
        refine Calls.mono RDC ?_
        clear RDC
        rintro e w' ⟨rfl, y2, rfl⟩
        go_upto_region 4 with fail
        clear x0 x1 x2 x3
        have bT2 := y2.blk bT1
        have bR2 := y2.blk bR1
        have bX2 := y2.blk bX
        have hX2 := hX.ext y2
        have belV : Below W.heap.size W y2.w := below_ext belU y2
        have hsV : U.heap.size ≤ y2.w.heap.size := y2.size
        obtain ⟨V, hV⟩ : ∃ V, V = y2.w := ⟨_, rfl⟩
        rw [← hV] at bT2 bR2 bX2 hX2 belV hsV ⊢
        clear hV y2 bT1 bR1 bX hX
        have x0 := blk_cell bX2 0
        have x1 := blk_cell bX2 1
        have x2 := blk_cell bX2 2
        have x3 := blk_cell bX2 3
        simp at x0 x1 x2 x3
        have LCC := l4Contracted_ans hX2 HV.out.ok (by have := HV.out.low; omega) (by have := HV.out.sz; have := HW.out.1; omega) (by have := HV.out.room; have := HV.out.sz; have := HW.out.1; omega) HC.out (zeroT) false (by rw [← HU.out]; exact .inr ⟨by omega, rfl, rfl⟩) (Ext.self V)
        unfold TV.val at LCC
        go_wp2_with fail
        refine Calls.mono LCC ?_
        clear LCC x0 x1 x2 x3
        rintro e w' ⟨ru, NU, y3, rfl, rfl, ownu, -⟩
        unfold TV.val
        go_upto_region 5 with fail
        generalize hQ : y3.w.alloc _ = Q
        have bY := new_blk hQ
        obtain ⟨yQ, hyQ⟩ : ∃ y : Ext V, y.w = Q := ⟨y3.alloc _, hQ⟩
        have hY : TmIn Q 0 (zeroT) ru := by rw [← hQ]; exact (ownu.tm (fun _ _ => Nat.zero_le _)).ext ((Ext.self y3.w).alloc _)
        have belQ : Below W.heap.size W Q := by rw [← hyQ]; exact below_ext belV yQ
        have bT3 : Q.heap[B]? = some (boxT t.op t.n ra t.ty.length rc rb t.kids.length rd) := by rw [← hyQ]; exact yQ.blk bT2
        have bR3 : Q.heap[B + 1]? = some zbox := by rw [← hyQ]; exact yQ.blk bR2
        have hsQ : V.heap.size ≤ Q.heap.size := by rw [← hyQ]; exact yQ.size
        generalize y3.w.heap.size = Z at *
        clear hQ hyQ yQ ownu bT2 bR2 hX2 bX2
        go_upto_region 6 with fail
        have n0 := blk_cell bR3 0
        have n1 := blk_cell bR3 1
        have n2 := blk_cell bR3 2
        have n3 := blk_cell bR3 3
        have p0 := blk_free bR3 0
        have p1 := blk_free bR3 1
        have p2 := blk_free bR3 2
        have p3 := blk_free bR3 3
        simp at n0 n1 n2 n3
        go_wp2_with fail
        clear n0 n1 n2 n3 p0 p1 p2 p3
        generalize hY4 : World.setCell _ _ _ = Y4
        obtain ⟨belD, hsame, hgr, r0, r1, r2, r3⟩ := ret4 (W := W) belQ (by omega) bR3 hY4
        refine bodyPost_ret (v := .tuple #[TV.val ⟨none, 0, none, 0⟩ zeroT, .bool false]) (by simp [TV.val, Tm.op, Tm.n, Tm.ty, Tm.kids, results, Tryd.results68, go_sem, r0, r1, r2, r3]) rfl ?_
        obtain ⟨rfl, rfl⟩ := HR.out.no (fun ⟨_, z', e, w⟩ => by have e9 := Tm.putP_sz e; have := w.1; omega)
        exact ⟨_, _, ⟨Y4, belD⟩, rfl, rfl, zero_own _, fun q hq => hq.elim⟩
    · have HRD := Lib.hid hred
      clear hred
      go_enter Tryd.func68, Tryd.ntmps68
      go_upto_region 1 with fail
      have hxW := xx.size
      generalize hWa : (xx.w.alloc _).alloc _ = Wa
      generalize hB : xx.w.heap.size = B at *
      obtain ⟨bT, bR, sA, bel⟩ := blocks2 hB hWa
      have belA : Below W.heap.size W Wa := xx.below.trans (bel.mono (by omega))
      clear hWa bel
      have t0 := blk_cell bT 0
      have t1 := blk_cell bT 1
      have t2 := blk_cell bT 2
      have t3 := blk_cell bT 3
      simp at t0 t1 t2 t3
      have TAC := specTermAt_ans (h.ext ⟨Wa, belA⟩) (hp.ext ⟨Wa, belA⟩) (pc := pc) hpl hwt (X) true ATV.out (Ext.self Wa)
      unfold TV.val at TAC
      go_wp2_with fail
      refine Calls.mono TAC ?_
      clear TAC t0 t1 t2 t3
      rintro e w' ⟨r1, NB1, y1, rfl, rfl, own1, -⟩
      unfold TV.val
      go_upto_region 2 with fail
      generalize hU : y1.w.alloc _ = U
      have bX := new_blk hU
      obtain ⟨yU, hyU⟩ : ∃ y : Ext Wa, y.w = U := ⟨y1.alloc _, hU⟩
      have hX : TmIn U 0 (X) r1 := by rw [← hU]; exact (own1.tm (fun _ _ => Nat.zero_le _)).ext ((Ext.self y1.w).alloc _)
      have belU : Below W.heap.size W U := by rw [← hyU]; exact below_ext belA yU
      have bT1 : U.heap[B]? = some (boxT t.op t.n ra t.ty.length rc rb t.kids.length rd) := by rw [← hyU]; exact yU.blk bT
      have bR1 : U.heap[B + 1]? = some zbox := by rw [← hyU]; exact yU.blk bR
      have hsU : Wa.heap.size ≤ U.heap.size := by rw [← hyU]; exact yU.size
      generalize y1.w.heap.size = E at *
      clear hU hyU yU own1 bT bR
      have x0 := blk_cell bX 0
      have x1 := blk_cell bX 1
      have x2 := blk_cell bX 2
      have x3 := blk_cell bX 3
      simp at x0 x1 x2 x3
      have RDC := l4Redex_ans hX HV.out.ok.shape false ⟨fun e => (by cases e), fun e => absurd e HRD.out⟩ (Ext.self U)
      unfold TV.val at RDC
      go_wp2_with fail
      refine Calls.mono RDC ?_
      clear RDC
      rintro e w' ⟨rfl, y2, rfl⟩
      go_upto_region 3 with fail
      clear x0 x1 x2 x3
      have bR2 := y2.blk bR1
      have hsV : U.heap.size ≤ y2.w.heap.size := y2.size
      have n0 := blk_cell bR2 0
      have n1 := blk_cell bR2 1
      have n2 := blk_cell bR2 2
      have n3 := blk_cell bR2 3
      have p0 := blk_free bR2 0
      have p1 := blk_free bR2 1
      have p2 := blk_free bR2 2
      have p3 := blk_free bR2 3
      simp at n0 n1 n2 n3
      go_wp2_with fail
      clear n0 n1 n2 n3 p0 p1 p2 p3
      generalize hY4 : World.setCell _ _ _ = Y4
      obtain ⟨belD, hsame, hgr, r0, r1, r2, r3⟩ := ret4 (W := W) (below_ext belU y2) (by omega) bR2 hY4
      refine bodyPost_ret (v := .tuple #[TV.val ⟨none, 0, none, 0⟩ zeroT, .bool false]) (by simp [TV.val, Tm.op, Tm.n, Tm.ty, Tm.kids, results, Tryd.results68, go_sem, r0, r1, r2, r3]) rfl ?_
      obtain ⟨rfl, rfl⟩ := HO.out.no (fun ⟨x', b', q', _, e, c⟩ => by have e9 := HX.out; rw [e] at e9; cases e9; exact HRD.out c.red)
      exact ⟨_, _, ⟨Y4, belD⟩, rfl, rfl, zero_own _, fun q hq => hq.elim⟩
  · have HXN : Hid (¬ (Written t ∧ ∃ x, t.atP p = some x)) := hx
    have ATV : Hid (AtV t p zeroT false) := .inr ⟨fun ⟨a, c, e⟩ => hx ⟨a, c, e⟩, rfl, rfl⟩
    clear hx
    go_enter Tryd.func68, Tryd.ntmps68
    go_upto_region 1 with fail
    have hxW := xx.size
    generalize hWa : (xx.w.alloc _).alloc _ = Wa
    generalize hB : xx.w.heap.size = B at *
    obtain ⟨bT, bR, sA, bel⟩ := blocks2 hB hWa
    have belA : Below W.heap.size W Wa := xx.below.trans (bel.mono (by omega))
    clear hWa bel
    have t0 := blk_cell bT 0
    have t1 := blk_cell bT 1
    have t2 := blk_cell bT 2
    have t3 := blk_cell bT 3
    simp at t0 t1 t2 t3
    have TAC := specTermAt_ans (h.ext ⟨Wa, belA⟩) (hp.ext ⟨Wa, belA⟩) (pc := pc) hpl hwt (zeroT) false ATV.out (Ext.self Wa)
    unfold TV.val at TAC
    go_wp2_with fail
    refine Calls.mono TAC ?_
    clear TAC t0 t1 t2 t3
    rintro e w' ⟨r1, NB1, y1, rfl, rfl, own1, -⟩
    unfold TV.val
    go_upto_region 2 with fail
    generalize hU : y1.w.alloc _ = U
    have bX := new_blk hU
    obtain ⟨yU, hyU⟩ : ∃ y : Ext Wa, y.w = U := ⟨y1.alloc _, hU⟩
    have hX : TmIn U 0 (zeroT) r1 := by rw [← hU]; exact (own1.tm (fun _ _ => Nat.zero_le _)).ext ((Ext.self y1.w).alloc _)
    have belU : Below W.heap.size W U := by rw [← hyU]; exact below_ext belA yU
    have bT1 : U.heap[B]? = some (boxT t.op t.n ra t.ty.length rc rb t.kids.length rd) := by rw [← hyU]; exact yU.blk bT
    have bR1 : U.heap[B + 1]? = some zbox := by rw [← hyU]; exact yU.blk bR
    have hsU : Wa.heap.size ≤ U.heap.size := by rw [← hyU]; exact yU.size
    generalize y1.w.heap.size = E at *
    clear hU hyU yU own1 bT bR
    go_upto_region 3 with fail
    have n0 := blk_cell bR1 0
    have n1 := blk_cell bR1 1
    have n2 := blk_cell bR1 2
    have n3 := blk_cell bR1 3
    have p0 := blk_free bR1 0
    have p1 := blk_free bR1 1
    have p2 := blk_free bR1 2
    have p3 := blk_free bR1 3
    simp at n0 n1 n2 n3
    go_wp2_with fail
    clear n0 n1 n2 n3 p0 p1 p2 p3
    generalize hY4 : World.setCell _ _ _ = Y4
    obtain ⟨belD, hsame, hgr, r0, r1, r2, r3⟩ := ret4 (W := W) belU (by omega) bR1 hY4
    refine bodyPost_ret (v := .tuple #[TV.val ⟨none, 0, none, 0⟩ zeroT, .bool false]) (by simp [TV.val, Tm.op, Tm.n, Tm.ty, Tm.kids, results, Tryd.results68, go_sem, r0, r1, r2, r3]) rfl ?_
    obtain ⟨rfl, rfl⟩ := HO.out.no (fun ⟨x', b', q', a, e, c⟩ => HXN.out ⟨a, x', e⟩)
    exact ⟨_, _, ⟨Y4, belD⟩, rfl, rfl, zero_own _, fun q hq => hq.elim⟩

end Go.Proofs.YtncfbljablbglaaDoor
