/- The program's gathering of the paths to redexes. -/
import Derived.Test.YtncfbljablbglaaDoorZ3GX9
import Derived.Test.YtncfbljablbglaaDoorZ3KCofA
import Derived.Test.YtncfbljablbglaaDoorZ3KKidsP
import Derived.Test.YtncfbljablbglaaDoorZ3KDefP
set_option linter.unusedVariables false
set_option linter.unusedSimpArgs false
namespace Go.Proofs.YtncfbljablbglaaDoor
open Go.RowKit

theorem clonePath_ans {W : World} {base : Nat} {a : Option Addr} {c : Nat} {l : List Int} (own : W.ownsRow base 3 1 (.slice a l.length c) l.length (l.map (Value.int .i64))) (hl : l.length ≤ 1000) (x : Ext W) :
    Calls Tryd.prog 109 #[.slice a l.length c] x.w (NewRow W 22 3 (Value.int .i64) l) := by
  have hr := own_row own
  rcases own.2 with ⟨e, h0⟩ | ⟨g, cap, cur, e, _⟩
  · have hl0 : l = [] := List.eq_nil_of_length_eq_zero h0
    subst hl0
    have ha : a = none := by injection e
    have hc : c = 0 := by injection e
    subst ha
    subst hc
    have hq : ∀ w : World, (binOp .eql 22 (.slice none 0 0) (.slice none 0 0)).run Tryd.prog w = .ok (.bool true) w := fun w => run_eql_slice_nil w 22 _ none 0 0 Tryd.underlying22
    show Calls _ _ #[.slice none 0 0] _ _
    obtain ⟨yy, hyy⟩ : ∃ y : Ext W, x = y := ⟨x, rfl⟩
    rw [hyy]
    clear hyy x own hr e h0
    go_enter Tryd.func109, Tryd.ntmps109
    go_wp2_with fail
    go_ret
    exact ⟨_, yy, rfl, rfl, World.ownsRow_nil _ _ _ _⟩
  · have ha : a = some ⟨g, 0, none⟩ := by injection e
    subst ha
    exact cloneInts_ans hr hl x

theorem RedA.back {Y w : World} {a : Option Addr} {ls : List (List Int)} {hd : Nat → Option Addr × Nat} {pa : Option Addr} {pc : Nat} {p : List Int} {l2 : List (List Int)} {e : Ending} {w' : World} (y : Ext w) (h : RedA Y y.w a ls hd pa pc p l2 e w') : RedA Y w a ls hd pa pc p l2 e w' := by
  obtain ⟨a', c', hd', rfl, h1, h2, h3⟩ := h
  exact ⟨a', c', hd', rfl, h1, h2.ext y, fun g hg => (h3 g hg).imp_right fun q => by have := y.size; omega⟩
theorem pathNe {W5 : World} {D : Nat} {pa pa' : Option Addr} {pc pc' : Nat} {o : Obj} {w1 : World} (hDp : ob pa ≠ some D) (hat : (pa' = pa ∧ pc' = pc) ∨ (ob pa' = some (W5.drew.alloc o).heap.size ∧ ∃ z : Ext (W5.drew.alloc o), w1 = z.w)) (hD : D < (W5.drew.alloc o).heap.size) : ob pa' ≠ some D := by
  rcases hat with ⟨rfl, _⟩ | ⟨e, _⟩
  · exact hDp
  · intro e2
    rw [e] at e2
    cases e2
    omega

set_option maxRecDepth 100000 in
set_option maxHeartbeats 16000000 in
theorem appRed_ans (t : Tm) : ∀ {Y : World} {lo : Nat} {r : TV} (_ : TmIn Y lo t r) {size vars : Int} {closed : Bool} (_ : OkT size closed vars t) (_ : t.sz ≤ 1000) {w : World} {a : Option Addr} {c : Nat} {ls : List (List Int)} {hd : Nat → Option Addr × Nat} {pa : Option Addr} {pc : Nat} {p : List Int} (_ : ls.length + t.sz ≤ 1000) (_ : p.length + t.sz ≤ 1000) (_ : RP Y w a c ls hd pa pc p),
    Calls Tryd.prog 92 #[.slice a ls.length c, .slice pa p.length pc, r.val t] w (RedA Y w a ls hd pa pc p (ls ++ t.reds p)) := by
  induction t using Tm.ind with
  | h t ih =>
    intro Y lo r h size vars closed ok hsz w a c ls hd pa pc p hl hp rp
    have HI := Lib.hid ih
    clear ih
    have hsp := t.sz_eq
    have OK := Lib.hid ok
    clear ok
    obtain ⟨ra, rc, rb, rd⟩ := r
    unfold TV.val
    go_enter Tryd.func92, Tryd.ntmps92
    go_upto_region 1 with fail
    obtain ⟨y1, hy1⟩ : ∃ y : Ext w, y = (Ext.self w).alloc (.cells #[.int .i64 t.op, .int .i64 t.n, .slice ra t.ty.length rc, .slice rb t.kids.length rd] 29) := ⟨_, rfl⟩
    have bB : y1.w.heap[w.heap.size]? = some (.cells #[.int .i64 t.op, .int .i64 t.n, .slice ra t.ty.length rc, .slice rb t.kids.length rd] 29 (0, 0)) := by rw [hy1]; exact new_blk rfl
    have hsB : w.heap.size < y1.w.heap.size := (Array.getElem?_eq_some_iff.1 bB).1
    have hW : w.alloc (.cells #[.int .i64 t.op, .int .i64 t.n, .slice ra t.ty.length rc, .slice rb t.kids.length rd] 29) = y1.w := by rw [hy1]
    rw [hW]
    clear hW hy1
    have rp1 := rp.ext y1
    have hBb : ¬ Blk a ls.length hd w.heap.size := fun e => by have := (rp.blt e).2; omega
    have hBp : ob pa ≠ some w.heap.size := fun e => by have := (rp.plt e).2; omega
    have BACK : Hid (∀ l2 e w', RedA Y y1.w a ls hd pa pc p l2 e w' → RedA Y w a ls hd pa pc p l2 e w') := fun l2 e w' h => h.back y1
    generalize w.heap.size = B at *
    obtain ⟨W1, hW1⟩ : ∃ W, W = y1.w := ⟨_, rfl⟩
    rw [← hW1] at rp1 bB hsB BACK ⊢
    clear hW1 y1 rp
    have c0 := blk_cell bB 0
    have c1 := blk_cell bB 1
    have c2 := blk_cell bB 2
    have c3 := blk_cell bB 3
    simp at c0 c1 c2 c3
    have CO := contractionOf_ans (h.ext ⟨W1, rp1.bel⟩) OK.out (Ext.self W1)
    unfold TV.val at CO
    go_wp2_with fail
    refine Calls.mono CO ?_
    clear CO c0 c1 c2 c3
    rintro e w' ⟨body, put, qb, b', d', flag, y2, rfl, rfl, hc⟩
    have hfl : (flag = true ∧ Hid (Red t)) ∨ (flag = false ∧ Hid (¬ Red t)) := by
      rcases hc with ⟨e1, e2, _⟩ | ⟨e1, e2⟩
      · exact .inl ⟨e1, e2.red⟩
      · exact .inr ⟨e1, e2⟩
    clear hc
    rcases hfl with ⟨rfl, HR⟩ | ⟨rfl, HR⟩
    · go_upto_region 3 with fail
      generalize hZ : World.alloc _ _ = Z2
      obtain ⟨z2, hz⟩ : ∃ z : Ext W1, z.w = Z2 := ⟨y2.alloc _, hZ⟩
      clear hZ
      rw [← hz]
      clear hz Z2
      have rp2 := rp1.ext z2
      have CLO := clonePath_ans rp2.own (by omega) (Ext.self z2.w)
      go_wp2_with fail
      refine Calls.mono CLO ?_
      clear CLO
      rintro e w' ⟨v, y3, rfl, rfl, own3⟩
      obtain ⟨b3, d3, rfl, -, -⟩ := owned_row own3
      have g3 := rp2.gl.add y3 own3
      go_upto_region 4 with (at_builtin; refine wpList_growLr rfl (.tmp 17) (.tmp 20) rfl (g3.alloc _) (by rw [hds_len]; omega) (n := ls.length) (by rw [hds_len]) rfl (u := .slice b3 p.length d3) rfl rfl (cell_one_at _ _ _ _ rfl) ?_; intro a4 c4 w4 g4 gr4 hat4)
      have hs4 := rp2.snoc (y3.alloc _) (owns_ext own3 ((Ext.self y3.w).alloc _)) (by rw [hds_snoc]; exact g4) gr4 hat4
      clear g4 gr4 hat4 g3 own3
      obtain ⟨rp4, fr4, hb4⟩ := hs4
      replace fr4 := fr4.ext z2
      replace hb4 : ∀ g, Blk a4 (ls ++ [p]).length (upd hd ls.length (b3, d3)) g → Blk a ls.length hd g ∨ W1.heap.size ≤ g := fun g hg => (hb4 g hg).imp_right fun q => by have := z2.size; omega
      have hlen : (ls ++ [p]).length = ls.length + 1 := by simp
      have HRED : Hid (ls ++ t.reds p = ls ++ [p] ++ Tm.redsL p 0 t.kids) := by
        show _ = _
        rw [Tm.reds_yes HR.out p, List.append_assoc]
      generalize upd hd ls.length (b3, d3) = hd4 at *
      rw [← hlen]
      have hl4 : (ls ++ [p]).length + Tm.szL t.kids ≤ 1000 := by omega
      generalize ls ++ [p] = l4 at *
      clear hlen rp2 rp1
      obtain ⟨kr, A⟩ := h.out
      have hlk := A.lk
      have bB4 : w4.heap[B]? = some (.cells #[.int .i64 t.op, .int .i64 t.n, .slice ra t.ty.length rc, .slice rb t.kids.length rd] 29 (0, 0)) := by rw [fr4.2 B hsB hBb hBp]; exact bB
      have m3 := blk_cell bB4 3
      simp at m3
      go_wp2_with fail
      clear m3
      go_loopw [25, 0] (fun i s wr => ∃ (k : Nat) (a' : Option Addr) (c' : Nat) (lk : List (List Int)) (hd' : Nat → Option Addr × Nat), i = .int .i64 k ∧ s = .slice a' lk.length c' ∧ k ≤ t.kids.length ∧ Hid (lk = l4 ++ Tm.redsL p 0 (t.kids.take k) ∧ RP Y wr a' c' lk hd' pa pc p ∧ Fr W1 wr a ls.length hd pa ∧ ∀ g, Blk a' lk.length hd' g → Blk a ls.length hd g ∨ W1.heap.size ≤ g)) (fun i _ _ => t.kids.length - (intOf i).toNat)
      case atStart => exact ⟨0, _, _, _, _, rfl, rfl, by omega, ⟨by simp [Tm.redsL], rp4, fr4, hb4⟩⟩
      case round =>
        obtain ⟨k, a', c', lk, hd', rfl, rfl, hk, HR2⟩ := hrel
        by_cases hlt : k < t.kids.length
        · have hlt' : (k : Int) < (t.kids.length : Int) := by omega
          have hk0 : (0 : Int) ≤ (k : Int) := by omega
          obtain ⟨kid, hkid⟩ : ∃ kid, t.kids[k]? = some kid := ⟨_, List.getElem?_eq_getElem hlt⟩
          have hmem : kid ∈ t.kids := List.mem_of_getElem? hkid
          have HKID := Lib.hid hkid
          obtain ⟨b0, o0, hrb, K4⟩ := A.kid k kid hkid
          have hsub := A.sub k kid hkid
          dsimp only at hrb
          subst hrb
          have hbel := HR2.out.2.1.bel
          have q0 : wr.cell? ⟨b0, o0 + k * 4, none⟩ = some (.int .i64 kid.op) := (Ext.mk wr hbel).cell K4.c0
          have q1 : wr.cell? ⟨b0, o0 + k * 4 + 1, none⟩ = some (.int .i64 kid.n) := (Ext.mk wr hbel).cell K4.c1
          have q2 : wr.cell? ⟨b0, o0 + k * 4 + 2, none⟩ = some (.slice (kr k).a kid.ty.length (kr k).c) := (Ext.mk wr hbel).cell K4.c2
          have q3 : wr.cell? ⟨b0, o0 + k * 4 + 3, none⟩ = some (.slice (kr k).b kid.kids.length (kr k).d) := (Ext.mk wr hbel).cell K4.c3
          clear K4 hkid hbel
          go_wp2_with fail
          clear q0 q1 q2 q3
          -- the kid's box
          have rp := HR2.out.2.1
          have hlen : lk.length + kid.sz ≤ 1000 := by
            have h1 := congrArg List.length HR2.out.1
            rw [List.length_append] at h1
            have h2 := Tm.redsL_len p (t.kids.take k) 0 (fun u _ q => u.reds_len q)
            have h3 := Tm.szL_take_succ HKID.out
            have h4 := Tm.szL_take_le t.kids (k + 1)
            omega
          have hksz : kid.sz + 1 ≤ t.sz := Tm.sz_kid hmem
          generalize hW5 : wr.alloc _ = W5
          have bD := new_blk hW5
          obtain ⟨y5, hy5⟩ : ∃ y : Ext wr, y.w = W5 := ⟨(Ext.self wr).alloc _, hW5⟩
          have hDW : wr.heap.size < W5.heap.size := by rw [← hW5]; simp
          clear hW5
          have hDb : ¬ Blk a' lk.length hd' wr.heap.size := fun e => by have := (rp.blt e).2; omega
          have hDp : ob pa ≠ some wr.heap.size := fun e => by have := (rp.plt e).2; omega
          have SIZ : Hid (W1.heap.size ≤ wr.heap.size) := HR2.out.2.2.1.1
          have RUP : Hid (∀ (y : Ext W5) {w1 : World} {pa' : Option Addr} {pc' : Nat}, w1.ownsRow Y.heap.size 3 1 (.slice pa' (p ++ [(k : Int)]).length pc') (p ++ [(k : Int)]).length ((p ++ [(k : Int)]).map (Value.int .i64)) → y.w.grownBy w1 (ob pa) → ((pa' = pa ∧ pc' = pc) ∨ (ob pa' = some y.w.heap.size ∧ ∃ z : Ext y.w, w1 = z.w)) → RP Y w1 a' c' lk hd' pa' pc' (p ++ [(k : Int)]) ∧ ∀ {w2 : World} {a2 : Option Addr} {c2 : Nat} {l2 : List (List Int)} {hd2 : Nat → Option Addr × Nat}, RP Y w2 a2 c2 l2 hd2 pa' pc' (p ++ [(k : Int)]) → Fr w1 w2 a' lk.length hd' pa' → (∀ g, Blk a2 l2.length hd2 g → Blk a' lk.length hd' g ∨ w1.heap.size ≤ g) → RP Y w2 a2 c2 l2 hd2 pa pc p ∧ Fr wr w2 a' lk.length hd' pa ∧ ∀ g, Blk a2 l2.length hd2 g → Blk a' lk.length hd' g ∨ wr.heap.size ≤ g) := by
            rw [← hy5]
            intro y w1 pa' pc' own gr hat
            have d := rp.down (y5.trans y) own gr hat
            exact ⟨d.1, fun h2 fr hb => rp.up (y5.trans y) gr hat h2 fr hb d.2⟩
          have OWN : Hid (∀ w', (∃ y : Ext W5, w' = y.w) → w'.ownsRow Y.heap.size 3 1 (.slice pa p.length pc) p.length (p.map (Value.int .i64)) ∧ Y.heap.size ≤ w'.heap.size) := by
            rw [← hy5]
            rintro w' ⟨y, rfl⟩
            exact ⟨owns_ext (owns_ext rp.own y5) y, Nat.le_trans rp.bel.size (Nat.le_trans y5.size y.size)⟩
          clear hy5 y5 rp
          generalize wr.heap.size = D at *
          have KEEP : Hid (∀ w' : World, w'.heap[D]? = some (.cells #[.int .i64 kid.op, .int .i64 kid.n, .slice (kr k).a kid.ty.length (kr k).c, .slice (kr k).b kid.kids.length (kr k).d] 29 (0, 0)) → w'.cell? ⟨D, 0, none⟩ = some (.int .i64 kid.op) ∧ w'.cell? ⟨D, 1, none⟩ = some (.int .i64 kid.n) ∧ w'.cell? ⟨D, 2, none⟩ = some (.slice (kr k).a kid.ty.length (kr k).c) ∧ w'.cell? ⟨D, 3, none⟩ = some (.slice (kr k).b kid.kids.length (kr k).d)) := fun w' b => ⟨blk_cell b 0, blk_cell b 1, blk_cell b 2, blk_cell b 3⟩
          have okk : OkT size closed (vars + addsO t.op k) kid := OK.out.kid HKID.out
          have HOKK := Lib.hid okk
          have hplen : (p ++ [(k : Int)]).length = p.length + 1 := by simp
          have hpl : p.length ≤ 1000 := by omega
          clear okk
          go_region_held3 (fun w' => w'.cell? ⟨D, 0, none⟩ = some (.int .i64 kid.op) ∧ w'.cell? ⟨D, 1, none⟩ = some (.int .i64 kid.n) ∧ w'.cell? ⟨D, 2, none⟩ = some (.slice (kr k).a kid.ty.length (kr k).c) ∧ w'.cell? ⟨D, 3, none⟩ = some (.slice (kr k).b kid.kids.length (kr k).d)) ((refine KEEP.out _ ?_; (with_reducible (repeat (first | exact bD | exact kD1 | exact kD2 | refine zbl_alloc ?_ _ | refine zbl_drew ?_)))))
            (first
              | (refine step_growp (by rfl) _ _ (by rfl) (by rfl) (OWN.out _ ⟨(Ext.self W5).drew.alloc _, rfl⟩).1 (OWN.out _ ⟨(Ext.self W5).drew.alloc _, rfl⟩).2 hpl rfl (by rfl) (by rfl) (cell_one_at _ _ _ _ rfl) ?_; intro pa' pc' w1 own1 gr1 hat1; have kD1 := (gr1.block D (by exact Nat.lt_of_lt_of_le hDW ((Ext.self W5).drew.alloc _).size) (fun e => hDp e.symm)).trans (zbl_alloc (zbl_drew bD) _); have u1 := RUP.out ((Ext.self W5).drew.alloc _) own1 gr1 hat1; have kp1 : ob pa' ≠ some D := pathNe hDp hat1 (Nat.lt_of_lt_of_le hDW ((Ext.self W5).drew.alloc _).size); have hD1 : D < w1.heap.size := (Array.getElem?_eq_some_iff.1 kD1).1; clear own1 gr1 hat1)
              | (go_at_call 92; have C7 := HI.out kid hmem hsub HOKK.out (by omega) hlen (by rw [hplen]; omega) u1.1; rw [hplen] at C7; refine Calls.mono C7 ?_; clear C7; rintro e w2 ⟨a2, c2, hd2, rfl, rp7, fr7, hb7⟩; have kD2 := (fr7.2 D hD1 hDb kp1).trans kD1))
          have up := u1.2 rp7 fr7 hb7
          clear u1 rp7 fr7 hb7 kD1 kD2 RUP OWN KEEP bD
          go_wp2_with fail
          go_roundw
          case rel =>
            refine ⟨k + 1, a2, c2, lk ++ kid.reds (p ++ [(k : Int)]), hd2, by go_num, by rw [List.length_append], by omega, ?_⟩
            obtain ⟨e1, e2, e3, e4⟩ := HR2.out
            have e5 := Tm.redsL_take_succ p (j := 0) HKID.out
            rw [Nat.zero_add] at e5
            refine ⟨by rw [e1, e5, List.append_assoc], up.1, e3.trans up.2.1 e4, fun g hg => ?_⟩
            rcases up.2.2 g hg with q | q
            · exact e4 g q
            · exact .inr (by have := SIZ.out; omega)
          case measure => simp [intOf]; omega
        · have hke : k = t.kids.length := by omega
          go_wp2_with fail
          go_ret
          refine BACK.out _ _ _ ?_
          obtain ⟨e1, e2, e3, e4⟩ := HR2.out
          rw [hke, List.take_length, ← HRED.out] at e1
          subst e1
          exact ⟨_, _, _, rfl, e2, e3, e4⟩
    · go_upto_region 4 with fail
      generalize hZ : World.alloc _ _ = Z2
      obtain ⟨z2, hz⟩ : ∃ z : Ext W1, z.w = Z2 := ⟨y2.alloc _, hZ⟩
      clear hZ
      rw [← hz]
      clear hz Z2
      have rp4 := rp1.ext z2
      have fr4 : Fr W1 z2.w a ls.length hd pa := Fr.of z2
      have hb4 : ∀ g, Blk a ls.length hd g → Blk a ls.length hd g ∨ W1.heap.size ≤ g := fun g hg => .inl hg
      have HRED : Hid (ls ++ t.reds p = ls ++ Tm.redsL p 0 t.kids) := by
        show _ = _
        rw [Tm.reds_no HR.out p, List.nil_append]
      have hl4 : ls.length + Tm.szL t.kids ≤ 1000 := by omega
      obtain ⟨w4, hw4⟩ : ∃ w4, w4 = z2.w := ⟨_, rfl⟩
      rw [← hw4] at rp4 fr4 ⊢
      clear hw4 z2
      obtain ⟨kr, A⟩ := h.out
      have hlk := A.lk
      have bB4 : w4.heap[B]? = some (.cells #[.int .i64 t.op, .int .i64 t.n, .slice ra t.ty.length rc, .slice rb t.kids.length rd] 29 (0, 0)) := by rw [fr4.2 B hsB hBb hBp]; exact bB
      have m3 := blk_cell bB4 3
      simp at m3
      go_wp2_with fail
      clear m3
      go_loopw [25, 0] (fun i s wr => ∃ (k : Nat) (a' : Option Addr) (c' : Nat) (lk : List (List Int)) (hd' : Nat → Option Addr × Nat), i = .int .i64 k ∧ s = .slice a' lk.length c' ∧ k ≤ t.kids.length ∧ Hid (lk = ls ++ Tm.redsL p 0 (t.kids.take k) ∧ RP Y wr a' c' lk hd' pa pc p ∧ Fr W1 wr a ls.length hd pa ∧ ∀ g, Blk a' lk.length hd' g → Blk a ls.length hd g ∨ W1.heap.size ≤ g)) (fun i _ _ => t.kids.length - (intOf i).toNat)
      case atStart => exact ⟨0, _, _, _, _, rfl, rfl, by omega, ⟨by simp [Tm.redsL], rp4, fr4, hb4⟩⟩
      case round =>
        obtain ⟨k, a', c', lk, hd', rfl, rfl, hk, HR2⟩ := hrel
        by_cases hlt : k < t.kids.length
        · have hlt' : (k : Int) < (t.kids.length : Int) := by omega
          have hk0 : (0 : Int) ≤ (k : Int) := by omega
          obtain ⟨kid, hkid⟩ : ∃ kid, t.kids[k]? = some kid := ⟨_, List.getElem?_eq_getElem hlt⟩
          have hmem : kid ∈ t.kids := List.mem_of_getElem? hkid
          have HKID := Lib.hid hkid
          obtain ⟨b0, o0, hrb, K4⟩ := A.kid k kid hkid
          have hsub := A.sub k kid hkid
          dsimp only at hrb
          subst hrb
          have hbel := HR2.out.2.1.bel
          have q0 : wr.cell? ⟨b0, o0 + k * 4, none⟩ = some (.int .i64 kid.op) := (Ext.mk wr hbel).cell K4.c0
          have q1 : wr.cell? ⟨b0, o0 + k * 4 + 1, none⟩ = some (.int .i64 kid.n) := (Ext.mk wr hbel).cell K4.c1
          have q2 : wr.cell? ⟨b0, o0 + k * 4 + 2, none⟩ = some (.slice (kr k).a kid.ty.length (kr k).c) := (Ext.mk wr hbel).cell K4.c2
          have q3 : wr.cell? ⟨b0, o0 + k * 4 + 3, none⟩ = some (.slice (kr k).b kid.kids.length (kr k).d) := (Ext.mk wr hbel).cell K4.c3
          clear K4 hkid hbel
          go_wp2_with fail
          clear q0 q1 q2 q3
          -- the kid's box
          have rp := HR2.out.2.1
          have hlen : lk.length + kid.sz ≤ 1000 := by
            have h1 := congrArg List.length HR2.out.1
            rw [List.length_append] at h1
            have h2 := Tm.redsL_len p (t.kids.take k) 0 (fun u _ q => u.reds_len q)
            have h3 := Tm.szL_take_succ HKID.out
            have h4 := Tm.szL_take_le t.kids (k + 1)
            omega
          have hksz : kid.sz + 1 ≤ t.sz := Tm.sz_kid hmem
          generalize hW5 : wr.alloc _ = W5
          have bD := new_blk hW5
          obtain ⟨y5, hy5⟩ : ∃ y : Ext wr, y.w = W5 := ⟨(Ext.self wr).alloc _, hW5⟩
          have hDW : wr.heap.size < W5.heap.size := by rw [← hW5]; simp
          clear hW5
          have hDb : ¬ Blk a' lk.length hd' wr.heap.size := fun e => by have := (rp.blt e).2; omega
          have hDp : ob pa ≠ some wr.heap.size := fun e => by have := (rp.plt e).2; omega
          have SIZ : Hid (W1.heap.size ≤ wr.heap.size) := HR2.out.2.2.1.1
          have RUP : Hid (∀ (y : Ext W5) {w1 : World} {pa' : Option Addr} {pc' : Nat}, w1.ownsRow Y.heap.size 3 1 (.slice pa' (p ++ [(k : Int)]).length pc') (p ++ [(k : Int)]).length ((p ++ [(k : Int)]).map (Value.int .i64)) → y.w.grownBy w1 (ob pa) → ((pa' = pa ∧ pc' = pc) ∨ (ob pa' = some y.w.heap.size ∧ ∃ z : Ext y.w, w1 = z.w)) → RP Y w1 a' c' lk hd' pa' pc' (p ++ [(k : Int)]) ∧ ∀ {w2 : World} {a2 : Option Addr} {c2 : Nat} {l2 : List (List Int)} {hd2 : Nat → Option Addr × Nat}, RP Y w2 a2 c2 l2 hd2 pa' pc' (p ++ [(k : Int)]) → Fr w1 w2 a' lk.length hd' pa' → (∀ g, Blk a2 l2.length hd2 g → Blk a' lk.length hd' g ∨ w1.heap.size ≤ g) → RP Y w2 a2 c2 l2 hd2 pa pc p ∧ Fr wr w2 a' lk.length hd' pa ∧ ∀ g, Blk a2 l2.length hd2 g → Blk a' lk.length hd' g ∨ wr.heap.size ≤ g) := by
            rw [← hy5]
            intro y w1 pa' pc' own gr hat
            have d := rp.down (y5.trans y) own gr hat
            exact ⟨d.1, fun h2 fr hb => rp.up (y5.trans y) gr hat h2 fr hb d.2⟩
          have OWN : Hid (∀ w', (∃ y : Ext W5, w' = y.w) → w'.ownsRow Y.heap.size 3 1 (.slice pa p.length pc) p.length (p.map (Value.int .i64)) ∧ Y.heap.size ≤ w'.heap.size) := by
            rw [← hy5]
            rintro w' ⟨y, rfl⟩
            exact ⟨owns_ext (owns_ext rp.own y5) y, Nat.le_trans rp.bel.size (Nat.le_trans y5.size y.size)⟩
          clear hy5 y5 rp
          generalize wr.heap.size = D at *
          have KEEP : Hid (∀ w' : World, w'.heap[D]? = some (.cells #[.int .i64 kid.op, .int .i64 kid.n, .slice (kr k).a kid.ty.length (kr k).c, .slice (kr k).b kid.kids.length (kr k).d] 29 (0, 0)) → w'.cell? ⟨D, 0, none⟩ = some (.int .i64 kid.op) ∧ w'.cell? ⟨D, 1, none⟩ = some (.int .i64 kid.n) ∧ w'.cell? ⟨D, 2, none⟩ = some (.slice (kr k).a kid.ty.length (kr k).c) ∧ w'.cell? ⟨D, 3, none⟩ = some (.slice (kr k).b kid.kids.length (kr k).d)) := fun w' b => ⟨blk_cell b 0, blk_cell b 1, blk_cell b 2, blk_cell b 3⟩
          have okk : OkT size closed (vars + addsO t.op k) kid := OK.out.kid HKID.out
          have HOKK := Lib.hid okk
          have hplen : (p ++ [(k : Int)]).length = p.length + 1 := by simp
          have hpl : p.length ≤ 1000 := by omega
          clear okk
          go_region_held3 (fun w' => w'.cell? ⟨D, 0, none⟩ = some (.int .i64 kid.op) ∧ w'.cell? ⟨D, 1, none⟩ = some (.int .i64 kid.n) ∧ w'.cell? ⟨D, 2, none⟩ = some (.slice (kr k).a kid.ty.length (kr k).c) ∧ w'.cell? ⟨D, 3, none⟩ = some (.slice (kr k).b kid.kids.length (kr k).d)) ((refine KEEP.out _ ?_; (with_reducible (repeat (first | exact bD | exact kD1 | exact kD2 | refine zbl_alloc ?_ _ | refine zbl_drew ?_)))))
            (first
              | (refine step_growp (by rfl) _ _ (by rfl) (by rfl) (OWN.out _ ⟨(Ext.self W5).drew.alloc _, rfl⟩).1 (OWN.out _ ⟨(Ext.self W5).drew.alloc _, rfl⟩).2 hpl rfl (by rfl) (by rfl) (cell_one_at _ _ _ _ rfl) ?_; intro pa' pc' w1 own1 gr1 hat1; have kD1 := (gr1.block D (by exact Nat.lt_of_lt_of_le hDW ((Ext.self W5).drew.alloc _).size) (fun e => hDp e.symm)).trans (zbl_alloc (zbl_drew bD) _); have u1 := RUP.out ((Ext.self W5).drew.alloc _) own1 gr1 hat1; have kp1 : ob pa' ≠ some D := pathNe hDp hat1 (Nat.lt_of_lt_of_le hDW ((Ext.self W5).drew.alloc _).size); have hD1 : D < w1.heap.size := (Array.getElem?_eq_some_iff.1 kD1).1; clear own1 gr1 hat1)
              | (go_at_call 92; have C7 := HI.out kid hmem hsub HOKK.out (by omega) hlen (by rw [hplen]; omega) u1.1; rw [hplen] at C7; refine Calls.mono C7 ?_; clear C7; rintro e w2 ⟨a2, c2, hd2, rfl, rp7, fr7, hb7⟩; have kD2 := (fr7.2 D hD1 hDb kp1).trans kD1))
          have up := u1.2 rp7 fr7 hb7
          clear u1 rp7 fr7 hb7 kD1 kD2 RUP OWN KEEP bD
          go_wp2_with fail
          go_roundw
          case rel =>
            refine ⟨k + 1, a2, c2, lk ++ kid.reds (p ++ [(k : Int)]), hd2, by go_num, by rw [List.length_append], by omega, ?_⟩
            obtain ⟨e1, e2, e3, e4⟩ := HR2.out
            have e5 := Tm.redsL_take_succ p (j := 0) HKID.out
            rw [Nat.zero_add] at e5
            refine ⟨by rw [e1, e5, List.append_assoc], up.1, e3.trans up.2.1 e4, fun g hg => ?_⟩
            rcases up.2.2 g hg with q | q
            · exact e4 g q
            · exact .inr (by have := SIZ.out; omega)
          case measure => simp [intOf]; omega
        · have hke : k = t.kids.length := by omega
          go_wp2_with fail
          go_ret
          refine BACK.out _ _ _ ?_
          obtain ⟨e1, e2, e3, e4⟩ := HR2.out
          rw [hke, List.take_length, ← HRED.out] at e1
          subst e1
          exact ⟨_, _, _, rfl, e2, e3, e4⟩

end Go.Proofs.YtncfbljablbglaaDoor
