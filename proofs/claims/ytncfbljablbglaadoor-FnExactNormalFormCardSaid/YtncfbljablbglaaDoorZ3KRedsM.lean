/- The model's paths to redexes. -/
import Derived.Test.YtncfbljablbglaaDoorZ3GX9
import Derived.Test.YtncfbljablbglaaDoorZ3GXB
import Derived.Test.YtncfbljablbglaaDoorZ3GQ
import Derived.Test.YtncfbljablbglaaDoorZ3KKidsM
set_option linter.unusedVariables false
set_option linter.unusedSimpArgs false
namespace Go.Proofs.YtncfbljablbglaaDoor
open Go.RowKit

/-- Lists gathered in a row of their own that is never nil. -/
def LsS (W : World) (ls : List (List Int)) : Ending → World → Prop := fun e w' => ∃ (a : Addr) (c : Nat) (hd : Nat → Option Addr × Nat), e = .returned (.slice (some a) ls.length c) ∧ GrowL W w' (some a) c (hds ls hd) ls hd
theorem LsS.newLs {W : World} {ls : List (List Int)} {e : Ending} {w' : World} (h : LsS W ls e w') : NewLs W ls e w' := by
  obtain ⟨a, c, hd, rfl, g⟩ := h
  exact g.newLs
theorem LsS.val {W : World} {ls : List (List Int)} {e : Ending} {w' : World} (h : LsS W ls e w') : ∃ (a : Addr) (c : Nat), e = .returned (.slice (some a) ls.length c) := by
  obtain ⟨a, c, hd, rfl, g⟩ := h
  exact ⟨a, c, rfl⟩
theorem LsS.lift {W W1 : World} (y1 : Ext W) (hW : W1 = y1.w) {ls : List (List Int)} {e : Ending} {w' : World} (h : LsS W1 ls e w') : LsS W ls e w' := by
  obtain ⟨a, c, hd, rfl, g⟩ := h
  subst hW
  have hs := y1.size
  exact ⟨a, c, hd, rfl, ⟨owns_lower g.own hs, fun i l hi => owns_lower (g.sub i l hi) hs, g.dj, g.da, y1.below.trans (g.bel.mono hs)⟩⟩
theorem grown_ext {U u w' : World} (h : Below U.heap.size U u) {b : Option Addr} (gr : u.grownBy w' (ob b)) (hb : ∀ g, ob b = some g → U.heap.size ≤ g) : Below U.heap.size U w' := h.grown gr h.size hb
/-- The blocks of lists. -/
def Blk2 (a : Option Addr) (n : Nat) (hd : Nat → Option Addr × Nat) (g : Nat) : Prop := ob a = some g ∨ ∃ i : Nat, i < n ∧ ob (hd i).1 = some g
theorem kid_lists {W U w2 : World} {a : Option Addr} {c : Nat} {lk l2 : List (List Int)} {hd hd2 : Nat → Option Addr × Nat} (g : GrowL W U a c (hds lk hd) lk hd) (b2 : Below U.heap.size U w2) {a2 : Addr} {c2 : Nat} {w1 : World} (b1 : Below U.heap.size U w1) (g2 : GrowL w1 w2 (some a2) c2 (hds l2 hd2) l2 hd2) :
    GrowL W w2 a c (hds lk hd) (lk ++ l2) (cat hd lk.length hd2) ∧ ∀ j v, (hds l2 hd2)[j]? = some v → w2.cell? (a2.add j) = some v := by
  obtain ⟨a3, c3, hd3, B3, y3, e3, hy3, own, hlo⟩ := g2.newLs
  have hs := b1.size
  refine ⟨?_, ?_⟩
  · have own2 : LsOwn w2 (some a2) c2 l2 hd2 (Blk2 (some a2) l2.length hd2) := ⟨by have := g2.own; rw [hds_len] at this; exact owns_lower this (Nat.zero_le _), fun i l hi => owns_lower (g2.sub i l hi) (Nat.zero_le _), g2.dj, g2.da, fun _ => Iff.rfl⟩
    exact g.more ⟨w2, b2⟩ own2 fun q hq => by
      rcases hq with e | ⟨i, hi, e⟩
      · have := (g2.lta e).1; omega
      · have := (g2.lt hi e).1; omega
  · have h1 := g2.own
    rcases h1.2 with ⟨e, _⟩ | ⟨q, cap, cur, e, _⟩
    · cases e
    · cases e
      exact h1.cells (g := q) rfl

theorem own_ge {U w0 w : World} {e : TypeId} {size n c : Nat} {a : Option Addr} {xs : List Value} (b : Below U.heap.size U w0) (own : w.ownsRow w0.heap.size e size (.slice a n c) n xs) : ∀ g, ob a = some g → U.heap.size ≤ g := fun g e => Nat.le_trans b.size (own.lt g (by rw [ob_eq]; exact e)).1
theorem drew_one (w : World) (x : Value) (t : TypeId) : ∀ j u, [x][j]? = some u → (w.alloc (.cells #[x] t)).drew.cell? ((⟨w.heap.size, 0, none⟩ : Addr).add j) = some u := fun j u h => (Ext.self (w.alloc (.cells #[x] t))).drew.cell (cell_one_at w x t _ rfl j u h)
theorem growNe {B n : Nat} {a : Option Addr} {a' : Addr} (h : ob a ≠ some B) (hat : ob (some a') = ob a ∨ ob (some a') = some n) (hB : B < n) : ob (some a') ≠ some B := by
  intro e
  rcases hat with q | q
  · rw [q] at e; exact h e
  · rw [q] at e
    cases e
    omega

set_option maxRecDepth 100000 in
set_option maxHeartbeats 16000000 in
theorem l4Paths_ans (t : Tm) : ∀ {W : World} {lo : Nat} {r : TV} (_ : TmIn W lo t r) {size vars : Int} {closed : Bool} (_ : OkT size closed vars t) (_ : t.sz ≤ 1000) {p : List Int} {pa : Option Addr} {pc : Nat} (_ : Row W (Value.int .i64) pa p) (_ : p.length + t.sz ≤ 1000) (x : Ext W),
    Calls Tryd.prog 66 #[r.val t, .slice pa p.length pc] x.w (LsS W (t.reds p)) := by
  induction t using Tm.ind with
  | h t ih =>
    intro W lo r h size vars closed ok hsz p pa pc hr hp x
    have HI := Lib.hid ih
    clear ih
    have hsp := t.sz_eq
    have sh := ok.shape
    have OK := Lib.hid ok
    clear ok
    obtain ⟨xx, hxx⟩ : ∃ y : Ext W, x = y := ⟨x, rfl⟩
    rw [hxx]
    clear hxx x
    obtain ⟨ra, rc, rb, rd⟩ := r
    unfold TV.val
    go_enter Tryd.func66, Tryd.ntmps66
    go_upto_region 1 with fail
    have hxW := xx.size
    generalize hWa : xx.w.alloc _ = Wa
    generalize hB : xx.w.heap.size = B at *
    obtain ⟨bA, sA, bel⟩ := blocks1 hB hWa
    have belA : Below W.heap.size W Wa := xx.below.trans (bel.mono (by omega))
    clear hWa bel hB xx
    go_upto_region 2 with fail
    generalize hZ : World.alloc _ _ = W2
    have kp2 : Kp W B (.cells #[.int .i64 t.op, .int .i64 t.n, .slice ra t.ty.length rc, .slice rb t.kids.length rd] 29 (0, 0)) W2 := by rw [← hZ]; exact Kp.alloc ⟨belA, bA⟩ _
    have g2 : GrowL W W2 (some ⟨Wa.heap.size, 0, none⟩) 0 (hds [] (fun _ => (none, 0))) [] (fun _ => (none, 0)) := GrowL.start kp2.1 (by rw [← hZ]; exact World.ownsRow_lit Wa #[] 0 belA.size (by unfold maxLen; omega) (by simp)) _
    have hAB : ob (some (⟨Wa.heap.size, 0, none⟩ : Addr)) ≠ some B := fun e => by have h9 : Wa.heap.size = B := Option.some.inj e; omega
    have hsA : Wa.heap.size = B + 1 := by omega
    rw [hsA] at g2 hAB
    obtain ⟨a2, ha2⟩ : ∃ a : Addr, a = ⟨B + 1, 0, none⟩ := ⟨_, rfl⟩
    rw [← ha2] at g2 hAB ⊢
    obtain ⟨v2, hv2⟩ : ∃ v : Value, v = .slice (some a2) 0 0 := ⟨_, rfl⟩
    rw [← hv2]
    clear hZ bA belA sA hsA ha2
    have HV2 := Lib.hid hv2
    clear hv2
    have c0 := blk_cell kp2.2 0
    have c1 := blk_cell kp2.2 1
    have c2 := blk_cell kp2.2 2
    have c3 := blk_cell kp2.2 3
    simp at c0 c1 c2 c3
    have FIN : Hid (∀ w', Kp W B (.cells #[.int .i64 t.op, .int .i64 t.n, .slice ra t.ty.length rc, .slice rb t.kids.length rd] 29 (0, 0)) w' → w'.cell? ⟨B, 3, none⟩ = some (.slice rb t.kids.length rd)) := fun w' k => by have := blk_cell k.2 3; simpa using this
    obtain ⟨OB, hOB⟩ : ∃ o : Obj, o = .cells #[.int .i64 t.op, .int .i64 t.n, .slice ra t.ty.length rc, .slice rb t.kids.length rd] 29 (0, 0) := ⟨_, rfl⟩
    rw [← hOB] at kp2 FIN
    clear hOB
    have RC : ∀ p : Bool, (p = true ↔ Red t) → Calls Tryd.prog 87 #[TV.val ⟨ra, rc, rb, rd⟩ t] W2 (Ans W2 (.bool p)) := fun p hp => l4Redex_ans (W := W2) (h.ext ⟨W2, kp2.1⟩) sh p hp (Ext.self W2)
    unfold TV.val at RC
    by_cases hred : Red t
    · have RC := RC true (by simpa using hred)
      have HR := Lib.hid hred
      clear hred
      go_wp2_with fail
      refine Calls.mono RC ?_
      clear RC c0 c1 c2 c3
      rintro e w' ⟨rfl, y2, rfl⟩
      have kp3 := kp2.ext y2
      have g3 := g2.ext y2
      have CPY := l1Copy_ans (c := pc) (hr.ext ⟨y2.w, kp3.1⟩) (by omega) (Ext.self y2.w)
      go_wp2_with fail
      refine Calls.mono CPY ?_
      clear CPY
      rintro e w' ⟨v, y3, rfl, rfl, own3⟩
      obtain ⟨b3, d3, rfl, -, -⟩ := owned_row own3
      have g4 := g3.add y3 own3
      have kp4 := kp3.ext y3
      go_upto_region 4 with (at_builtin; refine wpList_growLr rfl (.tmp 10) (.tmp 13) rfl (g4.alloc _) (by simp [hds]) (n := 0) (by simp [hds]) HV2.out (u := .slice b3 p.length d3) rfl rfl (cell_one_at _ _ _ _ rfl) ?_; intro a5 c5 w5 g5 gr5 hat5)
      obtain ⟨q5, rfl, -⟩ := owns_at g5.own (by simp [hds])
      have hl5 : hds [] (fun _ => (none, 0)) ++ [.slice b3 p.length d3] = hds [p] (upd (fun _ => (none, 0)) 0 (b3, d3)) := (hds_snoc [] p (fun _ => (none, 0)) (b3, d3)).symm
      rw [hl5, List.nil_append] at g5
      have kp5 : Kp W B OB w5 := ⟨g5.bel, (gr5.block B (by exact (Array.getElem?_eq_some_iff.1 (kp4.alloc _).2).1) (fun e => hAB e.symm)).trans (kp4.alloc _).2⟩
      have hAB5 : ob (some (⟨q5, 0, none⟩ : Addr)) ≠ some B := fun e => by
        rcases hat5 with q | q
        · rw [q] at e; exact hAB e
        · rw [q] at e
          cases e
          have h1 := (Array.getElem?_eq_some_iff.1 (kp4.alloc (.cells #[.slice b3 p.length d3] 22)).2).1
          omega
      clear gr5 hat5 g4 g3 own3 kp4 kp3 hl5
      have HRED : Hid (t.reds p = [p] ++ Tm.redsL p 0 t.kids) := Tm.reds_yes HR.out p
      generalize (⟨q5, 0, none⟩ : Addr) = a5 at *
      generalize upd (fun _ => ((none : Option Addr), 0)) 0 (b3, d3) = hd5 at *
      obtain ⟨kr, A⟩ := h.out
      have hlk := A.lk
      have RROW : Hid (∀ w', Below W.heap.size W w' → Calls Tryd.prog 64 #[.slice pa p.length pc] w' (NewRow w' 22 3 (Value.int .i64) p)) := fun w' b => l1Copy_ans (hr.ext ⟨w', b⟩) (by omega) (Ext.self w')
      go_wp2_with fail
      go_loopw [6, 5] (fun i s wr => ∃ (k : Nat) (a' : Addr) (c' : Nat) (lk : List (List Int)) (hd' : Nat → Option Addr × Nat), i = .int .i64 k ∧ s = .slice (some a') lk.length c' ∧ k ≤ t.kids.length ∧ Hid (lk = [p] ++ Tm.redsL p 0 (t.kids.take k) ∧ GrowL W wr (some a') c' (hds lk hd') lk hd' ∧ Kp W B OB wr ∧ ob (some a') ≠ some B)) (fun i _ _ => t.kids.length - (intOf i).toNat)
      case atStart => exact ⟨0, _, _, [p], _, rfl, rfl, by omega, ⟨by simp [Tm.redsL], g5, kp5, hAB5⟩⟩
      case round =>
        obtain ⟨k, a', c', lk, hd', rfl, rfl, hk, HR2⟩ := hrel
        have m3 := FIN.out wr HR2.out.2.2.1
        by_cases hlt : k < t.kids.length
        · have hlt' : (k : Int) < (t.kids.length : Int) := by omega
          have hk0 : (0 : Int) ≤ (k : Int) := by omega
          obtain ⟨kid, hkid⟩ : ∃ kid, t.kids[k]? = some kid := ⟨_, List.getElem?_eq_getElem hlt⟩
          have hmem : kid ∈ t.kids := List.mem_of_getElem? hkid
          have HKID := Lib.hid hkid
          obtain ⟨b0, o0, hrb, K4⟩ := A.kid k kid hkid
          have hsub := A.sub k kid hkid
          dsimp only at hrb
          subst hrb
          have hlen : lk.length + kid.sz ≤ 1000 := by
            have h1 := congrArg List.length HR2.out.1
            rw [List.length_append] at h1
            have h2 := Tm.redsL_len p (t.kids.take k) 0 (fun u _ q => u.reds_len q)
            have h3 := Tm.szL_take_succ HKID.out
            have h4 := Tm.szL_take_le t.kids (k + 1)
            have h5 : ([p] : List (List Int)).length ≤ 1 := by simp
            omega
          have hksz : kid.sz + 1 ≤ t.sz := Tm.sz_kid hmem
          have KEEP : Hid (∀ w' : World, Kp W B OB w' → w'.cell? ⟨B, 3, none⟩ = some (.slice (some ⟨b0, o0, none⟩) t.kids.length rd) ∧ w'.cell? ⟨b0, o0 + k * 4, none⟩ = some (.int .i64 kid.op) ∧ w'.cell? ⟨b0, o0 + k * 4 + 1, none⟩ = some (.int .i64 kid.n) ∧ w'.cell? ⟨b0, o0 + k * 4 + 2, none⟩ = some (.slice (kr k).a kid.ty.length (kr k).c) ∧ w'.cell? ⟨b0, o0 + k * 4 + 3, none⟩ = some (.slice (kr k).b kid.kids.length (kr k).d)) := fun w' b => ⟨FIN.out w' b, (Ext.mk w' b.1).cell K4.c0, (Ext.mk w' b.1).cell K4.c1, (Ext.mk w' b.1).cell K4.c2, (Ext.mk w' b.1).cell K4.c3⟩
          have okk : OkT size closed (vars + addsO t.op k) kid := OK.out.kid HKID.out
          have HOKK := Lib.hid okk
          have hplen : (p ++ [(k : Int)]).length = p.length + 1 := by simp
          have hpl : p.length ≤ 1000 := by omega
          have hrl := kid.reds_len (p ++ [(k : Int)])
          have SUB : Hid (∀ {w1 : World}, Below W.heap.size W w1 → ∀ {qa : Option Addr} {qc : Nat}, Row w1 (Value.int .i64) qa (p ++ [(k : Int)]) → Calls Tryd.prog 66 #[(kr k).val kid, .slice qa (p.length + 1) qc] w1 (LsS w1 (kid.reds (p ++ [(k : Int)])))) := fun {w1} b {qa qc} hq => by
            have := HI.out kid hmem (hsub.ext ⟨w1, b⟩) HOKK.out (by omega) (pc := qc) hq (by rw [hplen]; omega) (Ext.self w1)
            rwa [hplen] at this
          unfold TV.val at SUB
          have kp := HR2.out.2.2.1
          have hBw : B < wr.heap.size := (Array.getElem?_eq_some_iff.1 kp.2).1
          have bU : Below wr.heap.size wr wr := Below.refl _ _
          have hWU : W.heap.size ≤ wr.heap.size := kp.1.size
          have HL : Hid (lk.length + kid.sz ≤ 1000) := hlen
          clear K4 hkid okk
          go_wp2_with fail
          clear m3
          go_region_held3 (fun w' => w'.cell? ⟨B, 3, none⟩ = some (.slice (some ⟨b0, o0, none⟩) t.kids.length rd) ∧ w'.cell? ⟨b0, o0 + k * 4, none⟩ = some (.int .i64 kid.op) ∧ w'.cell? ⟨b0, o0 + k * 4 + 1, none⟩ = some (.int .i64 kid.n) ∧ w'.cell? ⟨b0, o0 + k * 4 + 2, none⟩ = some (.slice (kr k).a kid.ty.length (kr k).c) ∧ w'.cell? ⟨b0, o0 + k * 4 + 3, none⟩ = some (.slice (kr k).b kid.kids.length (kr k).d)) ((refine KEEP.out _ ?_; (with_reducible (first | exact kp4 | exact kp2 | exact kp1 | (repeat (first | exact kp | refine Kp.drew ?_ | refine Kp.alloc ?_ _ | refine Kp.ext ?_ _))))))
            (first
              | (go_at_call 64; refine Calls.mono (RROW.out _ (show Kp W B OB _ by (with_reducible (repeat (first | exact kp | refine Kp.drew ?_ | refine Kp.alloc ?_ _)))).1) ?_; rintro e w' ⟨v, yc, rfl, rfl, ownc⟩; obtain ⟨ac, dc, rfl, -, -⟩ := owned_row ownc; have bC : Below wr.heap.size wr yc.w := below_ext (by (with_reducible (repeat (first | exact bU | refine below_drew ?_ | refine below_alloc ?_ _)))) yc; have hac : ∀ g, ob ac = some g → wr.heap.size ≤ g := own_ge (by (with_reducible (repeat (first | exact bU | refine below_drew ?_ | refine below_alloc ?_ _)))) ownc; (first | (have ck : ∀ j u, [Value.int .i64 (k : Int)][j]? = some u → yc.w.cell? ((⟨wr.heap.size, 0, none⟩ : Addr).add j) = some u := fun j u h => yc.cell (drew_one wr _ _ j u h)) | skip))
              | (refine step_growp (by rfl) _ _ (by rfl) (by rfl) (owns_ext ownc ((Ext.self yc.w).alloc _)) (by exact Nat.le_trans yc.size ((Ext.self yc.w).alloc _).size) hpl rfl (by rfl) (by rfl) (cell_one_at _ _ _ _ rfl) ?_; intro qa qc w1 own1 gr1 _; have b1 := grown_ext (below_alloc bC _) gr1 hac; have kp1 : Kp W B OB w1 := ⟨kp.1.trans (b1.mono hWU), (b1.block B hBw).trans kp.2⟩; have row1 := own_row own1; clear own1 gr1)
              | (refine step_growp (by rfl) _ _ (by rfl) (by rfl) ownc yc.size hpl rfl (by rfl) (by rfl) ck ?_; intro qa qc w1 own1 gr1 _; have b1 := grown_ext bC gr1 hac; have kp1 : Kp W B OB w1 := ⟨kp.1.trans (b1.mono hWU), (b1.block B hBw).trans kp.2⟩; have row1 := own_row own1; clear own1 gr1)
              | (go_at_call 66; refine Calls.mono (SUB.out kp1.1 row1) ?_; rintro e w2 ⟨a2, c2, hd2, rfl, g2⟩; have b2 : Below wr.heap.size wr w2 := b1.trans (g2.bel.mono b1.size); have kp2 : Kp W B OB w2 := ⟨kp.1.trans (b2.mono hWU), (b2.block B hBw).trans kp.2⟩; obtain ⟨g3, hc3⟩ := kid_lists HR2.out.2.1 b2 b1 g2)
              | (refine step_growLs (by rfl) _ _ (by rfl) g3 (by rw [hds_len]; have := HL.out; omega) (n := lk.length) (by rw [hds_len]) (by rfl) hds_one (m := (kid.reds (p ++ [(k : Int)])).length) (by rw [hds_len]) (by rw [hds_len]; omega) (by rfl) hc3 (fun _ _ _ _ _ e => by cases e) ?_; intro a4 c4 w4 g4 gr4 hat4; have kp4 : Kp W B OB w4 := ⟨g4.bel, (gr4.block B (by exact (Array.getElem?_eq_some_iff.1 kp2.2).1) (fun e => HR2.out.2.2.2 e.symm)).trans kp2.2⟩; have hAB4 : ob (some a4) ≠ some B := growNe HR2.out.2.2.2 hat4 (Array.getElem?_eq_some_iff.1 kp2.2).1)
              | fail)
          all_goals (
            rw [← hds_cat] at g4
            clear g3 hc3 gr4 hat4 kp2 b2 b1 row1 kp1 hac bC ownc
            go_wp2_with fail
            go_roundw
            case rel =>
              refine ⟨k + 1, a4, c4, lk ++ kid.reds (p ++ [(k : Int)]), cat hd' lk.length hd2, by go_num, by rw [List.length_append], by omega, ?_⟩
              obtain ⟨e1, -, -, -⟩ := HR2.out
              have e5 := Tm.redsL_take_succ p (j := 0) HKID.out
              rw [Nat.zero_add] at e5
              exact ⟨by rw [e1, e5, List.append_assoc], g4, kp4, hAB4⟩
            case measure => simp [intOf]; omega)
        · have hke : k = t.kids.length := by omega
          go_wp2_with fail
          go_ret
          obtain ⟨e1, e2, -, -⟩ := HR2.out
          rw [hke, List.take_length, ← HRED.out] at e1
          subst e1
          exact ⟨_, _, _, rfl, e2⟩
    · have RC := RC false (by simpa using hred)
      have HR := Lib.hid hred
      clear hred
      go_wp2_with fail
      refine Calls.mono RC ?_
      clear RC c0 c1 c2 c3
      rintro e w' ⟨rfl, y2, rfl⟩
      rw [HV2.out]
      have kp5 := kp2.ext y2
      have g5 := g2.ext y2
      have HRED : Hid (t.reds p = [] ++ Tm.redsL p 0 t.kids) := Tm.reds_no HR.out p
      obtain ⟨kr, A⟩ := h.out
      have hlk := A.lk
      have RROW : Hid (∀ w', Below W.heap.size W w' → Calls Tryd.prog 64 #[.slice pa p.length pc] w' (NewRow w' 22 3 (Value.int .i64) p)) := fun w' b => l1Copy_ans (hr.ext ⟨w', b⟩) (by omega) (Ext.self w')
      obtain ⟨w5, hw5⟩ : ∃ w, w = y2.w := ⟨_, rfl⟩
      rw [← hw5] at kp5 g5 ⊢
      clear hw5
      go_wp2_with fail
      go_loopw [6, 5] (fun i s wr => ∃ (k : Nat) (a' : Addr) (c' : Nat) (lk : List (List Int)) (hd' : Nat → Option Addr × Nat), i = .int .i64 k ∧ s = .slice (some a') lk.length c' ∧ k ≤ t.kids.length ∧ Hid (lk = [] ++ Tm.redsL p 0 (t.kids.take k) ∧ GrowL W wr (some a') c' (hds lk hd') lk hd' ∧ Kp W B OB wr ∧ ob (some a') ≠ some B)) (fun i _ _ => t.kids.length - (intOf i).toNat)
      case atStart => exact ⟨0, _, _, [], _, rfl, rfl, by omega, ⟨by simp [Tm.redsL], g5, kp5, hAB⟩⟩
      case round =>
        obtain ⟨k, a', c', lk, hd', rfl, rfl, hk, HR2⟩ := hrel
        have m3 := FIN.out wr HR2.out.2.2.1
        by_cases hlt : k < t.kids.length
        · have hlt' : (k : Int) < (t.kids.length : Int) := by omega
          have hk0 : (0 : Int) ≤ (k : Int) := by omega
          obtain ⟨kid, hkid⟩ : ∃ kid, t.kids[k]? = some kid := ⟨_, List.getElem?_eq_getElem hlt⟩
          have hmem : kid ∈ t.kids := List.mem_of_getElem? hkid
          have HKID := Lib.hid hkid
          obtain ⟨b0, o0, hrb, K4⟩ := A.kid k kid hkid
          have hsub := A.sub k kid hkid
          dsimp only at hrb
          subst hrb
          have hlen : lk.length + kid.sz ≤ 1000 := by
            have h1 := congrArg List.length HR2.out.1
            rw [List.length_append] at h1
            have h2 := Tm.redsL_len p (t.kids.take k) 0 (fun u _ q => u.reds_len q)
            have h3 := Tm.szL_take_succ HKID.out
            have h4 := Tm.szL_take_le t.kids (k + 1)
            have h5 : ([] : List (List Int)).length ≤ 1 := by simp
            omega
          have hksz : kid.sz + 1 ≤ t.sz := Tm.sz_kid hmem
          have KEEP : Hid (∀ w' : World, Kp W B OB w' → w'.cell? ⟨B, 3, none⟩ = some (.slice (some ⟨b0, o0, none⟩) t.kids.length rd) ∧ w'.cell? ⟨b0, o0 + k * 4, none⟩ = some (.int .i64 kid.op) ∧ w'.cell? ⟨b0, o0 + k * 4 + 1, none⟩ = some (.int .i64 kid.n) ∧ w'.cell? ⟨b0, o0 + k * 4 + 2, none⟩ = some (.slice (kr k).a kid.ty.length (kr k).c) ∧ w'.cell? ⟨b0, o0 + k * 4 + 3, none⟩ = some (.slice (kr k).b kid.kids.length (kr k).d)) := fun w' b => ⟨FIN.out w' b, (Ext.mk w' b.1).cell K4.c0, (Ext.mk w' b.1).cell K4.c1, (Ext.mk w' b.1).cell K4.c2, (Ext.mk w' b.1).cell K4.c3⟩
          have okk : OkT size closed (vars + addsO t.op k) kid := OK.out.kid HKID.out
          have HOKK := Lib.hid okk
          have hplen : (p ++ [(k : Int)]).length = p.length + 1 := by simp
          have hpl : p.length ≤ 1000 := by omega
          have hrl := kid.reds_len (p ++ [(k : Int)])
          have SUB : Hid (∀ {w1 : World}, Below W.heap.size W w1 → ∀ {qa : Option Addr} {qc : Nat}, Row w1 (Value.int .i64) qa (p ++ [(k : Int)]) → Calls Tryd.prog 66 #[(kr k).val kid, .slice qa (p.length + 1) qc] w1 (LsS w1 (kid.reds (p ++ [(k : Int)])))) := fun {w1} b {qa qc} hq => by
            have := HI.out kid hmem (hsub.ext ⟨w1, b⟩) HOKK.out (by omega) (pc := qc) hq (by rw [hplen]; omega) (Ext.self w1)
            rwa [hplen] at this
          unfold TV.val at SUB
          have kp := HR2.out.2.2.1
          have hBw : B < wr.heap.size := (Array.getElem?_eq_some_iff.1 kp.2).1
          have bU : Below wr.heap.size wr wr := Below.refl _ _
          have hWU : W.heap.size ≤ wr.heap.size := kp.1.size
          have HL : Hid (lk.length + kid.sz ≤ 1000) := hlen
          clear K4 hkid okk
          go_wp2_with fail
          clear m3
          go_region_held3 (fun w' => w'.cell? ⟨B, 3, none⟩ = some (.slice (some ⟨b0, o0, none⟩) t.kids.length rd) ∧ w'.cell? ⟨b0, o0 + k * 4, none⟩ = some (.int .i64 kid.op) ∧ w'.cell? ⟨b0, o0 + k * 4 + 1, none⟩ = some (.int .i64 kid.n) ∧ w'.cell? ⟨b0, o0 + k * 4 + 2, none⟩ = some (.slice (kr k).a kid.ty.length (kr k).c) ∧ w'.cell? ⟨b0, o0 + k * 4 + 3, none⟩ = some (.slice (kr k).b kid.kids.length (kr k).d)) ((refine KEEP.out _ ?_; (with_reducible (first | exact kp4 | exact kp2 | exact kp1 | (repeat (first | exact kp | refine Kp.drew ?_ | refine Kp.alloc ?_ _ | refine Kp.ext ?_ _))))))
            (first
              | (go_at_call 64; refine Calls.mono (RROW.out _ (show Kp W B OB _ by (with_reducible (repeat (first | exact kp | refine Kp.drew ?_ | refine Kp.alloc ?_ _)))).1) ?_; rintro e w' ⟨v, yc, rfl, rfl, ownc⟩; obtain ⟨ac, dc, rfl, -, -⟩ := owned_row ownc; have bC : Below wr.heap.size wr yc.w := below_ext (by (with_reducible (repeat (first | exact bU | refine below_drew ?_ | refine below_alloc ?_ _)))) yc; have hac : ∀ g, ob ac = some g → wr.heap.size ≤ g := own_ge (by (with_reducible (repeat (first | exact bU | refine below_drew ?_ | refine below_alloc ?_ _)))) ownc; (first | (have ck : ∀ j u, [Value.int .i64 (k : Int)][j]? = some u → yc.w.cell? ((⟨wr.heap.size, 0, none⟩ : Addr).add j) = some u := fun j u h => yc.cell (drew_one wr _ _ j u h)) | skip))
              | (refine step_growp (by rfl) _ _ (by rfl) (by rfl) (owns_ext ownc ((Ext.self yc.w).alloc _)) (by exact Nat.le_trans yc.size ((Ext.self yc.w).alloc _).size) hpl rfl (by rfl) (by rfl) (cell_one_at _ _ _ _ rfl) ?_; intro qa qc w1 own1 gr1 _; have b1 := grown_ext (below_alloc bC _) gr1 hac; have kp1 : Kp W B OB w1 := ⟨kp.1.trans (b1.mono hWU), (b1.block B hBw).trans kp.2⟩; have row1 := own_row own1; clear own1 gr1)
              | (refine step_growp (by rfl) _ _ (by rfl) (by rfl) ownc yc.size hpl rfl (by rfl) (by rfl) ck ?_; intro qa qc w1 own1 gr1 _; have b1 := grown_ext bC gr1 hac; have kp1 : Kp W B OB w1 := ⟨kp.1.trans (b1.mono hWU), (b1.block B hBw).trans kp.2⟩; have row1 := own_row own1; clear own1 gr1)
              | (go_at_call 66; refine Calls.mono (SUB.out kp1.1 row1) ?_; rintro e w2 ⟨a2, c2, hd2, rfl, g2⟩; have b2 : Below wr.heap.size wr w2 := b1.trans (g2.bel.mono b1.size); have kp2 : Kp W B OB w2 := ⟨kp.1.trans (b2.mono hWU), (b2.block B hBw).trans kp.2⟩; obtain ⟨g3, hc3⟩ := kid_lists HR2.out.2.1 b2 b1 g2)
              | (refine step_growLs (by rfl) _ _ (by rfl) g3 (by rw [hds_len]; have := HL.out; omega) (n := lk.length) (by rw [hds_len]) (by rfl) hds_one (m := (kid.reds (p ++ [(k : Int)])).length) (by rw [hds_len]) (by rw [hds_len]; omega) (by rfl) hc3 (fun _ _ _ _ _ e => by cases e) ?_; intro a4 c4 w4 g4 gr4 hat4; have kp4 : Kp W B OB w4 := ⟨g4.bel, (gr4.block B (by exact (Array.getElem?_eq_some_iff.1 kp2.2).1) (fun e => HR2.out.2.2.2 e.symm)).trans kp2.2⟩; have hAB4 : ob (some a4) ≠ some B := growNe HR2.out.2.2.2 hat4 (Array.getElem?_eq_some_iff.1 kp2.2).1)
              | fail)
          all_goals (
            rw [← hds_cat] at g4
            clear g3 hc3 gr4 hat4 kp2 b2 b1 row1 kp1 hac bC ownc
            go_wp2_with fail
            go_roundw
            case rel =>
              refine ⟨k + 1, a4, c4, lk ++ kid.reds (p ++ [(k : Int)]), cat hd' lk.length hd2, by go_num, by rw [List.length_append], by omega, ?_⟩
              obtain ⟨e1, -, -, -⟩ := HR2.out
              have e5 := Tm.redsL_take_succ p (j := 0) HKID.out
              rw [Nat.zero_add] at e5
              exact ⟨by rw [e1, e5, List.append_assoc], g4, kp4, hAB4⟩
            case measure => simp [intOf]; omega)
        · have hke : k = t.kids.length := by omega
          go_wp2_with fail
          go_ret
          obtain ⟨e1, e2, -, -⟩ := HR2.out
          rw [hke, List.take_length, ← HRED.out] at e1
          subst e1
          exact ⟨_, _, _, rfl, e2⟩

end Go.Proofs.YtncfbljablbglaaDoor
