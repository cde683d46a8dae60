
/- The draws' spoilt systems. -/
import Derived.Test.YtkokmpdmmfghhaaKDrawS
import Derived.Deep.RegionHeld3
import Derived.Deep.Cut
import Derived.RegionTactic
namespace Go.Proofs.Ytkokmpdmmfghhaa
open Go.RowKit

/-- A cell behind a store. -/
theorem cell_set {w w' : World} {p a : Addr} {u v : Value} (hw : w.setCell p v = w') (hp : w.cell? p = some u) (hps : p.spot = none) (has : a.spot = none) : w'.cell? a = if a.block = p.block ∧ a.off = p.off then some v else w.cell? a := by
  obtain ⟨pb, po, ps⟩ := p
  obtain ⟨ab, ao, asp⟩ := a
  simp only at hps has
  subst hps; subst has; subst hw
  by_cases e : ab = pb ∧ ao = po
  · obtain ⟨rfl, rfl⟩ := e
    rw [if_pos ⟨rfl, rfl⟩]
    exact World.cell?_setCell_same' _ _ _ (by rw [hp]; rfl)
  · rw [if_neg e]
    apply World.cell?_setCell_other
    intro q
    cases q
    exact e ⟨rfl, rfl⟩
/-- Numbers stay numbers where a number is stored. -/
theorem row_after_int {w w' : World} {b o : Nat} {u v : Int} {a : Option Addr} {l : List Int} (h : Row w (Value.int .i64) a l) (hp : w.cell? ⟨b, o, none⟩ = some (.int .i64 u)) (hw : w.setCell ⟨b, o, none⟩ (.int .i64 v) = w') : ∃ l', l'.length = l.length ∧ Row w' (Value.int .i64) a l' := by
  rcases h with rfl | ⟨b', o', rfl, hc⟩
  · exact ⟨[], rfl, .inl rfl⟩
  · refine ⟨(List.range l.length).map fun i => if b' = b ∧ o' + i = o then v else l.getD i 0, by simp, .inr ⟨b', o', rfl, fun i x hx => ?_⟩⟩
    have hi : i < l.length := by have := (List.getElem?_eq_some_iff.1 hx).1; simpa using this
    simp [hi] at hx
    rw [cell_set hw hp rfl rfl]
    simp only
    have hci := hc i l[i] (List.getElem?_eq_getElem hi)
    by_cases e : b' = b ∧ o' + i = o
    · rw [if_pos e] at hx ⊢
      rw [hx]
    · rw [if_neg e] at hx ⊢
      rw [hci, ← hx]
theorem row_after_other {α : Type} {mk : α → Value} {w w' : World} {b o : Nat} {u v : Value} {a : Option Addr} {l : List α} (h : Row w mk a l) (hp : w.cell? ⟨b, o, none⟩ = some u) (hne : ∀ x, mk x ≠ u) (hw : w.setCell ⟨b, o, none⟩ v = w') : Row w' mk a l := by
  rcases h with rfl | ⟨b', o', rfl, hc⟩
  · exact .inl rfl
  · refine .inr ⟨b', o', rfl, fun i x hx => ?_⟩
    rw [cell_set hw hp rfl rfl]
    have hci := hc i x hx
    simp only
    rw [if_neg, hci]
    rintro ⟨rfl, rfl⟩
    rw [hci] at hp
    cases hp
    exact hne x rfl
theorem row_after_bool {w w' : World} {b o : Nat} {u v : Bool} {a : Option Addr} {l : List Bool} (h : Row w Value.bool a l) (hp : w.cell? ⟨b, o, none⟩ = some (.bool u)) (hw : w.setCell ⟨b, o, none⟩ (.bool v) = w') : ∃ l', l'.length = l.length ∧ Row w' Value.bool a l' := by
  rcases h with rfl | ⟨b', o', rfl, hc⟩
  · exact ⟨[], rfl, .inl rfl⟩
  · refine ⟨(List.range l.length).map fun i => if b' = b ∧ o' + i = o then v else l.getD i false, by simp, .inr ⟨b', o', rfl, fun i x hx => ?_⟩⟩
    have hi : i < l.length := by have := (List.getElem?_eq_some_iff.1 hx).1; simpa using this
    simp [hi] at hx
    rw [cell_set hw hp rfl rfl]
    simp only
    have hci := hc i l[i] (List.getElem?_eq_getElem hi)
    by_cases e : b' = b ∧ o' + i = o
    · rw [if_pos e] at hx ⊢
      rw [hx]
    · rw [if_neg e] at hx ⊢
      rw [hci, ← hx]

theorem only_eq {w w' : World} {C S : Nat} (h : Only w w' (· = C)) (hS : C ≠ S) (hl : S < w.heap.size := by assumption) : w'.heap[S]? = w.heap[S]? := h.block S hl (fun e => hS e.symm)
theorem nat_of {v : Int} {n : Nat} (h0 : 0 ≤ v) (h1 : v < (n : Int)) : ∃ k : Nat, k < n ∧ v = (k : Int) := ⟨v.toNat, by omega, by omega⟩
theorem only_drew {w w' : World} {B : Nat → Prop} (h : Only w.drew w' B) : Only w w' B := ⟨h.os, h.tape, h.output, h.size, h.block⟩
theorem drew_blk {w v : World} {k : Nat} {o : Obj} (h : w.heap[k]? = some o) (hw : w.drew = v) : v.heap[k]? = some o := by subst hw; exact h
theorem drew_only {W w v : World} {B : Nat → Prop} (h : Only W w B) (hw : w.drew = v) : Only W v B := by subst hw; exact h.ext' (Ext.self w).drew
theorem drew_cur {w v : World} {C : Nat} {a : Option Addr} {c : Nat} {l : List Int} (h : CurAt w C a c l) (hw : w.drew = v) : CurAt v C a c l := by subst hw; exact h.ext (Ext.self w).drew
theorem drew_sys {w v : World} {r : Ref} {s : Sys} (h : SysIn w r s) (hw : w.drew = v) : SysIn v r s := by subst hw; exact h.ext (Ext.self w).drew
/-- A drawn system, perhaps none. -/
def DrewA (W : World) (C : Nat) (a : Option Addr) (c : Nat) (l : List Int) : Ending → World → Prop :=
  fun e w' => ∃ (r : Ref) (s : Sys), e = .returned (r.val s) ∧ Only W w' (· = C) ∧ CurAt w' C a c l ∧ SysIn w' r s ∧ (∀ p, r.pa = some p ∨ r.ta = some p ∨ r.ba = some p → W.heap.size ≤ p.block) ∧ (s.plus.length ≤ 256 ∧ s.times.length ≤ 256 ∧ s.below.length ≤ 256)

set_option maxRecDepth 100000 in
set_option maxHeartbeats 16000000 in
theorem dAnySystem_ans {W : World} {C : Nat} {a : Option Addr} {c : Nat} {l : List Int} (h : CurAt W C a c l) : Calls Try.prog 51 #[.pointer (some ⟨C, 0, none⟩)] W (DrewA W C a c l) := by
  have HC0 := Lib.hid h
  have hlt := h.lt
  clear h
  go_enter Try.func51, Try.ntmps51
  go_wp2_with fail
  generalize hW1 : W.alloc _ = W1
  have bR := new_blk hW1
  have ho1 : Only W W1 (· = C) := by rw [← hW1]; exact Only.alloc _ _ _
  have hc1 : CurAt W1 C a c l := by rw [← hW1]; exact HC0.out.ext ((Ext.self W).alloc _)
  clear hW1
  refine Calls.mono (dSystem_ans hc1) ?_
  rintro e w' ⟨⟨pa, ta, ba, pc, tc, bc⟩, s, rfl, ho, hc2, si2, hr2, tk⟩
  have hr2' : ∀ p, pa = some p ∨ ta = some p ∨ ba = some p → W1.heap.size ≤ p.block := fun p hp => (hr2 p hp).1
  have pl2 : ∀ p, pa = some p ∨ ta = some p ∨ ba = some p → PlainB w' p.block := fun p hp => (hr2 p hp).2
  have ho2 := ho1.trans ho
  have bR2 := only_blk ho bR (by omega)
  have hlt2 : W.heap.size < W1.heap.size := (Array.getElem?_eq_some_iff.1 bR).1
  clear ho ho1 hc1 bR
  go_wp2_with fail
  generalize hW3 : World.alloc _ _ = W3
  have bS := new_blk hW3
  have ho3 : Only W W3 (· = C) := by rw [← hW3]; exact ho2.alloc' _
  have hc3 : CurAt W3 C a c l := by rw [← hW3]; exact hc2.ext ((Ext.self w').alloc _)
  have si3 : SysIn W3 ⟨pa, ta, ba, pc, tc, bc⟩ s := by rw [← hW3]; exact si2.ext ((Ext.self w').alloc _)
  have pl3 : ∀ p, pa = some p ∨ ta = some p ∨ ba = some p → PlainB W3 p.block := fun p hp => (pl2 p hp).same (by rw [← hW3]; exact Below.heap_alloc _ _ _ (pl2 p hp).lt)
  have bR3 := blk_of_alloc2 (o' := .cells #[.int .i64 s.n, .slice pa s.plus.length pc, .slice ta s.times.length tc, .slice ba s.below.length bc] 27) bR2
  rw [hW3] at bR3
  have hlt3 := (Array.getElem?_eq_some_iff.1 bR2).1
  have hCS : C < w'.heap.size := hc2.lt
  generalize hSz : w'.heap.size = S at *
  clear hW3 si2
  refine Calls.mono (l1Below_ans hc3 9 (by omega) (by omega)) ?_
  rintro e w4 ⟨v, rfl, hv0, hv1, ho, hc4⟩
  have ho4 := ho3.trans ho
  have bR4 := only_blk ho bR3 (by omega)
  have bS4 := only_blk ho bS (by omega)
  have pl4 : ∀ p, pa = some p ∨ ta = some p ∨ ba = some p → PlainB w4 p.block := fun p hp => (pl3 p hp).same (ho.block _ (pl3 p hp).lt (fun e => by have := hr2' p hp; omega))
  have si4 := si3.only ho (fun p hp e => by have := hr2' p hp; omega)
  have hpl : ∀ p, pa = some p ∨ ta = some p ∨ ba = some p → p.block < S := fun p hp => by have := (pl2 p hp).lt; omega
  clear ho ho3 hc3 bR3 bS si3 bR2 hc2 ho2 pl3 hr2 pl2
  have hv8 : v = 0 ∨ v = 1 ∨ v = 2 ∨ v = 3 ∨ 4 ≤ v := by omega
  rcases hv8 with rfl | rfl | rfl | rfl | hv4
  · skip
    clear hv0 hv1
    have hN0 := tk.n.1
    have hN1 := tk.n.2
    obtain ⟨hL0, hL1⟩ := tk.p
    obtain ⟨bp, op, rfl⟩ : ∃ bp op, pa = some ⟨bp, op, none⟩ := by
      rcases si4.plus with q | ⟨b', o', q, _⟩
      · rw [q] at hL0; simp at hL0
      · exact ⟨b', o', q⟩
    have hbp1 := hpl _ (.inl rfl)
    have hbp2 := hr2' _ (.inl rfl)
    simp only at hbp1 hbp2
    have hS4 : S < w4.heap.size := (Array.getElem?_eq_some_iff.1 bS4).1
    have hbpC : bp ≠ C := by omega
    have hpl4 := pl4 _ (.inl rfl)
    have CELL : ∀ (k1 : Nat), k1 < s.plus.length → ∀ (wb : World), Only w4 wb (· = C) → S ≠ bp ∧ ∃ u, wb.cell? ⟨bp, op + k1, none⟩ = some (.int .i64 u) ∧ wb.frozen? ⟨bp, op + k1, none⟩ = false := fun k1 hk wb hoo => by
      have hbb : wb.heap[bp]? = w4.heap[bp]? := hoo.block bp hpl4.lt hbpC
      obtain ⟨b', o', q, hcc⟩ := si4.plus.at hk
      cases q
      refine ⟨by omega, s.plus[k1], ?_, (hpl4.same hbb).free _⟩
      rw [World.cell?_of_block (w := w4) (a := ⟨bp, op + k1, none⟩) hbb]
      exact hcc k1 _ (List.getElem?_eq_getElem hk)
    go_wp2_with fail
    have KEEP : ∀ w' : World, w'.heap[S]? = w4.heap[S]? → (w'.cell? ⟨S, 0, none⟩ = some (.int .i64 s.n) ∧ w'.cell? ⟨S, 1, none⟩ = some (.slice (some ⟨bp, op, none⟩) s.plus.length pc)) := fun w' hw => ⟨by rw [World.cell?_of_block (w := w4) (a := ⟨S, 0, none⟩) hw]; exact blk_cell bS4 0, by rw [World.cell?_of_block (w := w4) (a := ⟨S, 1, none⟩) hw]; exact blk_cell bS4 1⟩
    have C1 := l1Below_ans (hc4.ext (Ext.self w4).drew) (s.plus.length : Int) (by omega) (by omega)
    have hn1 : 0 < (s.n + 1) := by omega
    have hn2 : (s.n + 1) ≤ 256 := by omega
    have hwn : IntKind.i64.wrap (s.n + 1) = s.n + 1 := IntWalk.i64_in _ (by omega)
    have hSC : ∀ e : S = C, False := fun e => by omega
    go_region_held3 (fun w' => (w'.cell? ⟨S, 0, none⟩ = some (.int .i64 s.n) ∧ w'.cell? ⟨S, 1, none⟩ = some (.slice (some ⟨bp, op, none⟩) s.plus.length pc))) (first | exact KEEP _ rfl | exact KEEP _ (hoa.block S hS4 hSC) | exact KEEP _ ((hob.block S (Nat.lt_of_lt_of_le hS4 hoa.size) hSC).trans (hoa.block S hS4 hSC)) | exact KEEP _ ((set_other rfl hpb).trans ((hob.block S (Nat.lt_of_lt_of_le hS4 hoa.size) hSC).trans (hoa.block S hS4 hSC))))
      (first | (go_at_call 84; (with_reducible refine Calls.mono C1 ?_); rintro e wa ⟨v1, rfl, hv10, hv11, hoa, hca⟩; obtain ⟨k1, hk1, rfl⟩ := nat_of hv10 hv11; have C2 := l1Below_ans hca (s.n + 1) hn1 hn2) | (go_at_call 84; (with_reducible refine Calls.mono C2 ?_); rintro e wb ⟨v2, rfl, hv20, hv21, hob, hcb⟩; obtain ⟨hpb, uu, hcell, hfz⟩ := CELL k1 hk1 wb (only_drew (hoa.trans hob))))
    generalize hW6 : World.setCell _ _ _ = w6
    have ho5 : Only w4 wb (· = C) := only_drew (hoa.trans hob)
    have si5 : SysIn wb ⟨some ⟨bp, op, none⟩, ta, ba, pc, tc, bc⟩ s := si4.only ho5 (fun p hp e => by have := hr2' p hp; omega)
    have ho6 : Only W w6 (· = C) := by rw [← hW6]; exact (ho4.trans ho5).set' (show W.heap.size ≤ bp by omega) _
    have bR6 := (set_other hW6 (show W.heap.size ≠ bp by omega)).trans (only_blk ho5 bR4 (by omega))
    have bS6 := (set_other hW6 hpb).trans (only_blk ho5 bS4 (by omega))
    have hc6 := HC0.out.via hcb ho6 (set_other hW6 (show C ≠ bp by omega))
    obtain ⟨lp, hlp, rowp⟩ := row_after_int si5.plus hcell hW6
    obtain ⟨lt, hlt5, rowt⟩ := row_after_int si5.times hcell hW6
    have rowb := row_after_other (mk := Value.bool) si5.below hcell (fun x e => by cases e) hW6
    have si6 : SysIn w6 ⟨some ⟨bp, op, none⟩, ta, ba, pc, tc, bc⟩ ⟨s.n, lp, lt, s.below⟩ := ⟨rowp, rowt, rowb, by show lp.length ≤ _; rw [hlp]; exact si5.lp, by show lt.length ≤ _; rw [hlt5]; exact si5.lt, si5.lb⟩
    clear hW6 hcell hfz
    have f0 := blk_cell bR6 0
    have f1 := blk_cell bR6 1
    have f2 := blk_cell bR6 2
    have f3 := blk_cell bR6 3
    have z0 := blk_free bR6 0
    have z1 := blk_free bR6 1
    have z2 := blk_free bR6 2
    have z3 := blk_free bR6 3
    have g0 := blk_cell bS6 0
    have g1 := blk_cell bS6 1
    have g2 := blk_cell bS6 2
    have g3 := blk_cell bS6 3
    simp at f0 f1 f2 f3 g0 g1 g2 g3
    go_wp2
    clear f0 f1 f2 f3 z0 z1 z2 z3 g0 g1 g2 g3
    generalize hY4 : World.setCell _ _ _ = Y4
    obtain ⟨hoF, hsF, bF⟩ := set4 ho6 (Nat.le_refl _) bR6 hY4
    have q0 := blk_cell bF 0
    have q1 := blk_cell bF 1
    have q2 := blk_cell bF 2
    have q3 := blk_cell bF 3
    simp at q0 q1 q2 q3
    refine bodyPost_ret (v := Ref.val ⟨some ⟨bp, op, none⟩, ta, ba, pc, tc, bc⟩ ⟨s.n, lp, lt, s.below⟩) (by simp [Ref.val, hlp, hlt5, results, Try.results51, go_sem, q0, q1, q2, q3]) rfl ?_
    exact ⟨⟨some ⟨bp, op, none⟩, ta, ba, pc, tc, bc⟩, ⟨s.n, lp, lt, s.below⟩, rfl, hoF, HC0.out.via hc6 hoF (hsF C (by omega)), sys_same si6 hsF (fun p hp e => by have := hr2' p hp; omega), (fun p hp => by have := hr2' p hp; omega), ⟨by show lp.length ≤ _; rw [hlp]; exact tk.p.2, by show lt.length ≤ _; rw [hlt5]; exact tk.t.2, tk.b.2⟩⟩
  · skip
    clear hv0 hv1
    have hN0 := tk.n.1
    have hN1 := tk.n.2
    obtain ⟨hL0, hL1⟩ := tk.t
    obtain ⟨bp, op, rfl⟩ : ∃ bp op, ta = some ⟨bp, op, none⟩ := by
      rcases si4.times with q | ⟨b', o', q, _⟩
      · rw [q] at hL0; simp at hL0
      · exact ⟨b', o', q⟩
    have hbp1 := hpl _ (.inr (.inl rfl))
    have hbp2 := hr2' _ (.inr (.inl rfl))
    simp only at hbp1 hbp2
    have hS4 : S < w4.heap.size := (Array.getElem?_eq_some_iff.1 bS4).1
    have hbpC : bp ≠ C := by omega
    have hpl4 := pl4 _ (.inr (.inl rfl))
    have CELL : ∀ (k1 : Nat), k1 < s.times.length → ∀ (wb : World), Only w4 wb (· = C) → S ≠ bp ∧ ∃ u, wb.cell? ⟨bp, op + k1, none⟩ = some (.int .i64 u) ∧ wb.frozen? ⟨bp, op + k1, none⟩ = false := fun k1 hk wb hoo => by
      have hbb : wb.heap[bp]? = w4.heap[bp]? := hoo.block bp hpl4.lt hbpC
      obtain ⟨b', o', q, hcc⟩ := si4.times.at hk
      cases q
      refine ⟨by omega, s.times[k1], ?_, (hpl4.same hbb).free _⟩
      rw [World.cell?_of_block (w := w4) (a := ⟨bp, op + k1, none⟩) hbb]
      exact hcc k1 _ (List.getElem?_eq_getElem hk)
    go_wp2_with fail
    have KEEP : ∀ w' : World, w'.heap[S]? = w4.heap[S]? → (w'.cell? ⟨S, 0, none⟩ = some (.int .i64 s.n) ∧ w'.cell? ⟨S, 2, none⟩ = some (.slice (some ⟨bp, op, none⟩) s.times.length tc)) := fun w' hw => ⟨by rw [World.cell?_of_block (w := w4) (a := ⟨S, 0, none⟩) hw]; exact blk_cell bS4 0, by rw [World.cell?_of_block (w := w4) (a := ⟨S, 2, none⟩) hw]; exact blk_cell bS4 2⟩
    have C1 := l1Below_ans (hc4.ext (Ext.self w4).drew) (s.times.length : Int) (by omega) (by omega)
    have hn1 : 0 < s.n := by omega
    have hn2 : s.n ≤ 256 := by omega
    have hwn : IntKind.i64.wrap (s.n + 1) = s.n + 1 := IntWalk.i64_in _ (by omega)
    have hSC : ∀ e : S = C, False := fun e => by omega
    go_region_held3 (fun w' => (w'.cell? ⟨S, 0, none⟩ = some (.int .i64 s.n) ∧ w'.cell? ⟨S, 2, none⟩ = some (.slice (some ⟨bp, op, none⟩) s.times.length tc))) (first | exact KEEP _ rfl | exact KEEP _ (hoa.block S hS4 hSC) | exact KEEP _ ((hob.block S (Nat.lt_of_lt_of_le hS4 hoa.size) hSC).trans (hoa.block S hS4 hSC)) | exact KEEP _ ((set_other rfl hpb).trans ((hob.block S (Nat.lt_of_lt_of_le hS4 hoa.size) hSC).trans (hoa.block S hS4 hSC))))
      (first | (go_at_call 84; (with_reducible refine Calls.mono C1 ?_); rintro e wa ⟨v1, rfl, hv10, hv11, hoa, hca⟩; obtain ⟨k1, hk1, rfl⟩ := nat_of hv10 hv11; have C2 := l1Below_ans hca s.n hn1 hn2) | (go_at_call 84; (with_reducible refine Calls.mono C2 ?_); rintro e wb ⟨v2, rfl, hv20, hv21, hob, hcb⟩; obtain ⟨hpb, uu, hcell, hfz⟩ := CELL k1 hk1 wb (only_drew (hoa.trans hob))))
    generalize hW6 : World.setCell _ _ _ = w6
    have ho5 : Only w4 wb (· = C) := only_drew (hoa.trans hob)
    have si5 : SysIn wb ⟨pa, some ⟨bp, op, none⟩, ba, pc, tc, bc⟩ s := si4.only ho5 (fun p hp e => by have := hr2' p hp; omega)
    have ho6 : Only W w6 (· = C) := by rw [← hW6]; exact (ho4.trans ho5).set' (show W.heap.size ≤ bp by omega) _
    have bR6 := (set_other hW6 (show W.heap.size ≠ bp by omega)).trans (only_blk ho5 bR4 (by omega))
    have bS6 := (set_other hW6 hpb).trans (only_blk ho5 bS4 (by omega))
    have hc6 := HC0.out.via hcb ho6 (set_other hW6 (show C ≠ bp by omega))
    obtain ⟨lp, hlp, rowp⟩ := row_after_int si5.plus hcell hW6
    obtain ⟨lt, hlt5, rowt⟩ := row_after_int si5.times hcell hW6
    have rowb := row_after_other (mk := Value.bool) si5.below hcell (fun x e => by cases e) hW6
    have si6 : SysIn w6 ⟨pa, some ⟨bp, op, none⟩, ba, pc, tc, bc⟩ ⟨s.n, lp, lt, s.below⟩ := ⟨rowp, rowt, rowb, by show lp.length ≤ _; rw [hlp]; exact si5.lp, by show lt.length ≤ _; rw [hlt5]; exact si5.lt, si5.lb⟩
    clear hW6 hcell hfz
    have f0 := blk_cell bR6 0
    have f1 := blk_cell bR6 1
    have f2 := blk_cell bR6 2
    have f3 := blk_cell bR6 3
    have z0 := blk_free bR6 0
    have z1 := blk_free bR6 1
    have z2 := blk_free bR6 2
    have z3 := blk_free bR6 3
    have g0 := blk_cell bS6 0
    have g1 := blk_cell bS6 1
    have g2 := blk_cell bS6 2
    have g3 := blk_cell bS6 3
    simp at f0 f1 f2 f3 g0 g1 g2 g3
    go_wp2
    clear f0 f1 f2 f3 z0 z1 z2 z3 g0 g1 g2 g3
    generalize hY4 : World.setCell _ _ _ = Y4
    obtain ⟨hoF, hsF, bF⟩ := set4 ho6 (Nat.le_refl _) bR6 hY4
    have q0 := blk_cell bF 0
    have q1 := blk_cell bF 1
    have q2 := blk_cell bF 2
    have q3 := blk_cell bF 3
    simp at q0 q1 q2 q3
    refine bodyPost_ret (v := Ref.val ⟨pa, some ⟨bp, op, none⟩, ba, pc, tc, bc⟩ ⟨s.n, lp, lt, s.below⟩) (by simp [Ref.val, hlp, hlt5, results, Try.results51, go_sem, q0, q1, q2, q3]) rfl ?_
    exact ⟨⟨pa, some ⟨bp, op, none⟩, ba, pc, tc, bc⟩, ⟨s.n, lp, lt, s.below⟩, rfl, hoF, HC0.out.via hc6 hoF (hsF C (by omega)), sys_same si6 hsF (fun p hp e => by have := hr2' p hp; omega), (fun p hp => by have := hr2' p hp; omega), ⟨by show lp.length ≤ _; rw [hlp]; exact tk.p.2, by show lt.length ≤ _; rw [hlt5]; exact tk.t.2, tk.b.2⟩⟩
  · skip
    clear hv0 hv1
    have hN0 := tk.n.1
    have hN1 := tk.n.2
    obtain ⟨hL0, hL1⟩ := tk.b
    obtain ⟨bp, op, rfl⟩ : ∃ bp op, ba = some ⟨bp, op, none⟩ := by
      rcases si4.below with q | ⟨b', o', q, _⟩
      · rw [q] at hL0; simp at hL0
      · exact ⟨b', o', q⟩
    have hbp1 := hpl _ (.inr (.inr rfl))
    have hbp2 := hr2' _ (.inr (.inr rfl))
    simp only at hbp1 hbp2
    have hS4 : S < w4.heap.size := (Array.getElem?_eq_some_iff.1 bS4).1
    have hbpC : bp ≠ C := by omega
    have hpl4 := pl4 _ (.inr (.inr rfl))
    have CELL : ∀ (k1 : Nat), k1 < s.below.length → ∀ (wb : World), Only w4 wb (· = C) → S ≠ bp ∧ ∃ u, wb.cell? ⟨bp, op + k1, none⟩ = some (.bool u) ∧ wb.frozen? ⟨bp, op + k1, none⟩ = false := fun k1 hk wb hoo => by
      have hbb : wb.heap[bp]? = w4.heap[bp]? := hoo.block bp hpl4.lt hbpC
      obtain ⟨b', o', q, hcc⟩ := si4.below.at hk
      cases q
      refine ⟨by omega, s.below[k1], ?_, (hpl4.same hbb).free _⟩
      rw [World.cell?_of_block (w := w4) (a := ⟨bp, op + k1, none⟩) hbb]
      exact hcc k1 _ (List.getElem?_eq_getElem hk)
    have e3 := blk_cell bS4 3
    simp at e3
    go_wp2_with fail
    refine Calls.mono (l1Below_ans hc4 (s.below.length : Int) (by omega) (by omega)) ?_
    rintro e wb ⟨v1, rfl, hv10, hv11, ho5, hcb⟩
    obtain ⟨k1, hk1, rfl⟩ := nat_of hv10 hv11
    clear e3
    have bS5 := only_blk ho5 bS4 (by omega)
    obtain ⟨hpb, uu, hcell, hfz⟩ := CELL k1 hk1 wb ho5
    have hd1 : ∀ y : Ext wb.drew, y.w.cell? ⟨bp, op + k1, none⟩ = some (.bool uu) := fun y => Ext.cell (W := wb.drew) y hcell
    have hd2 : ∀ y : Ext wb.drew, y.w.cell? ⟨S, 3, none⟩ = some (.slice (some ⟨bp, op, none⟩) s.below.length bc) := fun y => blk_cell (Ext.blk (W := wb.drew) y bS5) 3
    have hkk : (k1 : Int) < (s.below.length : Int) := by omega
    have hd3 : wb.drew.cell? ⟨bp, op + k1, none⟩ = some (.bool uu) := hcell
    have hd4 : wb.drew.cell? ⟨S, 3, none⟩ = some (.slice (some ⟨bp, op, none⟩) s.below.length bc) := blk_cell bS5 3
    have hd5 : wb.drew.frozen? ⟨bp, op + k1, none⟩ = false := hfz
    go_wp2_with fail
    go_region
    generalize hW6 : wb.setCell ⟨bp, op + k1, none⟩ (.bool !uu) = w6
    clear hd1 hd2 hd3 hd4 hd5
    have si5 : SysIn wb ⟨pa, ta, some ⟨bp, op, none⟩, pc, tc, bc⟩ s := si4.only ho5 (fun p hp e => by have := hr2' p hp; omega)
    have ho6 : Only W w6 (· = C) := by rw [← hW6]; exact (ho4.trans ho5).set' (show W.heap.size ≤ bp by omega) _
    have bR6 := (set_other hW6 (show W.heap.size ≠ bp by omega)).trans (only_blk ho5 bR4 (by omega))
    have bS6 := (set_other hW6 hpb).trans (only_blk ho5 bS4 (by omega))
    have hc6 := HC0.out.via hcb ho6 (set_other hW6 (show C ≠ bp by omega))
    obtain ⟨lb, hlb5, rowb⟩ := row_after_bool si5.below hcell hW6
    have rowp := row_after_other (mk := Value.int .i64) si5.plus hcell (fun x e => by cases e) hW6
    have rowt := row_after_other (mk := Value.int .i64) si5.times hcell (fun x e => by cases e) hW6
    have si6 : SysIn w6 ⟨pa, ta, some ⟨bp, op, none⟩, pc, tc, bc⟩ ⟨s.n, s.plus, s.times, lb⟩ := ⟨rowp, rowt, rowb, si5.lp, si5.lt, by show lb.length ≤ _; rw [hlb5]; exact si5.lb⟩
    clear hW6 hcell hfz
    generalize hW7 : w6.drew = w7
    have ho7 := drew_only ho6 hW7
    have bR7 := drew_blk bR6 hW7
    have bS7 := drew_blk bS6 hW7
    have hc7 := drew_cur hc6 hW7
    have si7 := drew_sys si6 hW7
    clear hW7 ho6 bR6 bS6 hc6 si6 rowb rowp rowt
    have f0 := blk_cell bR7 0
    have f1 := blk_cell bR7 1
    have f2 := blk_cell bR7 2
    have f3 := blk_cell bR7 3
    have z0 := blk_free bR7 0
    have z1 := blk_free bR7 1
    have z2 := blk_free bR7 2
    have z3 := blk_free bR7 3
    have g0 := blk_cell bS7 0
    have g1 := blk_cell bS7 1
    have g2 := blk_cell bS7 2
    have g3 := blk_cell bS7 3
    simp at f0 f1 f2 f3 g0 g1 g2 g3
    go_wp2
    clear f0 f1 f2 f3 z0 z1 z2 z3 g0 g1 g2 g3
    generalize hY4 : World.setCell _ _ _ = Y4
    obtain ⟨hoF, hsF, bF⟩ := set4 ho7 (Nat.le_refl _) bR7 hY4
    have q0 := blk_cell bF 0
    have q1 := blk_cell bF 1
    have q2 := blk_cell bF 2
    have q3 := blk_cell bF 3
    simp at q0 q1 q2 q3
    refine bodyPost_ret (v := Ref.val ⟨pa, ta, some ⟨bp, op, none⟩, pc, tc, bc⟩ ⟨s.n, s.plus, s.times, lb⟩) (by simp [Ref.val, hlb5, results, Try.results51, go_sem, q0, q1, q2, q3]) rfl ?_
    exact ⟨⟨pa, ta, some ⟨bp, op, none⟩, pc, tc, bc⟩, ⟨s.n, s.plus, s.times, lb⟩, rfl, hoF, HC0.out.via hc7 hoF (hsF C (by omega)), sys_same si7 hsF (fun p hp e => by have := hr2' p hp; omega), (fun p hp => by have := hr2' p hp; omega), ⟨tk.p.2, tk.t.2, by show lb.length ≤ _; rw [hlb5]; exact tk.b.2⟩⟩
  · skip
    clear hv0 hv1
    have e0 := blk_cell bS4 0
    have e1 := blk_cell bS4 1
    have e2 := blk_cell bS4 2
    have e3 := blk_cell bS4 3
    simp at e0 e1 e2 e3
    go_wp2_with fail
    refine Calls.mono (dBent_ans hc4) ?_
    rintro e wb ⟨v1, rfl, ho5, hcb⟩
    clear e0 e1 e2 e3
    have bS5 := only_blk ho5 bS4 (by omega)
    have e0 := blk_cell bS5 0
    have e1 := blk_cell bS5 1
    have e2 := blk_cell bS5 2
    have e3 := blk_cell bS5 3
    have z0 := blk_free bS5 0
    have bR5 := only_blk ho5 bR4 (by omega)
    have f0 := blk_cell bR5 0
    have f1 := blk_cell bR5 1
    have f2 := blk_cell bR5 2
    have f3 := blk_cell bR5 3
    have y0 := blk_free bR5 0
    have y1 := blk_free bR5 1
    have y2 := blk_free bR5 2
    have y3 := blk_free bR5 3
    simp at e0 e1 e2 e3 f0 f1 f2 f3
    have hne1 : S ≠ W.heap.size := by omega
    have hne2 : W.heap.size ≠ S := by omega
    go_wp2_with fail
    clear e0 e1 e2 e3 z0 f0 f1 f2 f3 y0 y1 y2 y3
    generalize hW6 : wb.setCell ⟨S, 0, none⟩ (.int .i64 v1) = w6
    have si5 : SysIn wb ⟨pa, ta, ba, pc, tc, bc⟩ s := si4.only ho5 (fun p hp e => by have := hr2' p hp; omega)
    have ho6 : Only W w6 (· = C) := by rw [← hW6]; exact (ho4.trans ho5).set' (show W.heap.size ≤ S by omega) _
    have bR6 := (set_other hW6 hne2).trans bR5
    have bS6 := set_blk bS5 0 (.int .i64 v1) hW6
    have hc6 := HC0.out.via hcb ho6 (set_other hW6 (show C ≠ S by omega))
    have sis := sys_same si5 (fun k hk => set_other hW6 hk) (fun p hp e => by have := hpl p hp; omega)
    have si6 : SysIn w6 ⟨pa, ta, ba, pc, tc, bc⟩ ⟨v1, s.plus, s.times, s.below⟩ := ⟨sis.plus, sis.times, sis.below, sis.lp, sis.lt, sis.lb⟩
    clear hW6 sis
    generalize hY4 : World.setCell _ _ _ = Y4
    obtain ⟨hoF, hsF, bF⟩ := set4 ho6 (Nat.le_refl _) bR6 hY4
    have q0 := blk_cell bF 0
    have q1 := blk_cell bF 1
    have q2 := blk_cell bF 2
    have q3 := blk_cell bF 3
    simp at q0 q1 q2 q3
    refine bodyPost_ret (v := Ref.val ⟨pa, ta, ba, pc, tc, bc⟩ ⟨v1, s.plus, s.times, s.below⟩) (by simp [Ref.val,  results, Try.results51, go_sem, q0, q1, q2, q3]) rfl ?_
    exact ⟨⟨pa, ta, ba, pc, tc, bc⟩, ⟨v1, s.plus, s.times, s.below⟩, rfl, hoF, HC0.out.via hc6 hoF (hsF C (by omega)), sys_same si6 hsF (fun p hp e => by have := hr2' p hp; omega), (fun p hp => by have := hr2' p hp; omega), ⟨tk.p.2, tk.t.2, tk.b.2⟩⟩
  · skip
    have k0 : (v == 0) = false := by simp; omega
    have k1 : (v == 1) = false := by simp; omega
    have k2 : (v == 2) = false := by simp; omega
    have k3 : (v == 3) = false := by simp; omega
    have ho6 := ho4
    have bR6 := bR4
    have bS6 := bS4
    have hc6 := hc4
    have f0 := blk_cell bR6 0
    have f1 := blk_cell bR6 1
    have f2 := blk_cell bR6 2
    have f3 := blk_cell bR6 3
    have z0 := blk_free bR6 0
    have z1 := blk_free bR6 1
    have z2 := blk_free bR6 2
    have z3 := blk_free bR6 3
    have g0 := blk_cell bS6 0
    have g1 := blk_cell bS6 1
    have g2 := blk_cell bS6 2
    have g3 := blk_cell bS6 3
    simp at f0 f1 f2 f3 g0 g1 g2 g3
    go_wp2
    clear f0 f1 f2 f3 z0 z1 z2 z3 g0 g1 g2 g3
    generalize hY4 : World.setCell _ _ _ = Y4
    obtain ⟨hoF, hsF, bF⟩ := set4 ho6 (Nat.le_refl _) bR6 hY4
    have q0 := blk_cell bF 0
    have q1 := blk_cell bF 1
    have q2 := blk_cell bF 2
    have q3 := blk_cell bF 3
    simp at q0 q1 q2 q3
    refine bodyPost_ret (v := Ref.val ⟨pa, ta, ba, pc, tc, bc⟩ s) (by simp [Ref.val,  results, Try.results51, go_sem, q0, q1, q2, q3]) rfl ?_
    exact ⟨⟨pa, ta, ba, pc, tc, bc⟩, s, rfl, hoF, HC0.out.via hc6 hoF (hsF C (by omega)), sys_same si4 hsF (fun p hp e => by have := hr2' p hp; omega), (fun p hp => by have := hr2' p hp; omega), ⟨tk.p.2, tk.t.2, tk.b.2⟩⟩

end Go.Proofs.Ytkokmpdmmfghhaa
