
/- The draws' systems. -/
import Derived.Test.YtkokmpdmmfghhaaKDrawN
import Derived.Test.YtkokmpdmmfghhaaKSysDec
import Derived.Test.YtkokmpdmmfghhaaKLevelSys
import Derived.Test.YtkokmpdmmfghhaaKProdM
namespace Go.Proofs.Ytkokmpdmmfghhaa
open Go.RowKit

theorem blk_of_alloc2 {w : World} {g : Nat} {o o' : Obj} (h : w.heap[g]? = some o) : (w.alloc o').heap[g]? = some o := by
  have hl : g < w.heap.size := (Array.getElem?_eq_some_iff.1 h).1
  show (w.heap.push o')[g]? = _
  rw [Array.getElem?_push_lt hl, ← h, Array.getElem?_eq_getElem hl]
/-- The form of tables in which a place may be drawn. -/
structure TabsOk (s : Sys) : Prop where
  n : 2 ≤ s.n ∧ s.n ≤ 16
  p : 4 ≤ s.plus.length ∧ s.plus.length ≤ 256
  t : 4 ≤ s.times.length ∧ s.times.length ≤ 256
  b : 4 ≤ s.below.length ∧ s.below.length ≤ 256
theorem tabs_of {s : Sys} {N : Nat} (hn : s.n = (N : Int)) (h2 : 2 ≤ N) (h16 : N ≤ 16) (hp : s.plus.length = N * N) (ht : s.times.length = N * N) (hb : s.below.length = N * N) : TabsOk s := by
  have h1 := Nat.mul_le_mul h2 h2
  have h3 := Nat.mul_le_mul h16 h16
  exact ⟨by omega, by omega, by omega, by omega⟩
/-- A drawn system, in blocks of its own, none of them the cursor's. -/
def DrewS (W : World) (C : Nat) (a : Option Addr) (c : Nat) (l : List Int) : Ending → World → Prop :=
  fun e w' => ∃ (r : Ref) (s : Sys), e = .returned (r.val s) ∧ Only W w' (· = C) ∧ CurAt w' C a c l ∧ SysIn w' r s ∧ (∀ p, r.pa = some p ∨ r.ta = some p ∨ r.ba = some p → W.heap.size ≤ p.block ∧ PlainB w' p.block) ∧ TabsOk s
theorem SysIn.only {w w' : World} {r : Ref} {s : Sys} {B : Nat → Prop} (h : SysIn w r s) (ho : Only w w' B) (hn : ∀ p, r.pa = some p ∨ r.ta = some p ∨ r.ba = some p → ¬ B p.block) : SysIn w' r s :=
  ⟨row_only h.plus ho (fun p q => hn p (.inl q)), row_only h.times ho (fun p q => hn p (.inr (.inl q))), row_only h.below ho (fun p q => hn p (.inr (.inr q))), h.lp, h.lt, h.lb⟩
theorem CurAt.lt {w : World} {C : Nat} {a : Option Addr} {c : Nat} {l : List Int} (h : CurAt w C a c l) : C < w.heap.size := by
  obtain ⟨_, _, hb, _⟩ := h.blk
  exact (Array.getElem?_eq_some_iff.1 hb).1

theorem CurAt.via {W w w' : World} {C : Nat} {a : Option Addr} {c : Nat} {l : List Int} (h0 : CurAt W C a c l) (h : CurAt w C a c l) (ho : Only W w' (· = C)) (hb : w'.heap[C]? = w.heap[C]?) : CurAt w' C a c l := by
  obtain ⟨i, hh, hbk, r⟩ := h.blk
  exact ⟨⟨i, hh, hb.trans hbk, r⟩, row_only h0.row ho h0.ne, h0.ne, h0.len, h0.byte⟩
section
variable {W w w' : World} {B : Nat → Prop}
theorem Only.set' (h : Only W w B) {p : Addr} (hp : W.heap.size ≤ p.block) (u : Value) : Only W (w.setCell p u) B :=
  ⟨h.os, h.tape, h.output, by rw [set_size rfl]; exact h.size, fun g hg hn => (Below.heap_setCell _ _ _ _ (by omega)).trans (h.block g hg hn)⟩
theorem Only.ext' (h : Only W w B) (y : Ext w) : Only W y.w B := h.trans (Only.of y.below _)
theorem Only.alloc' (h : Only W w B) (o : Obj) : Only W (w.alloc o) B := h.trans (Only.alloc _ _ _)
end
theorem only_blk {w w' : World} {B : Nat → Prop} (h : Only w w' B) {k : Nat} {o : Obj} (hk : w.heap[k]? = some o) (hn : ¬ B k) : w'.heap[k]? = some o := by
  rw [h.block k (Array.getElem?_eq_some_iff.1 hk).1 hn]; exact hk

theorem set4 {W y Y4 : World} {P : Nat → Prop} {B : Nat} {T : TypeId} {z0 z1 z2 z3 a0 a1 a2 a3 : Value} (ho : Only W y P) (hB : W.heap.size ≤ B) (bA : y.heap[B]? = some (.cells #[z0, z1, z2, z3] T (0, 0)))
    (hY : (((y.setCell ⟨B, 0, none⟩ a0).setCell ⟨B, 1, none⟩ a1).setCell ⟨B, 2, none⟩ a2).setCell ⟨B, 3, none⟩ a3 = Y4) :
    Only W Y4 P ∧ (∀ k, k ≠ B → Y4.heap[k]? = y.heap[k]?) ∧ Y4.heap[B]? = some (.cells #[a0, a1, a2, a3] T (0, 0)) := by
  have hsame : ∀ k, k ≠ B → Y4.heap[k]? = y.heap[k]? := fun k hk => by
    subst hY
    rw [set_other rfl hk, set_other rfl hk, set_other rfl hk, set_other rfl hk]
  have q5 := set_blk (set_blk (set_blk (set_blk bA 0 a0 rfl) 1 a1 rfl) 2 a2 rfl) 3 a3 hY
  simp at q5
  refine ⟨?_, hsame, q5⟩
  subst hY
  exact (((ho.set' hB _).set' hB _).set' hB _).set' hB _
theorem sys_same {w w' : World} {r : Ref} {s : Sys} {B : Nat} (h : SysIn w r s) (hk : ∀ k, k ≠ B → w'.heap[k]? = w.heap[k]?) (hp : ∀ p, r.pa = some p ∨ r.ta = some p ∨ r.ba = some p → p.block ≠ B) : SysIn w' r s := h.keep hk hp

set_option maxRecDepth 100000 in
set_option maxHeartbeats 16000000 in
theorem dSystem_ans {W : World} {C : Nat} {a : Option Addr} {c : Nat} {l : List Int} (h : CurAt W C a c l) : Calls Try.prog 66 #[.pointer (some ⟨C, 0, none⟩)] W (DrewS W C a c l) := by
  have HC0 := Lib.hid h
  have hlt := h.lt
  clear h
  go_enter Try.func66, Try.ntmps66
  go_wp2_with fail
  generalize hW1 : W.alloc _ = W1
  have bR := new_blk hW1
  have ho1 : Only W W1 (· = C) := by rw [← hW1]; exact Only.alloc _ _ _
  have hc1 : CurAt W1 C a c l := by rw [← hW1]; exact HC0.out.ext ((Ext.self W).alloc _)
  clear hW1
  have C1 := l1Below_ans hc1 3 (by omega) (by omega)
  refine Calls.mono C1 ?_
  clear C1
  rintro e w' ⟨v, rfl, hv0, hv1, ho, hc2⟩
  have ho2 := ho1.trans ho
  have bR2 := only_blk ho bR (by omega)
  obtain ⟨W2, hW2⟩ : ∃ w, w = w' := ⟨_, rfl⟩
  rw [← hW2] at ho2 bR2 hc2 ⊢
  clear hW2 ho ho1 hc1 bR
  obtain ⟨m, hm⟩ : ∃ m : Nat, v = (m : Int) := ⟨v.toNat, by omega⟩
  subst hm
  obtain ⟨sb, hsb⟩ := numS_ex (fun _ => boundF) (1 + (m : Int))
  go_wp2_with fail
  refine Calls.mono (specBound_ans (W := W2) _ sb hsb (Ext.self W2)) ?_
  rintro e w' ⟨r1, y, rfl, rfl, hr1, si1⟩
  have tb : TabsOk sb := by
    rcases hsb with ⟨q, q1, q2, q3, rfl⟩ | ⟨q, _⟩
    · exact tabs_of (N := q + 2) rfl (by omega) (by omega) (grid_len _ _) (grid_len _ _) (grid_len _ _)
    · omega
  clear hsb
  go_wp2_with fail
  generalize hW3 : y.w.alloc _ = W3
  have bS := new_blk hW3
  have szy := y.size
  have ho3 : Only W W3 (· = C) := by rw [← hW3]; exact (ho2.ext' y).alloc' _
  have hc3 : CurAt W3 C a c l := by rw [← hW3]; exact (hc2.ext y).ext ((Ext.self y.w).alloc _)
  have si3 : SysIn W3 r1 sb := by rw [← hW3]; exact si1.ext ((Ext.self y.w).alloc _)
  have pl3 : ∀ p, r1.pa = some p ∨ r1.ta = some p ∨ r1.ba = some p → PlainB W3 p.block := fun p hp => (hr1 p hp).2.same (by rw [← hW3]; exact Below.heap_alloc _ _ _ (hr1 p hp).2.lt)
  have bR3 := blk_of_alloc2 (o' := .cells #[.int .i64 sb.n, .slice r1.pa sb.plus.length r1.pc, .slice r1.ta sb.times.length r1.tc, .slice r1.ba sb.below.length r1.bc] 27) (y.blk bR2)
  rw [hW3] at bR3
  have hS : W2.heap.size ≤ y.w.heap.size := szy
  generalize y.w.heap.size = S at *
  clear hW3 si1
  have C1 := l1Below_ans hc3 8 (by omega) (by omega)
  refine Calls.mono C1 ?_
  clear C1
  rintro e w' ⟨v, rfl, hv0', hv1', ho, hc4⟩
  have hs2 := ho2.size
  have ho4 := ho3.trans ho
  have bR4 := only_blk ho bR3 (by omega)
  have bS4 := only_blk ho bS (by have := hc2.lt; omega)
  have pl4 : ∀ p, r1.pa = some p ∨ r1.ta = some p ∨ r1.ba = some p → PlainB w' p.block := fun p hp => (pl3 p hp).same (ho.block _ (pl3 p hp).lt (fun e => by have := (hr1 p hp).1; have := hc2.lt; omega))
  have si4 := si3.only ho (fun p hp e => by have := (hr1 p hp).1; have := hc2.lt; omega)
  obtain ⟨W4, hW4⟩ : ∃ w, w = w' := ⟨_, rfl⟩
  rw [← hW4] at ho4 bR4 bS4 si4 hc4 pl4 ⊢
  have bR2' := bR2
  have hr1' : ∀ p, r1.pa = some p ∨ r1.ta = some p ∨ r1.ba = some p → W2.heap.size ≤ p.block := fun p hp => (hr1 p hp).1
  clear hW4 ho ho3 hc3 bR3 bS si3 bR2 pl3 hr1 y
  have hCS : C ≠ S := by have := hc2.lt; omega
  have hCR : C ≠ W.heap.size := by omega
  have hlt2 : W.heap.size < W2.heap.size := (Array.getElem?_eq_some_iff.1 bR2').1
  have hSR : W.heap.size ≠ S := by omega
  have hlo1 : ∀ p, r1.pa = some p ∨ r1.ta = some p ∨ r1.ba = some p → W.heap.size ≤ p.block := fun p hp => Nat.le_trans hs2 (hr1' p hp)
  have hv8 : v = 0 ∨ v = 1 ∨ v = 2 ∨ v = 3 ∨ v = 4 ∨ v = 5 ∨ v = 6 ∨ v = 7 := by omega
  clear hv0' hv1'
  rcases hv8 with rfl | rfl | rfl | rfl | rfl | rfl | rfl | rfl
  · skip
    obtain ⟨sn, hsn⟩ := numS_ex countF (1 + (m : Int))
    go_wp2_with fail
    refine Calls.mono (specCount_ans (W := W4) _ sn hsn (Ext.self W4)) ?_
    rintro e w' ⟨rn, z, rfl, rfl, hr5, si5⟩
    have tn : TabsOk sn := by
      rcases hsn with ⟨q, q1, q2, q3, rfl⟩ | ⟨q, _⟩
      · exact tabs_of (N := q + 2) rfl (by omega) (by omega) (grid_len _ _) (grid_len _ _) (grid_len _ _)
      · omega
    clear hsn
    have bSy := z.blk bS4
    have k0 := blk_cell bSy 0
    have k1 := blk_cell bSy 1
    have k2 := blk_cell bSy 2
    have k3 := blk_cell bSy 3
    have y0 := blk_free bSy 0
    have y1 := blk_free bSy 1
    have y2 := blk_free bSy 2
    have y3 := blk_free bSy 3
    simp at k0 k1 k2 k3
    go_upto_region 13 with fail
    clear k0 k1 k2 k3 y0 y1 y2 y3
    generalize hW6 : World.setCell _ _ _ = W6
    obtain ⟨ho6, hs6, bS6⟩ := set4 (ho4.ext' z) (show W.heap.size ≤ S by omega) bSy hW6
    have bR6 := (hs6 _ hSR).trans (z.blk bR4)
    have hc6 := HC0.out.via (hc4.ext z) ho6 (hs6 C hCS)
    have hz4 := (Array.getElem?_eq_some_iff.1 bS4).1
    have pl6 : ∀ p, rn.pa = some p ∨ rn.ta = some p ∨ rn.ba = some p → PlainB W6 p.block := fun p hp => (hr5 p hp).2.same (hs6 _ (by have := (hr5 p hp).1; omega))
    have si6 := sys_same si5 hs6 (fun p hp e => by have := (hr5 p hp).1; omega)
    have hlo6 : ∀ p, rn.pa = some p ∨ rn.ta = some p ∨ rn.ba = some p → W.heap.size < p.block := fun p hp => by have := (hr5 p hp).1; have := ho4.size; omega
    clear hW6
    have f0 := blk_cell bR6 0
    have f1 := blk_cell bR6 1
    have f2 := blk_cell bR6 2
    have f3 := blk_cell bR6 3
    have z0 := blk_free bR6 0
    have z1 := blk_free bR6 1
    have z2 := blk_free bR6 2
    have z3 := blk_free bR6 3
    have g0 := blk_cell bS6 0
    have g1 := blk_cell bS6 1
    have g2 := blk_cell bS6 2
    have g3 := blk_cell bS6 3
    simp at f0 f1 f2 f3 g0 g1 g2 g3
    go_wp2
    clear f0 f1 f2 f3 z0 z1 z2 z3 g0 g1 g2 g3
    generalize hY4 : World.setCell _ _ _ = Y4
    obtain ⟨hoF, hsF, bF⟩ := set4 ho6 (Nat.le_refl _) bR6 hY4
    have r0 := blk_cell bF 0
    have r1 := blk_cell bF 1
    have r2 := blk_cell bF 2
    have r3 := blk_cell bF 3
    simp at r0 r1 r2 r3
    refine bodyPost_ret (v := rn.val sn) (by simp [Ref.val, results, Try.results66, go_sem, r0, r1, r2, r3]) rfl ?_
    exact ⟨rn, sn, rfl, hoF, HC0.out.via hc6 hoF (hsF C hCR), sys_same si6 hsF (fun p hp e => by have := hlo6 p hp; omega), fun p hp => ⟨Nat.le_of_lt (hlo6 p hp), (pl6 p hp).same (hsF _ (by have := hlo6 p hp; omega))⟩, tn⟩
  · skip
    obtain ⟨sn, hsn⟩ := numS_ex countF (1 + (m : Int))
    go_wp2_with fail
    refine Calls.mono (specCount_ans (W := W4) _ sn hsn (Ext.self W4)) ?_
    rintro e w' ⟨rn, z, rfl, rfl, hr5, si5⟩
    have tn : TabsOk sn := by
      rcases hsn with ⟨q, q1, q2, q3, rfl⟩ | ⟨q, _⟩
      · exact tabs_of (N := q + 2) rfl (by omega) (by omega) (grid_len _ _) (grid_len _ _) (grid_len _ _)
      · omega
    clear hsn
    have bSy := z.blk bS4
    have k0 := blk_cell bSy 0
    have k1 := blk_cell bSy 1
    have k2 := blk_cell bSy 2
    have k3 := blk_cell bSy 3
    have y0 := blk_free bSy 0
    have y1 := blk_free bSy 1
    have y2 := blk_free bSy 2
    have y3 := blk_free bSy 3
    simp at k0 k1 k2 k3
    go_upto_region 13 with fail
    clear k0 k1 k2 k3 y0 y1 y2 y3
    generalize hW6 : World.setCell _ _ _ = W6
    obtain ⟨ho6, hs6, bS6⟩ := set4 (ho4.ext' z) (show W.heap.size ≤ S by omega) bSy hW6
    have bR6 := (hs6 _ hSR).trans (z.blk bR4)
    have hc6 := HC0.out.via (hc4.ext z) ho6 (hs6 C hCS)
    have hz4 := (Array.getElem?_eq_some_iff.1 bS4).1
    have pl6 : ∀ p, rn.pa = some p ∨ rn.ta = some p ∨ rn.ba = some p → PlainB W6 p.block := fun p hp => (hr5 p hp).2.same (hs6 _ (by have := (hr5 p hp).1; omega))
    have si6 := sys_same si5 hs6 (fun p hp e => by have := (hr5 p hp).1; omega)
    have hlo6 : ∀ p, rn.pa = some p ∨ rn.ta = some p ∨ rn.ba = some p → W.heap.size < p.block := fun p hp => by have := (hr5 p hp).1; have := ho4.size; omega
    clear hW6
    have f0 := blk_cell bR6 0
    have f1 := blk_cell bR6 1
    have f2 := blk_cell bR6 2
    have f3 := blk_cell bR6 3
    have z0 := blk_free bR6 0
    have z1 := blk_free bR6 1
    have z2 := blk_free bR6 2
    have z3 := blk_free bR6 3
    have g0 := blk_cell bS6 0
    have g1 := blk_cell bS6 1
    have g2 := blk_cell bS6 2
    have g3 := blk_cell bS6 3
    simp at f0 f1 f2 f3 g0 g1 g2 g3
    go_wp2
    clear f0 f1 f2 f3 z0 z1 z2 z3 g0 g1 g2 g3
    generalize hY4 : World.setCell _ _ _ = Y4
    obtain ⟨hoF, hsF, bF⟩ := set4 ho6 (Nat.le_refl _) bR6 hY4
    have r0 := blk_cell bF 0
    have r1 := blk_cell bF 1
    have r2 := blk_cell bF 2
    have r3 := blk_cell bF 3
    simp at r0 r1 r2 r3
    refine bodyPost_ret (v := rn.val sn) (by simp [Ref.val, results, Try.results66, go_sem, r0, r1, r2, r3]) rfl ?_
    exact ⟨rn, sn, rfl, hoF, HC0.out.via hc6 hoF (hsF C hCR), sys_same si6 hsF (fun p hp e => by have := hlo6 p hp; omega), fun p hp => ⟨Nat.le_of_lt (hlo6 p hp), (pl6 p hp).same (hsF _ (by have := hlo6 p hp; omega))⟩, tn⟩
  · skip
    obtain ⟨sn, hsn⟩ := numS_ex countF (1 + (m : Int))
    go_wp2_with fail
    refine Calls.mono (specCount_ans (W := W4) _ sn hsn (Ext.self W4)) ?_
    rintro e w' ⟨rn, z, rfl, rfl, hr5, si5⟩
    have tn : TabsOk sn := by
      rcases hsn with ⟨q, q1, q2, q3, rfl⟩ | ⟨q, _⟩
      · exact tabs_of (N := q + 2) rfl (by omega) (by omega) (grid_len _ _) (grid_len _ _) (grid_len _ _)
      · omega
    clear hsn
    have bSy := z.blk bS4
    have k0 := blk_cell bSy 0
    have k1 := blk_cell bSy 1
    have k2 := blk_cell bSy 2
    have k3 := blk_cell bSy 3
    have y0 := blk_free bSy 0
    have y1 := blk_free bSy 1
    have y2 := blk_free bSy 2
    have y3 := blk_free bSy 3
    simp at k0 k1 k2 k3
    go_upto_region 13 with fail
    clear k0 k1 k2 k3 y0 y1 y2 y3
    generalize hW6 : World.setCell _ _ _ = W6
    obtain ⟨ho6, hs6, bS6⟩ := set4 (ho4.ext' z) (show W.heap.size ≤ S by omega) bSy hW6
    have bR6 := (hs6 _ hSR).trans (z.blk bR4)
    have hc6 := HC0.out.via (hc4.ext z) ho6 (hs6 C hCS)
    have hz4 := (Array.getElem?_eq_some_iff.1 bS4).1
    have pl6 : ∀ p, rn.pa = some p ∨ rn.ta = some p ∨ rn.ba = some p → PlainB W6 p.block := fun p hp => (hr5 p hp).2.same (hs6 _ (by have := (hr5 p hp).1; omega))
    have si6 := sys_same si5 hs6 (fun p hp e => by have := (hr5 p hp).1; omega)
    have hlo6 : ∀ p, rn.pa = some p ∨ rn.ta = some p ∨ rn.ba = some p → W.heap.size < p.block := fun p hp => by have := (hr5 p hp).1; have := ho4.size; omega
    clear hW6
    have f0 := blk_cell bR6 0
    have f1 := blk_cell bR6 1
    have f2 := blk_cell bR6 2
    have f3 := blk_cell bR6 3
    have z0 := blk_free bR6 0
    have z1 := blk_free bR6 1
    have z2 := blk_free bR6 2
    have z3 := blk_free bR6 3
    have g0 := blk_cell bS6 0
    have g1 := blk_cell bS6 1
    have g2 := blk_cell bS6 2
    have g3 := blk_cell bS6 3
    simp at f0 f1 f2 f3 g0 g1 g2 g3
    go_wp2
    clear f0 f1 f2 f3 z0 z1 z2 z3 g0 g1 g2 g3
    generalize hY4 : World.setCell _ _ _ = Y4
    obtain ⟨hoF, hsF, bF⟩ := set4 ho6 (Nat.le_refl _) bR6 hY4
    have r0 := blk_cell bF 0
    have r1 := blk_cell bF 1
    have r2 := blk_cell bF 2
    have r3 := blk_cell bF 3
    simp at r0 r1 r2 r3
    refine bodyPost_ret (v := rn.val sn) (by simp [Ref.val, results, Try.results66, go_sem, r0, r1, r2, r3]) rfl ?_
    exact ⟨rn, sn, rfl, hoF, HC0.out.via hc6 hoF (hsF C hCR), sys_same si6 hsF (fun p hp e => by have := hlo6 p hp; omega), fun p hp => ⟨Nat.le_of_lt (hlo6 p hp), (pl6 p hp).same (hsF _ (by have := hlo6 p hp; omega))⟩, tn⟩
  · skip
    obtain ⟨sn, hsn⟩ := levS_ex (1 + (m : Int))
    go_wp2_with fail
    refine Calls.mono (specLevel_ans (W := W4) _ sn hsn (Ext.self W4)) ?_
    rintro e w' ⟨rn, z, rfl, rfl, hr5, si5⟩
    have tn : TabsOk sn := by
      rcases hsn with ⟨q, q1, q2, q3, rfl⟩ | ⟨q, _⟩
      · exact tabs_of (N := q + 1) rfl (by omega) (by omega) (grid_len _ _) (grid_len _ _) (grid_len _ _)
      · omega
    clear hsn
    have bSy := z.blk bS4
    have k0 := blk_cell bSy 0
    have k1 := blk_cell bSy 1
    have k2 := blk_cell bSy 2
    have k3 := blk_cell bSy 3
    have y0 := blk_free bSy 0
    have y1 := blk_free bSy 1
    have y2 := blk_free bSy 2
    have y3 := blk_free bSy 3
    simp at k0 k1 k2 k3
    go_upto_region 13 with fail
    clear k0 k1 k2 k3 y0 y1 y2 y3
    generalize hW6 : World.setCell _ _ _ = W6
    obtain ⟨ho6, hs6, bS6⟩ := set4 (ho4.ext' z) (show W.heap.size ≤ S by omega) bSy hW6
    have bR6 := (hs6 _ hSR).trans (z.blk bR4)
    have hc6 := HC0.out.via (hc4.ext z) ho6 (hs6 C hCS)
    have hz4 := (Array.getElem?_eq_some_iff.1 bS4).1
    have pl6 : ∀ p, rn.pa = some p ∨ rn.ta = some p ∨ rn.ba = some p → PlainB W6 p.block := fun p hp => (hr5 p hp).2.same (hs6 _ (by have := (hr5 p hp).1; omega))
    have si6 := sys_same si5 hs6 (fun p hp e => by have := (hr5 p hp).1; omega)
    have hlo6 : ∀ p, rn.pa = some p ∨ rn.ta = some p ∨ rn.ba = some p → W.heap.size < p.block := fun p hp => by have := (hr5 p hp).1; have := ho4.size; omega
    clear hW6
    have f0 := blk_cell bR6 0
    have f1 := blk_cell bR6 1
    have f2 := blk_cell bR6 2
    have f3 := blk_cell bR6 3
    have z0 := blk_free bR6 0
    have z1 := blk_free bR6 1
    have z2 := blk_free bR6 2
    have z3 := blk_free bR6 3
    have g0 := blk_cell bS6 0
    have g1 := blk_cell bS6 1
    have g2 := blk_cell bS6 2
    have g3 := blk_cell bS6 3
    simp at f0 f1 f2 f3 g0 g1 g2 g3
    go_wp2
    clear f0 f1 f2 f3 z0 z1 z2 z3 g0 g1 g2 g3
    generalize hY4 : World.setCell _ _ _ = Y4
    obtain ⟨hoF, hsF, bF⟩ := set4 ho6 (Nat.le_refl _) bR6 hY4
    have r0 := blk_cell bF 0
    have r1 := blk_cell bF 1
    have r2 := blk_cell bF 2
    have r3 := blk_cell bF 3
    simp at r0 r1 r2 r3
    refine bodyPost_ret (v := rn.val sn) (by simp [Ref.val, results, Try.results66, go_sem, r0, r1, r2, r3]) rfl ?_
    exact ⟨rn, sn, rfl, hoF, HC0.out.via hc6 hoF (hsF C hCR), sys_same si6 hsF (fun p hp e => by have := hlo6 p hp; omega), fun p hp => ⟨Nat.le_of_lt (hlo6 p hp), (pl6 p hp).same (hsF _ (by have := hlo6 p hp; omega))⟩, tn⟩
  · skip
    obtain ⟨sn, hsn⟩ := levS_ex (1 + (m : Int))
    go_wp2_with fail
    refine Calls.mono (specLevel_ans (W := W4) _ sn hsn (Ext.self W4)) ?_
    rintro e w' ⟨rn, z, rfl, rfl, hr5, si5⟩
    have tn : TabsOk sn := by
      rcases hsn with ⟨q, q1, q2, q3, rfl⟩ | ⟨q, _⟩
      · exact tabs_of (N := q + 1) rfl (by omega) (by omega) (grid_len _ _) (grid_len _ _) (grid_len _ _)
      · omega
    clear hsn
    have bSy := z.blk bS4
    have k0 := blk_cell bSy 0
    have k1 := blk_cell bSy 1
    have k2 := blk_cell bSy 2
    have k3 := blk_cell bSy 3
    have y0 := blk_free bSy 0
    have y1 := blk_free bSy 1
    have y2 := blk_free bSy 2
    have y3 := blk_free bSy 3
    simp at k0 k1 k2 k3
    go_upto_region 13 with fail
    clear k0 k1 k2 k3 y0 y1 y2 y3
    generalize hW6 : World.setCell _ _ _ = W6
    obtain ⟨ho6, hs6, bS6⟩ := set4 (ho4.ext' z) (show W.heap.size ≤ S by omega) bSy hW6
    have bR6 := (hs6 _ hSR).trans (z.blk bR4)
    have hc6 := HC0.out.via (hc4.ext z) ho6 (hs6 C hCS)
    have hz4 := (Array.getElem?_eq_some_iff.1 bS4).1
    have pl6 : ∀ p, rn.pa = some p ∨ rn.ta = some p ∨ rn.ba = some p → PlainB W6 p.block := fun p hp => (hr5 p hp).2.same (hs6 _ (by have := (hr5 p hp).1; omega))
    have si6 := sys_same si5 hs6 (fun p hp e => by have := (hr5 p hp).1; omega)
    have hlo6 : ∀ p, rn.pa = some p ∨ rn.ta = some p ∨ rn.ba = some p → W.heap.size < p.block := fun p hp => by have := (hr5 p hp).1; have := ho4.size; omega
    clear hW6
    have f0 := blk_cell bR6 0
    have f1 := blk_cell bR6 1
    have f2 := blk_cell bR6 2
    have f3 := blk_cell bR6 3
    have z0 := blk_free bR6 0
    have z1 := blk_free bR6 1
    have z2 := blk_free bR6 2
    have z3 := blk_free bR6 3
    have g0 := blk_cell bS6 0
    have g1 := blk_cell bS6 1
    have g2 := blk_cell bS6 2
    have g3 := blk_cell bS6 3
    simp at f0 f1 f2 f3 g0 g1 g2 g3
    go_wp2
    clear f0 f1 f2 f3 z0 z1 z2 z3 g0 g1 g2 g3
    generalize hY4 : World.setCell _ _ _ = Y4
    obtain ⟨hoF, hsF, bF⟩ := set4 ho6 (Nat.le_refl _) bR6 hY4
    have r0 := blk_cell bF 0
    have r1 := blk_cell bF 1
    have r2 := blk_cell bF 2
    have r3 := blk_cell bF 3
    simp at r0 r1 r2 r3
    refine bodyPost_ret (v := rn.val sn) (by simp [Ref.val, results, Try.results66, go_sem, r0, r1, r2, r3]) rfl ?_
    exact ⟨rn, sn, rfl, hoF, HC0.out.via hc6 hoF (hsF C hCR), sys_same si6 hsF (fun p hp e => by have := hlo6 p hp; omega), fun p hp => ⟨Nat.le_of_lt (hlo6 p hp), (pl6 p hp).same (hsF _ (by have := hlo6 p hp; omega))⟩, tn⟩
  · skip
    obtain ⟨sA, hsA⟩ := numS_ex countF 1
    have hA : Hid (sA = numS countF 1) := by
      show sA = numS countF 1
      rcases hsA with ⟨q, q1, q2, q3, e⟩ | ⟨q, _⟩
      · obtain rfl : q = 1 := by omega
        exact e
      · omega
    go_wp2_with fail
    refine Calls.mono (specCount_ans (W := W4) _ sA hsA (Ext.self W4)) ?_
    rintro e w' ⟨rA, zA, rfl, rfl, hrA, siA⟩
    clear hsA
    have C1 := l1Below_ans (hc4.ext zA) 2 (by omega) (by omega)
    have hoA := ho4.ext' zA
    have bRA := zA.blk bR4
    have bSA := zA.blk bS4
    have szA := zA.size
    go_wp2_with fail
    refine Calls.mono C1 ?_
    clear C1
    rintro e w' ⟨v, rfl, hv0, hv1, ho, hc5⟩
    have siA5 := siA.only ho (fun p hp e => by have := (hrA p hp).1; have := hc4.lt; omega)
    have ho5 := hoA.trans ho
    have bR5 := only_blk ho bRA (by omega)
    have bS5 := only_blk ho bSA (by omega)
    obtain ⟨W5, hW5⟩ : ∃ w, w = w' := ⟨_, rfl⟩
    rw [← hW5] at ho5 bR5 bS5 siA5 hc5 ho ⊢
    have sz5 := ho.size
    clear hW5 ho hoA bRA bSA siA
    obtain ⟨q, hq⟩ : ∃ q : Nat, v = (q : Int) := ⟨v.toNat, by omega⟩
    subst hq
    obtain ⟨sL, hsL⟩ := levS_ex (1 + (q : Int))
    have hL : Hid (∃ j : Nat, (j = 1 ∨ j = 2) ∧ sL = levS j) := by
      show ∃ j : Nat, (j = 1 ∨ j = 2) ∧ sL = levS j
      rcases hsL with ⟨j, q1, q2, q3, e⟩ | ⟨_, _⟩
      · refine ⟨j, by omega, ?_⟩
        rw [e, q1]
      · omega
    go_wp2_with fail
    refine Calls.mono (specLevel_ans (W := W5) _ sL hsL (Ext.self W5)) ?_
    rintro e w' ⟨rL, zL, rfl, rfl, hrL, siL⟩
    clear hsL
    have hHP : HasProduct sA sL := by
      obtain ⟨j, hj, hj2⟩ := hL.out
      have hA' := hA.out
      subst hA'
      subst hj2
      refine ⟨count1_sys, ?_, ?_⟩
      · rcases hj with rfl | rfl
        · exact lev1_sys
        · exact lev2_sys
      · rcases hj with rfl | rfl <;> decide
    have tn : TabsOk (prodS sA sL) := by
      have h1 := prod_le hHP
      have h2 := hHP.1.tab.lo
      have h3 := hHP.2.1.tab.lo
      have h4 : 2 * sL.n ≤ sA.n * sL.n := Int.mul_le_mul_of_nonneg_right h2 (by omega)
      exact tabs_of (N := (sA.n * sL.n).toNat) rfl (by omega) h1.1 (grid_len _ _) (grid_len _ _) (grid_len _ _)
    generalize hsn : prodS sA sL = sn at tn
    have C2 := specProduct_ans (W := zL.w) (siA5.ext zL) siL sn true (.inl ⟨hHP, hsn.symm, rfl⟩) (Ext.self zL.w)
    have ho7 := ho5.ext' zL
    have bR7 := zL.blk bR5
    have bS7 := zL.blk bS5
    have hc7 := hc5.ext zL
    have szL := zL.size
    clear hHP hsn hA hL siA5 siL ho5 bR5 bS5 hc5
    go_wp2_with fail
    refine Calls.mono C2 ?_
    clear C2
    rintro e w' ⟨rn, z, rfl, rfl, hr5, si5⟩
    have bSy := z.blk bS7
    have k0 := blk_cell bSy 0
    have k1 := blk_cell bSy 1
    have k2 := blk_cell bSy 2
    have k3 := blk_cell bSy 3
    have y0 := blk_free bSy 0
    have y1 := blk_free bSy 1
    have y2 := blk_free bSy 2
    have y3 := blk_free bSy 3
    simp at k0 k1 k2 k3
    go_upto_region 13 with fail
    clear k0 k1 k2 k3 y0 y1 y2 y3
    generalize hW6 : World.setCell _ _ _ = W6
    obtain ⟨ho6, hs6, bS6⟩ := set4 (ho7.ext' z) (show W.heap.size ≤ S by omega) bSy hW6
    have bR6 := (hs6 _ hSR).trans (z.blk bR7)
    have hc6 := HC0.out.via (hc7.ext z) ho6 (hs6 C hCS)
    have hz4 := (Array.getElem?_eq_some_iff.1 bS7).1
    have pl6 : ∀ p, rn.pa = some p ∨ rn.ta = some p ∨ rn.ba = some p → PlainB W6 p.block := fun p hp => (hr5 p hp).2.same (hs6 _ (by have := (hr5 p hp).1; omega))
    have si6 := sys_same si5 hs6 (fun p hp e => by have := (hr5 p hp).1; omega)
    have hlo6 : ∀ p, rn.pa = some p ∨ rn.ta = some p ∨ rn.ba = some p → W.heap.size < p.block := fun p hp => by have := (hr5 p hp).1; have := ho7.size; omega
    clear hW6
    have f0 := blk_cell bR6 0
    have f1 := blk_cell bR6 1
    have f2 := blk_cell bR6 2
    have f3 := blk_cell bR6 3
    have z0 := blk_free bR6 0
    have z1 := blk_free bR6 1
    have z2 := blk_free bR6 2
    have z3 := blk_free bR6 3
    have g0 := blk_cell bS6 0
    have g1 := blk_cell bS6 1
    have g2 := blk_cell bS6 2
    have g3 := blk_cell bS6 3
    simp at f0 f1 f2 f3 g0 g1 g2 g3
    go_wp2
    clear f0 f1 f2 f3 z0 z1 z2 z3 g0 g1 g2 g3
    generalize hY4 : World.setCell _ _ _ = Y4
    obtain ⟨hoF, hsF, bF⟩ := set4 ho6 (Nat.le_refl _) bR6 hY4
    have r0 := blk_cell bF 0
    have r1 := blk_cell bF 1
    have r2 := blk_cell bF 2
    have r3 := blk_cell bF 3
    simp at r0 r1 r2 r3
    refine bodyPost_ret (v := rn.val sn) (by simp [Ref.val, results, Try.results66, go_sem, r0, r1, r2, r3]) rfl ?_
    exact ⟨rn, sn, rfl, hoF, HC0.out.via hc6 hoF (hsF C hCR), sys_same si6 hsF (fun p hp e => by have := hlo6 p hp; omega), fun p hp => ⟨Nat.le_of_lt (hlo6 p hp), (pl6 p hp).same (hsF _ (by have := hlo6 p hp; omega))⟩, tn⟩
  · skip
    obtain ⟨W6, hW6⟩ : ∃ w, w = W4 := ⟨_, rfl⟩
    have ho6 := ho4
    have bR6 := bR4
    have bS6 := bS4
    have hc6 := hc4
    have si6 := si4
    have pl6 := pl4
    have hlo6 : ∀ p, r1.pa = some p ∨ r1.ta = some p ∨ r1.ba = some p → W.heap.size < p.block := fun p hp => Nat.lt_of_lt_of_le hlt2 (hr1' p hp)
    have f0 := blk_cell bR6 0
    have f1 := blk_cell bR6 1
    have f2 := blk_cell bR6 2
    have f3 := blk_cell bR6 3
    have z0 := blk_free bR6 0
    have z1 := blk_free bR6 1
    have z2 := blk_free bR6 2
    have z3 := blk_free bR6 3
    have g0 := blk_cell bS6 0
    have g1 := blk_cell bS6 1
    have g2 := blk_cell bS6 2
    have g3 := blk_cell bS6 3
    simp at f0 f1 f2 f3 g0 g1 g2 g3
    go_wp2
    clear f0 f1 f2 f3 z0 z1 z2 z3 g0 g1 g2 g3
    generalize hY4 : World.setCell _ _ _ = Y4
    obtain ⟨hoF, hsF, bF⟩ := set4 ho6 (Nat.le_refl _) bR6 hY4
    have rq0 := blk_cell bF 0
    have rq1 := blk_cell bF 1
    have rq2 := blk_cell bF 2
    have rq3 := blk_cell bF 3
    simp at rq0 rq1 rq2 rq3
    refine bodyPost_ret (v := r1.val sb) (by simp [Ref.val, results, Try.results66, go_sem, rq0, rq1, rq2, rq3]) rfl ?_
    exact ⟨r1, sb, rfl, hoF, HC0.out.via hc6 hoF (hsF C hCR), sys_same si6 hsF (fun p hp e => by have := hlo6 p hp; omega), fun p hp => ⟨Nat.le_of_lt (hlo6 p hp), (pl6 p hp).same (hsF _ (by have := hlo6 p hp; omega))⟩, tb⟩
  · skip
    obtain ⟨W6, hW6⟩ : ∃ w, w = W4 := ⟨_, rfl⟩
    have ho6 := ho4
    have bR6 := bR4
    have bS6 := bS4
    have hc6 := hc4
    have si6 := si4
    have pl6 := pl4
    have hlo6 : ∀ p, r1.pa = some p ∨ r1.ta = some p ∨ r1.ba = some p → W.heap.size < p.block := fun p hp => Nat.lt_of_lt_of_le hlt2 (hr1' p hp)
    have f0 := blk_cell bR6 0
    have f1 := blk_cell bR6 1
    have f2 := blk_cell bR6 2
    have f3 := blk_cell bR6 3
    have z0 := blk_free bR6 0
    have z1 := blk_free bR6 1
    have z2 := blk_free bR6 2
    have z3 := blk_free bR6 3
    have g0 := blk_cell bS6 0
    have g1 := blk_cell bS6 1
    have g2 := blk_cell bS6 2
    have g3 := blk_cell bS6 3
    simp at f0 f1 f2 f3 g0 g1 g2 g3
    go_wp2
    clear f0 f1 f2 f3 z0 z1 z2 z3 g0 g1 g2 g3
    generalize hY4 : World.setCell _ _ _ = Y4
    obtain ⟨hoF, hsF, bF⟩ := set4 ho6 (Nat.le_refl _) bR6 hY4
    have rq0 := blk_cell bF 0
    have rq1 := blk_cell bF 1
    have rq2 := blk_cell bF 2
    have rq3 := blk_cell bF 3
    simp at rq0 rq1 rq2 rq3
    refine bodyPost_ret (v := r1.val sb) (by simp [Ref.val, results, Try.results66, go_sem, rq0, rq1, rq2, rq3]) rfl ?_
    exact ⟨r1, sb, rfl, hoF, HC0.out.via hc6 hoF (hsF C hCR), sys_same si6 hsF (fun p hp e => by have := hlo6 p hp; omega), fun p hp => ⟨Nat.le_of_lt (hlo6 p hp), (pl6 p hp).same (hsF _ (by have := hlo6 p hp; omega))⟩, tb⟩

end Go.Proofs.Ytkokmpdmmfghhaa
