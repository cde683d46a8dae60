
/- A region of the model's product of systems. -/
import Derived.Test.YtkokmpdmmfghhaaKProdF
import Derived.LoopTactic
import Derived.Deep.Cut
import Derived.RegionTactic
import Derived.Deep.RegionHeld3
import Derived.Outline
namespace Go.Proofs.Ytkokmpdmmfghhaa
open Go.RowKit

set_option maxRecDepth 100000 in
set_option maxHeartbeats 8000000 in
theorem prodReg2 {Q : Exit → Act → World → Prop} {Y wq : World} {r r' : Ref} {A B : Sys} {B0 C N : Nat} {v1 v2 v3 : Value} {p1 p2 : List Int} {p3 : List Bool}
    (hy' : SysIn Y r A) (ky' : SysIn Y r' B) (ta : Tables A) (tb : Tables B) {fa fb sa sb : Int} (hx : G A fa) (hz : G A fb) (hy : G B sa) (hw : G B sb)
    (HBA : Hid (Y.heap[B0]? = some (.cells #[.int .i64 A.n, .slice r.pa A.plus.length r.pc, .slice r.ta A.times.length r.tc, .slice r.ba A.below.length r.bc] 27 (0, 0))))
    (HBB : Hid (Y.heap[B0 + 1]? = some (.cells #[.int .i64 B.n, .slice r'.pa B.plus.length r'.pc, .slice r'.ta B.times.length r'.tc, .slice r'.ba B.below.length r'.bc] 27 (0, 0))))
    (A2 : AccS Y wq (B0 + 1 + 1) C (N : Int) v1 v2 v3 p1 p2 p3) (hl1 : p1.length ≤ 999) (hl2 : p2.length ≤ 999) (hl3 : p3.length ≤ 999) {c0 c1 c4 c5 c8 c9 c14 c15 c16 c17 c18 c19 c20 c21 c22 c23 c24 c25 c26 c27 c28 c29 c30 c31 c32 c33 c34 c35 c36 c37 c38 c39 c40 c41 c42 c43 c44 c45 c46 c47 c48 c49 c50 c51 c52 c53 c54 c55 c56 c57 c58 c59 c60 c61 c62 c63 c64 c65 c66 c67 c68 c69 c70 c71 c72 c73 c74 c75 c76 c77 c78 c79 c80 c81 c82 c83 c84 c85 c86 c87 c88 c89 c90 c91 c92 c93 c94 c95 : Value}
    (hK : ∀ (u65 u66 u67 u68 u69 u70 u71 u72 u73 u74 u75 u76 u77 u78 u79 : Value) (v' : Value) (w' : World), AccS Y w' (B0 + 1 + 1) C (N : Int) v1 v' v3 p1 (p2 ++ [pairN B.n (A.mul fa fb) (B.mul sa sb)]) p3 → Q .normal ⟨#[c0, c1, .pointer (some ⟨B0, 0, none⟩), .pointer (some ⟨B0 + 1, 0, none⟩), c4, c5, .int .i64 B.n, .pointer (some ⟨C, 0, none⟩), c8, c9, .int .i64 fa, .int .i64 sa, .int .i64 fb, .int .i64 sb, c14, c15, c16, c17, c18, c19, c20, c21, c22, c23, c24, c25, c26, c27, c28, c29, c30, c31, c32, c33, c34, c35, c36, c37, c38, c39, c40, c41, c42, c43, c44, c45, c46, c47, c48, c49, c50, c51, c52, c53, c54, c55, c56, c57, c58, c59, c60, c61, c62, c63, c64, u65, u66, u67, u68, u69, u70, u71, u72, u73, u74, u75, u76, u77, u78, u79, c80, c81, c82, c83, c84, c85, c86, c87, c88, c89, c90, c91, c92, c93, c94, c95], []⟩ w') :
    Code.wp Try.prog (prodR 16) Q ⟨#[c0, c1, .pointer (some ⟨B0, 0, none⟩), .pointer (some ⟨B0 + 1, 0, none⟩), c4, c5, .int .i64 B.n, .pointer (some ⟨C, 0, none⟩), c8, c9, .int .i64 fa, .int .i64 sa, .int .i64 fb, .int .i64 sb, c14, c15, c16, c17, c18, c19, c20, c21, c22, c23, c24, c25, c26, c27, c28, c29, c30, c31, c32, c33, c34, c35, c36, c37, c38, c39, c40, c41, c42, c43, c44, c45, c46, c47, c48, c49, c50, c51, c52, c53, c54, c55, c56, c57, c58, c59, c60, c61, c62, c63, c64, c65, c66, c67, c68, c69, c70, c71, c72, c73, c74, c75, c76, c77, c78, c79, c80, c81, c82, c83, c84, c85, c86, c87, c88, c89, c90, c91, c92, c93, c94, c95], []⟩ wq := by
  have hB2 := tb.lo
  have hB16 := tb.hi
  have hA2 := ta.lo
  have hA16 := ta.hi
  have hmx1 : p1.length + 1 ≤ maxLen := by unfold maxLen; omega
  have hmx2 : p2.length + 1 ≤ maxLen := by unfold maxLen; omega
  have hmx3 : p3.length + 1 ≤ maxLen := by unfold maxLen; omega
  have hbx1 : (p1.length + 1) * 8 ≤ 140737488355328 := by omega
  have hbx2 : (p2.length + 1) * 8 ≤ 140737488355328 := by omega
  have hbx3 : (p3.length + 1) * 1 ≤ 140737488355328 := by omega
  obtain ⟨i0, hi0, hz0, hz1, hz2⟩ := info_parts info_int
  obtain ⟨ib, hib, hy0, hy1, hy2⟩ := info_parts info_bool
  conv => arg 2; whnf
  obtain ⟨a2, d2, rfl⟩ := own_slice A2.o2
  have KC : Hid (∀ w', Below wq.heap.size wq w' → w'.cell? ⟨C, 2, none⟩ = some (.slice a2 p2.length d2) ∧ w'.frozen? ⟨C, 2, none⟩ = false) := fun w' b' => ⟨blk_cell ((Ext.mk w' b').blk A2.blk) 2, blk_free ((Ext.mk w' b').blk A2.blk) 2⟩
  have KEEP : Hid (∀ w', Below Y.heap.size Y w' → (w'.cell? ⟨B0, 0, none⟩ = some (.int .i64 A.n) ∧ w'.cell? ⟨B0, 1, none⟩ = some (.slice r.pa A.plus.length r.pc) ∧ w'.cell? ⟨B0, 2, none⟩ = some (.slice r.ta A.times.length r.tc) ∧ w'.cell? ⟨B0, 3, none⟩ = some (.slice r.ba A.below.length r.bc)) ∧
      (w'.cell? ⟨B0 + 1, 0, none⟩ = some (.int .i64 B.n) ∧ w'.cell? ⟨B0 + 1, 1, none⟩ = some (.slice r'.pa B.plus.length r'.pc) ∧ w'.cell? ⟨B0 + 1, 2, none⟩ = some (.slice r'.ta B.times.length r'.tc) ∧ w'.cell? ⟨B0 + 1, 3, none⟩ = some (.slice r'.ba B.below.length r'.bc))) := fun w' b' => by
    have b2 := (Ext.mk w' b').blk HBA.out
    have b3 := (Ext.mk w' b').blk HBB.out
    exact ⟨⟨blk_cell b2 0, blk_cell b2 1, blk_cell b2 2, blk_cell b2 3⟩, blk_cell b3 0, blk_cell b3 1, blk_cell b3 2, blk_cell b3 3⟩
  have OWN : Hid (∀ w', Below wq.heap.size wq w' → w'.ownsRow Y.heap.size 3 1 (.slice a2 p2.length d2) p2.length (p2.map (Value.int .i64))) := fun w' b' => owns_ext A2.o2 ⟨w', b'⟩
  have HBAS : Hid (∀ w', Below wq.heap.size wq w' → Y.heap.size ≤ w'.heap.size) := fun w' b' => Nat.le_trans A2.bel.size b'.size
  have hYC : Y.heap.size ≤ C := A2.lo
  have hvC1 : (Value.slice a2 p2.length d2).ownBlock ≠ some C := own_ne A2.o2 A2.blk no_int_sys
  have KB : Hid (∀ w', Below wq.heap.size wq w' → w'.heap[C]? = some (accV (N : Int) v1 (.slice a2 p2.length d2) v3)) := fun w' b' => (Ext.mk w' b').blk A2.blk
  have hlo1 : ∀ k, (Value.slice a2 p2.length d2).ownBlock = some k → Y.heap.size ≤ k := fun k hk => (A2.o2.lt k hk).1
  have hAq := hy'.ext ⟨wq, A2.bel⟩
  have hBq := ky'.ext ⟨wq, A2.bel⟩
  have CA : Hid (∀ w', Below wq.heap.size wq w' → Calls Try.prog 93 #[r.val A, .int .i64 fa, .int .i64 fb] w' (Ans w' (.int .i64 (A.mul fa fb)))) := fun w' b' => l1Mul_ans (hAq.ext ⟨w', b'⟩) ta hx hz (Ext.self w')
  have CB : Hid (∀ w', Below wq.heap.size wq w' → Calls Try.prog 93 #[r'.val B, .int .i64 sa, .int .i64 sb] w' (Ans w' (.int .i64 (B.mul sa sb)))) := fun w' b' => l1Mul_ans (hBq.ext ⟨w', b'⟩) tb hy hw (Ext.self w')
  have hga := ta.mulG hx hz
  have hgb := tb.mulG hy hw
  have CP : Hid (∀ w', Below wq.heap.size wq w' → Calls Try.prog 116 #[.int .i64 B.n, .int .i64 (A.mul fa fb), .int .i64 (B.mul sa sb)] w' (Ans w' (.int .i64 (pairN B.n (A.mul fa fb) (B.mul sa sb))))) := fun w' b' => l1Pair_ans B.n _ _ _ ⟨hB2, hB16⟩ ⟨hga.1, by have := hga.2; omega⟩ hgb rfl (Ext.self w')
  unfold Ref.val at CA CB
  clear hga hgb hAq hBq
  generalize hpa : A.mul fa fb = pa at *
  generalize hpb : B.mul sa sb = pb at *
  clear hpa hpb
  have cf9 := (KC.out wq.drew (by (with_reducible (repeat (first | exact Below.refl _ _ | refine belx_alloc ?_ _ | refine belx_drew ?_ | refine belx_ext ?_ _))))).1
  refine wp_region_noPanic ?_
  refine wp_region_held_drew (S := (fun w' => (w'.cell? ⟨B0, 0, none⟩ = some (.int .i64 A.n) ∧ w'.cell? ⟨B0, 1, none⟩ = some (.slice r.pa A.plus.length r.pc) ∧ w'.cell? ⟨B0, 2, none⟩ = some (.slice r.ta A.times.length r.tc) ∧ w'.cell? ⟨B0, 3, none⟩ = some (.slice r.ba A.below.length r.bc)) ∧
      (w'.cell? ⟨B0 + 1, 0, none⟩ = some (.int .i64 B.n) ∧ w'.cell? ⟨B0 + 1, 1, none⟩ = some (.slice r'.pa B.plus.length r'.pc) ∧ w'.cell? ⟨B0 + 1, 2, none⟩ = some (.slice r'.ta B.times.length r'.tc) ∧ w'.cell? ⟨B0 + 1, 3, none⟩ = some (.slice r'.ba B.below.length r'.bc)))) (by kernel_rfl) ?_ (fun hHeld => ?_)
  · (try dsimp only)
    refine KEEP.out _ ?_
    (repeat (first | exact A2.bel | refine belx_alloc ?_ _ | refine belx_drew ?_ | refine belx_ext ?_ _ | refine Below.setCell ?_ hYC _ | (refine Below.grown ?_ gr1 (HBAS.out _ (by (with_reducible (repeat (first | exact Below.refl _ _ | refine belx_alloc ?_ _ | refine belx_drew ?_ | refine belx_ext ?_ _))))) hlo1)))
  refine wpAnyH_take (i := 0) (v := ?_) rfl (by kernel_rfl) (by kernel_rfl) (by kernel_rfl) (fun _ _ _ h => h) (Or.inl ⟨by rfl, ?_⟩) hHeld ?_
  rotate_left
  · intro w hSw; (try dsimp only at hSw); (try simp only [List.getElem_toArray, List.getElem_cons_zero]); first | (go_simp; done) | (go_simp; with_reducible rfl)
  try simp only [List.getElem_toArray, List.getElem_cons_zero, Act.put, List.setIfInBounds_toArray, List.set_cons_zero, List.set_cons_succ]
  refine wpAnyH_take (i := 2) (v := ?_) rfl (by kernel_rfl) (by kernel_rfl) (by kernel_rfl) (fun _ _ _ h => h) (Or.inl ⟨by rfl, ?_⟩) hHeld ?_
  rotate_left
  · intro w hSw; (try dsimp only at hSw); (try simp only [List.getElem_toArray, List.getElem_cons_succ, List.getElem_cons_zero]); first | (go_simp; done) | (go_simp; with_reducible rfl)
  try simp only [List.getElem_toArray, List.getElem_cons_succ, List.getElem_cons_zero, Act.put, List.setIfInBounds_toArray, List.set_cons_zero, List.set_cons_succ]
  refine wpAnyH_take (i := 3) (v := ?_) rfl (by kernel_rfl) (by kernel_rfl) (by kernel_rfl) (fun _ _ _ h => h) (Or.inl ⟨by rfl, ?_⟩) hHeld ?_
  rotate_left
  · intro w hSw; (try dsimp only at hSw); (try simp only [List.getElem_toArray, List.getElem_cons_succ, List.getElem_cons_zero]); first | (go_simp; done) | (go_simp; with_reducible rfl)
  try simp only [List.getElem_toArray, List.getElem_cons_succ, List.getElem_cons_zero, Act.put, List.setIfInBounds_toArray, List.set_cons_zero, List.set_cons_succ]
  refine wpAnyH_take (i := 4) (v := ?_) rfl (by kernel_rfl) (by kernel_rfl) (by kernel_rfl) (fun _ _ _ h => h) (Or.inl ⟨by rfl, ?_⟩) hHeld ?_
  rotate_left
  · intro w hSw; (try dsimp only at hSw); (try simp only [List.getElem_toArray, List.getElem_cons_succ, List.getElem_cons_zero]); first | (go_simp; done) | (go_simp; with_reducible rfl)
  try simp only [List.getElem_toArray, List.getElem_cons_succ, List.getElem_cons_zero, Act.put, List.setIfInBounds_toArray, List.set_cons_zero, List.set_cons_succ]
  refine wpAnyH_take (i := 5) (v := ?_) rfl (by kernel_rfl) (by kernel_rfl) (by kernel_rfl) (fun _ _ _ h => h) (Or.inl ⟨by rfl, ?_⟩) hHeld ?_
  rotate_left
  · intro w hSw; (try dsimp only at hSw); (try simp only [List.getElem_toArray, List.getElem_cons_succ, List.getElem_cons_zero]); first | (go_simp; done) | (go_simp; with_reducible rfl)
  try simp only [List.getElem_toArray, List.getElem_cons_succ, List.getElem_cons_zero, Act.put, List.setIfInBounds_toArray, List.set_cons_zero, List.set_cons_succ]
  refine wpAnyH_take (i := 7) (v := ?_) rfl (by kernel_rfl) (by kernel_rfl) (by kernel_rfl) (fun _ _ _ h => h) (Or.inl ⟨by rfl, ?_⟩) hHeld ?_
  rotate_left
  · intro w hSw; (try dsimp only at hSw); (try simp only [List.getElem_toArray, List.getElem_cons_succ, List.getElem_cons_zero]); first | (go_simp; done) | (go_simp; with_reducible rfl)
  try simp only [List.getElem_toArray, List.getElem_cons_succ, List.getElem_cons_zero, Act.put, List.setIfInBounds_toArray, List.set_cons_zero, List.set_cons_succ]
  refine wpAnyH_take (i := 8) (v := ?_) rfl (by kernel_rfl) (by kernel_rfl) (by kernel_rfl) (fun _ _ _ h => h) (Or.inl ⟨by rfl, ?_⟩) hHeld ?_
  rotate_left
  · intro w hSw; (try dsimp only at hSw); (try simp only [List.getElem_toArray, List.getElem_cons_succ, List.getElem_cons_zero]); first | (go_simp; done) | (go_simp; with_reducible rfl)
  try simp only [List.getElem_toArray, List.getElem_cons_succ, List.getElem_cons_zero, Act.put, List.setIfInBounds_toArray, List.set_cons_zero, List.set_cons_succ]
  refine wpAnyH_take (i := 9) (v := ?_) rfl (by kernel_rfl) (by kernel_rfl) (by kernel_rfl) (fun _ _ _ h => h) (Or.inl ⟨by rfl, ?_⟩) hHeld ?_
  rotate_left
  · intro w hSw; (try dsimp only at hSw); (try simp only [List.getElem_toArray, List.getElem_cons_succ, List.getElem_cons_zero]); first | (go_simp; done) | (go_simp; with_reducible rfl)
  try simp only [List.getElem_toArray, List.getElem_cons_succ, List.getElem_cons_zero, Act.put, List.setIfInBounds_toArray, List.set_cons_zero, List.set_cons_succ]
  refine wpAnyH_ready (rs := [1, 6]) (by kernel_rfl) (by simp) ?_
  refine AllReadyH.cons rfl (fun K hK => ?_) ?_
  · skip
    try simp only [List.getElem_toArray, List.getElem_cons_succ, List.getElem_cons_zero]
    go_simp
    refine hK.out _ _ ?_ (fun hHeld2 => ?_)
    · (try dsimp only)
      refine KEEP.out _ ?_
      (repeat (first | exact A2.bel | refine belx_alloc ?_ _ | refine belx_drew ?_ | refine belx_ext ?_ _ | refine Below.setCell ?_ hYC _ | (refine Below.grown ?_ gr1 (HBAS.out _ (by (with_reducible (repeat (first | exact Below.refl _ _ | refine belx_alloc ?_ _ | refine belx_drew ?_ | refine belx_ext ?_ _))))) hlo1)))
    clear hK K hHeld
    have hHeld := hHeld2
    clear hHeld2
    try simp only [List.getElem_toArray, List.getElem_cons_succ, List.getElem_cons_zero, Act.put, List.setIfInBounds_toArray, List.set_cons_zero, List.set_cons_succ]
    refine wpAnyH_ready (rs := [6]) (by kernel_rfl) (by simp) ?_
    refine AllReadyH.cons rfl (fun K hK => ?_) ?_
    · skip
      try simp only [List.getElem_toArray, List.getElem_cons_succ, List.getElem_cons_zero]
      go_simp
      refine Calls.mono (CA.out _ (by (with_reducible (repeat (first | exact Below.refl _ _ | refine belx_alloc ?_ _ | refine belx_drew ?_ | refine belx_ext ?_ _))))) ?_
      rintro e w' ⟨rfl, y0, rfl⟩
      have cfy0 := (KC.out _ (by (with_reducible (repeat (first | exact Below.refl _ _ | refine belx_alloc ?_ _ | refine belx_drew ?_ | refine belx_ext ?_ _))) : Below wq.heap.size wq y0.w)).1
      (try dsimp only)
      refine hK.out _ _ ?_ (fun hHeld2 => ?_)
      · (try dsimp only)
        refine KEEP.out _ ?_
        (repeat (first | exact A2.bel | refine belx_alloc ?_ _ | refine belx_drew ?_ | refine belx_ext ?_ _ | refine Below.setCell ?_ hYC _ | (refine Below.grown ?_ gr1 (HBAS.out _ (by (with_reducible (repeat (first | exact Below.refl _ _ | refine belx_alloc ?_ _ | refine belx_drew ?_ | refine belx_ext ?_ _))))) hlo1)))
      clear hK K hHeld
      have hHeld := hHeld2
      clear hHeld2
      try simp only [List.getElem_toArray, List.getElem_cons_succ, List.getElem_cons_zero, Act.put, List.setIfInBounds_toArray, List.set_cons_zero, List.set_cons_succ]
      refine wpAnyH_ready (rs := [10]) (by kernel_rfl) (by simp) ?_
      refine AllReadyH.cons rfl (fun K hK => ?_) ?_
      · skip
        try simp only [List.getElem_toArray, List.getElem_cons_succ, List.getElem_cons_zero]
        go_simp
        refine Calls.mono (CB.out _ (by (with_reducible (repeat (first | exact Below.refl _ _ | refine belx_alloc ?_ _ | refine belx_drew ?_ | refine belx_ext ?_ _))))) ?_
        rintro e w' ⟨rfl, y1, rfl⟩
        have cfy1 := (KC.out _ (by (with_reducible (repeat (first | exact Below.refl _ _ | refine belx_alloc ?_ _ | refine belx_drew ?_ | refine belx_ext ?_ _))) : Below wq.heap.size wq y1.w)).1
        (try dsimp only)
        refine hK.out _ _ ?_ (fun hHeld2 => ?_)
        · (try dsimp only)
          refine KEEP.out _ ?_
          (repeat (first | exact A2.bel | refine belx_alloc ?_ _ | refine belx_drew ?_ | refine belx_ext ?_ _ | refine Below.setCell ?_ hYC _ | (refine Below.grown ?_ gr1 (HBAS.out _ (by (with_reducible (repeat (first | exact Below.refl _ _ | refine belx_alloc ?_ _ | refine belx_drew ?_ | refine belx_ext ?_ _))))) hlo1)))
        clear hK K hHeld
        have hHeld := hHeld2
        clear hHeld2
        try simp only [List.getElem_toArray, List.getElem_cons_succ, List.getElem_cons_zero, Act.put, List.setIfInBounds_toArray, List.set_cons_zero, List.set_cons_succ]
        refine wpAnyH_ready (rs := [11]) (by kernel_rfl) (by simp) ?_
        refine AllReadyH.cons rfl (fun K hK => ?_) ?_
        · skip
          try simp only [List.getElem_toArray, List.getElem_cons_succ, List.getElem_cons_zero]
          go_simp
          refine Calls.mono (CP.out _ (by (with_reducible (repeat (first | exact Below.refl _ _ | refine belx_alloc ?_ _ | refine belx_drew ?_ | refine belx_ext ?_ _))))) ?_
          rintro e w' ⟨rfl, y2, rfl⟩
          have cfy2 := (KC.out _ (by (with_reducible (repeat (first | exact Below.refl _ _ | refine belx_alloc ?_ _ | refine belx_drew ?_ | refine belx_ext ?_ _))) : Below wq.heap.size wq y2.w)).1
          have cfy3 := fun o => (KC.out _ (by (with_reducible (repeat (first | exact Below.refl _ _ | refine belx_alloc ?_ _ | refine belx_drew ?_ | refine belx_ext ?_ _))) : Below wq.heap.size wq (y2.w.alloc o))).1
          (try dsimp only)
          refine hK.out _ _ ?_ (fun hHeld2 => ?_)
          · (try dsimp only)
            refine KEEP.out _ ?_
            (repeat (first | exact A2.bel | refine belx_alloc ?_ _ | refine belx_drew ?_ | refine belx_ext ?_ _ | refine Below.setCell ?_ hYC _ | (refine Below.grown ?_ gr1 (HBAS.out _ (by (with_reducible (repeat (first | exact Below.refl _ _ | refine belx_alloc ?_ _ | refine belx_drew ?_ | refine belx_ext ?_ _))))) hlo1)))
          clear hK K hHeld
          have hHeld := hHeld2
          clear hHeld2
          try simp only [List.getElem_toArray, List.getElem_cons_succ, List.getElem_cons_zero, Act.put, List.setIfInBounds_toArray, List.set_cons_zero, List.set_cons_succ]
          refine wpAnyH_ready (rs := [12]) (by kernel_rfl) (by simp) ?_
          refine AllReadyH.cons rfl (fun K hK => ?_) ?_
          · skip
            try simp only [List.getElem_toArray, List.getElem_cons_succ, List.getElem_cons_zero]
            go_simp
            refine hK.out _ _ ?_ (fun hHeld2 => ?_)
            · (try dsimp only)
              refine KEEP.out _ ?_
              (repeat (first | exact A2.bel | refine belx_alloc ?_ _ | refine belx_drew ?_ | refine belx_ext ?_ _ | refine Below.setCell ?_ hYC _ | (refine Below.grown ?_ gr1 (HBAS.out _ (by (with_reducible (repeat (first | exact Below.refl _ _ | refine belx_alloc ?_ _ | refine belx_drew ?_ | refine belx_ext ?_ _))))) hlo1)))
            clear hK K hHeld
            have hHeld := hHeld2
            clear hHeld2
            try simp only [List.getElem_toArray, List.getElem_cons_succ, List.getElem_cons_zero, Act.put, List.setIfInBounds_toArray, List.set_cons_zero, List.set_cons_succ]
            refine wpAnyH_ready (rs := [13]) (by kernel_rfl) (by simp) ?_
            refine AllReadyH.cons rfl (fun K hK => ?_) ?_
            · skip
              refine step_app_src (by rfl) _ _ 24 (by rfl) Y.heap.size 3 i0 (.int .i64 0) 1 8 Try.underlying24 hi0 hz0 hz1 hz2 rfl (by decide) (.slice a2 p2.length d2) p2.length (p2.map (Value.int .i64)) (by rfl) (OWN.out _ (by (with_reducible (repeat (first | exact Below.refl _ _ | refine belx_alloc ?_ _ | refine belx_drew ?_ | refine belx_ext ?_ _))))) (some ⟨y2.w.heap.size, 0, none⟩) 1 1 [.int .i64 (pairN B.n pa pb)] (by rfl) ⟨rfl, one_ints _, .inr ⟨_, rfl, cell_one_at _ _ _ _ rfl⟩⟩ hmx2 hbx2 (HBAS.out _ (by (with_reducible (repeat (first | exact Below.refl _ _ | refine belx_alloc ?_ _ | refine belx_drew ?_ | refine belx_ext ?_ _))))) ?_
              intro A' c' w1 own1 gr1 hat1
              have bC1 := mid_blk (KB.out _ (by (with_reducible (repeat (first | exact Below.refl _ _ | refine belx_alloc ?_ _ | refine belx_drew ?_ | refine belx_ext ?_ _))))) gr1 hvC1
              have cC1 := blk_cell bC1 2
              have zC1 := blk_free bC1 2
              refine hK.out _ _ ?_ (fun hHeld2 => ?_)
              · (try dsimp only)
                refine KEEP.out _ ?_
                (repeat (first | exact A2.bel | refine belx_alloc ?_ _ | refine belx_drew ?_ | refine belx_ext ?_ _ | refine Below.setCell ?_ hYC _ | (refine Below.grown ?_ gr1 (HBAS.out _ (by (with_reducible (repeat (first | exact Below.refl _ _ | refine belx_alloc ?_ _ | refine belx_drew ?_ | refine belx_ext ?_ _))))) hlo1)))
              clear hK K hHeld
              have hHeld := hHeld2
              clear hHeld2
              try simp only [List.getElem_toArray, List.getElem_cons_succ, List.getElem_cons_zero, Act.put, List.setIfInBounds_toArray, List.set_cons_zero, List.set_cons_succ]
              refine wpAnyH_take (i := 14) (v := ?_) rfl (by kernel_rfl) (by kernel_rfl) (by kernel_rfl) (fun _ _ _ h => h) (Or.inl ⟨by rfl, ?_⟩) hHeld ?_
              rotate_left
              · intro w hSw; (try dsimp only at hSw); (try simp only [List.getElem_toArray, List.getElem_cons_succ, List.getElem_cons_zero]); first | (go_simp; done) | (go_simp; with_reducible rfl)
              try simp only [List.getElem_toArray, List.getElem_cons_succ, List.getElem_cons_zero, Act.put, List.setIfInBounds_toArray, List.set_cons_zero, List.set_cons_succ]
              refine wpAnyH_ready (rs := [15]) (by kernel_rfl) (by simp) ?_
              refine AllReadyH.cons rfl (fun K hK => ?_) ?_
              · skip
                try simp only [List.getElem_toArray, List.getElem_cons_succ, List.getElem_cons_zero]
                go_simp
                refine hK.out _ _ ?_ (fun hHeld2 => ?_)
                · (try dsimp only)
                  refine KEEP.out _ ?_
                  (repeat (first | exact A2.bel | refine belx_alloc ?_ _ | refine belx_drew ?_ | refine belx_ext ?_ _ | refine Below.setCell ?_ hYC _ | (refine Below.grown ?_ gr1 (HBAS.out _ (by (with_reducible (repeat (first | exact Below.refl _ _ | refine belx_alloc ?_ _ | refine belx_drew ?_ | refine belx_ext ?_ _))))) hlo1)))
                clear hK K hHeld
                have hHeld := hHeld2
                clear hHeld2
                try simp only [List.getElem_toArray, List.getElem_cons_succ, List.getElem_cons_zero, Act.put, List.setIfInBounds_toArray, List.set_cons_zero, List.set_cons_succ]
                refine wpAnyH_done (by kernel_rfl) ?_ _
                refine NoPanic.normal ?_
                exact hK _ _ _ _ _ _ _ _ _ _ _ _ _ _ _ _ _ ((A2.ext ⟨y2.w, by (with_reducible (repeat (first | exact Below.refl _ _ | refine belx_alloc ?_ _ | refine belx_drew ?_ | refine belx_ext ?_ _)))⟩).app2 own1 ⟨gr1, hat1, rfl⟩)
              exact AllReadyH.nil
            exact AllReadyH.nil
          exact AllReadyH.nil
        exact AllReadyH.nil
      exact AllReadyH.nil
    exact AllReadyH.nil
  refine AllReadyH.cons rfl (fun K hK => ?_) ?_
  · skip
    try simp only [List.getElem_toArray, List.getElem_cons_succ, List.getElem_cons_zero]
    go_simp
    refine Calls.mono (CA.out _ (by (with_reducible (repeat (first | exact Below.refl _ _ | refine belx_alloc ?_ _ | refine belx_drew ?_ | refine belx_ext ?_ _))))) ?_
    rintro e w' ⟨rfl, y0, rfl⟩
    have cfy0 := (KC.out _ (by (with_reducible (repeat (first | exact Below.refl _ _ | refine belx_alloc ?_ _ | refine belx_drew ?_ | refine belx_ext ?_ _))) : Below wq.heap.size wq y0.w)).1
    (try dsimp only)
    refine hK.out _ _ ?_ (fun hHeld2 => ?_)
    · (try dsimp only)
      refine KEEP.out _ ?_
      (repeat (first | exact A2.bel | refine belx_alloc ?_ _ | refine belx_drew ?_ | refine belx_ext ?_ _ | refine Below.setCell ?_ hYC _ | (refine Below.grown ?_ gr1 (HBAS.out _ (by (with_reducible (repeat (first | exact Below.refl _ _ | refine belx_alloc ?_ _ | refine belx_drew ?_ | refine belx_ext ?_ _))))) hlo1)))
    clear hK K hHeld
    have hHeld := hHeld2
    clear hHeld2
    try simp only [List.getElem_toArray, List.getElem_cons_succ, List.getElem_cons_zero, Act.put, List.setIfInBounds_toArray, List.set_cons_zero, List.set_cons_succ]
    refine wpAnyH_ready (rs := [1, 10]) (by kernel_rfl) (by simp) ?_
    refine AllReadyH.cons rfl (fun K hK => ?_) ?_
    · skip
      try simp only [List.getElem_toArray, List.getElem_cons_succ, List.getElem_cons_zero]
      go_simp
      refine hK.out _ _ ?_ (fun hHeld2 => ?_)
      · (try dsimp only)
        refine KEEP.out _ ?_
        (repeat (first | exact A2.bel | refine belx_alloc ?_ _ | refine belx_drew ?_ | refine belx_ext ?_ _ | refine Below.setCell ?_ hYC _ | (refine Below.grown ?_ gr1 (HBAS.out _ (by (with_reducible (repeat (first | exact Below.refl _ _ | refine belx_alloc ?_ _ | refine belx_drew ?_ | refine belx_ext ?_ _))))) hlo1)))
      clear hK K hHeld
      have hHeld := hHeld2
      clear hHeld2
      try simp only [List.getElem_toArray, List.getElem_cons_succ, List.getElem_cons_zero, Act.put, List.setIfInBounds_toArray, List.set_cons_zero, List.set_cons_succ]
      refine wpAnyH_ready (rs := [10]) (by kernel_rfl) (by simp) ?_
      refine AllReadyH.cons rfl (fun K hK => ?_) ?_
      · skip
        try simp only [List.getElem_toArray, List.getElem_cons_succ, List.getElem_cons_zero]
        go_simp
        refine Calls.mono (CB.out _ (by (with_reducible (repeat (first | exact Below.refl _ _ | refine belx_alloc ?_ _ | refine belx_drew ?_ | refine belx_ext ?_ _))))) ?_
        rintro e w' ⟨rfl, y1, rfl⟩
        have cfy1 := (KC.out _ (by (with_reducible (repeat (first | exact Below.refl _ _ | refine belx_alloc ?_ _ | refine belx_drew ?_ | refine belx_ext ?_ _))) : Below wq.heap.size wq y1.w)).1
        (try dsimp only)
        refine hK.out _ _ ?_ (fun hHeld2 => ?_)
        · (try dsimp only)
          refine KEEP.out _ ?_
          (repeat (first | exact A2.bel | refine belx_alloc ?_ _ | refine belx_drew ?_ | refine belx_ext ?_ _ | refine Below.setCell ?_ hYC _ | (refine Below.grown ?_ gr1 (HBAS.out _ (by (with_reducible (repeat (first | exact Below.refl _ _ | refine belx_alloc ?_ _ | refine belx_drew ?_ | refine belx_ext ?_ _))))) hlo1)))
        clear hK K hHeld
        have hHeld := hHeld2
        clear hHeld2
        try simp only [List.getElem_toArray, List.getElem_cons_succ, List.getElem_cons_zero, Act.put, List.setIfInBounds_toArray, List.set_cons_zero, List.set_cons_succ]
        refine wpAnyH_ready (rs := [11]) (by kernel_rfl) (by simp) ?_
        refine AllReadyH.cons rfl (fun K hK => ?_) ?_
        · skip
          try simp only [List.getElem_toArray, List.getElem_cons_succ, List.getElem_cons_zero]
          go_simp
          refine Calls.mono (CP.out _ (by (with_reducible (repeat (first | exact Below.refl _ _ | refine belx_alloc ?_ _ | refine belx_drew ?_ | refine belx_ext ?_ _))))) ?_
          rintro e w' ⟨rfl, y2, rfl⟩
          have cfy2 := (KC.out _ (by (with_reducible (repeat (first | exact Below.refl _ _ | refine belx_alloc ?_ _ | refine belx_drew ?_ | refine belx_ext ?_ _))) : Below wq.heap.size wq y2.w)).1
          have cfy3 := fun o => (KC.out _ (by (with_reducible (repeat (first | exact Below.refl _ _ | refine belx_alloc ?_ _ | refine belx_drew ?_ | refine belx_ext ?_ _))) : Below wq.heap.size wq (y2.w.alloc o))).1
          (try dsimp only)
          refine hK.out _ _ ?_ (fun hHeld2 => ?_)
          · (try dsimp only)
            refine KEEP.out _ ?_
            (repeat (first | exact A2.bel | refine belx_alloc ?_ _ | refine belx_drew ?_ | refine belx_ext ?_ _ | refine Below.setCell ?_ hYC _ | (refine Below.grown ?_ gr1 (HBAS.out _ (by (with_reducible (repeat (first | exact Below.refl _ _ | refine belx_alloc ?_ _ | refine belx_drew ?_ | refine belx_ext ?_ _))))) hlo1)))
          clear hK K hHeld
          have hHeld := hHeld2
          clear hHeld2
          try simp only [List.getElem_toArray, List.getElem_cons_succ, List.getElem_cons_zero, Act.put, List.setIfInBounds_toArray, List.set_cons_zero, List.set_cons_succ]
          refine wpAnyH_ready (rs := [12]) (by kernel_rfl) (by simp) ?_
          refine AllReadyH.cons rfl (fun K hK => ?_) ?_
          · skip
            try simp only [List.getElem_toArray, List.getElem_cons_succ, List.getElem_cons_zero]
            go_simp
            refine hK.out _ _ ?_ (fun hHeld2 => ?_)
            · (try dsimp only)
              refine KEEP.out _ ?_
              (repeat (first | exact A2.bel | refine belx_alloc ?_ _ | refine belx_drew ?_ | refine belx_ext ?_ _ | refine Below.setCell ?_ hYC _ | (refine Below.grown ?_ gr1 (HBAS.out _ (by (with_reducible (repeat (first | exact Below.refl _ _ | refine belx_alloc ?_ _ | refine belx_drew ?_ | refine belx_ext ?_ _))))) hlo1)))
            clear hK K hHeld
            have hHeld := hHeld2
            clear hHeld2
            try simp only [List.getElem_toArray, List.getElem_cons_succ, List.getElem_cons_zero, Act.put, List.setIfInBounds_toArray, List.set_cons_zero, List.set_cons_succ]
            refine wpAnyH_ready (rs := [13]) (by kernel_rfl) (by simp) ?_
            refine AllReadyH.cons rfl (fun K hK => ?_) ?_
            · skip
              refine step_app_src (by rfl) _ _ 24 (by rfl) Y.heap.size 3 i0 (.int .i64 0) 1 8 Try.underlying24 hi0 hz0 hz1 hz2 rfl (by decide) (.slice a2 p2.length d2) p2.length (p2.map (Value.int .i64)) (by rfl) (OWN.out _ (by (with_reducible (repeat (first | exact Below.refl _ _ | refine belx_alloc ?_ _ | refine belx_drew ?_ | refine belx_ext ?_ _))))) (some ⟨y2.w.heap.size, 0, none⟩) 1 1 [.int .i64 (pairN B.n pa pb)] (by rfl) ⟨rfl, one_ints _, .inr ⟨_, rfl, cell_one_at _ _ _ _ rfl⟩⟩ hmx2 hbx2 (HBAS.out _ (by (with_reducible (repeat (first | exact Below.refl _ _ | refine belx_alloc ?_ _ | refine belx_drew ?_ | refine belx_ext ?_ _))))) ?_
              intro A' c' w1 own1 gr1 hat1
              have bC1 := mid_blk (KB.out _ (by (with_reducible (repeat (first | exact Below.refl _ _ | refine belx_alloc ?_ _ | refine belx_drew ?_ | refine belx_ext ?_ _))))) gr1 hvC1
              have cC1 := blk_cell bC1 2
              have zC1 := blk_free bC1 2
              refine hK.out _ _ ?_ (fun hHeld2 => ?_)
              · (try dsimp only)
                refine KEEP.out _ ?_
                (repeat (first | exact A2.bel | refine belx_alloc ?_ _ | refine belx_drew ?_ | refine belx_ext ?_ _ | refine Below.setCell ?_ hYC _ | (refine Below.grown ?_ gr1 (HBAS.out _ (by (with_reducible (repeat (first | exact Below.refl _ _ | refine belx_alloc ?_ _ | refine belx_drew ?_ | refine belx_ext ?_ _))))) hlo1)))
              clear hK K hHeld
              have hHeld := hHeld2
              clear hHeld2
              try simp only [List.getElem_toArray, List.getElem_cons_succ, List.getElem_cons_zero, Act.put, List.setIfInBounds_toArray, List.set_cons_zero, List.set_cons_succ]
              refine wpAnyH_take (i := 14) (v := ?_) rfl (by kernel_rfl) (by kernel_rfl) (by kernel_rfl) (fun _ _ _ h => h) (Or.inl ⟨by rfl, ?_⟩) hHeld ?_
              rotate_left
              · intro w hSw; (try dsimp only at hSw); (try simp only [List.getElem_toArray, List.getElem_cons_succ, List.getElem_cons_zero]); first | (go_simp; done) | (go_simp; with_reducible rfl)
              try simp only [List.getElem_toArray, List.getElem_cons_succ, List.getElem_cons_zero, Act.put, List.setIfInBounds_toArray, List.set_cons_zero, List.set_cons_succ]
              refine wpAnyH_ready (rs := [15]) (by kernel_rfl) (by simp) ?_
              refine AllReadyH.cons rfl (fun K hK => ?_) ?_
              · skip
                try simp only [List.getElem_toArray, List.getElem_cons_succ, List.getElem_cons_zero]
                go_simp
                refine hK.out _ _ ?_ (fun hHeld2 => ?_)
                · (try dsimp only)
                  refine KEEP.out _ ?_
                  (repeat (first | exact A2.bel | refine belx_alloc ?_ _ | refine belx_drew ?_ | refine belx_ext ?_ _ | refine Below.setCell ?_ hYC _ | (refine Below.grown ?_ gr1 (HBAS.out _ (by (with_reducible (repeat (first | exact Below.refl _ _ | refine belx_alloc ?_ _ | refine belx_drew ?_ | refine belx_ext ?_ _))))) hlo1)))
                clear hK K hHeld
                have hHeld := hHeld2
                clear hHeld2
                try simp only [List.getElem_toArray, List.getElem_cons_succ, List.getElem_cons_zero, Act.put, List.setIfInBounds_toArray, List.set_cons_zero, List.set_cons_succ]
                refine wpAnyH_done (by kernel_rfl) ?_ _
                refine NoPanic.normal ?_
                exact hK _ _ _ _ _ _ _ _ _ _ _ _ _ _ _ _ _ ((A2.ext ⟨y2.w, by (with_reducible (repeat (first | exact Below.refl _ _ | refine belx_alloc ?_ _ | refine belx_drew ?_ | refine belx_ext ?_ _)))⟩).app2 own1 ⟨gr1, hat1, rfl⟩)
              exact AllReadyH.nil
            exact AllReadyH.nil
          exact AllReadyH.nil
        exact AllReadyH.nil
      exact AllReadyH.nil
    refine AllReadyH.cons rfl (fun K hK => ?_) ?_
    · skip
      try simp only [List.getElem_toArray, List.getElem_cons_succ, List.getElem_cons_zero]
      go_simp
      refine Calls.mono (CB.out _ (by (with_reducible (repeat (first | exact Below.refl _ _ | refine belx_alloc ?_ _ | refine belx_drew ?_ | refine belx_ext ?_ _))))) ?_
      rintro e w' ⟨rfl, y1, rfl⟩
      have cfy1 := (KC.out _ (by (with_reducible (repeat (first | exact Below.refl _ _ | refine belx_alloc ?_ _ | refine belx_drew ?_ | refine belx_ext ?_ _))) : Below wq.heap.size wq y1.w)).1
      (try dsimp only)
      refine hK.out _ _ ?_ (fun hHeld2 => ?_)
      · (try dsimp only)
        refine KEEP.out _ ?_
        (repeat (first | exact A2.bel | refine belx_alloc ?_ _ | refine belx_drew ?_ | refine belx_ext ?_ _ | refine Below.setCell ?_ hYC _ | (refine Below.grown ?_ gr1 (HBAS.out _ (by (with_reducible (repeat (first | exact Below.refl _ _ | refine belx_alloc ?_ _ | refine belx_drew ?_ | refine belx_ext ?_ _))))) hlo1)))
      clear hK K hHeld
      have hHeld := hHeld2
      clear hHeld2
      try simp only [List.getElem_toArray, List.getElem_cons_succ, List.getElem_cons_zero, Act.put, List.setIfInBounds_toArray, List.set_cons_zero, List.set_cons_succ]
      refine wpAnyH_ready (rs := [1, 11]) (by kernel_rfl) (by simp) ?_
      refine AllReadyH.cons rfl (fun K hK => ?_) ?_
      · skip
        try simp only [List.getElem_toArray, List.getElem_cons_succ, List.getElem_cons_zero]
        go_simp
        refine hK.out _ _ ?_ (fun hHeld2 => ?_)
        · (try dsimp only)
          refine KEEP.out _ ?_
          (repeat (first | exact A2.bel | refine belx_alloc ?_ _ | refine belx_drew ?_ | refine belx_ext ?_ _ | refine Below.setCell ?_ hYC _ | (refine Below.grown ?_ gr1 (HBAS.out _ (by (with_reducible (repeat (first | exact Below.refl _ _ | refine belx_alloc ?_ _ | refine belx_drew ?_ | refine belx_ext ?_ _))))) hlo1)))
        clear hK K hHeld
        have hHeld := hHeld2
        clear hHeld2
        try simp only [List.getElem_toArray, List.getElem_cons_succ, List.getElem_cons_zero, Act.put, List.setIfInBounds_toArray, List.set_cons_zero, List.set_cons_succ]
        refine wpAnyH_ready (rs := [11]) (by kernel_rfl) (by simp) ?_
        refine AllReadyH.cons rfl (fun K hK => ?_) ?_
        · skip
          try simp only [List.getElem_toArray, List.getElem_cons_succ, List.getElem_cons_zero]
          go_simp
          refine Calls.mono (CP.out _ (by (with_reducible (repeat (first | exact Below.refl _ _ | refine belx_alloc ?_ _ | refine belx_drew ?_ | refine belx_ext ?_ _))))) ?_
          rintro e w' ⟨rfl, y2, rfl⟩
          have cfy2 := (KC.out _ (by (with_reducible (repeat (first | exact Below.refl _ _ | refine belx_alloc ?_ _ | refine belx_drew ?_ | refine belx_ext ?_ _))) : Below wq.heap.size wq y2.w)).1
          have cfy3 := fun o => (KC.out _ (by (with_reducible (repeat (first | exact Below.refl _ _ | refine belx_alloc ?_ _ | refine belx_drew ?_ | refine belx_ext ?_ _))) : Below wq.heap.size wq (y2.w.alloc o))).1
          (try dsimp only)
          refine hK.out _ _ ?_ (fun hHeld2 => ?_)
          · (try dsimp only)
            refine KEEP.out _ ?_
            (repeat (first | exact A2.bel | refine belx_alloc ?_ _ | refine belx_drew ?_ | refine belx_ext ?_ _ | refine Below.setCell ?_ hYC _ | (refine Below.grown ?_ gr1 (HBAS.out _ (by (with_reducible (repeat (first | exact Below.refl _ _ | refine belx_alloc ?_ _ | refine belx_drew ?_ | refine belx_ext ?_ _))))) hlo1)))
          clear hK K hHeld
          have hHeld := hHeld2
          clear hHeld2
          try simp only [List.getElem_toArray, List.getElem_cons_succ, List.getElem_cons_zero, Act.put, List.setIfInBounds_toArray, List.set_cons_zero, List.set_cons_succ]
          refine wpAnyH_ready (rs := [12]) (by kernel_rfl) (by simp) ?_
          refine AllReadyH.cons rfl (fun K hK => ?_) ?_
          · skip
            try simp only [List.getElem_toArray, List.getElem_cons_succ, List.getElem_cons_zero]
            go_simp
            refine hK.out _ _ ?_ (fun hHeld2 => ?_)
            · (try dsimp only)
              refine KEEP.out _ ?_
              (repeat (first | exact A2.bel | refine belx_alloc ?_ _ | refine belx_drew ?_ | refine belx_ext ?_ _ | refine Below.setCell ?_ hYC _ | (refine Below.grown ?_ gr1 (HBAS.out _ (by (with_reducible (repeat (first | exact Below.refl _ _ | refine belx_alloc ?_ _ | refine belx_drew ?_ | refine belx_ext ?_ _))))) hlo1)))
            clear hK K hHeld
            have hHeld := hHeld2
            clear hHeld2
            try simp only [List.getElem_toArray, List.getElem_cons_succ, List.getElem_cons_zero, Act.put, List.setIfInBounds_toArray, List.set_cons_zero, List.set_cons_succ]
            refine wpAnyH_ready (rs := [13]) (by kernel_rfl) (by simp) ?_
            refine AllReadyH.cons rfl (fun K hK => ?_) ?_
            · skip
              refine step_app_src (by rfl) _ _ 24 (by rfl) Y.heap.size 3 i0 (.int .i64 0) 1 8 Try.underlying24 hi0 hz0 hz1 hz2 rfl (by decide) (.slice a2 p2.length d2) p2.length (p2.map (Value.int .i64)) (by rfl) (OWN.out _ (by (with_reducible (repeat (first | exact Below.refl _ _ | refine belx_alloc ?_ _ | refine belx_drew ?_ | refine belx_ext ?_ _))))) (some ⟨y2.w.heap.size, 0, none⟩) 1 1 [.int .i64 (pairN B.n pa pb)] (by rfl) ⟨rfl, one_ints _, .inr ⟨_, rfl, cell_one_at _ _ _ _ rfl⟩⟩ hmx2 hbx2 (HBAS.out _ (by (with_reducible (repeat (first | exact Below.refl _ _ | refine belx_alloc ?_ _ | refine belx_drew ?_ | refine belx_ext ?_ _))))) ?_
              intro A' c' w1 own1 gr1 hat1
              have bC1 := mid_blk (KB.out _ (by (with_reducible (repeat (first | exact Below.refl _ _ | refine belx_alloc ?_ _ | refine belx_drew ?_ | refine belx_ext ?_ _))))) gr1 hvC1
              have cC1 := blk_cell bC1 2
              have zC1 := blk_free bC1 2
              refine hK.out _ _ ?_ (fun hHeld2 => ?_)
              · (try dsimp only)
                refine KEEP.out _ ?_
                (repeat (first | exact A2.bel | refine belx_alloc ?_ _ | refine belx_drew ?_ | refine belx_ext ?_ _ | refine Below.setCell ?_ hYC _ | (refine Below.grown ?_ gr1 (HBAS.out _ (by (with_reducible (repeat (first | exact Below.refl _ _ | refine belx_alloc ?_ _ | refine belx_drew ?_ | refine belx_ext ?_ _))))) hlo1)))
              clear hK K hHeld
              have hHeld := hHeld2
              clear hHeld2
              try simp only [List.getElem_toArray, List.getElem_cons_succ, List.getElem_cons_zero, Act.put, List.setIfInBounds_toArray, List.set_cons_zero, List.set_cons_succ]
              refine wpAnyH_take (i := 14) (v := ?_) rfl (by kernel_rfl) (by kernel_rfl) (by kernel_rfl) (fun _ _ _ h => h) (Or.inl ⟨by rfl, ?_⟩) hHeld ?_
              rotate_left
              · intro w hSw; (try dsimp only at hSw); (try simp only [List.getElem_toArray, List.getElem_cons_succ, List.getElem_cons_zero]); first | (go_simp; done) | (go_simp; with_reducible rfl)
              try simp only [List.getElem_toArray, List.getElem_cons_succ, List.getElem_cons_zero, Act.put, List.setIfInBounds_toArray, List.set_cons_zero, List.set_cons_succ]
              refine wpAnyH_ready (rs := [15]) (by kernel_rfl) (by simp) ?_
              refine AllReadyH.cons rfl (fun K hK => ?_) ?_
              · skip
                try simp only [List.getElem_toArray, List.getElem_cons_succ, List.getElem_cons_zero]
                go_simp
                refine hK.out _ _ ?_ (fun hHeld2 => ?_)
                · (try dsimp only)
                  refine KEEP.out _ ?_
                  (repeat (first | exact A2.bel | refine belx_alloc ?_ _ | refine belx_drew ?_ | refine belx_ext ?_ _ | refine Below.setCell ?_ hYC _ | (refine Below.grown ?_ gr1 (HBAS.out _ (by (with_reducible (repeat (first | exact Below.refl _ _ | refine belx_alloc ?_ _ | refine belx_drew ?_ | refine belx_ext ?_ _))))) hlo1)))
                clear hK K hHeld
                have hHeld := hHeld2
                clear hHeld2
                try simp only [List.getElem_toArray, List.getElem_cons_succ, List.getElem_cons_zero, Act.put, List.setIfInBounds_toArray, List.set_cons_zero, List.set_cons_succ]
                refine wpAnyH_done (by kernel_rfl) ?_ _
                refine NoPanic.normal ?_
                exact hK _ _ _ _ _ _ _ _ _ _ _ _ _ _ _ _ _ ((A2.ext ⟨y2.w, by (with_reducible (repeat (first | exact Below.refl _ _ | refine belx_alloc ?_ _ | refine belx_drew ?_ | refine belx_ext ?_ _)))⟩).app2 own1 ⟨gr1, hat1, rfl⟩)
              exact AllReadyH.nil
            exact AllReadyH.nil
          exact AllReadyH.nil
        exact AllReadyH.nil
      refine AllReadyH.cons rfl (fun K hK => ?_) ?_
      · skip
        try simp only [List.getElem_toArray, List.getElem_cons_succ, List.getElem_cons_zero]
        go_simp
        refine Calls.mono (CP.out _ (by (with_reducible (repeat (first | exact Below.refl _ _ | refine belx_alloc ?_ _ | refine belx_drew ?_ | refine belx_ext ?_ _))))) ?_
        rintro e w' ⟨rfl, y2, rfl⟩
        have cfy2 := (KC.out _ (by (with_reducible (repeat (first | exact Below.refl _ _ | refine belx_alloc ?_ _ | refine belx_drew ?_ | refine belx_ext ?_ _))) : Below wq.heap.size wq y2.w)).1
        have cfy3 := fun o => (KC.out _ (by (with_reducible (repeat (first | exact Below.refl _ _ | refine belx_alloc ?_ _ | refine belx_drew ?_ | refine belx_ext ?_ _))) : Below wq.heap.size wq (y2.w.alloc o))).1
        (try dsimp only)
        refine hK.out _ _ ?_ (fun hHeld2 => ?_)
        · (try dsimp only)
          refine KEEP.out _ ?_
          (repeat (first | exact A2.bel | refine belx_alloc ?_ _ | refine belx_drew ?_ | refine belx_ext ?_ _ | refine Below.setCell ?_ hYC _ | (refine Below.grown ?_ gr1 (HBAS.out _ (by (with_reducible (repeat (first | exact Below.refl _ _ | refine belx_alloc ?_ _ | refine belx_drew ?_ | refine belx_ext ?_ _))))) hlo1)))
        clear hK K hHeld
        have hHeld := hHeld2
        clear hHeld2
        try simp only [List.getElem_toArray, List.getElem_cons_succ, List.getElem_cons_zero, Act.put, List.setIfInBounds_toArray, List.set_cons_zero, List.set_cons_succ]
        refine wpAnyH_ready (rs := [1, 12]) (by kernel_rfl) (by simp) ?_
        refine AllReadyH.cons rfl (fun K hK => ?_) ?_
        · skip
          try simp only [List.getElem_toArray, List.getElem_cons_succ, List.getElem_cons_zero]
          go_simp
          refine hK.out _ _ ?_ (fun hHeld2 => ?_)
          · (try dsimp only)
            refine KEEP.out _ ?_
            (repeat (first | exact A2.bel | refine belx_alloc ?_ _ | refine belx_drew ?_ | refine belx_ext ?_ _ | refine Below.setCell ?_ hYC _ | (refine Below.grown ?_ gr1 (HBAS.out _ (by (with_reducible (repeat (first | exact Below.refl _ _ | refine belx_alloc ?_ _ | refine belx_drew ?_ | refine belx_ext ?_ _))))) hlo1)))
          clear hK K hHeld
          have hHeld := hHeld2
          clear hHeld2
          try simp only [List.getElem_toArray, List.getElem_cons_succ, List.getElem_cons_zero, Act.put, List.setIfInBounds_toArray, List.set_cons_zero, List.set_cons_succ]
          refine wpAnyH_ready (rs := [12]) (by kernel_rfl) (by simp) ?_
          refine AllReadyH.cons rfl (fun K hK => ?_) ?_
          · skip
            try simp only [List.getElem_toArray, List.getElem_cons_succ, List.getElem_cons_zero]
            go_simp
            refine hK.out _ _ ?_ (fun hHeld2 => ?_)
            · (try dsimp only)
              refine KEEP.out _ ?_
              (repeat (first | exact A2.bel | refine belx_alloc ?_ _ | refine belx_drew ?_ | refine belx_ext ?_ _ | refine Below.setCell ?_ hYC _ | (refine Below.grown ?_ gr1 (HBAS.out _ (by (with_reducible (repeat (first | exact Below.refl _ _ | refine belx_alloc ?_ _ | refine belx_drew ?_ | refine belx_ext ?_ _))))) hlo1)))
            clear hK K hHeld
            have hHeld := hHeld2
            clear hHeld2
            try simp only [List.getElem_toArray, List.getElem_cons_succ, List.getElem_cons_zero, Act.put, List.setIfInBounds_toArray, List.set_cons_zero, List.set_cons_succ]
            refine wpAnyH_ready (rs := [13]) (by kernel_rfl) (by simp) ?_
            refine AllReadyH.cons rfl (fun K hK => ?_) ?_
            · skip
              refine step_app_src (by rfl) _ _ 24 (by rfl) Y.heap.size 3 i0 (.int .i64 0) 1 8 Try.underlying24 hi0 hz0 hz1 hz2 rfl (by decide) (.slice a2 p2.length d2) p2.length (p2.map (Value.int .i64)) (by rfl) (OWN.out _ (by (with_reducible (repeat (first | exact Below.refl _ _ | refine belx_alloc ?_ _ | refine belx_drew ?_ | refine belx_ext ?_ _))))) (some ⟨y2.w.heap.size, 0, none⟩) 1 1 [.int .i64 (pairN B.n pa pb)] (by rfl) ⟨rfl, one_ints _, .inr ⟨_, rfl, cell_one_at _ _ _ _ rfl⟩⟩ hmx2 hbx2 (HBAS.out _ (by (with_reducible (repeat (first | exact Below.refl _ _ | refine belx_alloc ?_ _ | refine belx_drew ?_ | refine belx_ext ?_ _))))) ?_
              intro A' c' w1 own1 gr1 hat1
              have bC1 := mid_blk (KB.out _ (by (with_reducible (repeat (first | exact Below.refl _ _ | refine belx_alloc ?_ _ | refine belx_drew ?_ | refine belx_ext ?_ _))))) gr1 hvC1
              have cC1 := blk_cell bC1 2
              have zC1 := blk_free bC1 2
              refine hK.out _ _ ?_ (fun hHeld2 => ?_)
              · (try dsimp only)
                refine KEEP.out _ ?_
                (repeat (first | exact A2.bel | refine belx_alloc ?_ _ | refine belx_drew ?_ | refine belx_ext ?_ _ | refine Below.setCell ?_ hYC _ | (refine Below.grown ?_ gr1 (HBAS.out _ (by (with_reducible (repeat (first | exact Below.refl _ _ | refine belx_alloc ?_ _ | refine belx_drew ?_ | refine belx_ext ?_ _))))) hlo1)))
              clear hK K hHeld
              have hHeld := hHeld2
              clear hHeld2
              try simp only [List.getElem_toArray, List.getElem_cons_succ, List.getElem_cons_zero, Act.put, List.setIfInBounds_toArray, List.set_cons_zero, List.set_cons_succ]
              refine wpAnyH_take (i := 14) (v := ?_) rfl (by kernel_rfl) (by kernel_rfl) (by kernel_rfl) (fun _ _ _ h => h) (Or.inl ⟨by rfl, ?_⟩) hHeld ?_
              rotate_left
              · intro w hSw; (try dsimp only at hSw); (try simp only [List.getElem_toArray, List.getElem_cons_succ, List.getElem_cons_zero]); first | (go_simp; done) | (go_simp; with_reducible rfl)
              try simp only [List.getElem_toArray, List.getElem_cons_succ, List.getElem_cons_zero, Act.put, List.setIfInBounds_toArray, List.set_cons_zero, List.set_cons_succ]
              refine wpAnyH_ready (rs := [15]) (by kernel_rfl) (by simp) ?_
              refine AllReadyH.cons rfl (fun K hK => ?_) ?_
              · skip
                try simp only [List.getElem_toArray, List.getElem_cons_succ, List.getElem_cons_zero]
                go_simp
                refine hK.out _ _ ?_ (fun hHeld2 => ?_)
                · (try dsimp only)
                  refine KEEP.out _ ?_
                  (repeat (first | exact A2.bel | refine belx_alloc ?_ _ | refine belx_drew ?_ | refine belx_ext ?_ _ | refine Below.setCell ?_ hYC _ | (refine Below.grown ?_ gr1 (HBAS.out _ (by (with_reducible (repeat (first | exact Below.refl _ _ | refine belx_alloc ?_ _ | refine belx_drew ?_ | refine belx_ext ?_ _))))) hlo1)))
                clear hK K hHeld
                have hHeld := hHeld2
                clear hHeld2
                try simp only [List.getElem_toArray, List.getElem_cons_succ, List.getElem_cons_zero, Act.put, List.setIfInBounds_toArray, List.set_cons_zero, List.set_cons_succ]
                refine wpAnyH_done (by kernel_rfl) ?_ _
                refine NoPanic.normal ?_
                exact hK _ _ _ _ _ _ _ _ _ _ _ _ _ _ _ _ _ ((A2.ext ⟨y2.w, by (with_reducible (repeat (first | exact Below.refl _ _ | refine belx_alloc ?_ _ | refine belx_drew ?_ | refine belx_ext ?_ _)))⟩).app2 own1 ⟨gr1, hat1, rfl⟩)
              exact AllReadyH.nil
            exact AllReadyH.nil
          exact AllReadyH.nil
        refine AllReadyH.cons rfl (fun K hK => ?_) ?_
        · skip
          try simp only [List.getElem_toArray, List.getElem_cons_succ, List.getElem_cons_zero]
          go_simp
          refine hK.out _ _ ?_ (fun hHeld2 => ?_)
          · (try dsimp only)
            refine KEEP.out _ ?_
            (repeat (first | exact A2.bel | refine belx_alloc ?_ _ | refine belx_drew ?_ | refine belx_ext ?_ _ | refine Below.setCell ?_ hYC _ | (refine Below.grown ?_ gr1 (HBAS.out _ (by (with_reducible (repeat (first | exact Below.refl _ _ | refine belx_alloc ?_ _ | refine belx_drew ?_ | refine belx_ext ?_ _))))) hlo1)))
          clear hK K hHeld
          have hHeld := hHeld2
          clear hHeld2
          try simp only [List.getElem_toArray, List.getElem_cons_succ, List.getElem_cons_zero, Act.put, List.setIfInBounds_toArray, List.set_cons_zero, List.set_cons_succ]
          refine wpAnyH_ready (rs := [1]) (by kernel_rfl) (by simp) ?_
          refine AllReadyH.cons rfl (fun K hK => ?_) ?_
          · skip
            try simp only [List.getElem_toArray, List.getElem_cons_succ, List.getElem_cons_zero]
            go_simp
            refine hK.out _ _ ?_ (fun hHeld2 => ?_)
            · (try dsimp only)
              refine KEEP.out _ ?_
              (repeat (first | exact A2.bel | refine belx_alloc ?_ _ | refine belx_drew ?_ | refine belx_ext ?_ _ | refine Below.setCell ?_ hYC _ | (refine Below.grown ?_ gr1 (HBAS.out _ (by (with_reducible (repeat (first | exact Below.refl _ _ | refine belx_alloc ?_ _ | refine belx_drew ?_ | refine belx_ext ?_ _))))) hlo1)))
            clear hK K hHeld
            have hHeld := hHeld2
            clear hHeld2
            try simp only [List.getElem_toArray, List.getElem_cons_succ, List.getElem_cons_zero, Act.put, List.setIfInBounds_toArray, List.set_cons_zero, List.set_cons_succ]
            refine wpAnyH_ready (rs := [13]) (by kernel_rfl) (by simp) ?_
            refine AllReadyH.cons rfl (fun K hK => ?_) ?_
            · skip
              refine step_app_src (by rfl) _ _ 24 (by rfl) Y.heap.size 3 i0 (.int .i64 0) 1 8 Try.underlying24 hi0 hz0 hz1 hz2 rfl (by decide) (.slice a2 p2.length d2) p2.length (p2.map (Value.int .i64)) (by rfl) (OWN.out _ (by (with_reducible (repeat (first | exact Below.refl _ _ | refine belx_alloc ?_ _ | refine belx_drew ?_ | refine belx_ext ?_ _))))) (some ⟨y2.w.heap.size, 0, none⟩) 1 1 [.int .i64 (pairN B.n pa pb)] (by rfl) ⟨rfl, one_ints _, .inr ⟨_, rfl, cell_one_at _ _ _ _ rfl⟩⟩ hmx2 hbx2 (HBAS.out _ (by (with_reducible (repeat (first | exact Below.refl _ _ | refine belx_alloc ?_ _ | refine belx_drew ?_ | refine belx_ext ?_ _))))) ?_
              intro A' c' w1 own1 gr1 hat1
              have bC1 := mid_blk (KB.out _ (by (with_reducible (repeat (first | exact Below.refl _ _ | refine belx_alloc ?_ _ | refine belx_drew ?_ | refine belx_ext ?_ _))))) gr1 hvC1
              have cC1 := blk_cell bC1 2
              have zC1 := blk_free bC1 2
              refine hK.out _ _ ?_ (fun hHeld2 => ?_)
              · (try dsimp only)
                refine KEEP.out _ ?_
                (repeat (first | exact A2.bel | refine belx_alloc ?_ _ | refine belx_drew ?_ | refine belx_ext ?_ _ | refine Below.setCell ?_ hYC _ | (refine Below.grown ?_ gr1 (HBAS.out _ (by (with_reducible (repeat (first | exact Below.refl _ _ | refine belx_alloc ?_ _ | refine belx_drew ?_ | refine belx_ext ?_ _))))) hlo1)))
              clear hK K hHeld
              have hHeld := hHeld2
              clear hHeld2
              try simp only [List.getElem_toArray, List.getElem_cons_succ, List.getElem_cons_zero, Act.put, List.setIfInBounds_toArray, List.set_cons_zero, List.set_cons_succ]
              refine wpAnyH_take (i := 14) (v := ?_) rfl (by kernel_rfl) (by kernel_rfl) (by kernel_rfl) (fun _ _ _ h => h) (Or.inl ⟨by rfl, ?_⟩) hHeld ?_
              rotate_left
              · intro w hSw; (try dsimp only at hSw); (try simp only [List.getElem_toArray, List.getElem_cons_succ, List.getElem_cons_zero]); first | (go_simp; done) | (go_simp; with_reducible rfl)
              try simp only [List.getElem_toArray, List.getElem_cons_succ, List.getElem_cons_zero, Act.put, List.setIfInBounds_toArray, List.set_cons_zero, List.set_cons_succ]
              refine wpAnyH_ready (rs := [15]) (by kernel_rfl) (by simp) ?_
              refine AllReadyH.cons rfl (fun K hK => ?_) ?_
              · skip
                try simp only [List.getElem_toArray, List.getElem_cons_succ, List.getElem_cons_zero]
                go_simp
                refine hK.out _ _ ?_ (fun hHeld2 => ?_)
                · (try dsimp only)
                  refine KEEP.out _ ?_
                  (repeat (first | exact A2.bel | refine belx_alloc ?_ _ | refine belx_drew ?_ | refine belx_ext ?_ _ | refine Below.setCell ?_ hYC _ | (refine Below.grown ?_ gr1 (HBAS.out _ (by (with_reducible (repeat (first | exact Below.refl _ _ | refine belx_alloc ?_ _ | refine belx_drew ?_ | refine belx_ext ?_ _))))) hlo1)))
                clear hK K hHeld
                have hHeld := hHeld2
                clear hHeld2
                try simp only [List.getElem_toArray, List.getElem_cons_succ, List.getElem_cons_zero, Act.put, List.setIfInBounds_toArray, List.set_cons_zero, List.set_cons_succ]
                refine wpAnyH_done (by kernel_rfl) ?_ _
                refine NoPanic.normal ?_
                exact hK _ _ _ _ _ _ _ _ _ _ _ _ _ _ _ _ _ ((A2.ext ⟨y2.w, by (with_reducible (repeat (first | exact Below.refl _ _ | refine belx_alloc ?_ _ | refine belx_drew ?_ | refine belx_ext ?_ _)))⟩).app2 own1 ⟨gr1, hat1, rfl⟩)
              exact AllReadyH.nil
            exact AllReadyH.nil
          exact AllReadyH.nil
        exact AllReadyH.nil
      exact AllReadyH.nil
    exact AllReadyH.nil
  exact AllReadyH.nil

end Go.Proofs.Ytkokmpdmmfghhaa
