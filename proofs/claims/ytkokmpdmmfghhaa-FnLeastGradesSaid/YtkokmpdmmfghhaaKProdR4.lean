
/- A region of the model's product of systems. -/
import Derived.Test.YtkokmpdmmfghhaaKProdF
import Derived.LoopTactic
import Derived.Deep.Cut
import Derived.RegionTactic
import Derived.Deep.RegionHeld3
import Derived.Outline
namespace Go.Proofs.Ytkokmpdmmfghhaa
open Go.RowKit

set_option maxRecDepth 100000 in
set_option maxHeartbeats 8000000 in
theorem prodReg4 {Q : Exit → Act → World → Prop} {Y wq : World} {r r' : Ref} {A B : Sys} {B0 C N : Nat} {v1 v2 v3 : Value} {p1 p2 : List Int} {p3 : List Bool}
    (hy' : SysIn Y r A) (ky' : SysIn Y r' B) (ta : Tables A) (tb : Tables B) {fa fb sa sb : Int} (hx : G A fa) (hz : G A fb) (_ : G B sa) (_ : G B sb) (hle : A.le fa fb = false)
    (HBA : Hid (Y.heap[B0]? = some (.cells #[.int .i64 A.n, .slice r.pa A.plus.length r.pc, .slice r.ta A.times.length r.tc, .slice r.ba A.below.length r.bc] 27 (0, 0))))
    (HBB : Hid (Y.heap[B0 + 1]? = some (.cells #[.int .i64 B.n, .slice r'.pa B.plus.length r'.pc, .slice r'.ta B.times.length r'.tc, .slice r'.ba B.below.length r'.bc] 27 (0, 0))))
    (A2 : AccS Y wq (B0 + 1 + 1) C (N : Int) v1 v2 v3 p1 p2 p3) (hl1 : p1.length ≤ 999) (hl2 : p2.length ≤ 999) (hl3 : p3.length ≤ 999) {c0 c1 c4 c5 c8 c9 c14 c15 c16 c17 c18 c19 c20 c21 c22 c23 c24 c25 c26 c27 c28 c29 c30 c31 c32 c33 c34 c35 c36 c37 c38 c39 c40 c41 c42 c43 c44 c45 c46 c47 c48 c49 c50 c51 c52 c53 c54 c55 c56 c57 c58 c59 c60 c61 c62 c63 c64 c65 c66 c67 c68 c69 c70 c71 c72 c73 c74 c75 c76 c77 c78 c79 c80 c81 c82 c83 c84 c85 c86 c87 c88 c89 c90 c91 c92 c93 c94 c95 : Value}
    (hK : ∀ (u80 u81 u82 u83 u84 u85 u86 u87 u88 u89 u90 u91 u92 u93 u94 : Value) (v' : Value) (w' : World), AccS Y w' (B0 + 1 + 1) C (N : Int) v1 v2 v' p1 p2 (p3 ++ [false]) → Q .normal ⟨#[c0, c1, .pointer (some ⟨B0, 0, none⟩), .pointer (some ⟨B0 + 1, 0, none⟩), c4, c5, .int .i64 B.n, .pointer (some ⟨C, 0, none⟩), c8, c9, .int .i64 fa, .int .i64 sa, .int .i64 fb, .int .i64 sb, c14, c15, c16, c17, c18, c19, c20, c21, c22, c23, c24, c25, c26, c27, c28, c29, c30, c31, c32, c33, c34, c35, c36, c37, c38, c39, c40, c41, c42, c43, c44, c45, c46, c47, c48, c49, c50, c51, c52, c53, c54, c55, c56, c57, c58, c59, c60, c61, c62, c63, c64, c65, c66, c67, c68, c69, c70, c71, c72, c73, c74, c75, c76, c77, c78, c79, u80, u81, u82, u83, u84, u85, u86, u87, u88, u89, u90, u91, u92, u93, u94, c95], []⟩ w') :
    Code.wp Try.prog (prodR 17) Q ⟨#[c0, c1, .pointer (some ⟨B0, 0, none⟩), .pointer (some ⟨B0 + 1, 0, none⟩), c4, c5, .int .i64 B.n, .pointer (some ⟨C, 0, none⟩), c8, c9, .int .i64 fa, .int .i64 sa, .int .i64 fb, .int .i64 sb, c14, c15, c16, c17, c18, c19, c20, c21, c22, c23, c24, c25, c26, c27, c28, c29, c30, c31, c32, c33, c34, c35, c36, c37, c38, c39, c40, c41, c42, c43, c44, c45, c46, c47, c48, c49, c50, c51, c52, c53, c54, c55, c56, c57, c58, c59, c60, c61, c62, c63, c64, c65, c66, c67, c68, c69, c70, c71, c72, c73, c74, c75, c76, c77, c78, c79, c80, c81, c82, c83, c84, c85, c86, c87, c88, c89, c90, c91, c92, c93, c94, c95], []⟩ wq := by
  have hB2 := tb.lo
  have hB16 := tb.hi
  have hA2 := ta.lo
  have hA16 := ta.hi
  have hmx1 : p1.length + 1 ≤ maxLen := by unfold maxLen; omega
  have hmx2 : p2.length + 1 ≤ maxLen := by unfold maxLen; omega
  have hmx3 : p3.length + 1 ≤ maxLen := by unfold maxLen; omega
  have hbx1 : (p1.length + 1) * 8 ≤ 140737488355328 := by omega
  have hbx2 : (p2.length + 1) * 8 ≤ 140737488355328 := by omega
  have hbx3 : (p3.length + 1) * 1 ≤ 140737488355328 := by omega
  obtain ⟨i0, hi0, hz0, hz1, hz2⟩ := info_parts info_int
  obtain ⟨ib, hib, hy0, hy1, hy2⟩ := info_parts info_bool
  conv => arg 2; whnf
  obtain ⟨a3, d3, rfl⟩ := own_slice A2.o3
  have KC : Hid (∀ w', Below wq.heap.size wq w' → w'.cell? ⟨C, 3, none⟩ = some (.slice a3 p3.length d3) ∧ w'.frozen? ⟨C, 3, none⟩ = false) := fun w' b' => ⟨blk_cell ((Ext.mk w' b').blk A2.blk) 3, blk_free ((Ext.mk w' b').blk A2.blk) 3⟩
  have KEEP : Hid (∀ w', Below Y.heap.size Y w' → (w'.cell? ⟨B0, 0, none⟩ = some (.int .i64 A.n) ∧ w'.cell? ⟨B0, 1, none⟩ = some (.slice r.pa A.plus.length r.pc) ∧ w'.cell? ⟨B0, 2, none⟩ = some (.slice r.ta A.times.length r.tc) ∧ w'.cell? ⟨B0, 3, none⟩ = some (.slice r.ba A.below.length r.bc)) ∧
      (w'.cell? ⟨B0 + 1, 0, none⟩ = some (.int .i64 B.n) ∧ w'.cell? ⟨B0 + 1, 1, none⟩ = some (.slice r'.pa B.plus.length r'.pc) ∧ w'.cell? ⟨B0 + 1, 2, none⟩ = some (.slice r'.ta B.times.length r'.tc) ∧ w'.cell? ⟨B0 + 1, 3, none⟩ = some (.slice r'.ba B.below.length r'.bc))) := fun w' b' => by
    have b2 := (Ext.mk w' b').blk HBA.out
    have b3 := (Ext.mk w' b').blk HBB.out
    exact ⟨⟨blk_cell b2 0, blk_cell b2 1, blk_cell b2 2, blk_cell b2 3⟩, blk_cell b3 0, blk_cell b3 1, blk_cell b3 2, blk_cell b3 3⟩
  have OWN : Hid (∀ w', Below wq.heap.size wq w' → w'.ownsRow Y.heap.size 4 1 (.slice a3 p3.length d3) p3.length (p3.map Value.bool)) := fun w' b' => owns_ext A2.o3 ⟨w', b'⟩
  have HBAS : Hid (∀ w', Below wq.heap.size wq w' → Y.heap.size ≤ w'.heap.size) := fun w' b' => Nat.le_trans A2.bel.size b'.size
  have hYC : Y.heap.size ≤ C := A2.lo
  have hvC1 : (Value.slice a3 p3.length d3).ownBlock ≠ some C := own_ne A2.o3 A2.blk no_bool_sys
  have KB : Hid (∀ w', Below wq.heap.size wq w' → w'.heap[C]? = some (accV (N : Int) v1 v2 (.slice a3 p3.length d3))) := fun w' b' => (Ext.mk w' b').blk A2.blk
  have hlo1 : ∀ k, (Value.slice a3 p3.length d3).ownBlock = some k → Y.heap.size ≤ k := fun k hk => (A2.o3.lt k hk).1
  have hAq := hy'.ext ⟨wq, A2.bel⟩
  have hBq := ky'.ext ⟨wq, A2.bel⟩
  have CA : Hid (∀ w', Below wq.heap.size wq w' → Calls Try.prog 94 #[r.val A, .int .i64 fa, .int .i64 fb] w' (Ans w' (.bool false))) := fun w' b' => l1Le_is (hAq.ext ⟨w', b'⟩) ta hx hz hle (Ext.self w')
  unfold Ref.val at CA
  clear hAq hBq
  clear hle
  have cf9 := (KC.out wq.drew (by (with_reducible (repeat (first | exact Below.refl _ _ | refine belx_alloc ?_ _ | refine belx_drew ?_ | refine belx_ext ?_ _))))).1
  refine wp_region_noPanic ?_
  refine wp_region_held_drew (S := (fun w' => (w'.cell? ⟨B0, 0, none⟩ = some (.int .i64 A.n) ∧ w'.cell? ⟨B0, 1, none⟩ = some (.slice r.pa A.plus.length r.pc) ∧ w'.cell? ⟨B0, 2, none⟩ = some (.slice r.ta A.times.length r.tc) ∧ w'.cell? ⟨B0, 3, none⟩ = some (.slice r.ba A.below.length r.bc)) ∧
      (w'.cell? ⟨B0 + 1, 0, none⟩ = some (.int .i64 B.n) ∧ w'.cell? ⟨B0 + 1, 1, none⟩ = some (.slice r'.pa B.plus.length r'.pc) ∧ w'.cell? ⟨B0 + 1, 2, none⟩ = some (.slice r'.ta B.times.length r'.tc) ∧ w'.cell? ⟨B0 + 1, 3, none⟩ = some (.slice r'.ba B.below.length r'.bc)))) (by kernel_rfl) ?_ (fun hHeld => ?_)
  · (try dsimp only)
    refine KEEP.out _ ?_
    (repeat (first | exact A2.bel | refine belx_alloc ?_ _ | refine belx_drew ?_ | refine belx_ext ?_ _ | refine Below.setCell ?_ hYC _ | (refine Below.grown ?_ gr1 (HBAS.out _ (by (with_reducible (repeat (first | exact Below.refl _ _ | refine belx_alloc ?_ _ | refine belx_drew ?_ | refine belx_ext ?_ _))))) hlo1)))
  refine wpAnyH_take (i := 0) (v := ?_) rfl (by kernel_rfl) (by kernel_rfl) (by kernel_rfl) (fun _ _ _ h => h) (Or.inl ⟨by rfl, ?_⟩) hHeld ?_
  rotate_left
  · intro w hSw; (try dsimp only at hSw); (try simp only [List.getElem_toArray, List.getElem_cons_zero]); first | (go_simp; done) | (go_simp; with_reducible rfl)
  try simp only [List.getElem_toArray, List.getElem_cons_zero, Act.put, List.setIfInBounds_toArray, List.set_cons_zero, List.set_cons_succ]
  refine wpAnyH_take (i := 2) (v := ?_) rfl (by kernel_rfl) (by kernel_rfl) (by kernel_rfl) (fun _ _ _ h => h) (Or.inl ⟨by rfl, ?_⟩) hHeld ?_
  rotate_left
  · intro w hSw; (try dsimp only at hSw); (try simp only [List.getElem_toArray, List.getElem_cons_succ, List.getElem_cons_zero]); first | (go_simp; done) | (go_simp; with_reducible rfl)
  try simp only [List.getElem_toArray, List.getElem_cons_succ, List.getElem_cons_zero, Act.put, List.setIfInBounds_toArray, List.set_cons_zero, List.set_cons_succ]
  refine wpAnyH_take (i := 3) (v := ?_) rfl (by kernel_rfl) (by kernel_rfl) (by kernel_rfl) (fun _ _ _ h => h) (Or.inl ⟨by rfl, ?_⟩) hHeld ?_
  rotate_left
  · intro w hSw; (try dsimp only at hSw); (try simp only [List.getElem_toArray, List.getElem_cons_succ, List.getElem_cons_zero]); first | (go_simp; done) | (go_simp; with_reducible rfl)
  try simp only [List.getElem_toArray, List.getElem_cons_succ, List.getElem_cons_zero, Act.put, List.setIfInBounds_toArray, List.set_cons_zero, List.set_cons_succ]
  refine wpAnyH_take (i := 4) (v := ?_) rfl (by kernel_rfl) (by kernel_rfl) (by kernel_rfl) (fun _ _ _ h => h) (Or.inl ⟨by rfl, ?_⟩) hHeld ?_
  rotate_left
  · intro w hSw; (try dsimp only at hSw); (try simp only [List.getElem_toArray, List.getElem_cons_succ, List.getElem_cons_zero]); first | (go_simp; done) | (go_simp; with_reducible rfl)
  try simp only [List.getElem_toArray, List.getElem_cons_succ, List.getElem_cons_zero, Act.put, List.setIfInBounds_toArray, List.set_cons_zero, List.set_cons_succ]
  refine wpAnyH_ready (rs := [1, 5]) (by kernel_rfl) (by simp) ?_
  refine AllReadyH.cons rfl (fun K hK => ?_) ?_
  · skip
    try simp only [List.getElem_toArray, List.getElem_cons_succ, List.getElem_cons_zero]
    go_simp
    refine hK.out _ _ ?_ (fun hHeld2 => ?_)
    · (try dsimp only)
      refine KEEP.out _ ?_
      (repeat (first | exact A2.bel | refine belx_alloc ?_ _ | refine belx_drew ?_ | refine belx_ext ?_ _ | refine Below.setCell ?_ hYC _ | (refine Below.grown ?_ gr1 (HBAS.out _ (by (with_reducible (repeat (first | exact Below.refl _ _ | refine belx_alloc ?_ _ | refine belx_drew ?_ | refine belx_ext ?_ _))))) hlo1)))
    clear hK K hHeld
    have hHeld := hHeld2
    clear hHeld2
    try simp only [List.getElem_toArray, List.getElem_cons_succ, List.getElem_cons_zero, Act.put, List.setIfInBounds_toArray, List.set_cons_zero, List.set_cons_succ]
    refine wpAnyH_ready (rs := [5]) (by kernel_rfl) (by simp) ?_
    refine AllReadyH.cons rfl (fun K hK => ?_) ?_
    · skip
      try simp only [List.getElem_toArray, List.getElem_cons_succ, List.getElem_cons_zero]
      go_simp
      refine Calls.mono (CA.out _ (by (with_reducible (repeat (first | exact Below.refl _ _ | refine belx_alloc ?_ _ | refine belx_drew ?_ | refine belx_ext ?_ _))))) ?_
      rintro e w' ⟨rfl, y0, rfl⟩
      have cfy0 := (KC.out _ (by (with_reducible (repeat (first | exact Below.refl _ _ | refine belx_alloc ?_ _ | refine belx_drew ?_ | refine belx_ext ?_ _))) : Below wq.heap.size wq y0.w)).1
      (try dsimp only)
      have cfy3 := fun o => (KC.out _ (by (with_reducible (repeat (first | exact Below.refl _ _ | refine belx_alloc ?_ _ | refine belx_drew ?_ | refine belx_ext ?_ _))) : Below wq.heap.size wq (y0.w.alloc o))).1
      refine hK.out _ _ ?_ (fun hHeld2 => ?_)
      · (try dsimp only)
        refine KEEP.out _ ?_
        (repeat (first | exact A2.bel | refine belx_alloc ?_ _ | refine belx_drew ?_ | refine belx_ext ?_ _ | refine Below.setCell ?_ hYC _ | (refine Below.grown ?_ gr1 (HBAS.out _ (by (with_reducible (repeat (first | exact Below.refl _ _ | refine belx_alloc ?_ _ | refine belx_drew ?_ | refine belx_ext ?_ _))))) hlo1)))
      clear hK K hHeld
      have hHeld := hHeld2
      clear hHeld2
      try simp only [List.getElem_toArray, List.getElem_cons_succ, List.getElem_cons_zero, Act.put, List.setIfInBounds_toArray, List.set_cons_zero, List.set_cons_succ]
      refine wpAnyH_take (i := 6) (v := ?_) rfl (by kernel_rfl) (by kernel_rfl) (by kernel_rfl) (fun _ _ _ h => h) (Or.inl ⟨by rfl, ?_⟩) hHeld ?_
      rotate_left
      · intro w hSw; (try dsimp only at hSw); (try simp only [List.getElem_toArray, List.getElem_cons_succ, List.getElem_cons_zero]); first | (go_simp; done) | (go_simp; with_reducible rfl)
      try simp only [List.getElem_toArray, List.getElem_cons_succ, List.getElem_cons_zero, Act.put, List.setIfInBounds_toArray, List.set_cons_zero, List.set_cons_succ]
      refine wpAnyH_take (i := 7) (v := undef) rfl (by kernel_rfl) (by kernel_rfl) (by kernel_rfl) (fun _ _ _ h => h) (Or.inr ⟨by rfl, rfl⟩) hHeld ?_
      try simp only [List.getElem_toArray, List.getElem_cons_succ, List.getElem_cons_zero, Act.put, List.setIfInBounds_toArray, List.set_cons_zero, List.set_cons_succ]
      refine wpAnyH_take (i := 8) (v := undef) rfl (by kernel_rfl) (by kernel_rfl) (by kernel_rfl) (fun _ _ _ h => h) (Or.inr ⟨by rfl, rfl⟩) hHeld ?_
      try simp only [List.getElem_toArray, List.getElem_cons_succ, List.getElem_cons_zero, Act.put, List.setIfInBounds_toArray, List.set_cons_zero, List.set_cons_succ]
      refine wpAnyH_take (i := 9) (v := undef) rfl (by kernel_rfl) (by kernel_rfl) (by kernel_rfl) (fun _ _ _ h => h) (Or.inr ⟨by rfl, rfl⟩) hHeld ?_
      try simp only [List.getElem_toArray, List.getElem_cons_succ, List.getElem_cons_zero, Act.put, List.setIfInBounds_toArray, List.set_cons_zero, List.set_cons_succ]
      refine wpAnyH_take (i := 10) (v := undef) rfl (by kernel_rfl) (by kernel_rfl) (by kernel_rfl) (fun _ _ _ h => h) (Or.inr ⟨by rfl, rfl⟩) hHeld ?_
      try simp only [List.getElem_toArray, List.getElem_cons_succ, List.getElem_cons_zero, Act.put, List.setIfInBounds_toArray, List.set_cons_zero, List.set_cons_succ]
      refine wpAnyH_take (i := 11) (v := ?_) rfl (by kernel_rfl) (by kernel_rfl) (by kernel_rfl) (fun _ _ _ h => h) (Or.inl ⟨by rfl, ?_⟩) hHeld ?_
      rotate_left
      · intro w hSw; (try dsimp only at hSw); (try simp only [List.getElem_toArray, List.getElem_cons_succ, List.getElem_cons_zero]); first | (go_simp; done) | (go_simp; with_reducible rfl)
      try simp only [List.getElem_toArray, List.getElem_cons_succ, List.getElem_cons_zero, Act.put, List.setIfInBounds_toArray, List.set_cons_zero, List.set_cons_succ]
      refine wpAnyH_ready (rs := [12]) (by kernel_rfl) (by simp) ?_
      refine AllReadyH.cons rfl (fun K hK => ?_) ?_
      · skip
        try simp only [List.getElem_toArray, List.getElem_cons_succ, List.getElem_cons_zero]
        go_simp
        refine hK.out _ _ ?_ (fun hHeld2 => ?_)
        · (try dsimp only)
          refine KEEP.out _ ?_
          (repeat (first | exact A2.bel | refine belx_alloc ?_ _ | refine belx_drew ?_ | refine belx_ext ?_ _ | refine Below.setCell ?_ hYC _ | (refine Below.grown ?_ gr1 (HBAS.out _ (by (with_reducible (repeat (first | exact Below.refl _ _ | refine belx_alloc ?_ _ | refine belx_drew ?_ | refine belx_ext ?_ _))))) hlo1)))
        clear hK K hHeld
        have hHeld := hHeld2
        clear hHeld2
        try simp only [List.getElem_toArray, List.getElem_cons_succ, List.getElem_cons_zero, Act.put, List.setIfInBounds_toArray, List.set_cons_zero, List.set_cons_succ]
        refine wpAnyH_ready (rs := [13]) (by kernel_rfl) (by simp) ?_
        refine AllReadyH.cons rfl (fun K hK => ?_) ?_
        · skip
          refine step_app_src (by rfl) _ _ 25 (by rfl) Y.heap.size 4 ib (.bool false) 1 1 Try.underlying25 hib hy0 hy1 hy2 rfl (by decide) (.slice a3 p3.length d3) p3.length (p3.map Value.bool) (by rfl) (OWN.out _ (by (with_reducible (repeat (first | exact Below.refl _ _ | refine belx_alloc ?_ _ | refine belx_drew ?_ | refine belx_ext ?_ _))))) (some ⟨y0.w.heap.size, 0, none⟩) 1 1 [.bool false] (by rfl) ⟨rfl, one_bools _, .inr ⟨_, rfl, cell_one_at _ _ _ _ rfl⟩⟩ hmx3 hbx3 (HBAS.out _ (by (with_reducible (repeat (first | exact Below.refl _ _ | refine belx_alloc ?_ _ | refine belx_drew ?_ | refine belx_ext ?_ _))))) ?_
          intro A' c' w1 own1 gr1 hat1
          have bC1 := mid_blk (KB.out _ (by (with_reducible (repeat (first | exact Below.refl _ _ | refine belx_alloc ?_ _ | refine belx_drew ?_ | refine belx_ext ?_ _))))) gr1 hvC1
          have cC1 := blk_cell bC1 3
          have zC1 := blk_free bC1 3
          refine hK.out _ _ ?_ (fun hHeld2 => ?_)
          · (try dsimp only)
            refine KEEP.out _ ?_
            (repeat (first | exact A2.bel | refine belx_alloc ?_ _ | refine belx_drew ?_ | refine belx_ext ?_ _ | refine Below.setCell ?_ hYC _ | (refine Below.grown ?_ gr1 (HBAS.out _ (by (with_reducible (repeat (first | exact Below.refl _ _ | refine belx_alloc ?_ _ | refine belx_drew ?_ | refine belx_ext ?_ _))))) hlo1)))
          clear hK K hHeld
          have hHeld := hHeld2
          clear hHeld2
          try simp only [List.getElem_toArray, List.getElem_cons_succ, List.getElem_cons_zero, Act.put, List.setIfInBounds_toArray, List.set_cons_zero, List.set_cons_succ]
          refine wpAnyH_take (i := 14) (v := ?_) rfl (by kernel_rfl) (by kernel_rfl) (by kernel_rfl) (fun _ _ _ h => h) (Or.inl ⟨by rfl, ?_⟩) hHeld ?_
          rotate_left
          · intro w hSw; (try dsimp only at hSw); (try simp only [List.getElem_toArray, List.getElem_cons_succ, List.getElem_cons_zero]); first | (go_simp; done) | (go_simp; with_reducible rfl)
          try simp only [List.getElem_toArray, List.getElem_cons_succ, List.getElem_cons_zero, Act.put, List.setIfInBounds_toArray, List.set_cons_zero, List.set_cons_succ]
          refine wpAnyH_ready (rs := [15]) (by kernel_rfl) (by simp) ?_
          refine AllReadyH.cons rfl (fun K hK => ?_) ?_
          · skip
            try simp only [List.getElem_toArray, List.getElem_cons_succ, List.getElem_cons_zero]
            go_simp
            refine hK.out _ _ ?_ (fun hHeld2 => ?_)
            · (try dsimp only)
              refine KEEP.out _ ?_
              (repeat (first | exact A2.bel | refine belx_alloc ?_ _ | refine belx_drew ?_ | refine belx_ext ?_ _ | refine Below.setCell ?_ hYC _ | (refine Below.grown ?_ gr1 (HBAS.out _ (by (with_reducible (repeat (first | exact Below.refl _ _ | refine belx_alloc ?_ _ | refine belx_drew ?_ | refine belx_ext ?_ _))))) hlo1)))
            clear hK K hHeld
            have hHeld := hHeld2
            clear hHeld2
            try simp only [List.getElem_toArray, List.getElem_cons_succ, List.getElem_cons_zero, Act.put, List.setIfInBounds_toArray, List.set_cons_zero, List.set_cons_succ]
            refine wpAnyH_done (by kernel_rfl) ?_ _
            refine NoPanic.normal ?_
            exact hK _ _ _ _ _ _ _ _ _ _ _ _ _ _ _ _ _ ((A2.ext ⟨y0.w, by (with_reducible (repeat (first | exact Below.refl _ _ | refine belx_alloc ?_ _ | refine belx_drew ?_ | refine belx_ext ?_ _)))⟩).app3 own1 ⟨gr1, hat1, rfl⟩)
            
          exact AllReadyH.nil
        exact AllReadyH.nil
      exact AllReadyH.nil
    exact AllReadyH.nil
  refine AllReadyH.cons rfl (fun K hK => ?_) ?_
  · skip
    try simp only [List.getElem_toArray, List.getElem_cons_succ, List.getElem_cons_zero]
    go_simp
    refine Calls.mono (CA.out _ (by (with_reducible (repeat (first | exact Below.refl _ _ | refine belx_alloc ?_ _ | refine belx_drew ?_ | refine belx_ext ?_ _))))) ?_
    rintro e w' ⟨rfl, y0, rfl⟩
    have cfy0 := (KC.out _ (by (with_reducible (repeat (first | exact Below.refl _ _ | refine belx_alloc ?_ _ | refine belx_drew ?_ | refine belx_ext ?_ _))) : Below wq.heap.size wq y0.w)).1
    (try dsimp only)
    have cfy3 := fun o => (KC.out _ (by (with_reducible (repeat (first | exact Below.refl _ _ | refine belx_alloc ?_ _ | refine belx_drew ?_ | refine belx_ext ?_ _))) : Below wq.heap.size wq (y0.w.alloc o))).1
    refine hK.out _ _ ?_ (fun hHeld2 => ?_)
    · (try dsimp only)
      refine KEEP.out _ ?_
      (repeat (first | exact A2.bel | refine belx_alloc ?_ _ | refine belx_drew ?_ | refine belx_ext ?_ _ | refine Below.setCell ?_ hYC _ | (refine Below.grown ?_ gr1 (HBAS.out _ (by (with_reducible (repeat (first | exact Below.refl _ _ | refine belx_alloc ?_ _ | refine belx_drew ?_ | refine belx_ext ?_ _))))) hlo1)))
    clear hK K hHeld
    have hHeld := hHeld2
    clear hHeld2
    try simp only [List.getElem_toArray, List.getElem_cons_succ, List.getElem_cons_zero, Act.put, List.setIfInBounds_toArray, List.set_cons_zero, List.set_cons_succ]
    refine wpAnyH_take (i := 6) (v := ?_) rfl (by kernel_rfl) (by kernel_rfl) (by kernel_rfl) (fun _ _ _ h => h) (Or.inl ⟨by rfl, ?_⟩) hHeld ?_
    rotate_left
    · intro w hSw; (try dsimp only at hSw); (try simp only [List.getElem_toArray, List.getElem_cons_succ, List.getElem_cons_zero]); first | (go_simp; done) | (go_simp; with_reducible rfl)
    try simp only [List.getElem_toArray, List.getElem_cons_succ, List.getElem_cons_zero, Act.put, List.setIfInBounds_toArray, List.set_cons_zero, List.set_cons_succ]
    refine wpAnyH_take (i := 7) (v := undef) rfl (by kernel_rfl) (by kernel_rfl) (by kernel_rfl) (fun _ _ _ h => h) (Or.inr ⟨by rfl, rfl⟩) hHeld ?_
    try simp only [List.getElem_toArray, List.getElem_cons_succ, List.getElem_cons_zero, Act.put, List.setIfInBounds_toArray, List.set_cons_zero, List.set_cons_succ]
    refine wpAnyH_take (i := 8) (v := undef) rfl (by kernel_rfl) (by kernel_rfl) (by kernel_rfl) (fun _ _ _ h => h) (Or.inr ⟨by rfl, rfl⟩) hHeld ?_
    try simp only [List.getElem_toArray, List.getElem_cons_succ, List.getElem_cons_zero, Act.put, List.setIfInBounds_toArray, List.set_cons_zero, List.set_cons_succ]
    refine wpAnyH_take (i := 9) (v := undef) rfl (by kernel_rfl) (by kernel_rfl) (by kernel_rfl) (fun _ _ _ h => h) (Or.inr ⟨by rfl, rfl⟩) hHeld ?_
    try simp only [List.getElem_toArray, List.getElem_cons_succ, List.getElem_cons_zero, Act.put, List.setIfInBounds_toArray, List.set_cons_zero, List.set_cons_succ]
    refine wpAnyH_take (i := 10) (v := undef) rfl (by kernel_rfl) (by kernel_rfl) (by kernel_rfl) (fun _ _ _ h => h) (Or.inr ⟨by rfl, rfl⟩) hHeld ?_
    try simp only [List.getElem_toArray, List.getElem_cons_succ, List.getElem_cons_zero, Act.put, List.setIfInBounds_toArray, List.set_cons_zero, List.set_cons_succ]
    refine wpAnyH_take (i := 11) (v := ?_) rfl (by kernel_rfl) (by kernel_rfl) (by kernel_rfl) (fun _ _ _ h => h) (Or.inl ⟨by rfl, ?_⟩) hHeld ?_
    rotate_left
    · intro w hSw; (try dsimp only at hSw); (try simp only [List.getElem_toArray, List.getElem_cons_succ, List.getElem_cons_zero]); first | (go_simp; done) | (go_simp; with_reducible rfl)
    try simp only [List.getElem_toArray, List.getElem_cons_succ, List.getElem_cons_zero, Act.put, List.setIfInBounds_toArray, List.set_cons_zero, List.set_cons_succ]
    refine wpAnyH_ready (rs := [1, 12]) (by kernel_rfl) (by simp) ?_
    refine AllReadyH.cons rfl (fun K hK => ?_) ?_
    · skip
      try simp only [List.getElem_toArray, List.getElem_cons_succ, List.getElem_cons_zero]
      go_simp
      refine hK.out _ _ ?_ (fun hHeld2 => ?_)
      · (try dsimp only)
        refine KEEP.out _ ?_
        (repeat (first | exact A2.bel | refine belx_alloc ?_ _ | refine belx_drew ?_ | refine belx_ext ?_ _ | refine Below.setCell ?_ hYC _ | (refine Below.grown ?_ gr1 (HBAS.out _ (by (with_reducible (repeat (first | exact Below.refl _ _ | refine belx_alloc ?_ _ | refine belx_drew ?_ | refine belx_ext ?_ _))))) hlo1)))
      clear hK K hHeld
      have hHeld := hHeld2
      clear hHeld2
      try simp only [List.getElem_toArray, List.getElem_cons_succ, List.getElem_cons_zero, Act.put, List.setIfInBounds_toArray, List.set_cons_zero, List.set_cons_succ]
      refine wpAnyH_ready (rs := [12]) (by kernel_rfl) (by simp) ?_
      refine AllReadyH.cons rfl (fun K hK => ?_) ?_
      · skip
        try simp only [List.getElem_toArray, List.getElem_cons_succ, List.getElem_cons_zero]
        go_simp
        refine hK.out _ _ ?_ (fun hHeld2 => ?_)
        · (try dsimp only)
          refine KEEP.out _ ?_
          (repeat (first | exact A2.bel | refine belx_alloc ?_ _ | refine belx_drew ?_ | refine belx_ext ?_ _ | refine Below.setCell ?_ hYC _ | (refine Below.grown ?_ gr1 (HBAS.out _ (by (with_reducible (repeat (first | exact Below.refl _ _ | refine belx_alloc ?_ _ | refine belx_drew ?_ | refine belx_ext ?_ _))))) hlo1)))
        clear hK K hHeld
        have hHeld := hHeld2
        clear hHeld2
        try simp only [List.getElem_toArray, List.getElem_cons_succ, List.getElem_cons_zero, Act.put, List.setIfInBounds_toArray, List.set_cons_zero, List.set_cons_succ]
        refine wpAnyH_ready (rs := [13]) (by kernel_rfl) (by simp) ?_
        refine AllReadyH.cons rfl (fun K hK => ?_) ?_
        · skip
          refine step_app_src (by rfl) _ _ 25 (by rfl) Y.heap.size 4 ib (.bool false) 1 1 Try.underlying25 hib hy0 hy1 hy2 rfl (by decide) (.slice a3 p3.length d3) p3.length (p3.map Value.bool) (by rfl) (OWN.out _ (by (with_reducible (repeat (first | exact Below.refl _ _ | refine belx_alloc ?_ _ | refine belx_drew ?_ | refine belx_ext ?_ _))))) (some ⟨y0.w.heap.size, 0, none⟩) 1 1 [.bool false] (by rfl) ⟨rfl, one_bools _, .inr ⟨_, rfl, cell_one_at _ _ _ _ rfl⟩⟩ hmx3 hbx3 (HBAS.out _ (by (with_reducible (repeat (first | exact Below.refl _ _ | refine belx_alloc ?_ _ | refine belx_drew ?_ | refine belx_ext ?_ _))))) ?_
          intro A' c' w1 own1 gr1 hat1
          have bC1 := mid_blk (KB.out _ (by (with_reducible (repeat (first | exact Below.refl _ _ | refine belx_alloc ?_ _ | refine belx_drew ?_ | refine belx_ext ?_ _))))) gr1 hvC1
          have cC1 := blk_cell bC1 3
          have zC1 := blk_free bC1 3
          refine hK.out _ _ ?_ (fun hHeld2 => ?_)
          · (try dsimp only)
            refine KEEP.out _ ?_
            (repeat (first | exact A2.bel | refine belx_alloc ?_ _ | refine belx_drew ?_ | refine belx_ext ?_ _ | refine Below.setCell ?_ hYC _ | (refine Below.grown ?_ gr1 (HBAS.out _ (by (with_reducible (repeat (first | exact Below.refl _ _ | refine belx_alloc ?_ _ | refine belx_drew ?_ | refine belx_ext ?_ _))))) hlo1)))
          clear hK K hHeld
          have hHeld := hHeld2
          clear hHeld2
          try simp only [List.getElem_toArray, List.getElem_cons_succ, List.getElem_cons_zero, Act.put, List.setIfInBounds_toArray, List.set_cons_zero, List.set_cons_succ]
          refine wpAnyH_take (i := 14) (v := ?_) rfl (by kernel_rfl) (by kernel_rfl) (by kernel_rfl) (fun _ _ _ h => h) (Or.inl ⟨by rfl, ?_⟩) hHeld ?_
          rotate_left
          · intro w hSw; (try dsimp only at hSw); (try simp only [List.getElem_toArray, List.getElem_cons_succ, List.getElem_cons_zero]); first | (go_simp; done) | (go_simp; with_reducible rfl)
          try simp only [List.getElem_toArray, List.getElem_cons_succ, List.getElem_cons_zero, Act.put, List.setIfInBounds_toArray, List.set_cons_zero, List.set_cons_succ]
          refine wpAnyH_ready (rs := [15]) (by kernel_rfl) (by simp) ?_
          refine AllReadyH.cons rfl (fun K hK => ?_) ?_
          · skip
            try simp only [List.getElem_toArray, List.getElem_cons_succ, List.getElem_cons_zero]
            go_simp
            refine hK.out _ _ ?_ (fun hHeld2 => ?_)
            · (try dsimp only)
              refine KEEP.out _ ?_
              (repeat (first | exact A2.bel | refine belx_alloc ?_ _ | refine belx_drew ?_ | refine belx_ext ?_ _ | refine Below.setCell ?_ hYC _ | (refine Below.grown ?_ gr1 (HBAS.out _ (by (with_reducible (repeat (first | exact Below.refl _ _ | refine belx_alloc ?_ _ | refine belx_drew ?_ | refine belx_ext ?_ _))))) hlo1)))
            clear hK K hHeld
            have hHeld := hHeld2
            clear hHeld2
            try simp only [List.getElem_toArray, List.getElem_cons_succ, List.getElem_cons_zero, Act.put, List.setIfInBounds_toArray, List.set_cons_zero, List.set_cons_succ]
            refine wpAnyH_done (by kernel_rfl) ?_ _
            refine NoPanic.normal ?_
            exact hK _ _ _ _ _ _ _ _ _ _ _ _ _ _ _ _ _ ((A2.ext ⟨y0.w, by (with_reducible (repeat (first | exact Below.refl _ _ | refine belx_alloc ?_ _ | refine belx_drew ?_ | refine belx_ext ?_ _)))⟩).app3 own1 ⟨gr1, hat1, rfl⟩)
            
          exact AllReadyH.nil
        exact AllReadyH.nil
      exact AllReadyH.nil
    refine AllReadyH.cons rfl (fun K hK => ?_) ?_
    · skip
      try simp only [List.getElem_toArray, List.getElem_cons_succ, List.getElem_cons_zero]
      go_simp
      refine hK.out _ _ ?_ (fun hHeld2 => ?_)
      · (try dsimp only)
        refine KEEP.out _ ?_
        (repeat (first | exact A2.bel | refine belx_alloc ?_ _ | refine belx_drew ?_ | refine belx_ext ?_ _ | refine Below.setCell ?_ hYC _ | (refine Below.grown ?_ gr1 (HBAS.out _ (by (with_reducible (repeat (first | exact Below.refl _ _ | refine belx_alloc ?_ _ | refine belx_drew ?_ | refine belx_ext ?_ _))))) hlo1)))
      clear hK K hHeld
      have hHeld := hHeld2
      clear hHeld2
      try simp only [List.getElem_toArray, List.getElem_cons_succ, List.getElem_cons_zero, Act.put, List.setIfInBounds_toArray, List.set_cons_zero, List.set_cons_succ]
      refine wpAnyH_ready (rs := [1]) (by kernel_rfl) (by simp) ?_
      refine AllReadyH.cons rfl (fun K hK => ?_) ?_
      · skip
        try simp only [List.getElem_toArray, List.getElem_cons_succ, List.getElem_cons_zero]
        go_simp
        refine hK.out _ _ ?_ (fun hHeld2 => ?_)
        · (try dsimp only)
          refine KEEP.out _ ?_
          (repeat (first | exact A2.bel | refine belx_alloc ?_ _ | refine belx_drew ?_ | refine belx_ext ?_ _ | refine Below.setCell ?_ hYC _ | (refine Below.grown ?_ gr1 (HBAS.out _ (by (with_reducible (repeat (first | exact Below.refl _ _ | refine belx_alloc ?_ _ | refine belx_drew ?_ | refine belx_ext ?_ _))))) hlo1)))
        clear hK K hHeld
        have hHeld := hHeld2
        clear hHeld2
        try simp only [List.getElem_toArray, List.getElem_cons_succ, List.getElem_cons_zero, Act.put, List.setIfInBounds_toArray, List.set_cons_zero, List.set_cons_succ]
        refine wpAnyH_ready (rs := [13]) (by kernel_rfl) (by simp) ?_
        refine AllReadyH.cons rfl (fun K hK => ?_) ?_
        · skip
          refine step_app_src (by rfl) _ _ 25 (by rfl) Y.heap.size 4 ib (.bool false) 1 1 Try.underlying25 hib hy0 hy1 hy2 rfl (by decide) (.slice a3 p3.length d3) p3.length (p3.map Value.bool) (by rfl) (OWN.out _ (by (with_reducible (repeat (first | exact Below.refl _ _ | refine belx_alloc ?_ _ | refine belx_drew ?_ | refine belx_ext ?_ _))))) (some ⟨y0.w.heap.size, 0, none⟩) 1 1 [.bool false] (by rfl) ⟨rfl, one_bools _, .inr ⟨_, rfl, cell_one_at _ _ _ _ rfl⟩⟩ hmx3 hbx3 (HBAS.out _ (by (with_reducible (repeat (first | exact Below.refl _ _ | refine belx_alloc ?_ _ | refine belx_drew ?_ | refine belx_ext ?_ _))))) ?_
          intro A' c' w1 own1 gr1 hat1
          have bC1 := mid_blk (KB.out _ (by (with_reducible (repeat (first | exact Below.refl _ _ | refine belx_alloc ?_ _ | refine belx_drew ?_ | refine belx_ext ?_ _))))) gr1 hvC1
          have cC1 := blk_cell bC1 3
          have zC1 := blk_free bC1 3
          refine hK.out _ _ ?_ (fun hHeld2 => ?_)
          · (try dsimp only)
            refine KEEP.out _ ?_
            (repeat (first | exact A2.bel | refine belx_alloc ?_ _ | refine belx_drew ?_ | refine belx_ext ?_ _ | refine Below.setCell ?_ hYC _ | (refine Below.grown ?_ gr1 (HBAS.out _ (by (with_reducible (repeat (first | exact Below.refl _ _ | refine belx_alloc ?_ _ | refine belx_drew ?_ | refine belx_ext ?_ _))))) hlo1)))
          clear hK K hHeld
          have hHeld := hHeld2
          clear hHeld2
          try simp only [List.getElem_toArray, List.getElem_cons_succ, List.getElem_cons_zero, Act.put, List.setIfInBounds_toArray, List.set_cons_zero, List.set_cons_succ]
          refine wpAnyH_take (i := 14) (v := ?_) rfl (by kernel_rfl) (by kernel_rfl) (by kernel_rfl) (fun _ _ _ h => h) (Or.inl ⟨by rfl, ?_⟩) hHeld ?_
          rotate_left
          · intro w hSw; (try dsimp only at hSw); (try simp only [List.getElem_toArray, List.getElem_cons_succ, List.getElem_cons_zero]); first | (go_simp; done) | (go_simp; with_reducible rfl)
          try simp only [List.getElem_toArray, List.getElem_cons_succ, List.getElem_cons_zero, Act.put, List.setIfInBounds_toArray, List.set_cons_zero, List.set_cons_succ]
          refine wpAnyH_ready (rs := [15]) (by kernel_rfl) (by simp) ?_
          refine AllReadyH.cons rfl (fun K hK => ?_) ?_
          · skip
            try simp only [List.getElem_toArray, List.getElem_cons_succ, List.getElem_cons_zero]
            go_simp
            refine hK.out _ _ ?_ (fun hHeld2 => ?_)
            · (try dsimp only)
              refine KEEP.out _ ?_
              (repeat (first | exact A2.bel | refine belx_alloc ?_ _ | refine belx_drew ?_ | refine belx_ext ?_ _ | refine Below.setCell ?_ hYC _ | (refine Below.grown ?_ gr1 (HBAS.out _ (by (with_reducible (repeat (first | exact Below.refl _ _ | refine belx_alloc ?_ _ | refine belx_drew ?_ | refine belx_ext ?_ _))))) hlo1)))
            clear hK K hHeld
            have hHeld := hHeld2
            clear hHeld2
            try simp only [List.getElem_toArray, List.getElem_cons_succ, List.getElem_cons_zero, Act.put, List.setIfInBounds_toArray, List.set_cons_zero, List.set_cons_succ]
            refine wpAnyH_done (by kernel_rfl) ?_ _
            refine NoPanic.normal ?_
            exact hK _ _ _ _ _ _ _ _ _ _ _ _ _ _ _ _ _ ((A2.ext ⟨y0.w, by (with_reducible (repeat (first | exact Below.refl _ _ | refine belx_alloc ?_ _ | refine belx_drew ?_ | refine belx_ext ?_ _)))⟩).app3 own1 ⟨gr1, hat1, rfl⟩)
            
          exact AllReadyH.nil
        exact AllReadyH.nil
      exact AllReadyH.nil
    exact AllReadyH.nil
  exact AllReadyH.nil

end Go.Proofs.Ytkokmpdmmfghhaa
