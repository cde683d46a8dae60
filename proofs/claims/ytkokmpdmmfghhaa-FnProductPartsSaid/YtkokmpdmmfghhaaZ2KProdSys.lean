/- The program's product of systems. -/
import Derived.Test.YtkokmpdmmfghhaaZ2KProdClo
import Derived.Test.YtkokmpdmmfghhaaZ2KBuildP
import Derived.Laws.EntriesVeiled
set_option linter.unusedVariables false
set_option linter.unusedSimpArgs false
namespace Go.Proofs.Ytkokmpdmmfghhaa
open Go.RowKit

/-- A new system whose tables lie in blocks of their own, and a Bool. -/
def NewOwnB (W : World) (s : Sys) (b : Bool) : Ending → World → Prop := fun e w' => ∃ (r : Ref) (y : Ext W), e = .returned (.tuple #[r.val s, .bool b]) ∧ w' = y.w ∧
  Own3 y.w W.heap.size r s.plus.length s.times.length s.below.length (s.plus.map (Value.int .i64)) (s.times.map (Value.int .i64)) (s.below.map Value.bool)

set_option maxRecDepth 100000 in
set_option maxHeartbeats 8000000 in
theorem product_in {W : World} {r r' : Ref} {A B : Sys} (h : SysIn W r A) (k : SysIn W r' B) (hp : HasProduct A B) (x : Ext W) :
    Calls Try.prog 34 #[r.val A, r'.val B] x.w (NewOwnB W (prodS A B) true) := by
  have ta := hp.1.tab
  have tb := hp.2.1.tab
  have hA2 := ta.lo
  have hA16 := ta.hi
  have hB2 := tb.lo
  have hB16 := tb.hi
  obtain ⟨hN16, hNN⟩ := prod_le hp
  obtain ⟨N, hN⟩ : ∃ N : Nat, (A.n * B.n).toNat = N := ⟨_, rfl⟩
  have hpr : prodS A B = ⟨(N : Nat), grid N (pAddF A B), grid N (pMulF A B), grid N (pBothF A B)⟩ := by rw [← hN]; rfl
  rw [hpr]
  clear hpr
  rw [hN] at hN16 hNN
  have w1 : IntKind.i64.wrap (A.n * B.n) = (N : Int) := by rw [← hNN]; exact IntWalk.i64_in _ (by omega)
  have w2 : wrap64 (A.n * B.n) = (N : Int) := by rw [← IntWalk.i64_left]; exact w1
  have HP := Lib.hid hp
  have HNN := Lib.hid hNN
  replace w1 := Lib.hid w1
  replace w2 := Lib.hid w2
  clear hp hNN hN
  unfold Ref.val
  go_enter Try.func34, Try.ntmps34
  go_upto_region 1 with fail
  have hxW := x.size
  generalize hWa : ((x.w.alloc _).alloc _).alloc _ = Wa
  generalize hB : x.w.heap.size = B0 at *
  obtain ⟨bA, bB, bR, sA, bel⟩ := blocks3 hB hWa
  have belA : Below W.heap.size W Wa := x.below.trans (bel.mono (by omega))
  clear hWa bel
  have h1 := h.ext ⟨Wa, belA⟩
  have k1 := k.ext ⟨Wa, belA⟩
  have c0 := blk_cell bA 0
  have c1 := blk_cell bA 1
  have c2 := blk_cell bA 2
  have c3 := blk_cell bA 3
  have e0 := blk_cell bB 0
  have e1 := blk_cell bB 1
  have e2 := blk_cell bB 2
  have e3 := blk_cell bB 3
  simp at c0 c1 c2 c3 e0 e1 e2 e3
  go_wp2_with fail
  (with_reducible refine Calls.mono (haveProduct_ans h1 k1 true (by refine iff_tf ?_; dsimp only; exact HP.out) (Ext.self Wa)) ?_)
  rintro e w' ⟨rfl, y, rfl⟩
  clear c0 c1 c2 c3 e0 e1 e2 e3
  have belY : Below W.heap.size W y.w := belA.trans (y.below.mono belA.size)
  go_wp2_with fail
  refine Calls.mono (byAdd B0 (B0 + 1) y) ?_
  rintro e w' ⟨g1, g2, y1, rfl, rfl, m1, m2⟩
  go_wp2_with fail
  refine Calls.mono (byMul (W := y1.w) B0 (B0 + 1) (Ext.self _)) ?_
  rintro e w' ⟨g3, g4, y2, rfl, rfl, m3, m4⟩
  obtain ⟨Y, hY⟩ : ∃ Y : World, Y = y2.w := ⟨_, rfl⟩
  replace m1 : ∀ z : Ext Y, z.w.cell? ⟨g1, 0, none⟩ = some (.func (.func 102) #[] #[.pointer (some ⟨B0, 0, none⟩)]) := fun z => by subst hY; exact m1 (y2.trans z)
  replace m2 : ∀ z : Ext Y, z.w.cell? ⟨g2, 0, none⟩ = some (.func (.func 103) #[] #[.pointer (some ⟨B0 + 1, 0, none⟩)]) := fun z => by subst hY; exact m2 (y2.trans z)
  replace m3 : ∀ z : Ext Y, z.w.cell? ⟨g3, 0, none⟩ = some (.func (.func 104) #[] #[.pointer (some ⟨B0, 0, none⟩)]) := fun z => by subst hY; exact m3 z
  replace m4 : ∀ z : Ext Y, z.w.cell? ⟨g4, 0, none⟩ = some (.func (.func 105) #[] #[.pointer (some ⟨B0 + 1, 0, none⟩)]) := fun z => by subst hY; exact m4 z
  obtain ⟨ya, hya⟩ : ∃ ya : Ext Wa, Y = ya.w := ⟨y1.trans y2, hY⟩
  rw [← hY]
  clear hY y2 y1
  have bAy := ya.blk bA
  have bBy := ya.blk bB
  have bRy := ya.blk bR
  have hA' := h1.ext ya
  have hB' := k1.ext ya
  rw [← hya] at bAy bBy bRy hA' hB'
  have belY2 : Below W.heap.size W Y := by rw [hya]; exact belA.trans (ya.below.mono belA.size)
  clear hya ya belY y bA bB bR belA h1 k1
  have c0 : ∀ z : Ext Y, z.w.cell? ⟨B0, 0, none⟩ = some (.int .i64 A.n) := fun z => blk_cell (z.blk bAy) 0
  have c1 : ∀ z : Ext Y, z.w.cell? ⟨B0, 1, none⟩ = some (.slice r.pa A.plus.length r.pc) := fun z => blk_cell (z.blk bAy) 1
  have c2 : ∀ z : Ext Y, z.w.cell? ⟨B0, 2, none⟩ = some (.slice r.ta A.times.length r.tc) := fun z => blk_cell (z.blk bAy) 2
  have c3 : ∀ z : Ext Y, z.w.cell? ⟨B0, 3, none⟩ = some (.slice r.ba A.below.length r.bc) := fun z => blk_cell (z.blk bAy) 3
  have d0 : ∀ z : Ext Y, z.w.cell? ⟨B0 + 1, 0, none⟩ = some (.int .i64 B.n) := fun z => blk_cell (z.blk bBy) 0
  have d1 : ∀ z : Ext Y, z.w.cell? ⟨B0 + 1, 1, none⟩ = some (.slice r'.pa B.plus.length r'.pc) := fun z => blk_cell (z.blk bBy) 1
  have d2 : ∀ z : Ext Y, z.w.cell? ⟨B0 + 1, 2, none⟩ = some (.slice r'.ta B.times.length r'.tc) := fun z => blk_cell (z.blk bBy) 2
  have d3 : ∀ z : Ext Y, z.w.cell? ⟨B0 + 1, 3, none⟩ = some (.slice r'.ba B.below.length r'.bc) := fun z => blk_cell (z.blk bBy) 3
  have C := buildProd (W := Y) N hN16 (B0 + 1) g1 g2 g3 g4 B0 (pAddF A B) (pMulF A B) (pBothF A B)
    (fun z a b ha hb => prodAddClo (W := z.w) ta tb (fun u => d0 (z.trans u)) (fun u => m1 (z.trans u)) (fun u => m2 (z.trans u)) (fun p q hp hq u => prodSumA (hA'.ext z) ta (fun u => c0 (z.trans u)) (fun u => c1 (z.trans u)) (fun u => c2 (z.trans u)) (fun u => c3 (z.trans u)) p q hp hq u) (fun p q hp hq u => prodSumB (hB'.ext z) tb (fun u => d0 (z.trans u)) (fun u => d1 (z.trans u)) (fun u => d2 (z.trans u)) (fun u => d3 (z.trans u)) p q hp hq u) a b (by rw [← HNN.out]; omega) (by rw [← HNN.out]; omega) (by omega) (by omega) (Ext.self z.w))
    (fun z a b ha hb => prodMulClo (W := z.w) ta tb (fun u => d0 (z.trans u)) (fun u => m3 (z.trans u)) (fun u => m4 (z.trans u)) (fun p q hp hq u => prodMulA (hA'.ext z) ta (fun u => c0 (z.trans u)) (fun u => c1 (z.trans u)) (fun u => c2 (z.trans u)) (fun u => c3 (z.trans u)) p q hp hq u) (fun p q hp hq u => prodMulB (hB'.ext z) tb (fun u => d0 (z.trans u)) (fun u => d1 (z.trans u)) (fun u => d2 (z.trans u)) (fun u => d3 (z.trans u)) p q hp hq u) a b (by rw [← HNN.out]; omega) (by rw [← HNN.out]; omega) (by omega) (by omega) (Ext.self z.w))
    (fun z a b ha hb => prodLeClo (W := z.w) (hA'.ext z) (hB'.ext z) ta tb (fun u => c0 (z.trans u)) (fun u => c1 (z.trans u)) (fun u => c2 (z.trans u)) (fun u => c3 (z.trans u)) (fun u => d0 (z.trans u)) (fun u => d1 (z.trans u)) (fun u => d2 (z.trans u)) (fun u => d3 (z.trans u)) a b (by rw [← HNN.out]; omega) (by rw [← HNN.out]; omega) (by omega) (by omega) (Ext.self z.w)) (Ext.self Y)
  have f0 := blk_cell bAy 0
  have f1 := blk_cell bBy 0
  simp at f0 f1
  have v1 := w1.out
  have v2 := w2.out
  go_wp2_with fail
  refine Calls.mono C ?_
  rintro e w' ⟨rr, y, rfl, rfl, own⟩
  clear C c0 c1 c2 c3 d0 d1 d2 d3 m1 m2 m3 m4 f0 f1 v1 v2
  have bR0 := bRy
  replace bRy := y.blk bRy
  have hYs := belY2.size
  have p0 := blk_free bRy 0
  have p1 := blk_free bRy 1
  have p2 := blk_free bRy 2
  have p3 := blk_free bRy 3
  have n0 := blk_cell bRy 0
  have n1 := blk_cell bRy 1
  have n2 := blk_cell bRy 2
  have n3 := blk_cell bRy 3
  simp at n0 n1 n2 n3
  go_wp2
  clear n0 n1 n2 n3 p0 p1 p2 p3
  generalize hY4 : World.setCell _ _ _ = Y4
  obtain ⟨belD, hsame, hgr, r0, r1, r2, r3⟩ := ret4 (W := W) (belY2.trans (y.below.mono belY2.size)) (by omega) bRy hY4
  have a1 := own.o1.lt
  have a2 := own.o2.lt
  have a3 := own.o3.lt
  have hRs : B0 + 1 + 1 < Y.heap.size := by have := (Array.getElem?_eq_some_iff.1 bR0).1; exact this
  have o1 := own.o1.kept hgr (.inr (fun e => by have := a1 _ e; omega))
  have o2 := own.o2.kept hgr (.inr (fun e => by have := a2 _ e; omega))
  have o3 := own.o3.kept hgr (.inr (fun e => by have := a3 _ e; omega))
  have own2 := (Own3.mk o1 o2 o3 own.d12 own.d13 own.d23).lower hYs
  refine bodyPost_ret (v := .tuple #[rr.val ⟨(N : Int), grid N (pAddF A B), grid N (pMulF A B), grid N (pBothF A B)⟩, .bool true]) (by simp [Ref.val, results, Try.results34, go_sem, r0, r1, r2, r3]) rfl ?_
  exact ⟨rr, ⟨Y4, belD⟩, rfl, rfl, own2⟩

set_option maxHeartbeats 4000000 in
theorem product_out {W : World} {r r' : Ref} {A B : Sys} (h : SysIn W r A) (k : SysIn W r' B) (hp : ¬ HasProduct A B) (x : Ext W) :
    Calls Try.prog 34 #[r.val A, r'.val B] x.w (NewOwnB W ⟨0, [], [], []⟩ false) := by
  have HP := Lib.hid hp
  clear hp
  unfold Ref.val
  go_enter Try.func34, Try.ntmps34
  go_upto_region 1 with fail
  have hxW := x.size
  generalize hWa : ((x.w.alloc _).alloc _).alloc _ = Wa
  generalize hB : x.w.heap.size = B0 at *
  obtain ⟨bA, bB, bR, sA, bel⟩ := blocks3 hB hWa
  have belA : Below W.heap.size W Wa := x.below.trans (bel.mono (by omega))
  clear hWa bel
  have h1 := h.ext ⟨Wa, belA⟩
  have k1 := k.ext ⟨Wa, belA⟩
  have c0 := blk_cell bA 0
  have c1 := blk_cell bA 1
  have c2 := blk_cell bA 2
  have c3 := blk_cell bA 3
  have e0 := blk_cell bB 0
  have e1 := blk_cell bB 1
  have e2 := blk_cell bB 2
  have e3 := blk_cell bB 3
  simp at c0 c1 c2 c3 e0 e1 e2 e3
  go_wp2_with fail
  (with_reducible refine Calls.mono (haveProduct_ans h1 k1 false (by refine iff_tf ?_; dsimp only; exact HP.out) (Ext.self Wa)) ?_)
  rintro e w' ⟨rfl, y, rfl⟩
  clear c0 c1 c2 c3 e0 e1 e2 e3
  have belY : Below W.heap.size W y.w := belA.trans (y.below.mono belA.size)
  have bRy := y.blk bR
  have p0 := blk_free bRy 0
  have p1 := blk_free bRy 1
  have p2 := blk_free bRy 2
  have p3 := blk_free bRy 3
  have n0 := blk_cell bRy 0
  have n1 := blk_cell bRy 1
  have n2 := blk_cell bRy 2
  have n3 := blk_cell bRy 3
  simp at n0 n1 n2 n3
  go_wp2
  clear n0 n1 n2 n3 p0 p1 p2 p3
  generalize hY4 : World.setCell _ _ _ = Y4
  obtain ⟨belD, hsame, hgr, r0, r1, r2, r3⟩ := ret4 (W := W) belY (by omega) bRy hY4
  refine bodyPost_ret (v := .tuple #[(Ref.mk none none none 0 0 0).val ⟨0, [], [], []⟩, .bool false]) (by simp [Ref.val, results, Try.results34, go_sem, r0, r1, r2, r3]) rfl ?_
  exact ⟨⟨none, none, none, 0, 0, 0⟩, ⟨Y4, belD⟩, rfl, rfl, ⟨World.ownsRow_nil _ _ _ _, World.ownsRow_nil _ _ _ _, World.ownsRow_nil _ _ _ _, .inl rfl, .inl rfl, .inl rfl⟩⟩

theorem product_ans {W : World} {r r' : Ref} {A B : Sys} (h : SysIn W r A) (k : SysIn W r' B) (s : Sys) (b : Bool) (hs : ProdV A B s b) (x : Ext W) :
    Calls Try.prog 34 #[r.val A, r'.val B] x.w (NewOwnB W s b) := by
  rcases hs with ⟨hp, rfl, rfl⟩ | ⟨hp, rfl, rfl⟩
  · exact product_in h k hp x
  · exact product_out h k hp x

end Go.Proofs.Ytkokmpdmmfghhaa
