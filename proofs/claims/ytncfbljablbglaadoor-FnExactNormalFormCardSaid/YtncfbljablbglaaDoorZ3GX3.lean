/- Texts of one claim, laid together: ContrB, Contradd, Contrif0, Contrif1. -/
import Derived.Test.YtncfbljablbglaaDoorZ3GA
import Derived.Test.YtncfbljablbglaaDoorZ3GF
import Derived.Test.YtncfbljablbglaaDoorZ3KDefM
import Derived.Test.YtncfbljablbglaaDoorZ3KCofA
import Derived.Test.YtncfbljablbglaaDoorZ3GX0
import Derived.Test.YtncfbljablbglaaDoorZ3KPutM
import Derived.Test.YtncfbljablbglaaDoorZ3KUsesA
import Derived.Test.YtncfbljablbglaaDoorZ3GXC
import Derived.Test.YtncfbljablbglaaDoorZ3GXA
import Derived.Test.YtncfbljablbglaaDoorZ3KDefP
import Derived.Deep.RegionHeld3
import Derived.Deep.Cut
import Derived.RegionTactic
import Derived.Outline
set_option linter.unusedVariables false
set_option linter.unusedSimpArgs false
/- The body of a redex and the size of a term, by the model. -/
namespace Go.Proofs.YtncfbljablbglaaDoor
open Go.RowKit

set_option maxHeartbeats 4000000 in
theorem l4Size_ans {W : World} {lo : Nat} {t : Tm} {r : TV} (h : TmIn W lo t r) (hsz : t.sz ≤ 400) (x : Ext W) :
    Calls Tryd.prog 103 #[r.val t] x.w (Ans W (.int .i64 (t.sz : Int))) := by
  obtain ⟨ra, rc, rb, rd⟩ := r
  unfold TV.val
  obtain ⟨m, hm⟩ : ∃ m : Int, m = 400 - (t.sz : Int) := ⟨_, rfl⟩
  have HM := Lib.hid hm
  have hm0 : 0 ≤ m ∧ m ≤ 400 := by omega
  clear hm
  go_enter Tryd.func103, Tryd.ntmps103
  go_wp2_with fail
  generalize hW : x.w.alloc _ = W1
  generalize hB : x.w.heap.size = B
  obtain ⟨c0, c1, c2, c3, h1, hback, yy, hy0⟩ := boxedT h x hB hW
  clear hW hB
  rw [← hy0]
  clear hy0
  have C := l2Left_ans t h1 400 (by omega) (by omega) m (.inl ⟨by omega, HM.out⟩) yy
  unfold TV.val at C
  have hw : IntKind.i64.wrap (400 - m) = 400 - m := IntWalk.i64_in _ (by omega)
  go_wp2_with fail
  refine Calls.mono C ?_
  clear C
  rintro e w' ⟨rfl, y2, rfl⟩
  go_wp2_with fail
  go_ret
  exact fin_int (by rw [HM.out]; omega) (hback y2)

set_option maxRecDepth 100000 in
set_option maxHeartbeats 8000000 in
theorem l4Body_ans {W : World} {lo : Nat} {t : Tm} {r : TV} (h : TmIn W lo t r) {body : Tm} {put : List Tm} (hc : Cof t body put) (h2 : t.op ≠ 2) (h3 : t.op ≠ 3) (x : Ext W) :
    Calls Tryd.prog 102 #[r.val t] x.w (fun e w' => ∃ (qb : TV) (y : Ext W), e = .returned (qb.val body) ∧ w' = y.w ∧ TmIn W 0 body qb) := by
  obtain ⟨ra, rc, rb, rd⟩ := r
  unfold TV.val
  obtain ⟨xx, hxx⟩ : ∃ y : Ext W, x = y := ⟨x, rfl⟩
  rw [hxx]
  clear hxx x
  cases hc with
  | add a b h' hk ha hb =>
    exact absurd h' h2
  | if0 a b c h' hk ha hn =>
    exact absurd h' h3
  | if1 a b c h' hk ha hn =>
    exact absurd h' h3
  | app a b u h' hk ha hu =>
    clear h2 h3
    have HK := Lib.hid hk
    have HU := Lib.hid hu
    have hl : t.kids.length = 2 := by rw [hk]; rfl
    have f10 : (t.op == 10) = true := by rw [h']; rfl
    have f8 : (t.op == 8) = false := by rw [h']; rfl
    have f7 : (a.op == 7) = false := by rw [ha]; rfl
    have hi0 : (0 : Int) < (t.kids.length : Int) := by omega
    have hi1 : (1 : Int) < (t.kids.length : Int) := by omega
    clear hk hu h' ha
    go_enter Tryd.func102, Tryd.ntmps102
    go_upto_region 1 with fail
    have hxW := xx.size
    generalize hWa : (xx.w.alloc _).alloc _ = Wa
    generalize hB : xx.w.heap.size = B at *
    obtain ⟨bT, bR, sA, bel⟩ := blocks2 hB hWa
    have belA : Below W.heap.size W Wa := xx.below.trans (bel.mono (by omega))
    clear hWa bel
    obtain ⟨kr, A⟩ := h.out
    obtain ⟨kb, ko, hrb, K0A⟩ := A.kid 0 a (by rw [HK.out]; rfl)
    have hrb' : rb = some ⟨kb, ko, none⟩ := hrb
    subst hrb'
    clear hrb
    have t0 := blk_cell bT 0
    have t1 := blk_cell bT 1
    have t2 := blk_cell bT 2
    have t3 := blk_cell bT 3
    simp at t0 t1 t2 t3
    have q0 : Wa.cell? ⟨kb, ko, none⟩ = some (.int .i64 a.op) := by have := (Ext.mk Wa belA).cell K0A.c0; simpa using this
    have q1 : Wa.cell? ⟨kb, ko + 1, none⟩ = some (.int .i64 a.n) := by have := (Ext.mk Wa belA).cell K0A.c1; simpa using this
    have q2 : Wa.cell? ⟨kb, ko + 2, none⟩ = some (.slice (kr 0).a a.ty.length (kr 0).c) := by have := (Ext.mk Wa belA).cell K0A.c2; simpa using this
    have q3 : Wa.cell? ⟨kb, ko + 3, none⟩ = some (.slice (kr 0).b a.kids.length (kr 0).d) := by have := (Ext.mk Wa belA).cell K0A.c3; simpa using this
    have hua : (0 : Int) < (a.kids.length : Int) := by rw [HU.out]; simp
    obtain ⟨kq, A2⟩ := (A.sub 0 a (by rw [HK.out]; rfl)).out
    obtain ⟨lb, lo2, hrb2, K0A2⟩ := A2.kid 0 body (by rw [HU.out]; rfl)
    rw [hrb2] at q3
    have v0 : Wa.cell? ⟨lb, lo2, none⟩ = some (.int .i64 body.op) := by have := (Ext.mk Wa belA).cell K0A2.c0; simpa using this
    have v1 : Wa.cell? ⟨lb, lo2 + 1, none⟩ = some (.int .i64 body.n) := by have := (Ext.mk Wa belA).cell K0A2.c1; simpa using this
    have v2 : Wa.cell? ⟨lb, lo2 + 2, none⟩ = some (.slice (kq 0).a body.ty.length (kq 0).c) := by have := (Ext.mk Wa belA).cell K0A2.c2; simpa using this
    have v3 : Wa.cell? ⟨lb, lo2 + 3, none⟩ = some (.slice (kq 0).b body.kids.length (kq 0).d) := by have := (Ext.mk Wa belA).cell K0A2.c3; simpa using this
    have n0 := blk_cell bR 0
    have n1 := blk_cell bR 1
    have n2 := blk_cell bR 2
    have n3 := blk_cell bR 3
    have p0 := blk_free bR 0
    have p1 := blk_free bR 1
    have p2 := blk_free bR 2
    have p3 := blk_free bR 3
    simp at n0 n1 n2 n3
    go_wp2_with fail
    clear n0 n1 n2 n3 p0 p1 p2 p3
    generalize hY : World.setCell _ _ _ = Y
    obtain ⟨belD, hsame, hgr, r0, r1, r2, r3⟩ := ret4 (W := W) belA (by omega) bR hY
    refine bodyPost_ret (v := TV.val (kq 0) body) (by simp [TV.val, results, Tryd.results102, go_sem, r0, r1, r2, r3]) rfl ?_
    exact ⟨(kq 0), ⟨Y, belD⟩, rfl, rfl, (A2.sub 0 body (by rw [HU.out]; rfl)).lower (Nat.zero_le _)⟩
  | split a b u v h' hk ha hu =>
    clear h2 h3
    have HK := Lib.hid hk
    have HU := Lib.hid hu
    have hl : t.kids.length = 2 := by rw [hk]; rfl
    have f10 : (t.op == 10) = false := by rw [h']; rfl
    have f8 : (t.op == 8) = false := by rw [h']; rfl
    have f7 : (a.op == 7) = false := by rw [ha]; rfl
    have hi0 : (0 : Int) < (t.kids.length : Int) := by omega
    have hi1 : (1 : Int) < (t.kids.length : Int) := by omega
    clear hk hu h' ha
    go_enter Tryd.func102, Tryd.ntmps102
    go_upto_region 1 with fail
    have hxW := xx.size
    generalize hWa : (xx.w.alloc _).alloc _ = Wa
    generalize hB : xx.w.heap.size = B at *
    obtain ⟨bT, bR, sA, bel⟩ := blocks2 hB hWa
    have belA : Below W.heap.size W Wa := xx.below.trans (bel.mono (by omega))
    clear hWa bel
    obtain ⟨kr, A⟩ := h.out
    obtain ⟨kb, ko, hrb, K0A⟩ := A.kid 0 a (by rw [HK.out]; rfl)
    have hrb' : rb = some ⟨kb, ko, none⟩ := hrb
    subst hrb'
    clear hrb
    have t0 := blk_cell bT 0
    have t1 := blk_cell bT 1
    have t2 := blk_cell bT 2
    have t3 := blk_cell bT 3
    simp at t0 t1 t2 t3
    have q0 : Wa.cell? ⟨kb, ko, none⟩ = some (.int .i64 a.op) := by have := (Ext.mk Wa belA).cell K0A.c0; simpa using this
    have q1 : Wa.cell? ⟨kb, ko + 1, none⟩ = some (.int .i64 a.n) := by have := (Ext.mk Wa belA).cell K0A.c1; simpa using this
    have q2 : Wa.cell? ⟨kb, ko + 2, none⟩ = some (.slice (kr 0).a a.ty.length (kr 0).c) := by have := (Ext.mk Wa belA).cell K0A.c2; simpa using this
    have q3 : Wa.cell? ⟨kb, ko + 3, none⟩ = some (.slice (kr 0).b a.kids.length (kr 0).d) := by have := (Ext.mk Wa belA).cell K0A.c3; simpa using this
    obtain ⟨b', o', e', K1A⟩ := A.kid 1 body (by rw [HK.out]; rfl)
    cases e'
    have v0 : Wa.cell? ⟨kb, ko + 4, none⟩ = some (.int .i64 body.op) := by have := (Ext.mk Wa belA).cell K1A.c0; simpa using this
    have v1 : Wa.cell? ⟨kb, ko + 5, none⟩ = some (.int .i64 body.n) := by have := (Ext.mk Wa belA).cell K1A.c1; simpa using this
    have v2 : Wa.cell? ⟨kb, ko + 6, none⟩ = some (.slice (kr 1).a body.ty.length (kr 1).c) := by have := (Ext.mk Wa belA).cell K1A.c2; simpa using this
    have v3 : Wa.cell? ⟨kb, ko + 7, none⟩ = some (.slice (kr 1).b body.kids.length (kr 1).d) := by have := (Ext.mk Wa belA).cell K1A.c3; simpa using this
    have n0 := blk_cell bR 0
    have n1 := blk_cell bR 1
    have n2 := blk_cell bR 2
    have n3 := blk_cell bR 3
    have p0 := blk_free bR 0
    have p1 := blk_free bR 1
    have p2 := blk_free bR 2
    have p3 := blk_free bR 3
    simp at n0 n1 n2 n3
    go_wp2_with fail
    clear n0 n1 n2 n3 p0 p1 p2 p3
    generalize hY : World.setCell _ _ _ = Y
    obtain ⟨belD, hsame, hgr, r0, r1, r2, r3⟩ := ret4 (W := W) belA (by omega) bR hY
    refine bodyPost_ret (v := TV.val (kr 1) body) (by simp [TV.val, results, Tryd.results102, go_sem, r0, r1, r2, r3]) rfl ?_
    exact ⟨(kr 1), ⟨Y, belD⟩, rfl, rfl, (A.sub 1 body (by rw [HK.out]; rfl)).lower (Nat.zero_le _)⟩
  | left a b c u h' hk ha hu =>
    clear h2 h3
    have HK := Lib.hid hk
    have HU := Lib.hid hu
    have hl : t.kids.length = 3 := by rw [hk]; rfl
    have f10 : (t.op == 10) = false := by rw [h']; rfl
    have f8 : (t.op == 8) = true := by rw [h']; rfl
    have f7 : (a.op == 7) = false := by rw [ha]; rfl
    have hi0 : (0 : Int) < (t.kids.length : Int) := by omega
    have hi1 : (1 : Int) < (t.kids.length : Int) := by omega
    have hi2 : (2 : Int) < (t.kids.length : Int) := by omega
    clear hk hu h' ha
    go_enter Tryd.func102, Tryd.ntmps102
    go_upto_region 1 with fail
    have hxW := xx.size
    generalize hWa : (xx.w.alloc _).alloc _ = Wa
    generalize hB : xx.w.heap.size = B at *
    obtain ⟨bT, bR, sA, bel⟩ := blocks2 hB hWa
    have belA : Below W.heap.size W Wa := xx.below.trans (bel.mono (by omega))
    clear hWa bel
    obtain ⟨kr, A⟩ := h.out
    obtain ⟨kb, ko, hrb, K0A⟩ := A.kid 0 a (by rw [HK.out]; rfl)
    have hrb' : rb = some ⟨kb, ko, none⟩ := hrb
    subst hrb'
    clear hrb
    have t0 := blk_cell bT 0
    have t1 := blk_cell bT 1
    have t2 := blk_cell bT 2
    have t3 := blk_cell bT 3
    simp at t0 t1 t2 t3
    have q0 : Wa.cell? ⟨kb, ko, none⟩ = some (.int .i64 a.op) := by have := (Ext.mk Wa belA).cell K0A.c0; simpa using this
    have q1 : Wa.cell? ⟨kb, ko + 1, none⟩ = some (.int .i64 a.n) := by have := (Ext.mk Wa belA).cell K0A.c1; simpa using this
    have q2 : Wa.cell? ⟨kb, ko + 2, none⟩ = some (.slice (kr 0).a a.ty.length (kr 0).c) := by have := (Ext.mk Wa belA).cell K0A.c2; simpa using this
    have q3 : Wa.cell? ⟨kb, ko + 3, none⟩ = some (.slice (kr 0).b a.kids.length (kr 0).d) := by have := (Ext.mk Wa belA).cell K0A.c3; simpa using this
    obtain ⟨b', o', e', K1A⟩ := A.kid 1 body (by rw [HK.out]; rfl)
    cases e'
    have v0 : Wa.cell? ⟨kb, ko + 4, none⟩ = some (.int .i64 body.op) := by have := (Ext.mk Wa belA).cell K1A.c0; simpa using this
    have v1 : Wa.cell? ⟨kb, ko + 5, none⟩ = some (.int .i64 body.n) := by have := (Ext.mk Wa belA).cell K1A.c1; simpa using this
    have v2 : Wa.cell? ⟨kb, ko + 6, none⟩ = some (.slice (kr 1).a body.ty.length (kr 1).c) := by have := (Ext.mk Wa belA).cell K1A.c2; simpa using this
    have v3 : Wa.cell? ⟨kb, ko + 7, none⟩ = some (.slice (kr 1).b body.kids.length (kr 1).d) := by have := (Ext.mk Wa belA).cell K1A.c3; simpa using this
    have n0 := blk_cell bR 0
    have n1 := blk_cell bR 1
    have n2 := blk_cell bR 2
    have n3 := blk_cell bR 3
    have p0 := blk_free bR 0
    have p1 := blk_free bR 1
    have p2 := blk_free bR 2
    have p3 := blk_free bR 3
    simp at n0 n1 n2 n3
    go_wp2_with fail
    clear n0 n1 n2 n3 p0 p1 p2 p3
    generalize hY : World.setCell _ _ _ = Y
    obtain ⟨belD, hsame, hgr, r0, r1, r2, r3⟩ := ret4 (W := W) belA (by omega) bR hY
    refine bodyPost_ret (v := TV.val (kr 1) body) (by simp [TV.val, results, Tryd.results102, go_sem, r0, r1, r2, r3]) rfl ?_
    exact ⟨(kr 1), ⟨Y, belD⟩, rfl, rfl, (A.sub 1 body (by rw [HK.out]; rfl)).lower (Nat.zero_le _)⟩
  | right a b c u h' hk ha hu =>
    clear h2 h3
    have HK := Lib.hid hk
    have HU := Lib.hid hu
    have hl : t.kids.length = 3 := by rw [hk]; rfl
    have f10 : (t.op == 10) = false := by rw [h']; rfl
    have f8 : (t.op == 8) = true := by rw [h']; rfl
    have f7 : (a.op == 7) = true := by rw [ha]; rfl
    have hi0 : (0 : Int) < (t.kids.length : Int) := by omega
    have hi1 : (1 : Int) < (t.kids.length : Int) := by omega
    have hi2 : (2 : Int) < (t.kids.length : Int) := by omega
    clear hk hu h' ha
    go_enter Tryd.func102, Tryd.ntmps102
    go_upto_region 1 with fail
    have hxW := xx.size
    generalize hWa : (xx.w.alloc _).alloc _ = Wa
    generalize hB : xx.w.heap.size = B at *
    obtain ⟨bT, bR, sA, bel⟩ := blocks2 hB hWa
    have belA : Below W.heap.size W Wa := xx.below.trans (bel.mono (by omega))
    clear hWa bel
    obtain ⟨kr, A⟩ := h.out
    obtain ⟨kb, ko, hrb, K0A⟩ := A.kid 0 a (by rw [HK.out]; rfl)
    have hrb' : rb = some ⟨kb, ko, none⟩ := hrb
    subst hrb'
    clear hrb
    have t0 := blk_cell bT 0
    have t1 := blk_cell bT 1
    have t2 := blk_cell bT 2
    have t3 := blk_cell bT 3
    simp at t0 t1 t2 t3
    have q0 : Wa.cell? ⟨kb, ko, none⟩ = some (.int .i64 a.op) := by have := (Ext.mk Wa belA).cell K0A.c0; simpa using this
    have q1 : Wa.cell? ⟨kb, ko + 1, none⟩ = some (.int .i64 a.n) := by have := (Ext.mk Wa belA).cell K0A.c1; simpa using this
    have q2 : Wa.cell? ⟨kb, ko + 2, none⟩ = some (.slice (kr 0).a a.ty.length (kr 0).c) := by have := (Ext.mk Wa belA).cell K0A.c2; simpa using this
    have q3 : Wa.cell? ⟨kb, ko + 3, none⟩ = some (.slice (kr 0).b a.kids.length (kr 0).d) := by have := (Ext.mk Wa belA).cell K0A.c3; simpa using this
    obtain ⟨b', o', e', K2A⟩ := A.kid 2 body (by rw [HK.out]; rfl)
    cases e'
    have v0 : Wa.cell? ⟨kb, ko + 8, none⟩ = some (.int .i64 body.op) := by have := (Ext.mk Wa belA).cell K2A.c0; simpa using this
    have v1 : Wa.cell? ⟨kb, ko + 9, none⟩ = some (.int .i64 body.n) := by have := (Ext.mk Wa belA).cell K2A.c1; simpa using this
    have v2 : Wa.cell? ⟨kb, ko + 10, none⟩ = some (.slice (kr 2).a body.ty.length (kr 2).c) := by have := (Ext.mk Wa belA).cell K2A.c2; simpa using this
    have v3 : Wa.cell? ⟨kb, ko + 11, none⟩ = some (.slice (kr 2).b body.kids.length (kr 2).d) := by have := (Ext.mk Wa belA).cell K2A.c3; simpa using this
    have n0 := blk_cell bR 0
    have n1 := blk_cell bR 1
    have n2 := blk_cell bR 2
    have n3 := blk_cell bR 3
    have p0 := blk_free bR 0
    have p1 := blk_free bR 1
    have p2 := blk_free bR 2
    have p3 := blk_free bR 3
    simp at n0 n1 n2 n3
    go_wp2_with fail
    clear n0 n1 n2 n3 p0 p1 p2 p3
    generalize hY : World.setCell _ _ _ = Y
    obtain ⟨belD, hsame, hgr, r0, r1, r2, r3⟩ := ret4 (W := W) belA (by omega) bR hY
    refine bodyPost_ret (v := TV.val (kr 2) body) (by simp [TV.val, results, Tryd.results102, go_sem, r0, r1, r2, r3]) rfl ?_
    exact ⟨(kr 2), ⟨Y, belD⟩, rfl, rfl, (A.sub 2 body (by rw [HK.out]; rfl)).lower (Nat.zero_le _)⟩
  | opn a b u h' hk ha hu =>
    clear h2 h3
    have HK := Lib.hid hk
    have HU := Lib.hid hu
    have hl : t.kids.length = 2 := by rw [hk]; rfl
    have f10 : (t.op == 10) = false := by rw [h']; rfl
    have f8 : (t.op == 8) = false := by rw [h']; rfl
    have f7 : (a.op == 7) = false := by rw [ha]; rfl
    have hi0 : (0 : Int) < (t.kids.length : Int) := by omega
    have hi1 : (1 : Int) < (t.kids.length : Int) := by omega
    clear hk hu h' ha
    go_enter Tryd.func102, Tryd.ntmps102
    go_upto_region 1 with fail
    have hxW := xx.size
    generalize hWa : (xx.w.alloc _).alloc _ = Wa
    generalize hB : xx.w.heap.size = B at *
    obtain ⟨bT, bR, sA, bel⟩ := blocks2 hB hWa
    have belA : Below W.heap.size W Wa := xx.below.trans (bel.mono (by omega))
    clear hWa bel
    obtain ⟨kr, A⟩ := h.out
    obtain ⟨kb, ko, hrb, K0A⟩ := A.kid 0 a (by rw [HK.out]; rfl)
    have hrb' : rb = some ⟨kb, ko, none⟩ := hrb
    subst hrb'
    clear hrb
    have t0 := blk_cell bT 0
    have t1 := blk_cell bT 1
    have t2 := blk_cell bT 2
    have t3 := blk_cell bT 3
    simp at t0 t1 t2 t3
    have q0 : Wa.cell? ⟨kb, ko, none⟩ = some (.int .i64 a.op) := by have := (Ext.mk Wa belA).cell K0A.c0; simpa using this
    have q1 : Wa.cell? ⟨kb, ko + 1, none⟩ = some (.int .i64 a.n) := by have := (Ext.mk Wa belA).cell K0A.c1; simpa using this
    have q2 : Wa.cell? ⟨kb, ko + 2, none⟩ = some (.slice (kr 0).a a.ty.length (kr 0).c) := by have := (Ext.mk Wa belA).cell K0A.c2; simpa using this
    have q3 : Wa.cell? ⟨kb, ko + 3, none⟩ = some (.slice (kr 0).b a.kids.length (kr 0).d) := by have := (Ext.mk Wa belA).cell K0A.c3; simpa using this
    obtain ⟨b', o', e', K1A⟩ := A.kid 1 body (by rw [HK.out]; rfl)
    cases e'
    have v0 : Wa.cell? ⟨kb, ko + 4, none⟩ = some (.int .i64 body.op) := by have := (Ext.mk Wa belA).cell K1A.c0; simpa using this
    have v1 : Wa.cell? ⟨kb, ko + 5, none⟩ = some (.int .i64 body.n) := by have := (Ext.mk Wa belA).cell K1A.c1; simpa using this
    have v2 : Wa.cell? ⟨kb, ko + 6, none⟩ = some (.slice (kr 1).a body.ty.length (kr 1).c) := by have := (Ext.mk Wa belA).cell K1A.c2; simpa using this
    have v3 : Wa.cell? ⟨kb, ko + 7, none⟩ = some (.slice (kr 1).b body.kids.length (kr 1).d) := by have := (Ext.mk Wa belA).cell K1A.c3; simpa using this
    have n0 := blk_cell bR 0
    have n1 := blk_cell bR 1
    have n2 := blk_cell bR 2
    have n3 := blk_cell bR 3
    have p0 := blk_free bR 0
    have p1 := blk_free bR 1
    have p2 := blk_free bR 2
    have p3 := blk_free bR 3
    simp at n0 n1 n2 n3
    go_wp2_with fail
    clear n0 n1 n2 n3 p0 p1 p2 p3
    generalize hY : World.setCell _ _ _ = Y
    obtain ⟨belD, hsame, hgr, r0, r1, r2, r3⟩ := ret4 (W := W) belA (by omega) bR hY
    refine bodyPost_ret (v := TV.val (kr 1) body) (by simp [TV.val, results, Tryd.results102, go_sem, r0, r1, r2, r3]) rfl ?_
    exact ⟨(kr 1), ⟨Y, belD⟩, rfl, rfl, (A.sub 1 body (by rw [HK.out]; rfl)).lower (Nat.zero_le _)⟩

end Go.Proofs.YtncfbljablbglaaDoor
/- A contraction by the model: add. -/
namespace Go.Proofs.YtncfbljablbglaaDoor
open Go.RowKit

set_option maxRecDepth 100000 in
set_option maxHeartbeats 16000000 in
theorem l4Con_add {W : World} {lo : Nat} {t : Tm} {r : TV} (h : TmIn W lo t r) {v : Int} (ok : OkT 16 false v t) (hv0 : 0 ≤ v) (hsz : t.sz ≤ 400) (hv : v + 2 * (t.sz : Int) ≤ 2000) {a b : Tm} (h' : t.op = 2) (hk : t.kids = [a, b]) (ha : a.op = 1) (hb : b.op = 1) (o : Tm) (b' : Bool) (ho : (((Tm.mk 1 ((a.n + b.n).tmod 3) [] []).rv (subf 0 []) 0).sz ≤ 400 ∧ o = (Tm.mk 1 ((a.n + b.n).tmod 3) [] []).rv (subf 0 []) 0 ∧ b' = true) ∨ (400 < ((Tm.mk 1 ((a.n + b.n).tmod 3) [] []).rv (subf 0 []) 0).sz ∧ o = zeroT ∧ b' = false)) (x : Ext W) :
    Calls Tryd.prog 89 #[r.val t] x.w (NewTmB W o b') := by
  obtain ⟨ra, rc, rb, rd⟩ := r
  unfold TV.val
  obtain ⟨xx, hxx⟩ : ∃ y : Ext W, x = y := ⟨x, rfl⟩
  rw [hxx]
  clear hxx x
  have HK := Lib.hid hk
  have hl : t.kids.length = 2 := by rw [hk]; rfl
  have f2 : (t.op == 2) = true := by rw [h']; rfl
  have f3 : (t.op == 3) = false := by rw [h']; rfl
  have f5 : (t.op == 5) = false := by rw [h']; rfl
  have f10 : (t.op == 10) = false := by rw [h']; rfl
  have hi0 : (0 : Int) < (t.kids.length : Int) := by omega
  have hi1 : (1 : Int) < (t.kids.length : Int) := by omega
  clear hl
  have HOP := Lib.hid h'
  have HA := Lib.hid ha
  have okA := ok.kid (i := 0) (k := a) (by rw [hk]; rfl)
  have okB := ok.kid (i := 1) (k := b) (by rw [hk]; rfl)
  have na : 0 ≤ a.n ∧ a.n < 3 := by have h9 := okA.node.nok; unfold NOk at h9; rw [if_neg (by rw [ha]; decide), if_pos ha] at h9; exact h9
  have nb : 0 ≤ b.n ∧ b.n < 3 := by have h9 := okB.node.nok; unfold NOk at h9; rw [if_neg (by rw [hb]; decide), if_pos hb] at h9; exact h9
  obtain ⟨z, hz⟩ : ∃ z : Int, z = (a.n + b.n).tmod 3 := ⟨_, rfl⟩
  have hzb : 0 ≤ z ∧ z < 3 := by rw [hz, Int.tmod_eq_emod_of_nonneg (by omega)]; omega
  have okz : OkT 16 false v (.mk 1 z [] [] : Tm) := by
    have := (Cof.add t a b h' hk ha hb).ok ok hv0
    rw [← hz] at this
    simpa using this.1
  have e1 : (Tm.mk 1 z [] []).rv (subf 0 []) 0 = .mk 1 z [] [] := by rw [Tm.subf_nil]; exact Tm.rv_id _ okz 0
  rw [← hz, e1] at ho
  obtain ⟨rfl, rfl⟩ : o = .mk 1 z [] [] ∧ b' = true := by
    rcases ho with ⟨_, q1, q2⟩ | ⟨q, _⟩
    · exact ⟨q1, q2⟩
    · simp [Tm.sz, Tm.szL] at q
  have HW : Hid (IntKind.i64.wrap (a.n + b.n) = a.n + b.n ∧ (a.n + b.n).tmod 3 = z ∧ IntKind.i64.wrap z = z) := ⟨IntWalk.i64_in _ (by omega), hz.symm, IntWalk.i64_in _ (by omega)⟩
  clear ho e1 okz hzb na nb okA okB hk h' ha hb hz
  go_enter Tryd.func89, Tryd.ntmps89
  go_upto_region 1 with fail
  have hxW := xx.size
  generalize hWa : (xx.w.alloc _).alloc _ = Wa
  generalize hB : xx.w.heap.size = B at *
  obtain ⟨bT, bR, sA, bel⟩ := blocks2 hB hWa
  have belA : Below W.heap.size W Wa := xx.below.trans (bel.mono (by omega))
  clear hWa bel
  obtain ⟨kr, A⟩ := h.out
  obtain ⟨kb, ko, hrb, K0A⟩ := A.kid 0 a (by rw [HK.out]; rfl)
  have hrb' : rb = some ⟨kb, ko, none⟩ := hrb
  subst hrb'
  clear hrb
  have t0 := blk_cell bT 0
  have t1 := blk_cell bT 1
  have t2 := blk_cell bT 2
  have t3 := blk_cell bT 3
  simp at t0 t1 t2 t3
  have q0 : Wa.cell? ⟨kb, ko, none⟩ = some (.int .i64 a.op) := by have := (Ext.mk Wa belA).cell K0A.c0; simpa using this
  have q1 : Wa.cell? ⟨kb, ko + 1, none⟩ = some (.int .i64 a.n) := by have := (Ext.mk Wa belA).cell K0A.c1; simpa using this
  have q2 : Wa.cell? ⟨kb, ko + 2, none⟩ = some (.slice (kr 0).a a.ty.length (kr 0).c) := by have := (Ext.mk Wa belA).cell K0A.c2; simpa using this
  have q3 : Wa.cell? ⟨kb, ko + 3, none⟩ = some (.slice (kr 0).b a.kids.length (kr 0).d) := by have := (Ext.mk Wa belA).cell K0A.c3; simpa using this
  go_upto_region 2 with fail
  clear t0 t1 t2 t3 q0 q1 q2 q3
  generalize hW1 : World.alloc _ _ = W1
  have bA := new_blk hW1
  have bT1 := blk_of_alloc bT hW1
  have bR1 := blk_of_alloc bR hW1
  have bel1 : Below W.heap.size W W1 := by rw [← hW1]; exact belA.alloc belA.size _
  have s1 : W1.heap.size = B + 3 := by rw [← hW1]; simp; omega
  rw [sA] at bA
  clear hW1 bT bR belA sA
  obtain ⟨b', o', e', K1A⟩ := A.kid 1 b (by rw [HK.out]; rfl)
  cases e'
  have hRW : W.heap.size ≤ B + 1 := by omega
  have hRB : B ≠ B + 1 := by omega
  have hRA : B + 2 ≠ B + 1 := by omega
  have belU := bel1
  have KG : Hid (∀ w', Kc W W1 (B + 1) w' → w'.cell? ⟨B, 3, none⟩ = some (.slice (some ⟨kb, ko, none⟩) t.kids.length rd) ∧ w'.cell? ⟨B + 2, 1, none⟩ = some (.int .i64 a.n) ∧ w'.cell? ⟨kb, ko + 5, none⟩ = some (.int .i64 b.n)) := fun w' k => ⟨k.cell (blk_cell bT1 3) hRB, k.cell (blk_cell bA 1) hRA, by have := (Ext.mk w' k.1).cell K1A.c1; simpa using this⟩
  have t0 := blk_cell bT1 0
  have t1 := blk_cell bT1 1
  have t2 := blk_cell bT1 2
  have t3 := blk_cell bT1 3
  simp at t0 t1 t2 t3
  go_upto_region 4 with fail
  clear t0 t1 t2 t3
  obtain ⟨hw1, hw2, hw3⟩ := HW.out
  have n0 := blk_cell bR1 0
  have n1 := blk_cell bR1 1
  have n2 := blk_cell bR1 2
  have n3 := blk_cell bR1 3
  have p0 := blk_free bR1 0
  have p1 := blk_free bR1 1
  have p2 := blk_free bR1 2
  have p3 := blk_free bR1 3
  simp at n0 n1 n2 n3
  go_region_held3 (fun w' => w'.cell? ⟨B, 3, none⟩ = some (.slice (some ⟨kb, ko, none⟩) t.kids.length rd) ∧ w'.cell? ⟨B + 2, 1, none⟩ = some (.int .i64 a.n) ∧ w'.cell? ⟨kb, ko + 5, none⟩ = some (.int .i64 b.n)) ((refine KG.out _ ?_; (with_reducible (repeat (first | exact Kc.self belU | refine Kc.drew ?_ | refine Kc.alloc ?_ _ | refine Kc.set ?_ hRW | refine Kc.ext ?_ _))))) (fail)
  clear n0 n1 n2 n3 p0 p1 p2 p3 hw1 hw2 hw3
  go_wp2_with fail
  generalize hY : World.setCell _ _ _ = Y
  obtain ⟨belD, hsame, hgr, r0, r1, r2, r3⟩ := ret4 (W := W) bel1 (by omega) bR1 hY
  refine bodyPost_ret (v := .tuple #[TV.val ⟨none, 0, none, 0⟩ (.mk 1 z [] []), .bool true]) (by simp [TV.val, Tm.op, Tm.n, Tm.ty, Tm.kids, results, Tryd.results89, go_sem, r0, r1, r2, r3]) rfl ?_
  exact ⟨_, _, ⟨Y.drew, below_drew belD⟩, rfl, rfl, bare_own _ 1 z, fun q hq => hq.elim⟩

end Go.Proofs.YtncfbljablbglaaDoor
/- A contraction by the model: if0. -/
namespace Go.Proofs.YtncfbljablbglaaDoor
open Go.RowKit

set_option maxRecDepth 100000 in
set_option maxHeartbeats 16000000 in
theorem l4Con_if0 {W : World} {lo : Nat} {t : Tm} {r : TV} (h : TmIn W lo t r) {v : Int} (ok : OkT 16 false v t) (hv0 : 0 ≤ v) (hsz : t.sz ≤ 400) (hv : v + 2 * (t.sz : Int) ≤ 2000) {a body c : Tm} (h' : t.op = 3) (hk : t.kids = [a, body, c]) (ha : a.op = 1) (hn : a.n = 0) (o : Tm) (b' : Bool) (ho : (((body).rv (subf 0 []) 0).sz ≤ 400 ∧ o = (body).rv (subf 0 []) 0 ∧ b' = true) ∨ (400 < ((body).rv (subf 0 []) 0).sz ∧ o = zeroT ∧ b' = false)) (x : Ext W) :
    Calls Tryd.prog 89 #[r.val t] x.w (NewTmB W o b') := by
  obtain ⟨ra, rc, rb, rd⟩ := r
  unfold TV.val
  obtain ⟨xx, hxx⟩ : ∃ y : Ext W, x = y := ⟨x, rfl⟩
  rw [hxx]
  clear hxx x
  have HK := Lib.hid hk
  have hl : t.kids.length = 3 := by rw [hk]; rfl
  have f2 : (t.op == 2) = false := by rw [h']; rfl
  have f3 : (t.op == 3) = true := by rw [h']; rfl
  have f5 : (t.op == 5) = false := by rw [h']; rfl
  have f10 : (t.op == 10) = false := by rw [h']; rfl
  have hi0 : (0 : Int) < (t.kids.length : Int) := by omega
  have hi1 : (1 : Int) < (t.kids.length : Int) := by omega
  have hi2 : (2 : Int) < (t.kids.length : Int) := by omega
  clear hl
  have HOP := Lib.hid h'
  have HA := Lib.hid ha
  have fn : (a.n == 0) = true := by rw [hn]; rfl
  have okb : OkT 16 false v body := by have := ok.kid (i := 1) (k := body) (by rw [hk]; rfl); rw [h', show addsO 3 1 = 0 by decide, Int.add_zero] at this; exact this
  have hbs : body.sz ≤ t.sz := Nat.le_of_lt (Tm.sz_kid (by rw [hk]; simp))
  have e1 : body.rv (subf 0 []) 0 = body := by rw [Tm.subf_nil]; exact Tm.rv_id body okb 0
  have e2 : body.rv (shf 0 0) 0 = body := by rw [shf_mvf body okb]; exact Tm.rv_id body okb 0
  rw [e1] at ho
  obtain ⟨rfl, rfl⟩ : o = body ∧ b' = true := by
    rcases ho with ⟨_, q1, q2⟩ | ⟨q, _⟩
    · exact ⟨q1, q2⟩
    · omega
  clear ho e1 hk h' ha hn
  go_enter Tryd.func89, Tryd.ntmps89
  go_upto_region 1 with fail
  have hxW := xx.size
  generalize hWa : (xx.w.alloc _).alloc _ = Wa
  generalize hB : xx.w.heap.size = B at *
  obtain ⟨bT, bR, sA, bel⟩ := blocks2 hB hWa
  have belA : Below W.heap.size W Wa := xx.below.trans (bel.mono (by omega))
  clear hWa bel
  obtain ⟨kr, A⟩ := h.out
  obtain ⟨kb, ko, hrb, K0A⟩ := A.kid 0 a (by rw [HK.out]; rfl)
  have hrb' : rb = some ⟨kb, ko, none⟩ := hrb
  subst hrb'
  clear hrb
  have t0 := blk_cell bT 0
  have t1 := blk_cell bT 1
  have t2 := blk_cell bT 2
  have t3 := blk_cell bT 3
  simp at t0 t1 t2 t3
  have q0 : Wa.cell? ⟨kb, ko, none⟩ = some (.int .i64 a.op) := by have := (Ext.mk Wa belA).cell K0A.c0; simpa using this
  have q1 : Wa.cell? ⟨kb, ko + 1, none⟩ = some (.int .i64 a.n) := by have := (Ext.mk Wa belA).cell K0A.c1; simpa using this
  have q2 : Wa.cell? ⟨kb, ko + 2, none⟩ = some (.slice (kr 0).a a.ty.length (kr 0).c) := by have := (Ext.mk Wa belA).cell K0A.c2; simpa using this
  have q3 : Wa.cell? ⟨kb, ko + 3, none⟩ = some (.slice (kr 0).b a.kids.length (kr 0).d) := by have := (Ext.mk Wa belA).cell K0A.c3; simpa using this
  go_upto_region 2 with fail
  clear t0 t1 t2 t3 q0 q1 q2 q3
  generalize hW1 : World.alloc _ _ = W1
  have bA := new_blk hW1
  have bT1 := blk_of_alloc bT hW1
  have bR1 := blk_of_alloc bR hW1
  have bel1 : Below W.heap.size W W1 := by rw [← hW1]; exact belA.alloc belA.size _
  have s1 : W1.heap.size = B + 3 := by rw [← hW1]; simp; omega
  rw [sA] at bA
  clear hW1 bT bR belA sA
  obtain ⟨b', o', e', K1A⟩ := A.kid 1 o (by rw [HK.out]; rfl)
  cases e'
  have t0 := blk_cell bT1 0
  have t1 := blk_cell bT1 1
  have t2 := blk_cell bT1 2
  have t3 := blk_cell bT1 3
  simp at t0 t1 t2 t3
  have q0 := blk_cell bA 0
  have q1 := blk_cell bA 1
  have q2 := blk_cell bA 2
  have q3 := blk_cell bA 3
  simp at q0 q1 q2 q3
  have v0 : W1.cell? ⟨kb, ko + 4, none⟩ = some (.int .i64 o.op) := by have := (Ext.mk W1 bel1).cell K1A.c0; simpa using this
  have v1 : W1.cell? ⟨kb, ko + 5, none⟩ = some (.int .i64 o.n) := by have := (Ext.mk W1 bel1).cell K1A.c1; simpa using this
  have v2 : W1.cell? ⟨kb, ko + 6, none⟩ = some (.slice (kr 1).a o.ty.length (kr 1).c) := by have := (Ext.mk W1 bel1).cell K1A.c2; simpa using this
  have v3 : W1.cell? ⟨kb, ko + 7, none⟩ = some (.slice (kr 1).b o.kids.length (kr 1).d) := by have := (Ext.mk W1 bel1).cell K1A.c3; simpa using this
  have SC := l2Shift_ans o (((A.sub 1 o (by rw [HK.out]; rfl)).lower (Nat.zero_le _)).ext ⟨W1, bel1⟩) okb (by omega) (by omega) 0 0 (by omega) (by omega) (by omega) 0 (by omega) (by omega) (Ext.self W1)
  rw [e2, show (0 : Int) + 0 = 0 from rfl] at SC
  unfold TV.val at SC
  go_wp2_with fail
  refine Calls.mono SC ?_
  clear SC t0 t1 t2 t3 q0 q1 q2 q3 v0 v1 v2 v3
  rintro e w' ⟨r4, K4, y4, rfl, rfl, own4, lo4⟩
  have bR4 := y4.blk bR1
  have bel4 : Below W.heap.size W y4.w := below_ext bel1 y4
  unfold TV.val
  have n0 := blk_cell bR4 0
  have n1 := blk_cell bR4 1
  have n2 := blk_cell bR4 2
  have n3 := blk_cell bR4 3
  have p0 := blk_free bR4 0
  have p1 := blk_free bR4 1
  have p2 := blk_free bR4 2
  have p3 := blk_free bR4 3
  simp at n0 n1 n2 n3
  go_wp2_with fail
  clear n0 n1 n2 n3 p0 p1 p2 p3
  generalize hY : World.setCell _ _ _ = Y
  obtain ⟨⟨NB9, y9, rfl, own9, lo9⟩, r0, r1, r2, r3⟩ := dft_end (W := W) bR4 own4 (fun g h => by have := lo4 g h; exact ⟨by omega, by omega⟩) bel4 (by omega) hY
  refine bodyPost_ret (v := .tuple #[TV.val r4 o, .bool true]) (by simp [TV.val, results, Tryd.results89, go_sem, r0, r1, r2, r3]) rfl ?_
  exact ⟨_, NB9, y9, rfl, rfl, own9, lo9⟩

end Go.Proofs.YtncfbljablbglaaDoor
/- A contraction by the model: if1. -/
namespace Go.Proofs.YtncfbljablbglaaDoor
open Go.RowKit

set_option maxRecDepth 100000 in
set_option maxHeartbeats 16000000 in
theorem l4Con_if1 {W : World} {lo : Nat} {t : Tm} {r : TV} (h : TmIn W lo t r) {v : Int} (ok : OkT 16 false v t) (hv0 : 0 ≤ v) (hsz : t.sz ≤ 400) (hv : v + 2 * (t.sz : Int) ≤ 2000) {a b body : Tm} (h' : t.op = 3) (hk : t.kids = [a, b, body]) (ha : a.op = 1) (hn : a.n ≠ 0) (o : Tm) (b' : Bool) (ho : (((body).rv (subf 0 []) 0).sz ≤ 400 ∧ o = (body).rv (subf 0 []) 0 ∧ b' = true) ∨ (400 < ((body).rv (subf 0 []) 0).sz ∧ o = zeroT ∧ b' = false)) (x : Ext W) :
    Calls Tryd.prog 89 #[r.val t] x.w (NewTmB W o b') := by
  obtain ⟨ra, rc, rb, rd⟩ := r
  unfold TV.val
  obtain ⟨xx, hxx⟩ : ∃ y : Ext W, x = y := ⟨x, rfl⟩
  rw [hxx]
  clear hxx x
  have HK := Lib.hid hk
  have hl : t.kids.length = 3 := by rw [hk]; rfl
  have f2 : (t.op == 2) = false := by rw [h']; rfl
  have f3 : (t.op == 3) = true := by rw [h']; rfl
  have f5 : (t.op == 5) = false := by rw [h']; rfl
  have f10 : (t.op == 10) = false := by rw [h']; rfl
  have hi0 : (0 : Int) < (t.kids.length : Int) := by omega
  have hi1 : (1 : Int) < (t.kids.length : Int) := by omega
  have hi2 : (2 : Int) < (t.kids.length : Int) := by omega
  clear hl
  have HOP := Lib.hid h'
  have HA := Lib.hid ha
  have fn : (a.n == 0) = false := by rw [beq_eq_false_iff_ne]; exact hn
  have okb : OkT 16 false v body := by have := ok.kid (i := 2) (k := body) (by rw [hk]; rfl); rw [h', show addsO 3 2 = 0 by decide, Int.add_zero] at this; exact this
  have hbs : body.sz ≤ t.sz := Nat.le_of_lt (Tm.sz_kid (by rw [hk]; simp))
  have e1 : body.rv (subf 0 []) 0 = body := by rw [Tm.subf_nil]; exact Tm.rv_id body okb 0
  have e2 : body.rv (shf 0 0) 0 = body := by rw [shf_mvf body okb]; exact Tm.rv_id body okb 0
  rw [e1] at ho
  obtain ⟨rfl, rfl⟩ : o = body ∧ b' = true := by
    rcases ho with ⟨_, q1, q2⟩ | ⟨q, _⟩
    · exact ⟨q1, q2⟩
    · omega
  clear ho e1 hk h' ha hn
  go_enter Tryd.func89, Tryd.ntmps89
  go_upto_region 1 with fail
  have hxW := xx.size
  generalize hWa : (xx.w.alloc _).alloc _ = Wa
  generalize hB : xx.w.heap.size = B at *
  obtain ⟨bT, bR, sA, bel⟩ := blocks2 hB hWa
  have belA : Below W.heap.size W Wa := xx.below.trans (bel.mono (by omega))
  clear hWa bel
  obtain ⟨kr, A⟩ := h.out
  obtain ⟨kb, ko, hrb, K0A⟩ := A.kid 0 a (by rw [HK.out]; rfl)
  have hrb' : rb = some ⟨kb, ko, none⟩ := hrb
  subst hrb'
  clear hrb
  have t0 := blk_cell bT 0
  have t1 := blk_cell bT 1
  have t2 := blk_cell bT 2
  have t3 := blk_cell bT 3
  simp at t0 t1 t2 t3
  have q0 : Wa.cell? ⟨kb, ko, none⟩ = some (.int .i64 a.op) := by have := (Ext.mk Wa belA).cell K0A.c0; simpa using this
  have q1 : Wa.cell? ⟨kb, ko + 1, none⟩ = some (.int .i64 a.n) := by have := (Ext.mk Wa belA).cell K0A.c1; simpa using this
  have q2 : Wa.cell? ⟨kb, ko + 2, none⟩ = some (.slice (kr 0).a a.ty.length (kr 0).c) := by have := (Ext.mk Wa belA).cell K0A.c2; simpa using this
  have q3 : Wa.cell? ⟨kb, ko + 3, none⟩ = some (.slice (kr 0).b a.kids.length (kr 0).d) := by have := (Ext.mk Wa belA).cell K0A.c3; simpa using this
  go_upto_region 2 with fail
  clear t0 t1 t2 t3 q0 q1 q2 q3
  generalize hW1 : World.alloc _ _ = W1
  have bA := new_blk hW1
  have bT1 := blk_of_alloc bT hW1
  have bR1 := blk_of_alloc bR hW1
  have bel1 : Below W.heap.size W W1 := by rw [← hW1]; exact belA.alloc belA.size _
  have s1 : W1.heap.size = B + 3 := by rw [← hW1]; simp; omega
  rw [sA] at bA
  clear hW1 bT bR belA sA
  obtain ⟨b', o', e', K2A⟩ := A.kid 2 o (by rw [HK.out]; rfl)
  cases e'
  have t0 := blk_cell bT1 0
  have t1 := blk_cell bT1 1
  have t2 := blk_cell bT1 2
  have t3 := blk_cell bT1 3
  simp at t0 t1 t2 t3
  have q0 := blk_cell bA 0
  have q1 := blk_cell bA 1
  have q2 := blk_cell bA 2
  have q3 := blk_cell bA 3
  simp at q0 q1 q2 q3
  have v0 : W1.cell? ⟨kb, ko + 8, none⟩ = some (.int .i64 o.op) := by have := (Ext.mk W1 bel1).cell K2A.c0; simpa using this
  have v1 : W1.cell? ⟨kb, ko + 9, none⟩ = some (.int .i64 o.n) := by have := (Ext.mk W1 bel1).cell K2A.c1; simpa using this
  have v2 : W1.cell? ⟨kb, ko + 10, none⟩ = some (.slice (kr 2).a o.ty.length (kr 2).c) := by have := (Ext.mk W1 bel1).cell K2A.c2; simpa using this
  have v3 : W1.cell? ⟨kb, ko + 11, none⟩ = some (.slice (kr 2).b o.kids.length (kr 2).d) := by have := (Ext.mk W1 bel1).cell K2A.c3; simpa using this
  have SC := l2Shift_ans o (((A.sub 2 o (by rw [HK.out]; rfl)).lower (Nat.zero_le _)).ext ⟨W1, bel1⟩) okb (by omega) (by omega) 0 0 (by omega) (by omega) (by omega) 0 (by omega) (by omega) (Ext.self W1)
  rw [e2, show (0 : Int) + 0 = 0 from rfl] at SC
  unfold TV.val at SC
  go_wp2_with fail
  refine Calls.mono SC ?_
  clear SC t0 t1 t2 t3 q0 q1 q2 q3 v0 v1 v2 v3
  rintro e w' ⟨r4, K4, y4, rfl, rfl, own4, lo4⟩
  have bR4 := y4.blk bR1
  have bel4 : Below W.heap.size W y4.w := below_ext bel1 y4
  unfold TV.val
  have n0 := blk_cell bR4 0
  have n1 := blk_cell bR4 1
  have n2 := blk_cell bR4 2
  have n3 := blk_cell bR4 3
  have p0 := blk_free bR4 0
  have p1 := blk_free bR4 1
  have p2 := blk_free bR4 2
  have p3 := blk_free bR4 3
  simp at n0 n1 n2 n3
  go_wp2_with fail
  clear n0 n1 n2 n3 p0 p1 p2 p3
  generalize hY : World.setCell _ _ _ = Y
  obtain ⟨⟨NB9, y9, rfl, own9, lo9⟩, r0, r1, r2, r3⟩ := dft_end (W := W) bR4 own4 (fun g h => by have := lo4 g h; exact ⟨by omega, by omega⟩) bel4 (by omega) hY
  refine bodyPost_ret (v := .tuple #[TV.val r4 o, .bool true]) (by simp [TV.val, results, Tryd.results89, go_sem, r0, r1, r2, r3]) rfl ?_
  exact ⟨_, NB9, y9, rfl, rfl, own9, lo9⟩

end Go.Proofs.YtncfbljablbglaaDoor
