/- Texts of one claim, laid together: Contrapp, Contrleft. -/
import Derived.Test.YtncfbljablbglaaDoorZ3GX3
import Derived.Test.YtncfbljablbglaaDoorZ3GX0
import Derived.Test.YtncfbljablbglaaDoorZ3KPutM
import Derived.Test.YtncfbljablbglaaDoorZ3KUsesA
import Derived.Test.YtncfbljablbglaaDoorZ3GXC
import Derived.Test.YtncfbljablbglaaDoorZ3GXA
import Derived.Test.YtncfbljablbglaaDoorZ3KDefP
import Derived.Deep.RegionHeld3
import Derived.Deep.Cut
import Derived.RegionTactic
import Derived.Outline
set_option linter.unusedVariables false
set_option linter.unusedSimpArgs false
/- A contraction by the model: app. -/
namespace Go.Proofs.YtncfbljablbglaaDoor
open Go.RowKit

set_option maxRecDepth 100000 in
set_option maxHeartbeats 16000000 in
theorem l4Con_app {W : World} {lo : Nat} {t : Tm} {r : TV} (h : TmIn W lo t r) {v : Int} (ok : OkT 16 false v t) (hv0 : 0 ≤ v) (hsz : t.sz ≤ 400) (hv : v + 2 * (t.sz : Int) ≤ 2000) {a b body : Tm} (h' : t.op = 10) (hk : t.kids = [a, b]) (ha : a.op = 9) (hu : a.kids = [body]) (o : Tm) (b' : Bool) (ho : (((body).rv (subf 0 [b]) 0).sz ≤ 400 ∧ o = (body).rv (subf 0 [b]) 0 ∧ b' = true) ∨ (400 < ((body).rv (subf 0 [b]) 0).sz ∧ o = zeroT ∧ b' = false)) (x : Ext W) :
    Calls Tryd.prog 89 #[r.val t] x.w (NewTmB W o b') := by
  obtain ⟨ra, rc, rb, rd⟩ := r
  unfold TV.val
  obtain ⟨xx, hxx⟩ : ∃ y : Ext W, x = y := ⟨x, rfl⟩
  rw [hxx]
  clear hxx x
  have HK := Lib.hid hk
  have HU := Lib.hid hu
  have hl : t.kids.length = 2 := by rw [hk]; rfl
  have f2 : (t.op == 2) = false := by rw [h']; rfl
  have f3 : (t.op == 3) = false := by rw [h']; rfl
  have f5 : (t.op == 5) = false := by rw [h']; rfl
  have f10 : (t.op == 10) = true := by rw [h']; rfl
  have hi0 : (0 : Int) < (t.kids.length : Int) := by omega
  have hi1 : (1 : Int) < (t.kids.length : Int) := by omega
  clear hl
  have HOP := Lib.hid h'
  have HA := Lib.hid ha
  have HCOF : Hid (Cof t body [b]) := Cof.app t a b body h' hk ha hu
  obtain ⟨okB, okU, -⟩ := HCOF.out.ok ok hv0
  obtain ⟨sB, sU⟩ := HCOF.out.szs
  have okA : OkT 16 false v b := okU b (by simp)
  have sA' : b.sz ≤ t.sz := sU b (by simp)
  have okB' : OkT 16 false (v + 1) body := okB
  have hps := Tm.put_sz (i := 0) (Int.le_refl _) okA body okB' (Int.le_refl _)
  rw [subf_one] at ho
  rw [show (0 : Int) + 0 = 0 from rfl] at hps
  obtain ⟨rz, hrz⟩ : ∃ z, z = body.rv (putf 0 b) 0 := ⟨_, rfl⟩
  rw [← hrz] at ho hps
  have hus := body.uses_le 0
  have hua := b.sz_pos
  obtain ⟨m, hm⟩ : ∃ m : Int, m = (body.uses 0 : Int) * ((b.sz : Int) - 1) := ⟨_, rfl⟩
  have hm0 : 0 ≤ m := by rw [hm]; exact Int.mul_nonneg (by omega) (by omega)
  have hm1 : m ≤ 400 * 400 := by rw [hm]; exact Int.mul_le_mul (by omega) (by omega) (by omega) (by omega)
  rw [← hm] at hps
  have HM := Lib.hid hm
  have HPS := Lib.hid hps
  have HRZ := Lib.hid hrz
  have HO := Lib.hid ho
  have HM1 : Hid (0 ≤ m ∧ m ≤ 400 * 400) := ⟨hm0, hm1⟩
  clear hm okB okU sU hps hrz ho hm0 hm1
  clear hk h' ha hu
  have HIN : Hid (OkT 16 false v b ∧ OkT 16 false (v + 1) body ∧ body.uses 0 ≤ body.sz ∧ 1 ≤ b.sz ∧ body.sz ≤ t.sz ∧ b.sz ≤ t.sz) := ⟨okA, okB', hus, hua, sB, sA'⟩
  clear okA okB' hus hua sB sA'
  go_enter Tryd.func89, Tryd.ntmps89
  go_upto_region 1 with fail
  have hxW := xx.size
  generalize hWa : (xx.w.alloc _).alloc _ = Wa
  generalize hB : xx.w.heap.size = B at *
  obtain ⟨bT, bR, sA, bel⟩ := blocks2 hB hWa
  have belA : Below W.heap.size W Wa := xx.below.trans (bel.mono (by omega))
  clear hWa bel
  obtain ⟨kr, A⟩ := h.out
  obtain ⟨kb, ko, hrb, K0A⟩ := A.kid 0 a (by rw [HK.out]; rfl)
  have hrb' : rb = some ⟨kb, ko, none⟩ := hrb
  subst hrb'
  clear hrb
  have t0 := blk_cell bT 0
  have t1 := blk_cell bT 1
  have t2 := blk_cell bT 2
  have t3 := blk_cell bT 3
  simp at t0 t1 t2 t3
  have q0 : Wa.cell? ⟨kb, ko, none⟩ = some (.int .i64 a.op) := by have := (Ext.mk Wa belA).cell K0A.c0; simpa using this
  have q1 : Wa.cell? ⟨kb, ko + 1, none⟩ = some (.int .i64 a.n) := by have := (Ext.mk Wa belA).cell K0A.c1; simpa using this
  have q2 : Wa.cell? ⟨kb, ko + 2, none⟩ = some (.slice (kr 0).a a.ty.length (kr 0).c) := by have := (Ext.mk Wa belA).cell K0A.c2; simpa using this
  have q3 : Wa.cell? ⟨kb, ko + 3, none⟩ = some (.slice (kr 0).b a.kids.length (kr 0).d) := by have := (Ext.mk Wa belA).cell K0A.c3; simpa using this
  go_upto_region 2 with fail
  clear t0 t1 t2 t3 q0 q1 q2 q3
  generalize hW1 : World.alloc _ _ = W1
  have bA := new_blk hW1
  have bT1 := blk_of_alloc bT hW1
  have bR1 := blk_of_alloc bR hW1
  have bel1 : Below W.heap.size W W1 := by rw [← hW1]; exact belA.alloc belA.size _
  have s1 : W1.heap.size = B + 3 := by rw [← hW1]; simp; omega
  rw [sA] at bA
  clear hW1 bT bR belA sA
  have t0 := blk_cell bT1 0
  have t1 := blk_cell bT1 1
  have t2 := blk_cell bT1 2
  have t3 := blk_cell bT1 3
  simp at t0 t1 t2 t3
  have q0 := blk_cell bA 0
  have q1 := blk_cell bA 1
  have q2 := blk_cell bA 2
  have q3 := blk_cell bA 3
  simp at q0 q1 q2 q3
  have BC0 := l4Body_ans (h.ext ⟨W1, bel1⟩) HCOF.out (by rw [HOP.out]; decide) (by rw [HOP.out]; decide) (Ext.self W1)
  unfold TV.val at BC0
  have BC := Lib.hid BC0
  clear BC0
  go_wp2_with fail
  refine Calls.mono BC.out ?_
  clear BC
  rintro e w' ⟨qb, y2, rfl, rfl, hbd⟩
  go_upto_region 10 with fail
  clear t0 t1 t2 t3 q0 q1 q2 q3
  generalize hV : World.alloc _ _ = V
  have bK := new_blk hV
  obtain ⟨yV, hyV⟩ : ∃ y : Ext W1, y.w = V := ⟨y2.alloc _, hV⟩
  have bV1 : Below W1.heap.size W1 V := by rw [← hyV]; exact yV.below
  have belV : Below W.heap.size W V := by rw [← hyV]; exact below_ext bel1 yV
  have bT2 : V.heap[B]? = some (boxT t.op t.n ra t.ty.length rc (some ⟨kb, ko, none⟩) t.kids.length rd) := by rw [← hyV]; exact yV.blk bT1
  have bR2 : V.heap[B + 1]? = some zbox := by rw [← hyV]; exact yV.blk bR1
  have bA2 : V.heap[B + 2]? = some (boxT a.op a.n (kr 0).a a.ty.length (kr 0).c (kr 0).b a.kids.length (kr 0).d) := by rw [← hyV]; exact yV.blk bA
  have hs2 : W1.heap.size ≤ V.heap.size := bV1.size
  have hs3 : W1.heap.size ≤ y2.w.heap.size := y2.size
  have hKV : y2.w.heap.size < V.heap.size := (Array.getElem?_eq_some_iff.1 bK).1
  generalize y2.w.heap.size = K at *
  clear hV hyV yV bT1 bR1 bA y2
  have t0 := blk_cell bT2 0
  have t1 := blk_cell bT2 1
  have t2 := blk_cell bT2 2
  have t3 := blk_cell bT2 3
  simp at t0 t1 t2 t3
  have q0 := blk_cell bA2 0
  have q1 := blk_cell bA2 1
  have q2 := blk_cell bA2 2
  have q3 := blk_cell bA2 3
  simp at q0 q1 q2 q3
  go_upto_region 16 with fail
  clear q0 q1 q2 q3
  generalize hV3 : World.alloc _ _ = V3
  have bL := new_blk hV3
  have bT3 := blk_of_alloc bT2 hV3
  have bR3 := blk_of_alloc bR2 hV3
  have bK3 := blk_of_alloc bK hV3
  have bA3 := blk_of_alloc bA2 hV3
  have bel3 : Below W.heap.size W V3 := by rw [← hV3]; exact belV.alloc belV.size _
  have bV3 : Below W1.heap.size W1 V3 := by rw [← hV3]; exact bV1.alloc bV1.size _
  obtain ⟨L, hL⟩ : ∃ L, L = V.heap.size := ⟨_, rfl⟩
  have hLa : L ≤ V.heap.size := by omega
  have hLb : V.heap.size ≤ L := by omega
  have s3 : V3.heap.size = V.heap.size + 1 := by rw [← hV3]; simp
  rw [← hL] at bL ⊢
  clear hV3 hL t0 t1 t2 t3 bT2 bR2 bK bA2
  obtain ⟨b', o', e', K1A⟩ := A.kid 1 b (by rw [HK.out]; rfl)
  cases e'
  have t0 := blk_cell bT3 0
  have t1 := blk_cell bT3 1
  have t2 := blk_cell bT3 2
  have t3 := blk_cell bT3 3
  simp at t0 t1 t2 t3
  have v0 : V3.cell? ⟨kb, ko + 4, none⟩ = some (.int .i64 b.op) := by have := (Ext.mk V3 bel3).cell K1A.c0; simpa using this
  have v1 : V3.cell? ⟨kb, ko + 5, none⟩ = some (.int .i64 b.n) := by have := (Ext.mk V3 bel3).cell K1A.c1; simpa using this
  have v2 : V3.cell? ⟨kb, ko + 6, none⟩ = some (.slice (kr 1).a b.ty.length (kr 1).c) := by have := (Ext.mk V3 bel3).cell K1A.c2; simpa using this
  have v3 : V3.cell? ⟨kb, ko + 7, none⟩ = some (.slice (kr 1).b b.kids.length (kr 1).d) := by have := (Ext.mk V3 bel3).cell K1A.c3; simpa using this
  have n0 := blk_cell bL 0
  have n1 := blk_cell bL 1
  have n2 := blk_cell bL 2
  have n3 := blk_cell bL 3
  have p0 := blk_free bL 0
  have p1 := blk_free bL 1
  have p2 := blk_free bL 2
  have p3 := blk_free bL 3
  simp at n0 n1 n2 n3
  go_upto_region 19 with fail
  clear t0 t1 t2 t3 v0 v1 v2 v3
  clear n0 n1 n2 n3 p0 p1 p2 p3
  generalize hV4 : World.setCell _ _ _ = V4
  obtain ⟨bL4, same4, s4, b4⟩ := set4_blk bL hV4
  have bel4 : Below W.heap.size W V4 := b4 bel3 (by omega)
  have bV4 : Below W1.heap.size W1 V4 := b4 bV3 (by omega)
  have bR4 : V4.heap[B + 1]? = some zbox := (same4 _ (by omega)).trans bR3
  have bK4 := (same4 K (by omega)).trans bK3
  have hbV4 : TmIn V4 0 body qb := hbd.ext ⟨V4, bV4⟩
  have hargV : TmIn V4 0 b (kr 1) := ((A.sub 1 b (by rw [HK.out]; rfl)).lower (Nat.zero_le _)).ext ⟨V4, bel4⟩
  clear hV4 b4 same4 bL bT3 bR3 bK3 bA3
  obtain ⟨okA, okB', hus, hua, sB, sA'⟩ := HIN.out
  have SB : ∀ y : Ext V4, Calls Tryd.prog 103 #[qb.val body] y.w (Ans V4 (.int .i64 (body.sz : Int))) := fun y => l4Size_ans hbV4 (by omega) y
  have SA : ∀ y : Ext V4, Calls Tryd.prog 103 #[(kr 1).val b] y.w (Ans V4 (.int .i64 (b.sz : Int))) := fun y => l4Size_ans hargV (by omega) y
  have UC : ∀ y : Ext V4, Calls Tryd.prog 104 #[qb.val body, .int .i64 0] y.w (Ans V4 (.int .i64 (body.uses 0 : Int))) := fun y => l2Uses_ans body hbV4 okB' (by omega) 0 (by omega) (by omega) y
  unfold TV.val at SB SA UC
  have kk : ∀ y : Ext V4, (y.w.cell? ⟨K, 0, none⟩ = some (.int .i64 body.op) ∧ y.w.cell? ⟨K, 1, none⟩ = some (.int .i64 body.n) ∧ y.w.cell? ⟨K, 2, none⟩ = some (.slice qb.a body.ty.length qb.c) ∧ y.w.cell? ⟨K, 3, none⟩ = some (.slice qb.b body.kids.length qb.d)) := fun y => ⟨blk_cell (y.blk bK4) 0, blk_cell (y.blk bK4) 1, blk_cell (y.blk bK4) 2, blk_cell (y.blk bK4) 3⟩
  have ll : ∀ y : Ext V4, (y.w.cell? ⟨L, 0, none⟩ = some (.int .i64 b.op) ∧ y.w.cell? ⟨L, 1, none⟩ = some (.int .i64 b.n) ∧ y.w.cell? ⟨L, 2, none⟩ = some (.slice (kr 1).a b.ty.length (kr 1).c) ∧ y.w.cell? ⟨L, 3, none⟩ = some (.slice (kr 1).b b.kids.length (kr 1).d)) := fun y => ⟨blk_cell (y.blk bL4) 0, blk_cell (y.blk bL4) 1, blk_cell (y.blk bL4) 2, blk_cell (y.blk bL4) 3⟩
  have k0 := fun y => (kk y).1
  have k1 := fun y => (kk y).2.1
  have k2 := fun y => (kk y).2.2.1
  have k3 := fun y => (kk y).2.2.2
  have l0 := fun y => (ll y).1
  have l1 := fun y => (ll y).2.1
  have l2 := fun y => (ll y).2.2.1
  have l3 := fun y => (ll y).2.2.2
  clear kk ll
  have ho := HO.out
  have hm0 := HM1.out.1
  have hm1 := HM1.out.2
  have BW : Hid (IntKind.i64.wrap ((b.sz : Int) - 1) = (b.sz : Int) - 1 ∧ IntKind.i64.wrap ((body.uses 0 : Int) * ((b.sz : Int) - 1)) = m ∧ IntKind.i64.wrap ((body.sz : Int) + m) = (rz.sz : Int)) := ⟨IntWalk.i64_in _ (by omega), by rw [← HM.out]; exact IntWalk.i64_in _ (by omega), by rw [HPS.out]; exact IntWalk.i64_in _ (by omega)⟩
  rcases ho with ⟨hle, rfl, rfl⟩ | ⟨hgt, rfl, rfl⟩
  · have fs : decide ((400 : Int) < (o.sz : Int)) = false := by rw [decide_eq_false_iff_not]; omega
    have hw1 : IntKind.i64.wrap ((b.sz : Int) - 1) = (b.sz : Int) - 1 := BW.out.1
    have hw2 : IntKind.i64.wrap ((body.uses 0 : Int) * ((b.sz : Int) - 1)) = m := BW.out.2.1
    have hw3 : IntKind.i64.wrap ((body.sz : Int) + m) = (o.sz : Int) := BW.out.2.2
    clear okA okB' hus hua sB sA' hm0 hm1 hle
    obtain ⟨yy, hyy⟩ : ∃ y : Ext V4, y.w = V4 := ⟨Ext.self V4, rfl⟩
    rw [← hyy]
    clear hyy
    refine region_ext yy (by kernel_rfl) (by kernel_rfl) ?_
    repeat (go_big_quiet_step ((first | (go_at_call 103; with_reducible exact SB _) | (go_at_call 103; with_reducible exact SA _) | (go_at_call 104; with_reducible exact UC _))))
    refine wpQuiet_nil ?_
    rintro _ ⟨yy, rfl⟩
    clear SB SA UC hw1 hw2 hw3 fs k0 k1 k2 k3 l0 l1 l2 l3
    obtain ⟨okA, okB', hus, hua, sB, sA'⟩ := HIN.out
    have bK5 := yy.blk bK4
    have bL5 := yy.blk bL4
    have bR5 := yy.blk bR4
    have PC := l2Put_ans body (hbV4.ext yy) okB' (by omega) (by omega) (hargV.ext yy) okA (by omega) (by omega) 0 (by omega) (by omega) 0 (by omega) (by omega) (Ext.self yy.w)
    rw [← HRZ.out] at PC
    unfold TV.val at PC
    clear okA okB' hus hua sB sA'
    have k0 := blk_cell bK5 0
    have k1 := blk_cell bK5 1
    have k2 := blk_cell bK5 2
    have k3 := blk_cell bK5 3
    simp at k0 k1 k2 k3
    have l0 := blk_cell bL5 0
    have l1 := blk_cell bL5 1
    have l2 := blk_cell bL5 2
    have l3 := blk_cell bL5 3
    simp at l0 l1 l2 l3
    go_wp2_with fail
    refine Calls.mono PC ?_
    clear PC k0 k1 k2 k3 l0 l1 l2 l3
    rintro e w' ⟨r4, K4, y4, rfl, rfl, own4, lo4⟩
    have bR6 := y4.blk bR5
    have bel6 : Below W.heap.size W y4.w := below_ext (below_ext bel4 yy) y4
    have hs6 : V4.heap.size ≤ yy.w.heap.size := yy.size
    unfold TV.val
    have n0 := blk_cell bR6 0
    have n1 := blk_cell bR6 1
    have n2 := blk_cell bR6 2
    have n3 := blk_cell bR6 3
    have p0 := blk_free bR6 0
    have p1 := blk_free bR6 1
    have p2 := blk_free bR6 2
    have p3 := blk_free bR6 3
    simp at n0 n1 n2 n3
    go_wp2_with fail
    clear n0 n1 n2 n3 p0 p1 p2 p3
    generalize hY : World.setCell _ _ _ = Y
    obtain ⟨⟨NB9, y9, rfl, own9, lo9⟩, r0, r1, r2, r3⟩ := dft_end (W := W) bR6 own4 (fun g h => by have := lo4 g h; exact ⟨by omega, by omega⟩) bel6 (by omega) hY
    refine bodyPost_ret (v := .tuple #[TV.val r4 o, .bool true]) (by simp [TV.val, results, Tryd.results89, go_sem, r0, r1, r2, r3]) rfl ?_
    exact ⟨_, NB9, y9, rfl, rfl, own9, lo9⟩
  · have fs : decide ((400 : Int) < (rz.sz : Int)) = true := by rw [decide_eq_true_eq]; omega
    have hw1 : IntKind.i64.wrap ((b.sz : Int) - 1) = (b.sz : Int) - 1 := BW.out.1
    have hw2 : IntKind.i64.wrap ((body.uses 0 : Int) * ((b.sz : Int) - 1)) = m := BW.out.2.1
    have hw3 : IntKind.i64.wrap ((body.sz : Int) + m) = (rz.sz : Int) := BW.out.2.2
    clear okA okB' hus hua sB sA' hm0 hm1 hgt
    obtain ⟨yy, hyy⟩ : ∃ y : Ext V4, y.w = V4 := ⟨Ext.self V4, rfl⟩
    rw [← hyy]
    clear hyy
    refine region_ext yy (by kernel_rfl) (by kernel_rfl) ?_
    repeat (go_big_quiet_step ((first | (go_at_call 103; with_reducible exact SB _) | (go_at_call 103; with_reducible exact SA _) | (go_at_call 104; with_reducible exact UC _))))
    refine wpQuiet_nil ?_
    rintro _ ⟨yy, rfl⟩
    clear SB SA UC hw1 hw2 hw3 fs k0 k1 k2 k3 l0 l1 l2 l3
    have bR5 := yy.blk bR4
    have hs6 : V4.heap.size ≤ yy.w.heap.size := yy.size
    have n0 := blk_cell bR5 0
    have n1 := blk_cell bR5 1
    have n2 := blk_cell bR5 2
    have n3 := blk_cell bR5 3
    have p0 := blk_free bR5 0
    have p1 := blk_free bR5 1
    have p2 := blk_free bR5 2
    have p3 := blk_free bR5 3
    simp at n0 n1 n2 n3
    go_wp2_with fail
    clear n0 n1 n2 n3 p0 p1 p2 p3
    generalize hY4 : World.setCell _ _ _ = Y4
    obtain ⟨belD, hsame, hgr, r0, r1, r2, r3⟩ := ret4 (W := W) (below_ext bel4 yy) (by omega) bR5 hY4
    refine bodyPost_ret (v := .tuple #[TV.val ⟨none, 0, none, 0⟩ zeroT, .bool false]) (by simp [TV.val, Tm.op, Tm.n, Tm.ty, Tm.kids, results, Tryd.results89, go_sem, r0, r1, r2, r3]) rfl ?_
    exact ⟨_, _, ⟨Y4, belD⟩, rfl, rfl, zero_own _, fun q hq => hq.elim⟩

end Go.Proofs.YtncfbljablbglaaDoor
/- A contraction by the model: left. -/
namespace Go.Proofs.YtncfbljablbglaaDoor
open Go.RowKit

set_option maxRecDepth 100000 in
set_option maxHeartbeats 16000000 in
theorem l4Con_left {W : World} {lo : Nat} {t : Tm} {r : TV} (h : TmIn W lo t r) {v : Int} (ok : OkT 16 false v t) (hv0 : 0 ≤ v) (hsz : t.sz ≤ 400) (hv : v + 2 * (t.sz : Int) ≤ 2000) {a body c u : Tm} (h' : t.op = 8) (hk : t.kids = [a, body, c]) (ha : a.op = 6) (hu : a.kids = [u]) (o : Tm) (b' : Bool) (ho : (((body).rv (subf 0 [u]) 0).sz ≤ 400 ∧ o = (body).rv (subf 0 [u]) 0 ∧ b' = true) ∨ (400 < ((body).rv (subf 0 [u]) 0).sz ∧ o = zeroT ∧ b' = false)) (x : Ext W) :
    Calls Tryd.prog 89 #[r.val t] x.w (NewTmB W o b') := by
  obtain ⟨ra, rc, rb, rd⟩ := r
  unfold TV.val
  obtain ⟨xx, hxx⟩ : ∃ y : Ext W, x = y := ⟨x, rfl⟩
  rw [hxx]
  clear hxx x
  have HK := Lib.hid hk
  have HU := Lib.hid hu
  have hl : t.kids.length = 3 := by rw [hk]; rfl
  have f2 : (t.op == 2) = false := by rw [h']; rfl
  have f3 : (t.op == 3) = false := by rw [h']; rfl
  have f5 : (t.op == 5) = false := by rw [h']; rfl
  have f10 : (t.op == 10) = false := by rw [h']; rfl
  have hi0 : (0 : Int) < (t.kids.length : Int) := by omega
  have hi1 : (1 : Int) < (t.kids.length : Int) := by omega
  have hi2 : (2 : Int) < (t.kids.length : Int) := by omega
  clear hl
  have HOP := Lib.hid h'
  have HA := Lib.hid ha
  have HCOF : Hid (Cof t body [u]) := Cof.left t a body c u h' hk ha hu
  obtain ⟨okB, okU, -⟩ := HCOF.out.ok ok hv0
  obtain ⟨sB, sU⟩ := HCOF.out.szs
  have okA : OkT 16 false v u := okU u (by simp)
  have sA' : u.sz ≤ t.sz := sU u (by simp)
  have okB' : OkT 16 false (v + 1) body := okB
  have hps := Tm.put_sz (i := 0) (Int.le_refl _) okA body okB' (Int.le_refl _)
  rw [subf_one] at ho
  rw [show (0 : Int) + 0 = 0 from rfl] at hps
  obtain ⟨rz, hrz⟩ : ∃ z, z = body.rv (putf 0 u) 0 := ⟨_, rfl⟩
  rw [← hrz] at ho hps
  have hus := body.uses_le 0
  have hua := u.sz_pos
  obtain ⟨m, hm⟩ : ∃ m : Int, m = (body.uses 0 : Int) * ((u.sz : Int) - 1) := ⟨_, rfl⟩
  have hm0 : 0 ≤ m := by rw [hm]; exact Int.mul_nonneg (by omega) (by omega)
  have hm1 : m ≤ 400 * 400 := by rw [hm]; exact Int.mul_le_mul (by omega) (by omega) (by omega) (by omega)
  rw [← hm] at hps
  have HM := Lib.hid hm
  have HPS := Lib.hid hps
  have HRZ := Lib.hid hrz
  have HO := Lib.hid ho
  have HM1 : Hid (0 ≤ m ∧ m ≤ 400 * 400) := ⟨hm0, hm1⟩
  clear hm okB okU sU hps hrz ho hm0 hm1
  clear hk h' ha hu
  have HIN : Hid (OkT 16 false v u ∧ OkT 16 false (v + 1) body ∧ body.uses 0 ≤ body.sz ∧ 1 ≤ u.sz ∧ body.sz ≤ t.sz ∧ u.sz ≤ t.sz) := ⟨okA, okB', hus, hua, sB, sA'⟩
  clear okA okB' hus hua sB sA'
  go_enter Tryd.func89, Tryd.ntmps89
  go_upto_region 1 with fail
  have hxW := xx.size
  generalize hWa : (xx.w.alloc _).alloc _ = Wa
  generalize hB : xx.w.heap.size = B at *
  obtain ⟨bT, bR, sA, bel⟩ := blocks2 hB hWa
  have belA : Below W.heap.size W Wa := xx.below.trans (bel.mono (by omega))
  clear hWa bel
  obtain ⟨kr, A⟩ := h.out
  obtain ⟨kb, ko, hrb, K0A⟩ := A.kid 0 a (by rw [HK.out]; rfl)
  have hrb' : rb = some ⟨kb, ko, none⟩ := hrb
  subst hrb'
  clear hrb
  have t0 := blk_cell bT 0
  have t1 := blk_cell bT 1
  have t2 := blk_cell bT 2
  have t3 := blk_cell bT 3
  simp at t0 t1 t2 t3
  have q0 : Wa.cell? ⟨kb, ko, none⟩ = some (.int .i64 a.op) := by have := (Ext.mk Wa belA).cell K0A.c0; simpa using this
  have q1 : Wa.cell? ⟨kb, ko + 1, none⟩ = some (.int .i64 a.n) := by have := (Ext.mk Wa belA).cell K0A.c1; simpa using this
  have q2 : Wa.cell? ⟨kb, ko + 2, none⟩ = some (.slice (kr 0).a a.ty.length (kr 0).c) := by have := (Ext.mk Wa belA).cell K0A.c2; simpa using this
  have q3 : Wa.cell? ⟨kb, ko + 3, none⟩ = some (.slice (kr 0).b a.kids.length (kr 0).d) := by have := (Ext.mk Wa belA).cell K0A.c3; simpa using this
  go_upto_region 2 with fail
  clear t0 t1 t2 t3 q0 q1 q2 q3
  generalize hW1 : World.alloc _ _ = W1
  have bA := new_blk hW1
  have bT1 := blk_of_alloc bT hW1
  have bR1 := blk_of_alloc bR hW1
  have bel1 : Below W.heap.size W W1 := by rw [← hW1]; exact belA.alloc belA.size _
  have s1 : W1.heap.size = B + 3 := by rw [← hW1]; simp; omega
  rw [sA] at bA
  clear hW1 bT bR belA sA
  have t0 := blk_cell bT1 0
  have t1 := blk_cell bT1 1
  have t2 := blk_cell bT1 2
  have t3 := blk_cell bT1 3
  simp at t0 t1 t2 t3
  have q0 := blk_cell bA 0
  have q1 := blk_cell bA 1
  have q2 := blk_cell bA 2
  have q3 := blk_cell bA 3
  simp at q0 q1 q2 q3
  have BC0 := l4Body_ans (h.ext ⟨W1, bel1⟩) HCOF.out (by rw [HOP.out]; decide) (by rw [HOP.out]; decide) (Ext.self W1)
  unfold TV.val at BC0
  have BC := Lib.hid BC0
  clear BC0
  go_wp2_with fail
  refine Calls.mono BC.out ?_
  clear BC
  rintro e w' ⟨qb, y2, rfl, rfl, hbd⟩
  go_upto_region 10 with fail
  clear t0 t1 t2 t3 q0 q1 q2 q3
  generalize hV : World.alloc _ _ = V
  have bK := new_blk hV
  obtain ⟨yV, hyV⟩ : ∃ y : Ext W1, y.w = V := ⟨y2.alloc _, hV⟩
  have bV1 : Below W1.heap.size W1 V := by rw [← hyV]; exact yV.below
  have belV : Below W.heap.size W V := by rw [← hyV]; exact below_ext bel1 yV
  have bT2 : V.heap[B]? = some (boxT t.op t.n ra t.ty.length rc (some ⟨kb, ko, none⟩) t.kids.length rd) := by rw [← hyV]; exact yV.blk bT1
  have bR2 : V.heap[B + 1]? = some zbox := by rw [← hyV]; exact yV.blk bR1
  have bA2 : V.heap[B + 2]? = some (boxT a.op a.n (kr 0).a a.ty.length (kr 0).c (kr 0).b a.kids.length (kr 0).d) := by rw [← hyV]; exact yV.blk bA
  have hs2 : W1.heap.size ≤ V.heap.size := bV1.size
  have hs3 : W1.heap.size ≤ y2.w.heap.size := y2.size
  have hKV : y2.w.heap.size < V.heap.size := (Array.getElem?_eq_some_iff.1 bK).1
  generalize y2.w.heap.size = K at *
  clear hV hyV yV bT1 bR1 bA y2
  have t0 := blk_cell bT2 0
  have t1 := blk_cell bT2 1
  have t2 := blk_cell bT2 2
  have t3 := blk_cell bT2 3
  simp at t0 t1 t2 t3
  have q0 := blk_cell bA2 0
  have q1 := blk_cell bA2 1
  have q2 := blk_cell bA2 2
  have q3 := blk_cell bA2 3
  simp at q0 q1 q2 q3
  go_upto_region 16 with fail
  clear q0 q1 q2 q3
  generalize hV3 : World.alloc _ _ = V3
  have bL := new_blk hV3
  have bT3 := blk_of_alloc bT2 hV3
  have bR3 := blk_of_alloc bR2 hV3
  have bK3 := blk_of_alloc bK hV3
  have bA3 := blk_of_alloc bA2 hV3
  have bel3 : Below W.heap.size W V3 := by rw [← hV3]; exact belV.alloc belV.size _
  have bV3 : Below W1.heap.size W1 V3 := by rw [← hV3]; exact bV1.alloc bV1.size _
  obtain ⟨L, hL⟩ : ∃ L, L = V.heap.size := ⟨_, rfl⟩
  have hLa : L ≤ V.heap.size := by omega
  have hLb : V.heap.size ≤ L := by omega
  have s3 : V3.heap.size = V.heap.size + 1 := by rw [← hV3]; simp
  rw [← hL] at bL ⊢
  clear hV3 hL t0 t1 t2 t3 bT2 bR2 bK bA2
  have hua0 : (0 : Int) < (a.kids.length : Int) := by rw [HU.out]; simp
  obtain ⟨kq, A2⟩ := (A.sub 0 a (by rw [HK.out]; rfl)).out
  obtain ⟨lb, lo2, hrb2, K0A2⟩ := A2.kid 0 u (by rw [HU.out]; rfl)
  have t0 := blk_cell bT3 0
  have t1 := blk_cell bT3 1
  have t2 := blk_cell bT3 2
  have t3 := blk_cell bT3 3
  simp at t0 t1 t2 t3
  have q0 := blk_cell bA3 0
  have q1 := blk_cell bA3 1
  have q2 := blk_cell bA3 2
  have q3 := blk_cell bA3 3
  simp at q0 q1 q2 q3
  rw [hrb2] at q3
  have v0 : V3.cell? ⟨lb, lo2, none⟩ = some (.int .i64 u.op) := by have := (Ext.mk V3 bel3).cell K0A2.c0; simpa using this
  have v1 : V3.cell? ⟨lb, lo2 + 1, none⟩ = some (.int .i64 u.n) := by have := (Ext.mk V3 bel3).cell K0A2.c1; simpa using this
  have v2 : V3.cell? ⟨lb, lo2 + 2, none⟩ = some (.slice (kq 0).a u.ty.length (kq 0).c) := by have := (Ext.mk V3 bel3).cell K0A2.c2; simpa using this
  have v3 : V3.cell? ⟨lb, lo2 + 3, none⟩ = some (.slice (kq 0).b u.kids.length (kq 0).d) := by have := (Ext.mk V3 bel3).cell K0A2.c3; simpa using this
  have n0 := blk_cell bL 0
  have n1 := blk_cell bL 1
  have n2 := blk_cell bL 2
  have n3 := blk_cell bL 3
  have p0 := blk_free bL 0
  have p1 := blk_free bL 1
  have p2 := blk_free bL 2
  have p3 := blk_free bL 3
  simp at n0 n1 n2 n3
  go_upto_region 19 with fail
  clear t0 t1 t2 t3 q0 q1 q2 q3 v0 v1 v2 v3
  clear n0 n1 n2 n3 p0 p1 p2 p3
  generalize hV4 : World.setCell _ _ _ = V4
  obtain ⟨bL4, same4, s4, b4⟩ := set4_blk bL hV4
  have bel4 : Below W.heap.size W V4 := b4 bel3 (by omega)
  have bV4 : Below W1.heap.size W1 V4 := b4 bV3 (by omega)
  have bR4 : V4.heap[B + 1]? = some zbox := (same4 _ (by omega)).trans bR3
  have bK4 := (same4 K (by omega)).trans bK3
  have hbV4 : TmIn V4 0 body qb := hbd.ext ⟨V4, bV4⟩
  have hargV : TmIn V4 0 u (kq 0) := ((A2.sub 0 u (by rw [HU.out]; rfl)).lower (Nat.zero_le _)).ext ⟨V4, bel4⟩
  clear hV4 b4 same4 bL bT3 bR3 bK3 bA3
  obtain ⟨okA, okB', hus, hua, sB, sA'⟩ := HIN.out
  have SB : ∀ y : Ext V4, Calls Tryd.prog 103 #[qb.val body] y.w (Ans V4 (.int .i64 (body.sz : Int))) := fun y => l4Size_ans hbV4 (by omega) y
  have SA : ∀ y : Ext V4, Calls Tryd.prog 103 #[(kq 0).val u] y.w (Ans V4 (.int .i64 (u.sz : Int))) := fun y => l4Size_ans hargV (by omega) y
  have UC : ∀ y : Ext V4, Calls Tryd.prog 104 #[qb.val body, .int .i64 0] y.w (Ans V4 (.int .i64 (body.uses 0 : Int))) := fun y => l2Uses_ans body hbV4 okB' (by omega) 0 (by omega) (by omega) y
  unfold TV.val at SB SA UC
  have kk : ∀ y : Ext V4, (y.w.cell? ⟨K, 0, none⟩ = some (.int .i64 body.op) ∧ y.w.cell? ⟨K, 1, none⟩ = some (.int .i64 body.n) ∧ y.w.cell? ⟨K, 2, none⟩ = some (.slice qb.a body.ty.length qb.c) ∧ y.w.cell? ⟨K, 3, none⟩ = some (.slice qb.b body.kids.length qb.d)) := fun y => ⟨blk_cell (y.blk bK4) 0, blk_cell (y.blk bK4) 1, blk_cell (y.blk bK4) 2, blk_cell (y.blk bK4) 3⟩
  have ll : ∀ y : Ext V4, (y.w.cell? ⟨L, 0, none⟩ = some (.int .i64 u.op) ∧ y.w.cell? ⟨L, 1, none⟩ = some (.int .i64 u.n) ∧ y.w.cell? ⟨L, 2, none⟩ = some (.slice (kq 0).a u.ty.length (kq 0).c) ∧ y.w.cell? ⟨L, 3, none⟩ = some (.slice (kq 0).b u.kids.length (kq 0).d)) := fun y => ⟨blk_cell (y.blk bL4) 0, blk_cell (y.blk bL4) 1, blk_cell (y.blk bL4) 2, blk_cell (y.blk bL4) 3⟩
  have k0 := fun y => (kk y).1
  have k1 := fun y => (kk y).2.1
  have k2 := fun y => (kk y).2.2.1
  have k3 := fun y => (kk y).2.2.2
  have l0 := fun y => (ll y).1
  have l1 := fun y => (ll y).2.1
  have l2 := fun y => (ll y).2.2.1
  have l3 := fun y => (ll y).2.2.2
  clear kk ll
  have ho := HO.out
  have hm0 := HM1.out.1
  have hm1 := HM1.out.2
  have BW : Hid (IntKind.i64.wrap ((u.sz : Int) - 1) = (u.sz : Int) - 1 ∧ IntKind.i64.wrap ((body.uses 0 : Int) * ((u.sz : Int) - 1)) = m ∧ IntKind.i64.wrap ((body.sz : Int) + m) = (rz.sz : Int)) := ⟨IntWalk.i64_in _ (by omega), by rw [← HM.out]; exact IntWalk.i64_in _ (by omega), by rw [HPS.out]; exact IntWalk.i64_in _ (by omega)⟩
  rcases ho with ⟨hle, rfl, rfl⟩ | ⟨hgt, rfl, rfl⟩
  · have fs : decide ((400 : Int) < (o.sz : Int)) = false := by rw [decide_eq_false_iff_not]; omega
    have hw1 : IntKind.i64.wrap ((u.sz : Int) - 1) = (u.sz : Int) - 1 := BW.out.1
    have hw2 : IntKind.i64.wrap ((body.uses 0 : Int) * ((u.sz : Int) - 1)) = m := BW.out.2.1
    have hw3 : IntKind.i64.wrap ((body.sz : Int) + m) = (o.sz : Int) := BW.out.2.2
    clear okA okB' hus hua sB sA' hm0 hm1 hle
    obtain ⟨yy, hyy⟩ : ∃ y : Ext V4, y.w = V4 := ⟨Ext.self V4, rfl⟩
    rw [← hyy]
    clear hyy
    refine region_ext yy (by kernel_rfl) (by kernel_rfl) ?_
    repeat (go_big_quiet_step ((first | (go_at_call 103; with_reducible exact SB _) | (go_at_call 103; with_reducible exact SA _) | (go_at_call 104; with_reducible exact UC _))))
    refine wpQuiet_nil ?_
    rintro _ ⟨yy, rfl⟩
    clear SB SA UC hw1 hw2 hw3 fs k0 k1 k2 k3 l0 l1 l2 l3
    obtain ⟨okA, okB', hus, hua, sB, sA'⟩ := HIN.out
    have bK5 := yy.blk bK4
    have bL5 := yy.blk bL4
    have bR5 := yy.blk bR4
    have PC := l2Put_ans body (hbV4.ext yy) okB' (by omega) (by omega) (hargV.ext yy) okA (by omega) (by omega) 0 (by omega) (by omega) 0 (by omega) (by omega) (Ext.self yy.w)
    rw [← HRZ.out] at PC
    unfold TV.val at PC
    clear okA okB' hus hua sB sA'
    have k0 := blk_cell bK5 0
    have k1 := blk_cell bK5 1
    have k2 := blk_cell bK5 2
    have k3 := blk_cell bK5 3
    simp at k0 k1 k2 k3
    have l0 := blk_cell bL5 0
    have l1 := blk_cell bL5 1
    have l2 := blk_cell bL5 2
    have l3 := blk_cell bL5 3
    simp at l0 l1 l2 l3
    go_wp2_with fail
    refine Calls.mono PC ?_
    clear PC k0 k1 k2 k3 l0 l1 l2 l3
    rintro e w' ⟨r4, K4, y4, rfl, rfl, own4, lo4⟩
    have bR6 := y4.blk bR5
    have bel6 : Below W.heap.size W y4.w := below_ext (below_ext bel4 yy) y4
    have hs6 : V4.heap.size ≤ yy.w.heap.size := yy.size
    unfold TV.val
    have n0 := blk_cell bR6 0
    have n1 := blk_cell bR6 1
    have n2 := blk_cell bR6 2
    have n3 := blk_cell bR6 3
    have p0 := blk_free bR6 0
    have p1 := blk_free bR6 1
    have p2 := blk_free bR6 2
    have p3 := blk_free bR6 3
    simp at n0 n1 n2 n3
    go_wp2_with fail
    clear n0 n1 n2 n3 p0 p1 p2 p3
    generalize hY : World.setCell _ _ _ = Y
    obtain ⟨⟨NB9, y9, rfl, own9, lo9⟩, r0, r1, r2, r3⟩ := dft_end (W := W) bR6 own4 (fun g h => by have := lo4 g h; exact ⟨by omega, by omega⟩) bel6 (by omega) hY
    refine bodyPost_ret (v := .tuple #[TV.val r4 o, .bool true]) (by simp [TV.val, results, Tryd.results89, go_sem, r0, r1, r2, r3]) rfl ?_
    exact ⟨_, NB9, y9, rfl, rfl, own9, lo9⟩
  · have fs : decide ((400 : Int) < (rz.sz : Int)) = true := by rw [decide_eq_true_eq]; omega
    have hw1 : IntKind.i64.wrap ((u.sz : Int) - 1) = (u.sz : Int) - 1 := BW.out.1
    have hw2 : IntKind.i64.wrap ((body.uses 0 : Int) * ((u.sz : Int) - 1)) = m := BW.out.2.1
    have hw3 : IntKind.i64.wrap ((body.sz : Int) + m) = (rz.sz : Int) := BW.out.2.2
    clear okA okB' hus hua sB sA' hm0 hm1 hgt
    obtain ⟨yy, hyy⟩ : ∃ y : Ext V4, y.w = V4 := ⟨Ext.self V4, rfl⟩
    rw [← hyy]
    clear hyy
    refine region_ext yy (by kernel_rfl) (by kernel_rfl) ?_
    repeat (go_big_quiet_step ((first | (go_at_call 103; with_reducible exact SB _) | (go_at_call 103; with_reducible exact SA _) | (go_at_call 104; with_reducible exact UC _))))
    refine wpQuiet_nil ?_
    rintro _ ⟨yy, rfl⟩
    clear SB SA UC hw1 hw2 hw3 fs k0 k1 k2 k3 l0 l1 l2 l3
    have bR5 := yy.blk bR4
    have hs6 : V4.heap.size ≤ yy.w.heap.size := yy.size
    have n0 := blk_cell bR5 0
    have n1 := blk_cell bR5 1
    have n2 := blk_cell bR5 2
    have n3 := blk_cell bR5 3
    have p0 := blk_free bR5 0
    have p1 := blk_free bR5 1
    have p2 := blk_free bR5 2
    have p3 := blk_free bR5 3
    simp at n0 n1 n2 n3
    go_wp2_with fail
    clear n0 n1 n2 n3 p0 p1 p2 p3
    generalize hY4 : World.setCell _ _ _ = Y4
    obtain ⟨belD, hsame, hgr, r0, r1, r2, r3⟩ := ret4 (W := W) (below_ext bel4 yy) (by omega) bR5 hY4
    refine bodyPost_ret (v := .tuple #[TV.val ⟨none, 0, none, 0⟩ zeroT, .bool false]) (by simp [TV.val, Tm.op, Tm.n, Tm.ty, Tm.kids, results, Tryd.results89, go_sem, r0, r1, r2, r3]) rfl ?_
    exact ⟨_, _, ⟨Y4, belD⟩, rfl, rfl, zero_own _, fun q hq => hq.elim⟩

end Go.Proofs.YtncfbljablbglaaDoor
