/- Texts of one claim, laid together: Contrsplit, ConModel. -/
import Derived.Test.YtncfbljablbglaaDoorZ3GX3
import Derived.Test.YtncfbljablbglaaDoorZ3GX0
import Derived.Test.YtncfbljablbglaaDoorZ3KPutM
import Derived.Test.YtncfbljablbglaaDoorZ3KUsesA
import Derived.Test.YtncfbljablbglaaDoorZ3GXC
import Derived.Test.YtncfbljablbglaaDoorZ3GXA
import Derived.Test.YtncfbljablbglaaDoorZ3KDefP
import Derived.Deep.RegionHeld3
import Derived.Deep.Cut
import Derived.RegionTactic
import Derived.Outline
import Derived.Test.YtncfbljablbglaaDoorZ3GX4
import Derived.Test.YtncfbljablbglaaDoorZ3GX5
import Derived.Test.YtncfbljablbglaaDoorZ3KCofA
import Derived.Test.YtncfbljablbglaaDoorZ3GXB
import Derived.Test.YtncfbljablbglaaDoorZ3GH
import Derived.Test.YtncfbljablbglaaDoorZ3GG
import Derived.Test.YtncfbljablbglaaDoorZ3KDefM
set_option linter.unusedVariables false
set_option linter.unusedSimpArgs false
/- A contraction by the model: split. -/
namespace Go.Proofs.YtncfbljablbglaaDoor
open Go.RowKit

theorem wp_ret_then {P : Program} {K : Act → World → Prop} {Q : Exit → Act → World → Prop} {a : Act} {w : World} (h : Q .ret a w) : Code.wp P Code.ret (Exit.then K Q) a w := wp_ret h

set_option maxRecDepth 100000 in
set_option maxHeartbeats 16000000 in
theorem l4Con_split {W : World} {lo : Nat} {t : Tm} {r : TV} (h : TmIn W lo t r) {v : Int} (ok : OkT 16 false v t) (hv0 : 0 ≤ v) (hsz : t.sz ≤ 400) (hv : v + 2 * (t.sz : Int) ≤ 2000) {a body u v' : Tm} (h' : t.op = 5) (hk : t.kids = [a, body]) (ha : a.op = 4) (hu : a.kids = [u, v']) (o : Tm) (b' : Bool) (ho : (((body).rv (subf 0 [v', u]) 0).sz ≤ 400 ∧ o = (body).rv (subf 0 [v', u]) 0 ∧ b' = true) ∨ (400 < ((body).rv (subf 0 [v', u]) 0).sz ∧ o = zeroT ∧ b' = false)) (x : Ext W) :
    Calls Tryd.prog 89 #[r.val t] x.w (NewTmB W o b') := by
  obtain ⟨ra, rc, rb, rd⟩ := r
  unfold TV.val
  obtain ⟨xx, hxx⟩ : ∃ y : Ext W, x = y := ⟨x, rfl⟩
  rw [hxx]
  clear hxx x
  have HK := Lib.hid hk
  have HU := Lib.hid hu
  have hl : t.kids.length = 2 := by rw [hk]; rfl
  have f2 : (t.op == 2) = false := by rw [h']; rfl
  have f3 : (t.op == 3) = false := by rw [h']; rfl
  have f5 : (t.op == 5) = true := by rw [h']; rfl
  have f10 : (t.op == 10) = false := by rw [h']; rfl
  have hi0 : (0 : Int) < (t.kids.length : Int) := by omega
  have hi1 : (1 : Int) < (t.kids.length : Int) := by omega
  clear hl
  have HOP := Lib.hid h'
  have HA := Lib.hid ha
  have HCOF : Hid (Cof t body [v', u]) := Cof.split t a body u v' h' hk ha hu
  obtain ⟨okB, okU, -⟩ := HCOF.out.ok ok hv0
  obtain ⟨sB, sU⟩ := HCOF.out.szs
  have okV : OkT 16 false v v' := okU v' (by simp)
  have okW : OkT 16 false v u := okU u (by simp)
  have sV : v'.sz ≤ t.sz := sU v' (by simp)
  have sW : u.sz ≤ t.sz := sU u (by simp)
  have okB' : OkT 16 false (v + 2) body := okB
  obtain ⟨m0', hm0'⟩ : ∃ m : Int, m = (body.uses 0 : Int) * ((v'.sz : Int) - 1) := ⟨_, rfl⟩
  obtain ⟨m1', hm1'⟩ : ∃ m : Int, m = (body.uses 1 : Int) * ((u.sz : Int) - 1) := ⟨_, rfl⟩
  have hu0 := body.uses_le 0
  have hu1 := body.uses_le 1
  have pv := v'.sz_pos
  have pu := u.sz_pos
  have b0 : 0 ≤ m0' ∧ m0' ≤ 400 * 400 := by rw [hm0']; exact ⟨Int.mul_nonneg (by omega) (by omega), Int.mul_le_mul (by omega) (by omega) (by omega) (by omega)⟩
  have b1 : 0 ≤ m1' ∧ m1' ≤ 400 * 400 := by rw [hm1']; exact ⟨Int.mul_nonneg (by omega) (by omega), Int.mul_le_mul (by omega) (by omega) (by omega) (by omega)⟩
  have hts := Tm.two_sz okV okW body okB' (Int.le_refl 0)
  rw [show (1 : Int) + 0 = 1 from rfl, ← hm0', ← hm1'] at hts
  obtain ⟨rz, hrz⟩ : ∃ z, z = body.rv (subf 0 [v', u]) 0 := ⟨_, rfl⟩
  have hsp := Tm.split_rv body v' u
  rw [← hrz] at ho hts hsp
  -- the first put
  obtain ⟨vs, hvs⟩ : ∃ z, z = v'.rv (mvf 1) 0 := ⟨_, rfl⟩
  obtain ⟨t1, ht1⟩ : ∃ z, z = body.rv (putf 0 vs) 0 := ⟨_, rfl⟩
  have okvs : OkT 16 false (v + 1) vs := by rw [hvs]; exact Tm.mvf_ok v' okV hv0 1 (by omega)
  have szvs : vs.sz = v'.sz := by rw [hvs]; exact Tm.mvf_sz v' okV 1
  have okt1 : OkT 16 false (v + 1) t1 := by
    rw [ht1]
    have := Tm.rv_ok (f := putf 0 vs) (V := v + 2) (V' := v + 1) (by omega) (fun j a h1 h2 h3 => by
      unfold putf
      split
      · exact Tm.mvf_ok vs okvs (by omega) a h3
      · split
        · exact Tm.var_ok (by omega)
        · exact Tm.var_ok (by omega)) body okB' (Int.le_refl 0) (by omega)
    rwa [Int.add_zero] at this
  rw [← hvs, ← ht1] at hsp
  have hs1 := Tm.put_sz (i := 0) (Int.le_refl _) okW t1 okt1 (Int.le_refl _)
  rw [hsp] at hs1
  have hle1 : t1.sz ≤ rz.sz := by
    have : (0 : Int) ≤ (t1.uses (0 + 0) : Int) * ((u.sz : Int) - 1) := Int.mul_nonneg (by omega) (by omega)
    omega
  have BW : Hid ((IntKind.i64.wrap ((u.sz : Int) - 1) = (u.sz : Int) - 1 ∧ IntKind.i64.wrap ((v'.sz : Int) - 1) = (v'.sz : Int) - 1) ∧ (IntKind.i64.wrap ((body.uses 1 : Int) * ((u.sz : Int) - 1)) = m1' ∧ IntKind.i64.wrap ((body.uses 0 : Int) * ((v'.sz : Int) - 1)) = m0') ∧ IntKind.i64.wrap ((body.sz : Int) + m1') = (body.sz : Int) + m1' ∧ IntKind.i64.wrap ((body.sz : Int) + m1' + m0') = (rz.sz : Int)) := ⟨⟨IntWalk.i64_in _ (by omega), IntWalk.i64_in _ (by omega)⟩, ⟨by rw [← hm1']; exact IntWalk.i64_in _ (by omega), by rw [← hm0']; exact IntWalk.i64_in _ (by omega)⟩, IntWalk.i64_in _ (by omega), by rw [show (body.sz : Int) + m1' + m0' = (rz.sz : Int) by omega]; exact IntWalk.i64_in _ (by omega)⟩
  have HO := Lib.hid ho
  have HIN : Hid (OkT 16 false v v' ∧ OkT 16 false v u ∧ OkT 16 false (v + 2) body ∧ OkT 16 false (v + 1) vs ∧ OkT 16 false (v + 1) t1 ∧ vs = v'.rv (mvf 1) 0 ∧ vs.sz = v'.sz ∧ t1 = body.rv (putf 0 vs) 0 ∧ t1.rv (putf 0 u) 0 = rz ∧ t1.sz ≤ rz.sz ∧ v'.sz ≤ t.sz ∧ u.sz ≤ t.sz ∧ body.sz ≤ t.sz) := ⟨okV, okW, okB', okvs, okt1, hvs, szvs, ht1, hsp, hle1, sV, sW, sB⟩
  clear ho okB okU sU okV okW okB' okvs okt1 hvs szvs ht1 hsp hle1 sV sW sB hs1 hts hrz hu0 hu1 pv pu b0 b1 hm0' hm1'
  clear hk h' ha hu
  go_enter Tryd.func89, Tryd.ntmps89
  go_upto_region 1 with fail
  have hxW := xx.size
  generalize hWa : (xx.w.alloc _).alloc _ = Wa
  generalize hB : xx.w.heap.size = B at *
  obtain ⟨bT, bR, sA, bel⟩ := blocks2 hB hWa
  have belA : Below W.heap.size W Wa := xx.below.trans (bel.mono (by omega))
  clear hWa bel
  obtain ⟨kr, A⟩ := h.out
  obtain ⟨kb, ko, hrb, K0A⟩ := A.kid 0 a (by rw [HK.out]; rfl)
  have hrb' : rb = some ⟨kb, ko, none⟩ := hrb
  subst hrb'
  clear hrb
  have t0 := blk_cell bT 0
  have t1 := blk_cell bT 1
  have t2 := blk_cell bT 2
  have t3 := blk_cell bT 3
  simp at t0 t1 t2 t3
  have q0 : Wa.cell? ⟨kb, ko, none⟩ = some (.int .i64 a.op) := by have := (Ext.mk Wa belA).cell K0A.c0; simpa using this
  have q1 : Wa.cell? ⟨kb, ko + 1, none⟩ = some (.int .i64 a.n) := by have := (Ext.mk Wa belA).cell K0A.c1; simpa using this
  have q2 : Wa.cell? ⟨kb, ko + 2, none⟩ = some (.slice (kr 0).a a.ty.length (kr 0).c) := by have := (Ext.mk Wa belA).cell K0A.c2; simpa using this
  have q3 : Wa.cell? ⟨kb, ko + 3, none⟩ = some (.slice (kr 0).b a.kids.length (kr 0).d) := by have := (Ext.mk Wa belA).cell K0A.c3; simpa using this
  go_upto_region 2 with fail
  clear t0 t1 t2 t3 q0 q1 q2 q3
  generalize hW1 : World.alloc _ _ = W1
  have bA := new_blk hW1
  have bT1 := blk_of_alloc bT hW1
  have bR1 := blk_of_alloc bR hW1
  have bel1 : Below W.heap.size W W1 := by rw [← hW1]; exact belA.alloc belA.size _
  have s1 : W1.heap.size = B + 3 := by rw [← hW1]; simp; omega
  rw [sA] at bA
  clear hW1 bT bR belA sA
  have t0 := blk_cell bT1 0
  have t1 := blk_cell bT1 1
  have t2 := blk_cell bT1 2
  have t3 := blk_cell bT1 3
  simp at t0 t1 t2 t3
  have q0 := blk_cell bA 0
  have q1 := blk_cell bA 1
  have q2 := blk_cell bA 2
  have q3 := blk_cell bA 3
  simp at q0 q1 q2 q3
  have BC0 := l4Body_ans (h.ext ⟨W1, bel1⟩) HCOF.out (by rw [HOP.out]; decide) (by rw [HOP.out]; decide) (Ext.self W1)
  unfold TV.val at BC0
  have BC := Lib.hid BC0
  clear BC0
  go_wp2_with fail
  refine Calls.mono BC.out ?_
  clear BC
  rintro e w' ⟨qb, y2, rfl, rfl, hbd⟩
  go_upto_region 10 with fail
  clear t0 t1 t2 t3 q0 q1 q2 q3
  generalize hV : World.alloc _ _ = V
  have bK := new_blk hV
  obtain ⟨yV, hyV⟩ : ∃ y : Ext W1, y.w = V := ⟨y2.alloc _, hV⟩
  have bV1 : Below W1.heap.size W1 V := by rw [← hyV]; exact yV.below
  have belV : Below W.heap.size W V := by rw [← hyV]; exact below_ext bel1 yV
  have bT2 : V.heap[B]? = some (boxT t.op t.n ra t.ty.length rc (some ⟨kb, ko, none⟩) t.kids.length rd) := by rw [← hyV]; exact yV.blk bT1
  have bR2 : V.heap[B + 1]? = some zbox := by rw [← hyV]; exact yV.blk bR1
  have bA2 : V.heap[B + 2]? = some (boxT a.op a.n (kr 0).a a.ty.length (kr 0).c (kr 0).b a.kids.length (kr 0).d) := by rw [← hyV]; exact yV.blk bA
  have hs2 : W1.heap.size ≤ V.heap.size := bV1.size
  have hs3 : W1.heap.size ≤ y2.w.heap.size := y2.size
  have hKV : y2.w.heap.size < V.heap.size := (Array.getElem?_eq_some_iff.1 bK).1
  generalize y2.w.heap.size = K at *
  clear hV hyV yV bT1 bR1 bA y2
  have hua0 : (0 : Int) < (a.kids.length : Int) := by rw [HU.out]; simp
  have hua1 : (1 : Int) < (a.kids.length : Int) := by rw [HU.out]; simp
  have hua2 : 0 < a.kids.length := by rw [HU.out]; simp
  have hua3 : 1 < a.kids.length := by rw [HU.out]; simp
  obtain ⟨kq, A2⟩ := (A.sub 0 a (by rw [HK.out]; rfl)).out
  obtain ⟨lb, lo2, hrb2, K0A2⟩ := A2.kid 0 u (by rw [HU.out]; rfl)
  obtain ⟨lb', lo2', hrb3, K1A2⟩ := A2.kid 1 v' (by rw [HU.out]; rfl)
  rw [hrb2] at hrb3
  cases hrb3
  have hargU : TmIn V 0 u (kq 0) := ((A2.sub 0 u (by rw [HU.out]; rfl)).lower (Nat.zero_le _)).ext ⟨V, belV⟩
  have hargW : TmIn V 0 v' (kq 1) := ((A2.sub 1 v' (by rw [HU.out]; rfl)).lower (Nat.zero_le _)).ext ⟨V, belV⟩
  have hbV : TmIn V 0 body qb := hbd.ext ⟨V, bV1⟩
  obtain ⟨okV, okW, okB', okvs, okt1, hvs, szvs, ht1, hsp, hle1, sV, sW, sB⟩ := HIN.out
  have SB : ∀ y : Ext V, Calls Tryd.prog 103 #[qb.val body] y.w (Ans V (.int .i64 (body.sz : Int))) := fun y => l4Size_ans hbV (by omega) y
  have SU' : ∀ y : Ext V, Calls Tryd.prog 103 #[(kq 0).val u] y.w (Ans V (.int .i64 (u.sz : Int))) := fun y => l4Size_ans hargU (by omega) y
  have SV' : ∀ y : Ext V, Calls Tryd.prog 103 #[(kq 1).val v'] y.w (Ans V (.int .i64 (v'.sz : Int))) := fun y => l4Size_ans hargW (by omega) y
  have U0 : ∀ y : Ext V, Calls Tryd.prog 104 #[qb.val body, .int .i64 0] y.w (Ans V (.int .i64 (body.uses 0 : Int))) := fun y => l2Uses_ans body hbV okB' (by omega) 0 (by omega) (by omega) y
  have U1 : ∀ y : Ext V, Calls Tryd.prog 104 #[qb.val body, .int .i64 1] y.w (Ans V (.int .i64 (body.uses 1 : Int))) := fun y => l2Uses_ans body hbV okB' (by omega) 1 (by omega) (by omega) y
  unfold TV.val at SB SU' SV' U0 U1
  have k0 : ∀ y : Ext V, y.w.cell? ⟨K, 0, none⟩ = some (.int .i64 body.op) := fun y => blk_cell (y.blk bK) 0
  have k1 : ∀ y : Ext V, y.w.cell? ⟨K, 1, none⟩ = some (.int .i64 body.n) := fun y => blk_cell (y.blk bK) 1
  have k2 : ∀ y : Ext V, y.w.cell? ⟨K, 2, none⟩ = some (.slice qb.a body.ty.length qb.c) := fun y => blk_cell (y.blk bK) 2
  have k3 : ∀ y : Ext V, y.w.cell? ⟨K, 3, none⟩ = some (.slice qb.b body.kids.length qb.d) := fun y => blk_cell (y.blk bK) 3
  have a3 : ∀ y : Ext V, y.w.cell? ⟨B + 2, 3, none⟩ = some (.slice (some ⟨lb, lo2, none⟩) a.kids.length (kr 0).d) := fun y => by have h9 := blk_cell (y.blk bA2) 3; simp at h9; rw [hrb2] at h9; exact h9
  have w00 : ∀ y : Ext V, y.w.cell? ⟨lb, lo2, none⟩ = some (.int .i64 u.op) := fun y => by have := (Ext.mk y.w (below_ext belV y)).cell K0A2.c0; simpa using this
  have w01 : ∀ y : Ext V, y.w.cell? ⟨lb, lo2 + 1, none⟩ = some (.int .i64 u.n) := fun y => by have := (Ext.mk y.w (below_ext belV y)).cell K0A2.c1; simpa using this
  have w02 : ∀ y : Ext V, y.w.cell? ⟨lb, lo2 + 2, none⟩ = some (.slice (kq 0).a u.ty.length (kq 0).c) := fun y => by have := (Ext.mk y.w (below_ext belV y)).cell K0A2.c2; simpa using this
  have w03 : ∀ y : Ext V, y.w.cell? ⟨lb, lo2 + 3, none⟩ = some (.slice (kq 0).b u.kids.length (kq 0).d) := fun y => by have := (Ext.mk y.w (below_ext belV y)).cell K0A2.c3; simpa using this
  have w10 : ∀ y : Ext V, y.w.cell? ⟨lb, lo2 + 4, none⟩ = some (.int .i64 v'.op) := fun y => by have := (Ext.mk y.w (below_ext belV y)).cell K1A2.c0; simpa using this
  have w11 : ∀ y : Ext V, y.w.cell? ⟨lb, lo2 + 5, none⟩ = some (.int .i64 v'.n) := fun y => by have := (Ext.mk y.w (below_ext belV y)).cell K1A2.c1; simpa using this
  have w12 : ∀ y : Ext V, y.w.cell? ⟨lb, lo2 + 6, none⟩ = some (.slice (kq 1).a v'.ty.length (kq 1).c) := fun y => by have := (Ext.mk y.w (below_ext belV y)).cell K1A2.c2; simpa using this
  have w13 : ∀ y : Ext V, y.w.cell? ⟨lb, lo2 + 7, none⟩ = some (.slice (kq 1).b v'.kids.length (kq 1).d) := fun y => by have := (Ext.mk y.w (below_ext belV y)).cell K1A2.c3; simpa using this
  have hRW : W.heap.size ≤ B + 1 := by omega
  have hRK : K ≠ B + 1 := by omega
  have hRA : B + 2 ≠ B + 1 := by omega
  have KG : Hid (∀ w', Kc W V (B + 1) w' → (w'.cell? ⟨K, 0, none⟩ = some (.int .i64 body.op) ∧ w'.cell? ⟨K, 1, none⟩ = some (.int .i64 body.n) ∧ w'.cell? ⟨K, 2, none⟩ = some (.slice qb.a body.ty.length qb.c) ∧ w'.cell? ⟨K, 3, none⟩ = some (.slice qb.b body.kids.length qb.d)) ∧ w'.cell? ⟨B + 2, 3, none⟩ = some (.slice (some ⟨lb, lo2, none⟩) a.kids.length (kr 0).d) ∧ (w'.cell? ⟨lb, lo2, none⟩ = some (.int .i64 u.op) ∧ w'.cell? ⟨lb, lo2 + 1, none⟩ = some (.int .i64 u.n) ∧ w'.cell? ⟨lb, lo2 + 2, none⟩ = some (.slice (kq 0).a u.ty.length (kq 0).c) ∧ w'.cell? ⟨lb, lo2 + 3, none⟩ = some (.slice (kq 0).b u.kids.length (kq 0).d)) ∧ (w'.cell? ⟨lb, lo2 + 4, none⟩ = some (.int .i64 v'.op) ∧ w'.cell? ⟨lb, lo2 + 5, none⟩ = some (.int .i64 v'.n) ∧ w'.cell? ⟨lb, lo2 + 6, none⟩ = some (.slice (kq 1).a v'.ty.length (kq 1).c) ∧ w'.cell? ⟨lb, lo2 + 7, none⟩ = some (.slice (kq 1).b v'.kids.length (kq 1).d))) := fun w' k => ⟨⟨k.cell (blk_cell bK 0) hRK, k.cell (blk_cell bK 1) hRK, k.cell (blk_cell bK 2) hRK, k.cell (blk_cell bK 3) hRK⟩, by have h9 := k.cell (blk_cell bA2 3) hRA; simp at h9; rw [hrb2] at h9; exact h9, ⟨by have := (Ext.mk w' k.1).cell K0A2.c0; simpa using this, by have := (Ext.mk w' k.1).cell K0A2.c1; simpa using this, by have := (Ext.mk w' k.1).cell K0A2.c2; simpa using this, by have := (Ext.mk w' k.1).cell K0A2.c3; simpa using this⟩, ⟨by have := (Ext.mk w' k.1).cell K1A2.c0; simpa using this, by have := (Ext.mk w' k.1).cell K1A2.c1; simpa using this, by have := (Ext.mk w' k.1).cell K1A2.c2; simpa using this, by have := (Ext.mk w' k.1).cell K1A2.c3; simpa using this⟩⟩
  have SHC : Hid (∀ w', Below V.heap.size V w' → Calls Tryd.prog 31 #[(kq 1).val v', .int .i64 1, .int .i64 0] w' (NewTmO w' vs)) := fun w' b => by
    have := l2Shift_ans v' (hargW.ext ⟨w', b⟩) okV (by omega) (by omega) 1 0 (by omega) (by omega) (by omega) 0 (by omega) (by omega) (Ext.self w')
    rw [shf_mvf v' okV, ← hvs, show (0 : Int) + 0 = 0 from rfl] at this
    exact this
  have P1C : Hid (rz.sz ≤ 400 → ∀ w' (rv : TV), Below V.heap.size V w' → TmIn w' 0 vs rv → Calls Tryd.prog 105 #[qb.val body, .int .i64 0, rv.val vs, .int .i64 0] w' (NewTmO w' t1)) := fun hz w' rv b hv' => by
    have := l2Put_ans body (hbV.ext ⟨w', b⟩) okB' (by omega) (by omega) hv' okvs (by omega) (by omega) 0 (by omega) (by omega) 0 (by omega) (by omega) (Ext.self w')
    rw [← ht1] at this
    exact this
  have P2C : Hid (rz.sz ≤ 400 → ∀ w' (rv : TV), Below V.heap.size V w' → TmIn w' 0 t1 rv → Calls Tryd.prog 105 #[rv.val t1, .int .i64 0, (kq 0).val u, .int .i64 0] w' (NewTmO w' rz)) := fun hz w' rv b hv' => by
    have := l2Put_ans t1 hv' okt1 (by omega) (by omega) (hargU.ext ⟨w', b⟩) okW (by omega) (by omega) 0 (by omega) (by omega) 0 (by omega) (by omega) (Ext.self w')
    rw [hsp] at this
    exact this
  unfold NewTmO TV.val at SHC P1C P2C
  clear okV okW okB' okvs okt1 hvs szvs ht1 hsp hle1 sV sW sB
  have t0 := blk_cell bT2 0
  have t1' := blk_cell bT2 1
  have t2 := blk_cell bT2 2
  have t3 := blk_cell bT2 3
  simp at t0 t1' t2 t3
  go_upto_region 11 with fail
  clear t0 t1' t2 t3
  obtain ⟨⟨hw1, hw2⟩, ⟨hw3, hw4⟩, hw5, hw6⟩ := BW.out
  obtain ⟨yy, hyy⟩ : ∃ y : Ext V, y.w = V := ⟨Ext.self V, rfl⟩
  rw [← hyy]
  clear hyy
  refine region_ext yy (by kernel_rfl) (by kernel_rfl) ?_
  repeat (go_big_quiet_step ((first | (go_at_call 103; with_reducible exact SB _) | (go_at_call 103; with_reducible exact SU' _) | (go_at_call 103; with_reducible exact SV' _) | (go_at_call 104; with_reducible exact U0 _) | (go_at_call 104; with_reducible exact U1 _))))
  refine wpQuiet_nil ?_
  rintro _ ⟨yy, rfl⟩
  clear hw1 hw2 hw3 hw4 hw5 hw6 SB SU' SV' U0 U1 k0 k1 k2 k3 a3 w00 w01 w02 w03 w10 w11 w12 w13
  have bR5 := yy.blk bR2
  have hs6 : V.heap.size ≤ yy.w.heap.size := yy.size
  have belYY : Below W.heap.size W yy.w := below_ext belV yy
  have ho := HO.out
  rcases ho with ⟨hle, hoz, rfl⟩ | ⟨hgt, rfl, rfl⟩
  · have fs : ¬ (400 : Int) < (rz.sz : Int) := by omega
    have P1 := Lib.hid (P1C.out hle)
    have P2 := Lib.hid (P2C.out hle)
    clear P1C P2C hle
    go_upto_region 14 with fail
    have belU : Kc W V (B + 1) yy.w := (Kc.self belV).ext yy
    go_region_held3 (fun w' => (w'.cell? ⟨K, 0, none⟩ = some (.int .i64 body.op) ∧ w'.cell? ⟨K, 1, none⟩ = some (.int .i64 body.n) ∧ w'.cell? ⟨K, 2, none⟩ = some (.slice qb.a body.ty.length qb.c) ∧ w'.cell? ⟨K, 3, none⟩ = some (.slice qb.b body.kids.length qb.d)) ∧ w'.cell? ⟨B + 2, 3, none⟩ = some (.slice (some ⟨lb, lo2, none⟩) a.kids.length (kr 0).d) ∧ (w'.cell? ⟨lb, lo2, none⟩ = some (.int .i64 u.op) ∧ w'.cell? ⟨lb, lo2 + 1, none⟩ = some (.int .i64 u.n) ∧ w'.cell? ⟨lb, lo2 + 2, none⟩ = some (.slice (kq 0).a u.ty.length (kq 0).c) ∧ w'.cell? ⟨lb, lo2 + 3, none⟩ = some (.slice (kq 0).b u.kids.length (kq 0).d)) ∧ (w'.cell? ⟨lb, lo2 + 4, none⟩ = some (.int .i64 v'.op) ∧ w'.cell? ⟨lb, lo2 + 5, none⟩ = some (.int .i64 v'.n) ∧ w'.cell? ⟨lb, lo2 + 6, none⟩ = some (.slice (kq 1).a v'.ty.length (kq 1).c) ∧ w'.cell? ⟨lb, lo2 + 7, none⟩ = some (.slice (kq 1).b v'.kids.length (kq 1).d))) ((refine KG.out _ ?_; (with_reducible (repeat (first | exact belU | refine Kc.drew ?_ | refine Kc.alloc ?_ _ | refine Kc.set ?_ hRW | refine Kc.ext ?_ _)))))
      (first
        | (go_at_call 31; (with_reducible refine Calls.mono (SHC.out _ (by (with_reducible (repeat (first | exact yy.below | refine below_drew ?_ | refine below_alloc ?_ _ | refine below_ext ?_ _))))) ?_); rintro e w' ⟨rs, NBs, yS, rfl, rfl, ownS, -⟩)
        | (go_at_call 105; (with_reducible refine Calls.mono (P1.out _ rs (by (with_reducible (repeat (first | exact yy.below | refine below_drew ?_ | refine below_alloc ?_ _ | refine below_ext ?_ _)))) (ownS.tm (fun _ _ => Nat.zero_le _))) ?_); rintro e w' ⟨r1, NB1, y1, rfl, rfl, own1, -⟩)
        | (go_at_call 105; (with_reducible refine Calls.mono (P2.out _ r1 (by (with_reducible (repeat (first | exact yy.below | refine below_drew ?_ | refine below_alloc ?_ _ | refine below_ext ?_ _)))) (own1.tm (fun _ _ => Nat.zero_le _))) ?_); rintro e w' ⟨r4, K4, y4, rfl, rfl, own4, lo4⟩; have bR6 := y4.blk (y1.blk (yS.blk (blk_drew bR5))); obtain ⟨n0, n1, n2, n3, p0, p1, p2, p3⟩ := zfacts bR6)
        | fail)
    all_goals (
      rename_i hHeld
      clear n0 n1 n2 n3 p0 p1 p2 p3 P1 P2 SHC KG belU fs hua0 hua1 hua2 hua3 hargU hargW hbV K0A2 K1A2 HIN HO BW
      have bel6 : Below W.heap.size W y4.w := below_ext (below_ext (below_ext (below_drew belYY) yS) y1) y4
      have hq1 : yy.w.heap.size ≤ yS.w.heap.size := yS.size
      have hq2 : yS.w.heap.size ≤ y1.w.heap.size := y1.size
      subst hoz
      generalize hY : World.setCell _ _ _ = Y
      obtain ⟨⟨NB9, y9, rfl, own9, lo9⟩, r0, r1, r2, r3⟩ := dft_end (W := W) bR6 own4 (fun g h => by have := lo4 g h; exact ⟨by omega, by omega⟩) bel6 (by omega) hY
      clear hHeld own4 lo4 bR6 bel6
      refine (‹∀ (a : Act) (w : World), Code.wp Tryd.prog Code.ret _ a w → _› : _) _ _ ?_
      refine wp_ret_then ?_
      refine bodyPost_ret (v := .tuple #[TV.val r4 o, .bool true]) (by simp [TV.val, results, Tryd.results89, go_sem, r0, r1, r2, r3]) rfl ?_
      exact ⟨_, NB9, y9, rfl, rfl, own9, lo9⟩)
  · have fs : (400 : Int) < (rz.sz : Int) := by omega
    clear P1C P2C hgt
    have n0 := blk_cell bR5 0
    have n1 := blk_cell bR5 1
    have n2 := blk_cell bR5 2
    have n3 := blk_cell bR5 3
    have p0 := blk_free bR5 0
    have p1 := blk_free bR5 1
    have p2 := blk_free bR5 2
    have p3 := blk_free bR5 3
    simp at n0 n1 n2 n3
    go_wp2_with fail
    clear n0 n1 n2 n3 p0 p1 p2 p3
    generalize hY4 : World.setCell _ _ _ = Y4
    obtain ⟨belD, hsame, hgr, r0, r1, r2, r3⟩ := ret4 (W := W) belYY (by omega) bR5 hY4
    refine bodyPost_ret (v := .tuple #[TV.val ⟨none, 0, none, 0⟩ zeroT, .bool false]) (by simp [TV.val, Tm.op, Tm.n, Tm.ty, Tm.kids, results, Tryd.results89, go_sem, r0, r1, r2, r3]) rfl ?_
    exact ⟨_, _, ⟨Y4, belD⟩, rfl, rfl, zero_own _, fun q hq => hq.elim⟩

end Go.Proofs.YtncfbljablbglaaDoor
/- Contract, by the model. -/
namespace Go.Proofs.YtncfbljablbglaaDoor
open Go.RowKit

theorem l4Contracted_ans {W : World} {lo : Nat} {t : Tm} {r : TV} (h : TmIn W lo t r) {v : Int} (ok : OkT 16 false v t) (hv0 : 0 ≤ v) (hsz : t.sz ≤ 400) (hv : v + 2 * (t.sz : Int) ≤ 2000) {body : Tm} {put : List Tm} (hc : Cof t body put) (o : Tm) (b : Bool) (ho : ((body.rv (subf 0 put) 0).sz ≤ 400 ∧ o = body.rv (subf 0 put) 0 ∧ b = true) ∨ (400 < (body.rv (subf 0 put) 0).sz ∧ o = zeroT ∧ b = false)) (x : Ext W) :
    Calls Tryd.prog 89 #[r.val t] x.w (NewTmB W o b) := by
  cases hc with
  | add a b h' hk ha hb => exact l4Con_add h ok hv0 hsz hv h' hk ha hb o _ ho x
  | if0 a b c h' hk ha hn => exact l4Con_if0 h ok hv0 hsz hv h' hk ha hn o _ ho x
  | if1 a b c h' hk ha hn => exact l4Con_if1 h ok hv0 hsz hv h' hk ha hn o _ ho x
  | app a b u h' hk ha hu => exact l4Con_app h ok hv0 hsz hv h' hk ha hu o _ ho x
  | split a b u v h' hk ha hu => exact l4Con_split h ok hv0 hsz hv h' hk ha hu o _ ho x
  | left a b c u h' hk ha hu => exact l4Con_left h ok hv0 hsz hv h' hk ha hu o _ ho x
  | right a b c u h' hk ha hu => exact l4Con_right h ok hv0 hsz hv h' hk ha hu o _ ho x
  | opn a b u h' hk ha hu => exact l4Con_opn h ok hv0 hsz hv h' hk ha hu o _ ho x
/-- The contraction at the root is written just if it is not too great. -/
theorem ConV.root {t o : Tm} {b : Bool} (h : ConV t [] o b) : (∃ body put, Written t ∧ Cof t body put ∧ (((body.rv (subf 0 put) 0).sz ≤ 400 ∧ o = body.rv (subf 0 put) 0 ∧ b = true) ∨ (400 < (body.rv (subf 0 put) 0).sz ∧ o = zeroT ∧ b = false))) ∨ (¬ (Written t ∧ Red t) ∧ o = zeroT ∧ b = false) := by
  rcases h with ⟨x, body, put, hw, hx, hc, hr⟩ | ⟨hn, h1, h2⟩
  · have hx' : t = x := Option.some.inj hx
    subst hx'
    refine .inl ⟨body, put, hw, hc, ?_⟩
    obtain ⟨k1, k2, -⟩ := hc.ok hw.2 (by omega)
    have okz := Tm.sub_ok (by omega) k1 k2
    rcases hr with ⟨_, e, w, e2⟩ | ⟨hn, h1, h2⟩
    · cases e
      exact .inl ⟨w.1, rfl, e2⟩
    · refine .inr ⟨?_, h1, h2⟩
      have h3 : ¬ Written (body.rv (subf 0 put) 0) := fun w => hn ⟨hw, _, rfl, w⟩
      have h4 : ¬ (body.rv (subf 0 put) 0).sz ≤ 400 := fun q => h3 ⟨q, okz⟩
      omega
  · exact .inr ⟨fun ⟨w, body, put, hc⟩ => hn ⟨t, body, put, w, rfl, hc⟩, h1, h2⟩
end Go.Proofs.YtncfbljablbglaaDoor
