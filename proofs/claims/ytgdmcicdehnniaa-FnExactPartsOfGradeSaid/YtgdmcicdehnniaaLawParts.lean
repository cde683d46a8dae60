/- The law of PartsOfGrade. -/
import Derived.Test.YtgdmcicdehnniaaLawHead
import Derived.Test.YtgdmcicdehnniaaPartsS
namespace Go.Proofs.Ytgdmcicdehnniaa
open Go.RowKit

set_option maxRecDepth 100000 in
set_option maxHeartbeats 16000000 in
theorem partsOfGrade_law {W : World} {r r' : Ref} {A B : Sys} (h : SysIn W r A) (k : SysIn W r' B) (g : Int) :
    Calls Try.prog 7 #[r.val A, r'.val B, .int .i64 g] W (LawEnd W) := by
  obtain ⟨x, hx⟩ : ∃ x : Ext W, x.w = W := ⟨Ext.self W, rfl⟩
  suffices hs : Calls Try.prog 7 #[r.val A, r'.val B, .int .i64 g] x.w (LawEnd W) by rw [hx] at hs; exact hs
  clear hx
  unfold Ref.val
  by_cases hA : (1048576 : Int) < (A.plus.length : Int) + A.times.length + A.below.length
  · skip
    go_enter Try.func7, Try.ntmps7
    go_wp2_with fail
    generalize hW : (x.w.alloc _).alloc _ = W1
    generalize hB : x.w.heap.size = B0
    obtain ⟨c0, c1, c2, c3, d0, d1, d2, d3, h1, k1, hback, yy, hy0⟩ := boxed2 h k x hB hW
    clear hW hB
    rw [← hy0]
    clear hy0
    (with_reducible refine Calls.mono (szSystem_ans h1 (1048576) (by omega) (by omega) (-1) (by rw [if_pos (by omega)]) _) ?_)
    rintro e w' ⟨rfl, yy, rfl⟩
    go_wp2_with fail
    go_ret
    exact law_end (hback yy)
  have hnA : (0 : Int) ≤ 1048576 - ((A.plus.length : Int) + A.times.length + A.below.length) := by omega
  by_cases hB : 1048576 - ((A.plus.length : Int) + A.times.length + A.below.length) < (B.plus.length : Int) + B.times.length + B.below.length
  · skip
    go_enter Try.func7, Try.ntmps7
    go_wp2_with fail
    generalize hW : (x.w.alloc _).alloc _ = W1
    generalize hB : x.w.heap.size = B0
    obtain ⟨c0, c1, c2, c3, d0, d1, d2, d3, h1, k1, hback, yy, hy0⟩ := boxed2 h k x hB hW
    clear hW hB
    rw [← hy0]
    clear hy0
    (with_reducible refine Calls.mono (szSystem_ans h1 (1048576) (by omega) (by omega) (1048576 - ((A.plus.length : Int) + A.times.length + A.below.length)) (by rw [if_neg (by omega)]) _) ?_)
    rintro e w' ⟨rfl, yy, rfl⟩
    generalize hL : 1048576 - ((A.plus.length : Int) + A.times.length + A.below.length) = lft at *
    have HL := Lib.hid hL
    have hl3 : lft ≤ 1048576 := by omega
    clear hL hA
    go_wp2_with fail
    (with_reducible refine Calls.mono (szSystem_ans k1 (lft) (by omega) (by omega) (-1) (by rw [if_pos (by omega)]) _) ?_)
    rintro e w' ⟨rfl, yy, rfl⟩
    go_wp2_with fail
    go_ret
    exact law_end (hback yy)
  have smA : Small A := ⟨by omega, by omega, by omega⟩
  have smB : Small B := ⟨by omega, by omega, by omega⟩
  obtain ⟨p, p', hp⟩ := outParts_ex A B g
  have HP := Lib.hid hp
  clear hp
  go_enter Try.func7, Try.ntmps7
  go_wp2_with fail
  generalize hW : (x.w.alloc _).alloc _ = W1
  generalize hB : x.w.heap.size = B0
  obtain ⟨c0, c1, c2, c3, d0, d1, d2, d3, h1, k1, hback, yy, hy0⟩ := boxed2 h k x hB hW
  clear hW hB
  rw [← hy0]
  clear hy0
  (with_reducible refine Calls.mono (szSystem_ans h1 (1048576) (by omega) (by omega) (1048576 - ((A.plus.length : Int) + A.times.length + A.below.length)) (by rw [if_neg (by omega)]) _) ?_)
  rintro e w' ⟨rfl, yy, rfl⟩
  generalize hL : 1048576 - ((A.plus.length : Int) + A.times.length + A.below.length) = lft at *
  have HL := Lib.hid hL
  have hl3 : lft ≤ 1048576 := by omega
  clear hL hA
  go_wp2_with fail
  (with_reducible refine Calls.mono (szSystem_ans k1 (lft) (by omega) (by omega) (lft - ((B.plus.length : Int) + B.times.length + B.below.length)) (by rw [if_neg (by omega)]) _) ?_)
  rintro e w' ⟨rfl, yy, rfl⟩
  have hnB : (0 : Int) ≤ lft - ((B.plus.length : Int) + B.times.length + B.below.length) := by omega
  generalize lft - ((B.plus.length : Int) + B.times.length + B.below.length) = lfu at *
  clear hB
  go_wp2_with fail
  go_region_held3 (fun w' => (w'.cell? ⟨B0, 0, none⟩ = some (.int .i64 A.n) ∧ w'.cell? ⟨B0, 1, none⟩ = some (.slice r.pa A.plus.length r.pc) ∧ w'.cell? ⟨B0, 2, none⟩ = some (.slice r.ta A.times.length r.tc) ∧ w'.cell? ⟨B0, 3, none⟩ = some (.slice r.ba A.below.length r.bc)) ∧ w'.cell? ⟨B0 + 1, 0, none⟩ = some (.int .i64 B.n) ∧ w'.cell? ⟨B0 + 1, 1, none⟩ = some (.slice r'.pa B.plus.length r'.pc) ∧ w'.cell? ⟨B0 + 1, 2, none⟩ = some (.slice r'.ta B.times.length r'.tc) ∧ w'.cell? ⟨B0 + 1, 3, none⟩ = some (.slice r'.ba B.below.length r'.bc))
    (first | exact ⟨⟨c0 yy.drew, c1 yy.drew, c2 yy.drew, c3 yy.drew⟩, ⟨d0 yy.drew, d1 yy.drew, d2 yy.drew, d3 yy.drew⟩⟩ | exact ⟨⟨c0 u1, c1 u1, c2 u1, c3 u1⟩, ⟨d0 u1, d1 u1, d2 u1, d3 u1⟩⟩ | exact ⟨⟨c0 (u1.trans u2), c1 (u1.trans u2), c2 (u1.trans u2), c3 (u1.trans u2)⟩, ⟨d0 (u1.trans u2), d1 (u1.trans u2), d2 (u1.trans u2), d3 (u1.trans u2)⟩⟩ | exact ⟨⟨c0 (u1.trans (u2.trans u4)), c1 (u1.trans (u2.trans u4)), c2 (u1.trans (u2.trans u4)), c3 (u1.trans (u2.trans u4))⟩, ⟨d0 (u1.trans (u2.trans u4)), d1 (u1.trans (u2.trans u4)), d2 (u1.trans (u2.trans u4)), d3 (u1.trans (u2.trans u4))⟩⟩)
    (first | (go_at_call 21; (with_reducible refine Calls.mono (toSystem_ans h1 smA yy.drew) ?_); rintro e w' ⟨ra, u1, rfl, rfl, ka⟩) | (go_at_call 21; (with_reducible refine Calls.mono (toSystem_ans (k1.ext u1) smB (Ext.self u1.w)) ?_); rintro e w' ⟨rb, u2, rfl, rfl, kb⟩) | (go_at_call 23; refine Calls.mono (specPartsOfGrade_ans (W := u2.w) (ka.ext u2) kb g p p' HP.out (Ext.self u2.w)) ?_; rintro e w' ⟨rfl, u4, rfl⟩))
  obtain ⟨yy, hz⟩ : ∃ y2 : Ext W1, y2.w = u4.w := ⟨u1.trans (u2.trans u4), rfl⟩
  rw [← hz]
  clear hz
  go_wp2_with fail
  refine Calls.mono (toSystem_ans h1 smA _) ?_
  rintro e w' ⟨r2, y3, rfl, rfl, k2⟩
  have dx0 := fun o => d0 (y3.alloc o)
  have dx1 := fun o => d1 (y3.alloc o)
  have dx2 := fun o => d2 (y3.alloc o)
  have dx3 := fun o => d3 (y3.alloc o)
  dsimp only at dx0 dx1 dx2 dx3
  go_wp2_with fail
  clear dx0 dx1 dx2 dx3
  generalize hW : y3.w.alloc _ = W3
  generalize hB3 : y3.w.heap.size = B3
  obtain ⟨e0, e1, e2, e3, k3, hb3, zz, hy0⟩ := boxed k2 (Ext.self y3.w) hB3 hW
  have c0 := lift_fact y3 hb3 c0
  have c1 := lift_fact y3 hb3 c1
  have c2 := lift_fact y3 hb3 c2
  have c3 := lift_fact y3 hb3 c3
  have d0 := lift_fact y3 hb3 d0
  have d1 := lift_fact y3 hb3 d1
  have d2 := lift_fact y3 hb3 d2
  have d3 := lift_fact y3 hb3 d3
  have h1 := lift_sys y3 hb3 ⟨zz, hy0⟩ h1
  have k1 := lift_sys y3 hb3 ⟨zz, hy0⟩ k1
  have hback := lift_back y3 hb3 hback
  clear hW hB3 hb3 k2
  rw [← hy0]
  clear hy0
  refine Calls.mono (toSystem_ans k1 smB _) ?_
  rintro e w' ⟨r4, y5, rfl, rfl, k4⟩
  have ex0 := fun o => e0 (y5.alloc o)
  have ex1 := fun o => e1 (y5.alloc o)
  have ex2 := fun o => e2 (y5.alloc o)
  have ex3 := fun o => e3 (y5.alloc o)
  dsimp only at ex0 ex1 ex2 ex3
  go_wp2_with fail
  clear ex0 ex1 ex2 ex3
  generalize hW : y5.w.alloc _ = W5
  generalize hB5 : y5.w.heap.size = B5
  obtain ⟨g0, g1, g2, g3, k5, hb5, zz, hy0⟩ := boxed k4 (Ext.self y5.w) hB5 hW
  have c0 := lift_fact y5 hb5 c0
  have c1 := lift_fact y5 hb5 c1
  have c2 := lift_fact y5 hb5 c2
  have c3 := lift_fact y5 hb5 c3
  have d0 := lift_fact y5 hb5 d0
  have d1 := lift_fact y5 hb5 d1
  have d2 := lift_fact y5 hb5 d2
  have d3 := lift_fact y5 hb5 d3
  have e0 := lift_fact y5 hb5 e0
  have e1 := lift_fact y5 hb5 e1
  have e2 := lift_fact y5 hb5 e2
  have e3 := lift_fact y5 hb5 e3
  have h1 := lift_sys y5 hb5 ⟨zz, hy0⟩ h1
  have k1 := lift_sys y5 hb5 ⟨zz, hy0⟩ k1
  have k3 := lift_sys y5 hb5 ⟨zz, hy0⟩ k3
  have hback := lift_back y5 hb5 hback
  clear hW hB5 hb5 k4
  rw [← hy0]
  clear hy0
  refine Calls.mono (partsOfGrade_ans k3 k5 g p p' HP.out zz) ?_
  rintro e w' ⟨rfl, zz, rfl⟩
  go_wp2_with fail
  go_region_held3 (fun w' => (w'.cell? ⟨B3, 0, none⟩ = some (.int .i64 A.n) ∧ w'.cell? ⟨B3, 1, none⟩ = some (.slice r2.pa A.plus.length r2.pc) ∧ w'.cell? ⟨B3, 2, none⟩ = some (.slice r2.ta A.times.length r2.tc) ∧ w'.cell? ⟨B3, 3, none⟩ = some (.slice r2.ba A.below.length r2.bc)) ∧ w'.cell? ⟨B0, 0, none⟩ = some (.int .i64 A.n) ∧ w'.cell? ⟨B0, 1, none⟩ = some (.slice r.pa A.plus.length r.pc) ∧ w'.cell? ⟨B0, 2, none⟩ = some (.slice r.ta A.times.length r.tc) ∧ w'.cell? ⟨B0, 3, none⟩ = some (.slice r.ba A.below.length r.bc))
    (first | exact ⟨⟨e0 zz.drew, e1 zz.drew, e2 zz.drew, e3 zz.drew⟩, ⟨c0 zz.drew, c1 zz.drew, c2 zz.drew, c3 zz.drew⟩⟩ | exact ⟨⟨e0 uu, e1 uu, e2 uu, e3 uu⟩, ⟨c0 uu, c1 uu, c2 uu, c3 uu⟩⟩ | exact ⟨⟨e0 (uu.trans u2), e1 (uu.trans u2), e2 (uu.trans u2), e3 (uu.trans u2)⟩, ⟨c0 (uu.trans u2), c1 (uu.trans u2), c2 (uu.trans u2), c3 (uu.trans u2)⟩⟩)
    (first | (go_at_call 21; (with_reducible refine Calls.mono (toSystem_ans h1 smA zz.drew) ?_); rintro e w' ⟨rq, uu, rfl, rfl, kq⟩) | (go_at_call 12; (with_reducible refine Calls.mono (eqSystem_ans (k3.ext uu) kq smA true (by simp) (Ext.self uu.w)) ?_); rintro e w' ⟨rfl, u2, rfl⟩))
  obtain ⟨zz, hz⟩ : ∃ y2 : Ext W5, y2.w = u2.w := ⟨uu.trans u2, rfl⟩
  rw [← hz]
  clear hz
  go_wp2_with fail
  go_region_held3 (fun w' => (w'.cell? ⟨B5, 0, none⟩ = some (.int .i64 B.n) ∧ w'.cell? ⟨B5, 1, none⟩ = some (.slice r4.pa B.plus.length r4.pc) ∧ w'.cell? ⟨B5, 2, none⟩ = some (.slice r4.ta B.times.length r4.tc) ∧ w'.cell? ⟨B5, 3, none⟩ = some (.slice r4.ba B.below.length r4.bc)) ∧ w'.cell? ⟨B0 + 1, 0, none⟩ = some (.int .i64 B.n) ∧ w'.cell? ⟨B0 + 1, 1, none⟩ = some (.slice r'.pa B.plus.length r'.pc) ∧ w'.cell? ⟨B0 + 1, 2, none⟩ = some (.slice r'.ta B.times.length r'.tc) ∧ w'.cell? ⟨B0 + 1, 3, none⟩ = some (.slice r'.ba B.below.length r'.bc))
    (first | exact ⟨⟨g0 zz.drew, g1 zz.drew, g2 zz.drew, g3 zz.drew⟩, ⟨d0 zz.drew, d1 zz.drew, d2 zz.drew, d3 zz.drew⟩⟩ | exact ⟨⟨g0 uu, g1 uu, g2 uu, g3 uu⟩, ⟨d0 uu, d1 uu, d2 uu, d3 uu⟩⟩ | exact ⟨⟨g0 (uu.trans u2), g1 (uu.trans u2), g2 (uu.trans u2), g3 (uu.trans u2)⟩, ⟨d0 (uu.trans u2), d1 (uu.trans u2), d2 (uu.trans u2), d3 (uu.trans u2)⟩⟩)
    (first | (go_at_call 21; (with_reducible refine Calls.mono (toSystem_ans k1 smB zz.drew) ?_); rintro e w' ⟨rq, uu, rfl, rfl, kq⟩) | (go_at_call 12; (with_reducible refine Calls.mono (eqSystem_ans (k5.ext uu) kq smB true (by simp) (Ext.self uu.w)) ?_); rintro e w' ⟨rfl, u2, rfl⟩))
  go_wp2_with fail
  go_ret
  exact law_end (hback (uu.trans u2))


end Go.Proofs.Ytgdmcicdehnniaa
