
/- The law of MapType. -/
import Derived.Test.YtiekppegfocejaaDoorOwnI
import Derived.Test.YtiekppegfocejaaDoorMapTyC
namespace Go.Proofs.YtiekppegfocejaaDoor
open Go.RowKit

set_option maxRecDepth 100000 in
set_option maxHeartbeats 16000000 in
theorem mapType_law {W : World} (F : Forms W) {a0 a1 : Option Addr} {p0 p1 : Nat} {f l : List Int} (h0 : Row W (Value.int .i64) a0 f) (k0 : f.length ≤ 9223372036854775807) (h1 : Row W (Value.int .i64) a1 l) (k1 : l.length ≤ 9223372036854775807) :
    Calls Tryd.prog 6 #[.slice a0 f.length p0, .slice a1 l.length p1] W (LawEnd W) := by
  obtain ⟨x, hx⟩ : ∃ x : Ext W, x.w = W := ⟨Ext.self W, rfl⟩
  suffices hs : Calls Tryd.prog 6 #[.slice a0 f.length p0, .slice a1 l.length p1] x.w (LawEnd W) by rw [hx] at hs; exact hs
  clear hx
  by_cases b0 : (1048576 : Int) < (f.length : Int)
  · go_enter Tryd.func6, Tryd.ntmps6
    go_wp2
    go_ret
    exact law_end ⟨x, rfl⟩
  by_cases b1 : (1048576 : Int) < (l.length : Int)
  · go_enter Tryd.func6, Tryd.ntmps6
    go_wp2
    go_ret
    exact law_end ⟨x, rfl⟩
  have s0 : f.length ≤ 1099511627776 := by omega
  have s1 : l.length ≤ 1099511627776 := by omega
  obtain ⟨o, ho⟩ := mapTyV_ex f l
  have lo := mapTyV_len ho
  have HO := Lib.hid ho
  clear ho
  have TO0 : ∀ y : Ext W, Calls Tryd.prog 9 #[.slice a0 f.length p0] y.w (NewRow y.w 22 3 (Value.int .i64) f) := fun y => toIntS_ans (h0.ext y) s0 (Ext.self y.w)
  have TO1 : ∀ y : Ext W, Calls Tryd.prog 9 #[.slice a1 l.length p1] y.w (NewRow y.w 22 3 (Value.int .i64) l) := fun y => toIntS_ans (h1.ext y) s1 (Ext.self y.w)
  go_enter Tryd.func6, Tryd.ntmps6
  go_wp2_with fail
  refine Calls.mono (TO0 x) ?_
  rintro e w' ⟨v, y0, rfl, rfl, own⟩
  obtain ⟨c0, d0, rfl, r0, -⟩ := owned_row own
  go_wp2_with fail
  obtain ⟨x1, e1⟩ : ∃ x1 : Ext W, x1.w = y0.w := ⟨x.trans y0, rfl⟩
  rw [← e1] at r0 ⊢
  clear e1
  refine Calls.mono (TO1 x1) ?_
  rintro e w' ⟨v, y1, rfl, rfl, own⟩
  obtain ⟨c1, d1, rfl, r1, -⟩ := owned_row own
  have r0 := r0.ext y1
  go_wp2_with fail
  refine Calls.mono (specMapType_ans (W := y1.w) (cf := d0) (cl := d1) r0 s0 r1 s1 o HO.out (Ext.self y1.w)) ?_
  rintro e w' ⟨v, y2, rfl, rfl, own⟩
  obtain ⟨cw, dw, rfl, rw0, -⟩ := owned_row own
  obtain ⟨x2, e2⟩ : ∃ x2 : Ext W, x2.w = y2.w := ⟨x1.trans (y1.trans y2), rfl⟩
  rw [← e2] at rw0 ⊢
  clear e2
  -- the arguments, the call
  obtain ⟨U, hU⟩ : ∃ U : World, U = x2.w := ⟨_, rfl⟩
  rw [← hU] at rw0 ⊢
  have backU : ∀ z : Ext U, ∃ u : Ext W, z.w = u.w := fun z => by subst hU; exact ⟨x2.trans z, rfl⟩
  clear hU
  have TO0' : ∀ y : Ext U, Calls Tryd.prog 9 #[.slice a0 f.length p0] y.w (NewRow y.w 22 3 (Value.int .i64) f) := fun y => by obtain ⟨u, hu⟩ := backU y; rw [hu]; exact TO0 u
  have TO1' : ∀ y : Ext U, Calls Tryd.prog 9 #[.slice a1 l.length p1] y.w (NewRow y.w 22 3 (Value.int .i64) l) := fun y => by obtain ⟨u, hu⟩ := backU y; rw [hu]; exact TO1 u
  go_wp2_with fail
  refine Calls.mono (TO0' (Ext.self U)) ?_
  rintro e w' ⟨v, y0, rfl, rfl, own0⟩
  obtain ⟨c0, d0, rfl, -, l0⟩ := owned_row own0
  go_wp2_with fail
  refine Calls.mono (TO1' y0) ?_
  rintro e w' ⟨v, y1, rfl, rfl, own1⟩
  obtain ⟨c1, d1, rfl, -, l1⟩ := owned_row own1
  have own0 := owns_ext own0 y1
  go_wp2_with fail
  obtain ⟨z1, ez1⟩ : ∃ z1 : Ext U, z1.w = y1.w := ⟨y0.trans y1, rfl⟩
  have FF : Forms y1.w := by obtain ⟨u, hu⟩ := backU z1; rw [← ez1, hu]; exact F.ext u
  refine Calls.mono (mapTypeTop_ans (W := y1.w) (cf := d0) (cl := d1) FF (own_row own0) (by omega) (own_row own1) o HO.out (Ext.self y1.w)) ?_
  rintro e w' ⟨v, y2, rfl, rfl, owng⟩
  obtain ⟨cg, dg, rfl, -, lg⟩ := owned_row owng
  have own0 := owns_ext own0 y2
  have own1 := owns_ext own1 y2
  clear FF
  -- sizes
  have q0 := y0.size
  have q1 := y1.size
  have q2 := y2.size
  have L0 : ∀ g, ob c0 = some g → U.heap.size ≤ g ∧ g < y0.w.heap.size := fun g hg => by cases c0 <;> simp [ob] at hg; subst hg; exact l0 _ rfl
  have L1 : ∀ g, ob c1 = some g → y0.w.heap.size ≤ g ∧ g < y1.w.heap.size := fun g hg => by cases c1 <;> simp [ob] at hg; subst hg; exact l1 _ rfl
  have LG : ∀ g, ob cg = some g → y1.w.heap.size ≤ g ∧ g < y2.w.heap.size := fun g hg => by cases cg <;> simp [ob] at hg; subst hg; exact lg _ rfl
  obtain ⟨z2, ez2⟩ : ∃ z2 : Ext U, z2.w = y2.w := ⟨z1.trans (⟨y2.w, by rw [ez1]; exact y2.below⟩), rfl⟩
  rw [← ez2] at own0 own1 owng ⊢
  have q3 : y2.w.heap.size = z2.w.heap.size := by rw [ez2]
  rw [q3] at LG q2
  clear ez2 q3
  generalize y0.w.heap.size = S0 at *
  generalize y1.w.heap.size = S1 at *
  go_wp2_with fail
  refine Calls.mono (eqIntS_ans (own_row owng) (rw0.ext z2) (by omega) true (by simp) (Ext.self z2.w)) ?_
  rintro e w' ⟨rfl, z3, rfl⟩
  have own0 := owns_ext own0 z3
  have own1 := owns_ext own1 z3
  have owng := owns_ext owng z3
  have q3 := z3.size
  obtain ⟨z4, ez4⟩ : ∃ z4 : Ext U, z4.w = z3.w := ⟨z2.trans z3, rfl⟩
  rw [← ez4] at own0 own1 owng ⊢
  have q4 : z2.w.heap.size ≤ z4.w.heap.size := by rw [ez4]; exact q3
  clear ez4
  go_wp2_with fail
  -- the first argument is as it was
  refine Calls.mono (TO0' z4) ?_
  rintro e w' ⟨v, y5, rfl, rfl, ow⟩
  obtain ⟨ct, dt, rfl, rt, -⟩ := owned_row ow
  go_wp2_with fail
  refine Calls.mono (eqIntS_ans ((own_row own0).ext y5) rt (by omega) true (by simp) (Ext.self y5.w)) ?_
  rintro e w' ⟨rfl, z6, rfl⟩
  have own0 := owns_ext (owns_ext own0 y5) z6
  have own1 := owns_ext (owns_ext own1 y5) z6
  have owng := owns_ext (owns_ext owng y5) z6
  have q5 := y5.size
  have q6 := z6.size
  obtain ⟨z7, ez7⟩ : ∃ z7 : Ext U, z7.w = z6.w := ⟨z4.trans (y5.trans z6), rfl⟩
  rw [← ez7] at own0 own1 owng ⊢
  have q7 : z4.w.heap.size ≤ z7.w.heap.size := by rw [ez7]; omega
  clear ez7
  go_wp2_with fail
  -- the second argument is as it was
  refine Calls.mono (TO1' z7) ?_
  rintro e w' ⟨v, y5, rfl, rfl, ow⟩
  obtain ⟨ct, dt, rfl, rt, -⟩ := owned_row ow
  go_wp2_with fail
  refine Calls.mono (eqIntS_ans ((own_row own1).ext y5) rt (by omega) true (by simp) (Ext.self y5.w)) ?_
  rintro e w' ⟨rfl, z6, rfl⟩
  have own0 := owns_ext (owns_ext own0 y5) z6
  have own1 := owns_ext (owns_ext own1 y5) z6
  have owng := owns_ext (owns_ext owng y5) z6
  have q5 := y5.size
  have q6 := z6.size
  obtain ⟨z8, ez8⟩ : ∃ z8 : Ext U, z8.w = z6.w := ⟨z7.trans (y5.trans z6), rfl⟩
  rw [← ez8] at own0 own1 owng ⊢
  have q8 : z7.w.heap.size ≤ z8.w.heap.size := by rw [ez8]; omega
  clear ez8
  go_wp2_with fail
  -- the arguments are marked
  refine Calls.mono (markIntS_ans own0 (by omega) 1 (by omega) (by omega)) ?_
  rintro e M0 ⟨rfl, -, g0⟩
  rw [ob_eq] at g0
  have on0 : Only z8.w M0 (fun g => ob c0 = some g) := Only.grown g0 (fun g e => e)
  have own1 := own_only own1 on0 (fun g hg e => by have := L0 g e; have := L1 g hg; omega)
  have owng := own_only owng on0 (fun g hg e => by have := L0 g e; have := LG g hg; omega)
  go_wp2_with fail
  refine Calls.mono (markIntS_ans own1 (by omega) (1 + f.length) (by omega) (by omega)) ?_
  rintro e M1 ⟨rfl, -, g1⟩
  rw [ob_eq] at g1
  have on1 : Only M0 M1 (fun g => ob c1 = some g) := Only.grown g1 (fun g e => e)
  have owng := own_only owng on1 (fun g hg e => by have := L1 g e; have := LG g hg; omega)
  have bel1 : Below U.heap.size U M1 := z8.below.trans ((on0.below (fun g e => (L0 g e).1) z8.size).trans (on1.below (fun g e => by have := L1 g e; omega) (by have := z8.size; have := on0.size; omega)))
  obtain ⟨z9, ez9⟩ : ∃ z9 : Ext U, z9.w = M1 := ⟨⟨M1, bel1⟩, rfl⟩
  have q9 : z2.w.heap.size ≤ M1.heap.size := by have := on0.size; have := on1.size; omega
  rw [← ez9] at owng ⊢
  rw [← ez9] at q9
  clear ez9
  go_wp2_with fail
  refine Calls.mono (eqIntS_ans (own_row owng) (rw0.ext z9) (by omega) true (by simp) (Ext.self z9.w)) ?_
  rintro e w' ⟨rfl, z3, rfl⟩
  have owng := owns_ext owng z3
  have q3 := z3.size
  obtain ⟨z10, ez10⟩ : ∃ z10 : Ext U, z10.w = z3.w := ⟨z9.trans z3, rfl⟩
  rw [← ez10] at owng ⊢
  have q10 : z9.w.heap.size ≤ z10.w.heap.size := by rw [ez10]; exact q3
  clear ez10
  go_wp2_with fail
  -- the result is marked
  refine Calls.mono (markIntS_ans owng (by omega) 1 (by omega) (by omega)) ?_
  rintro e M2 ⟨rfl, ownm, g2⟩
  rw [ob_eq] at g2
  have on2 : Only z10.w M2 (fun g => ob cg = some g) := Only.grown g2 (fun g e => e)
  have bel2 : Below U.heap.size U M2 := z10.below.trans (on2.below (fun g e => by have := LG g e; omega) z10.size)
  have rm := own_marked ownm
  have HELD : ∀ y : Ext M2, Calls Tryd.prog 27 #[.slice cg o.length dg, .int .i64 1] y.w (Ans M2 (.int .i64 (1 + o.length))) := fun y => heldI_ans rm (by omega) (by omega) (by omega) y
  have backM : ∀ z : Ext M2, ∃ u : Ext U, z.w = u.w := fun z => ⟨⟨z.w, bel2.trans (z.below.mono bel2.size)⟩, rfl⟩
  obtain ⟨m, em⟩ : ∃ m : Ext M2, m.w = M2 := ⟨Ext.self M2, rfl⟩
  rw [← em]
  clear em
  go_wp2_with fail
  refine Calls.mono (HELD _) ?_
  rintro e w' ⟨rfl, m, rfl⟩
  go_wp2_with fail
  -- again
  obtain ⟨u, hu⟩ := backM m
  rw [hu]
  refine Calls.mono (TO0' u) ?_
  rintro e w' ⟨v, y0, rfl, rfl, own0⟩
  obtain ⟨e0, d0', rfl, r0, -⟩ := owned_row own0
  go_wp2_with fail
  refine Calls.mono (TO1' (u.trans y0)) ?_
  rintro e w' ⟨v, y1, rfl, rfl, own1⟩
  obtain ⟨e1, d1', rfl, r1, -⟩ := owned_row own1
  have r0 := r0.ext y1
  go_wp2_with fail
  obtain ⟨z1, ez1⟩ : ∃ z1 : Ext U, z1.w = y1.w := ⟨(u.trans y0).trans y1, rfl⟩
  have FF : Forms y1.w := by obtain ⟨u', hu'⟩ := backU z1; rw [← ez1, hu']; exact F.ext u'
  refine Calls.mono (mapTypeTop_ans (W := y1.w) (cf := d0') (cl := d1') FF r0 (by omega) r1 o HO.out (Ext.self y1.w)) ?_
  rintro e w' ⟨v, y2, rfl, rfl, ownh⟩
  obtain ⟨ch, dh, rfl, rh, -⟩ := owned_row ownh
  obtain ⟨m2, em2⟩ : ∃ m2 : Ext M2, m2.w = y2.w := ⟨⟨y2.w, by
    have b1 : Below M2.heap.size M2 u.w := by rw [← hu]; exact m.below
    exact b1.trans ((y0.below.trans ((y1.below.trans (y2.below.mono y1.size)).mono y0.size)).mono b1.size)⟩, rfl⟩
  rw [← em2] at rh ⊢
  clear em2 ez1
  go_wp2_with fail
  obtain ⟨u2, hu2⟩ := backM m2
  have rw2 := rw0.ext u2
  rw [← hu2] at rw2
  refine Calls.mono (eqIntS_ans rh rw2 (by omega) true (by simp) (Ext.self m2.w)) ?_
  rintro e w' ⟨rfl, z3, rfl⟩
  obtain ⟨m3, em3⟩ : ∃ m3 : Ext M2, m3.w = z3.w := ⟨m2.trans z3, rfl⟩
  rw [← em3]
  clear em3
  go_wp2_with fail
  refine Calls.mono (HELD _) ?_
  rintro e w' ⟨rfl, m4, rfl⟩
  go_wp2_with fail
  go_ret
  obtain ⟨u4, hu4⟩ := backM m4
  obtain ⟨u5, hu5⟩ := backU u4
  exact law_end ⟨u5, by rw [hu4, hu5]⟩

end Go.Proofs.YtiekppegfocejaaDoor
