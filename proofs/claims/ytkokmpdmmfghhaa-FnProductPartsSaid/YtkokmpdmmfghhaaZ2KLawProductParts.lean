/- Parts of products are told back, lead by maps, and joins go part by part: for every code. -/
import Derived.Test.YtkokmpdmmfghhaaZ2HA
import Derived.Test.YtkokmpdmmfghhaaZ2KProdDec
import Derived.Test.YtkokmpdmmfghhaaZ2KLeastDec
import Derived.Test.YtkokmpdmmfghhaaZ2KProdSys
import Derived.Test.YtkokmpdmmfghhaaZ2KCountSys
import Derived.Test.YtkokmpdmmfghhaaZ2KLevelSys
import Derived.Test.YtkokmpdmmfghhaaZ2KParts
import Derived.Test.YtkokmpdmmfghhaaZ2KPair
import Derived.Test.YtkokmpdmmfghhaaZ2KApiA
import Derived.Test.YtkokmpdmmfghhaaZ2KMap
import Derived.Maps.AppendAt
import Derived.Laws.OwnMore
import Derived.Deep.AppendLies
import Derived.BigQuiet
import Derived.RegionTactic
import Derived.Outline
set_option linter.unusedVariables false
set_option linter.unusedSimpArgs false
namespace Go.Proofs.Ytkokmpdmmfghhaa
open Go.RowKit

/-- The byte of a code at a place, or what stands for it. -/
def at0V (l : List Int) (i : Nat) : Int := if h : i < l.length then l[i] else ((i : Int) * 7 + l.length) % 256
theorem at0V_in {l : List Int} (byte : ∀ u ∈ l, 0 ≤ u ∧ u ≤ 255) (i : Nat) : 0 ≤ at0V l i ∧ at0V l i ≤ 255 := by
  unfold at0V
  split
  · exact byte _ (List.getElem_mem _)
  · omega
theorem at0_is {W : World} {a : Option Addr} {c : Nat} {l : List Int} (row : Row W (Value.int .u8) a l) (byte : ∀ u ∈ l, 0 ≤ u ∧ u ≤ 255) (hl : (l.length : Int) ≤ 1048576) (i : Nat) (hi : i ≤ 8) (x : Ext W) :
    Calls Try.prog 16 #[.slice a l.length c, .int .i64 i] x.w (Ans W (.int .i64 (at0V l i))) := by
  unfold at0V
  by_cases h : i < l.length
  · rw [dif_pos h]
    have hb := byte _ (List.getElem_mem h)
    obtain ⟨b, o, rfl, hc⟩ := row.at h
    have hcell := hc i _ (List.getElem?_eq_getElem h)
    have hd : ∀ y : Ext W, y.w.cell? ⟨b, o + i, none⟩ = some (.int .u8 l[i]) := fun y => y.cell hcell
    generalize l[i] = u at *
    have hw : IntKind.i64.wrap u = u := IntWalk.i64_in _ (by omega)
    have hlt : (i : Int) < (l.length : Int) := by omega
    go_enter Try.func16, Try.ntmps16
    go_wp2
    go_ret
    exact ⟨rfl, x, rfl⟩
  · rw [dif_neg h]
    have hlt : ¬ (i : Int) < (l.length : Int) := by omega
    have hw1 : IntKind.i64.wrap ((i : Int) * 7) = (i : Int) * 7 := IntWalk.i64_in _ (by omega)
    have hw2 : IntKind.i64.wrap ((i : Int) * 7 + l.length) = (i : Int) * 7 + l.length := IntWalk.i64_in _ (by omega)
    have hm : ((i : Int) * 7 + l.length).tmod 256 = ((i : Int) * 7 + l.length) % 256 := Int.tmod_eq_emod_of_nonneg (by omega)
    have hw3 : IntKind.i64.wrap (((i : Int) * 7 + l.length).tmod 256) = ((i : Int) * 7 + l.length) % 256 := by rw [hm]; exact IntWalk.i64_in _ (by omega)
    go_enter Try.func16, Try.ntmps16
    go_wp2
    go_ret
    exact ⟨rfl, x, rfl⟩

set_option maxRecDepth 100000 in
set_option maxHeartbeats 32000000 in
theorem fnProductParts_law {W : World} {a : Option Addr} {c : Nat} {l : List Int} (row : Row W (Value.int .u8) a l) (byte : ∀ u ∈ l, 0 ≤ u ∧ u ≤ 255) (_ : ∀ p, a = some p → p.block < W.heap.size) :
    Calls Try.prog 7 #[.slice a l.length c] W (LawEnd W) := by
  obtain ⟨x, hx⟩ : ∃ x : Ext W, x.w = W := ⟨Ext.self W, rfl⟩
  suffices hs : Calls Try.prog 7 #[.slice a l.length c] x.w (LawEnd W) by rw [hx] at hs; exact hs
  clear hx
  by_cases hb : (1048576 : Int) < l.length
  · have B := fun (y : Ext W) => big_ans (a := a) (c := c) (n := l.length) true (by simpa using hb) y
    go_enter Try.func7, Try.ntmps7
    go_wp2_with (go_at_call 11; refine Calls.mono (B _) ?_; rintro e w' ⟨rfl, y, rfl⟩)
    go_ret
    exact law_end ⟨y, rfl⟩
  have BG := fun (y : Ext W) => big_ans (a := a) (c := c) (n := l.length) false (by simpa using Int.not_lt.1 hb) y
  have hlen : (l.length : Int) ≤ 1048576 := by omega
  have hv0 := at0V_in byte 0
  have hv1 := at0V_in byte 1
  have hv2 := at0V_in byte 2
  have ATH : Hid (∀ (U : World) (_ : Below W.heap.size W U) (i : Nat) (_ : i ≤ 8) (u : Ext U), Calls Try.prog 16 #[.slice a l.length c, .int .i64 i] u.w (Ans U (.int .i64 (at0V l i)))) := fun U bU i hi u => at0_is (row.ext ⟨U, bU⟩) byte hlen i hi u
  obtain ⟨v0, hV0⟩ : ∃ v, v = at0V l 0 := ⟨_, rfl⟩
  rw [← hV0] at hv0
  obtain ⟨V1, hV1⟩ : ∃ v, v = at0V l 1 := ⟨_, rfl⟩
  obtain ⟨V2, hV2⟩ : ∃ v, v = at0V l 2 := ⟨_, rfl⟩
  rw [← hV1] at hv1
  rw [← hV2] at hv2
  obtain ⟨m, hm⟩ : ∃ m : Nat, 1 + v0 % 3 = (m : Int) := ⟨(1 + v0 % 3).toNat, by omega⟩
  have hm1 : 1 ≤ m := by omega
  have hm3 : m ≤ 3 := by omega
  have HOK := Lib.hid (prod3_ok m hm1 hm3)
  have hw1 : v0.tmod 3 = (m : Int) - 1 := by rw [Int.tmod_eq_emod_of_nonneg hv0.1]; omega
  have hw2 : IntKind.i64.wrap (1 + ((m : Int) - 1)) = (m : Int) := by rw [show (1 : Int) + ((m : Int) - 1) = m by omega]; exact IntWalk.i64_in _ (by omega)
  obtain ⟨A, hA⟩ : ∃ A, A = numS countF 1 := ⟨_, rfl⟩
  obtain ⟨B, hB⟩ : ∃ B, B = levS m := ⟨_, rfl⟩
  obtain ⟨P, hP⟩ : ∃ P, P = prodS A B := ⟨_, rfl⟩
  rw [← hA, ← hB] at HOK
  have smA : Small A := by rw [hA]; exact num8_small _ 1 (by omega)
  have smB : Small B := by rw [hB]; exact lev8_small m (by omega)
  have smP : Small P := by
    have := prodV_small (s := P) (b := true) (.inl ⟨HOK.out.has, hP, rfl⟩)
    exact ⟨by omega, by omega, by omega⟩
  have CNTc : ∀ u : Ext W, Calls Try.prog 33 #[.int .i64 1] u.w (NewOwn W A) := fun u => by rw [hA]; exact countSystem_in 1 (by omega) (by omega) u
  have LEVc : Hid (∀ (U : World) (u : Ext U), Calls Try.prog 23 #[.int .i64 m] u.w (NewOwn U B)) := fun U u => by rw [hB]; exact levelSystem_in m (by omega) (by omega) u
  have HPP := Lib.hid hP
  have HV := Lib.hid (⟨hV0, hV1, hV2⟩ : _ ∧ _ ∧ _)
  clear hA hB hP hm hb hV0 hV1 hV2
  go_enter Try.func7, Try.ntmps7
  go_wp2_with (go_at_call 11; refine Calls.mono (BG _) ?_; rintro e w' ⟨rfl, y0, rfl⟩)
  refine Calls.mono (CNTc y0) ?_
  rintro e w' ⟨rA, u1, rfl, rfl, ownA⟩
  clear BG CNTc
  go_upto_region 4 with fail
  generalize hW9 : u1.w.alloc _ = W1
  generalize hB9 : u1.w.heap.size = B1
  obtain ⟨a0, a1, a2, a3, h1, back1, yb1, hy9⟩ := boxed (ownA.sys smA) (Ext.self u1.w) hB9 hW9
  rw [← hy9]
  clear hW9 hB9 hy9
  go_wp2_with fail
  have bel1 : Below W.heap.size W W1 := by obtain ⟨z, hz⟩ := back1 (Ext.self W1); have := u1.below.trans (z.below.mono u1.size); rw [← hz] at this; exact this
  have ATc := ATH.out W1 bel1 0 (by omega) yb1
  rw [← HV.out.1] at ATc
  refine Calls.mono ATc ?_
  clear ATc
  rintro e w' ⟨rfl, y2, rfl⟩
  go_wp2_with fail
  refine Calls.mono (LEVc.out W1 y2) ?_
  rintro e w' ⟨rB, u2, rfl, rfl, ownB⟩
  go_upto_region 5 with fail
  generalize hW9 : u2.w.alloc _ = W2
  generalize hB9 : u2.w.heap.size = B2
  obtain ⟨b0, b1, b2, b3, h2, back2, yb2, hy9⟩ := boxed (ownB.sys smB) (Ext.self u2.w) hB9 hW9
  rw [← hy9]
  clear hW9 hB9 hy9
  have bel2 : Below W1.heap.size W1 W2 := by obtain ⟨z, hz⟩ := back2 (Ext.self W2); have := u2.below.trans (z.below.mono u2.size); rw [← hz] at this; exact this
  have hA2 : SysIn W2 rA A := h1.ext ⟨W2, bel2⟩
  have a0' : ∀ y : Ext W2, y.w.cell? ⟨B1, 0, none⟩ = some (.int .i64 A.n) := fun y => a0 ⟨y.w, bel2.trans (y.below.mono bel2.size)⟩
  have a1' : ∀ y : Ext W2, y.w.cell? ⟨B1, 1, none⟩ = some (.slice rA.pa A.plus.length rA.pc) := fun y => a1 ⟨y.w, bel2.trans (y.below.mono bel2.size)⟩
  have a2' : ∀ y : Ext W2, y.w.cell? ⟨B1, 2, none⟩ = some (.slice rA.ta A.times.length rA.tc) := fun y => a2 ⟨y.w, bel2.trans (y.below.mono bel2.size)⟩
  have a3' : ∀ y : Ext W2, y.w.cell? ⟨B1, 3, none⟩ = some (.slice rA.ba A.below.length rA.bc) := fun y => a3 ⟨y.w, bel2.trans (y.below.mono bel2.size)⟩
  have PRDc : Calls Try.prog 34 #[.agg #[.int .i64 A.n, .slice rA.pa A.plus.length rA.pc, .slice rA.ta A.times.length rA.tc, .slice rA.ba A.below.length rA.bc], .agg #[.int .i64 B.n, .slice rB.pa B.plus.length rB.pc, .slice rB.ta B.times.length rB.tc, .slice rB.ba B.below.length rB.bc]] yb2.w (NewOwnB W2 P true) := product_ans hA2 h2 P true (.inl ⟨HOK.out.has, HPP.out, rfl⟩) yb2
  go_wp2_with fail
  refine Calls.mono PRDc ?_
  clear PRDc
  rintro e w' ⟨rP, u3, rfl, rfl, ownP⟩
  go_upto_region 6 with fail
  generalize hW9 : u3.w.alloc _ = W3
  generalize hB9 : u3.w.heap.size = B3
  obtain ⟨p0, p1, p2, p3, h3, back3, yb3, hy9⟩ := boxed (ownP.sys smP) (Ext.self u3.w) hB9 hW9
  rw [← hy9]
  clear hW9 hB9 hy9
  have bel3 : Below W2.heap.size W2 W3 := by obtain ⟨z, hz⟩ := back3 (Ext.self W3); have := u3.below.trans (z.below.mono u3.size); rw [← hz] at this; exact this
  have hA3 : SysIn W3 rA A := hA2.ext ⟨W3, bel3⟩
  have hB3 : SysIn W3 rB B := h2.ext ⟨W3, bel3⟩
  have a0'' : ∀ y : Ext W3, y.w.cell? ⟨B1, 0, none⟩ = some (.int .i64 A.n) := fun y => a0' ⟨y.w, bel3.trans (y.below.mono bel3.size)⟩
  have a1'' : ∀ y : Ext W3, y.w.cell? ⟨B1, 1, none⟩ = some (.slice rA.pa A.plus.length rA.pc) := fun y => a1' ⟨y.w, bel3.trans (y.below.mono bel3.size)⟩
  have a2'' : ∀ y : Ext W3, y.w.cell? ⟨B1, 2, none⟩ = some (.slice rA.ta A.times.length rA.tc) := fun y => a2' ⟨y.w, bel3.trans (y.below.mono bel3.size)⟩
  have a3'' : ∀ y : Ext W3, y.w.cell? ⟨B1, 3, none⟩ = some (.slice rA.ba A.below.length rA.bc) := fun y => a3' ⟨y.w, bel3.trans (y.below.mono bel3.size)⟩
  have b0' : ∀ y : Ext W3, y.w.cell? ⟨B2, 0, none⟩ = some (.int .i64 B.n) := fun y => b0 ⟨y.w, bel3.trans (y.below.mono bel3.size)⟩
  have b1' : ∀ y : Ext W3, y.w.cell? ⟨B2, 1, none⟩ = some (.slice rB.pa B.plus.length rB.pc) := fun y => b1 ⟨y.w, bel3.trans (y.below.mono bel3.size)⟩
  have b2' : ∀ y : Ext W3, y.w.cell? ⟨B2, 2, none⟩ = some (.slice rB.ta B.times.length rB.tc) := fun y => b2 ⟨y.w, bel3.trans (y.below.mono bel3.size)⟩
  have b3' : ∀ y : Ext W3, y.w.cell? ⟨B2, 3, none⟩ = some (.slice rB.ba B.below.length rB.bc) := fun y => b3 ⟨y.w, bel3.trans (y.below.mono bel3.size)⟩
  have belW : Below W.heap.size W W3 := (bel1.trans (bel2.mono bel1.size)).trans (bel3.mono (Nat.le_trans bel1.size bel2.size))
  have hend : ∀ u : Ext W3, ∃ z : Ext W, u.w = z.w := fun u => ⟨⟨u.w, belW.trans (u.below.mono belW.size)⟩, rfl⟩
  clear back1 back2 back3 a0 a1 a2 a3 a0' a1' a2' a3' b0 b1 b2 b3 hA2 h1 h2 bel1 bel2 bel3 ownA ownB ownP
  have hPn : P.n = A.n * B.n := by rw [HPP.out]; exact (prod_le HOK.out.has).2
  have hPs : IsSys P := by rw [HPP.out]; exact HOK.out.sys
  have lo := hPs.tab.lo
  have hi := hPs.tab.hi
  obtain ⟨i0, hi0, hz0, hz1, hz2⟩ := info_parts info_int
  have hsz := yb3.size
  go_upto_region 9 with fail
  generalize hX : yb3.w.alloc _ = X
  have ho1 : X.ownsRow W3.heap.size 3 1 (.slice (some ⟨yb3.w.heap.size, 0, none⟩) 0 0) 0 ((firsts B.n 0).map (Value.int .i64)) := by
    rw [← hX]
    exact World.ownsRow_lit yb3.w #[] 0 hsz (by unfold maxLen; omega) (by simp)
  obtain ⟨ux, hux⟩ : ∃ y : Ext W3, y.w = X := ⟨yb3.alloc _, hX⟩
  have hxs : X.heap.size = yb3.w.heap.size + 1 := by rw [← hX]; simp
  clear hX
  rw [← hux] at ho1 hxs ⊢
  have HXS := Lib.hid hxs
  clear hux hxs
  go_wp2_with fail
  generalize hX : ux.w.alloc _ = X2
  have ho2 : X2.ownsRow W3.heap.size 3 1 (.slice (some ⟨ux.w.heap.size, 0, none⟩) 0 0) 0 ((seconds B.n 0).map (Value.int .i64)) := by
    rw [← hX]
    exact World.ownsRow_lit ux.w #[] 0 ux.size (by unfold maxLen; omega) (by simp)
  replace ho1 : X2.ownsRow W3.heap.size 3 1 (.slice (some ⟨yb3.w.heap.size, 0, none⟩) 0 0) 0 ((firsts B.n 0).map (Value.int .i64)) := by rw [← hX]; exact ho1.alloc _
  obtain ⟨uy, huy⟩ : ∃ y : Ext W3, y.w = X2 := ⟨ux.alloc _, hX⟩
  clear hX
  rw [← huy] at ho1 ho2 ⊢
  clear huy
  go_loopw [9, 7, 8] (fun i v u wr => ∃ (k : Nat) (a1 : Option Addr) (c1 : Nat) (a2 : Option Addr) (c2 : Nat), i = .int .i64 k ∧ v = .slice a1 k c1 ∧ u = .slice a2 k c2 ∧ (k : Int) ≤ P.n ∧ ∃ y : Ext W3, wr = y.w ∧ y.w.ownsRow W3.heap.size 3 1 (.slice a1 k c1) k ((firsts B.n k).map (Value.int .i64)) ∧ y.w.ownsRow W3.heap.size 3 1 (.slice a2 k c2) k ((seconds B.n k).map (Value.int .i64)) ∧ Hid (∀ g, ob a1 = some g → ob a2 ≠ some g)) (fun i _ _ _ => (P.n - intOf i).toNat)
  case atStart => exact ⟨0, _, _, _, _, rfl, rfl, rfl, by omega, uy, rfl, ho1, ho2, fun g e1 e2 => by have := HXS.out; simp [ob] at e1 e2; omega⟩
  case round =>
    obtain ⟨k, a1, c1, a2, c2, rfl, rfl, rfl, hk, y, rfl, own1, own2, HD⟩ := hrel
    have e0 := p0 y
    by_cases hlt : (k : Int) < P.n
    · have hwk : IntKind.i64.wrap ((k : Int) + 1) = (k : Int) + 1 := IntWalk.i64_in _ (by omega)
      obtain ⟨gx, gy, gp⟩ := HOK.out.one k (by rw [← HPP.out]; exact ⟨by omega, hlt⟩)
      obtain ⟨xk, hxk⟩ : ∃ z, z = firstN B.n k := ⟨_, rfl⟩
      obtain ⟨yk, hyk⟩ : ∃ z, z = secondN B.n k := ⟨_, rfl⟩
      rw [← hxk] at gx gp
      rw [← hyk] at gy gp
      have PARTc : Calls Try.prog 35 #[.agg #[.int .i64 A.n, .slice rA.pa A.plus.length rA.pc, .slice rA.ta A.times.length rA.tc, .slice rA.ba A.below.length rA.bc], .agg #[.int .i64 B.n, .slice rB.pa B.plus.length rB.pc, .slice rB.ta B.times.length rB.tc, .slice rB.ba B.below.length rB.bc], .int .i64 k] y.w (Ans y.w (.tuple #[.int .i64 xk, .int .i64 yk])) := partsOfGrade_ans (hA3.ext y) (hB3.ext y) k xk yk (.inl ⟨HOK.out.has, ⟨by omega, by omega⟩, hxk, hyk⟩) (Ext.self y.w)
      have PAIRc : ∀ z : Ext W3, Calls Try.prog 36 #[.agg #[.int .i64 A.n, .slice rA.pa A.plus.length rA.pc, .slice rA.ta A.times.length rA.tc, .slice rA.ba A.below.length rA.bc], .agg #[.int .i64 B.n, .slice rB.pa B.plus.length rB.pc, .slice rB.ta B.times.length rB.tc, .slice rB.ba B.below.length rB.bc], .int .i64 xk, .int .i64 yk] z.w (Ans z.w (.int .i64 k)) := fun z => pairGrades_ans (hA3.ext z) (hB3.ext z) xk yk k (.inl ⟨HOK.out.has, gx, gy, gp.symm⟩) (Ext.self z.w)
      have hkk : ((k : Int) != (k : Int)) = false := by simp
      have HX := Lib.hid (⟨hxk, hyk⟩ : _ ∧ _)
      clear hxk hyk gx gy gp
      go_wp2_with fail
      refine Calls.mono PARTc ?_
      clear PARTc
      rintro e w' ⟨rfl, y', rfl⟩
      replace own1 := owns_ext own1 y'
      replace own2 := owns_ext own2 y'
      obtain ⟨z1, hz⟩ : ∃ z : Ext W3, z.w = y'.w := ⟨y.trans y', rfl⟩
      rw [← hz] at own1 own2 ⊢
      clear hz
      have PAIRd := PAIRc z1 
      go_wp2_with fail
      refine Calls.mono PAIRd ?_
      clear PAIRd PAIRc
      rintro e w' ⟨rfl, y', rfl⟩
      replace own1 := owns_ext own1 y'
      replace own2 := owns_ext own2 y'
      obtain ⟨z, hz⟩ : ∃ z : Ext W3, z.w = y'.w := ⟨z1.trans y', rfl⟩
      rw [← hz] at own1 own2 ⊢
      clear hz
      go_upto_region 17 with (at_builtin; refine wpList_append_own_at _ rfl (.tmp 54) (.tmp 56) 24 rfl W3.heap.size 3 i0 (.int .i64 0) 1 8 Try.underlying24 hi0 hz0 hz1 hz2 rfl (by decide) (.slice a1 k c1) _ _ rfl (own1.alloc _) _ 1 1 [.int .i64 (xk)] rfl rfl (cell_one_at _ _ _ _ (by simp)) (by intro u hu; simp at hu; subst hu; rfl) (by unfold maxLen; omega) (by omega) (by have := z.size; simp at this ⊢; omega) ?_; intro v1' w1' own1' gr1 _ hat1; obtain ⟨b1, e1, rfl⟩ := own_slice own1')
      have bel1' : Below W3.heap.size W3 w1' := ((z.below.alloc z.size _).grown gr1 (by have := z.size; simp; omega) (fun g hg => (own1.lt g hg).1))
      have own2' : w1'.ownsRow W3.heap.size 3 1 (.slice a2 k c2) k ((seconds B.n k).map (Value.int .i64)) := owns_of_block (own2.alloc _) fun g hg => by
        refine gr1.block g (by have := (own2.lt g hg).2; simp; omega) (fun e => ?_)
        rw [ob_eq] at e hg
        exact HD.out g e.symm hg
      have own1n : w1'.ownsRow W3.heap.size 3 1 (.slice b1 (k + 1) e1) (k + 1) ((firsts B.n (k + 1)).map (Value.int .i64)) := by rw [firsts_succ, List.map_append, ← HX.out.1]; simpa using own1'
      have HD2 : Hid (∀ g, ob b1 = some g → ob a2 ≠ some g) := fun g e1 e2 => by
        rw [ob_eq, ob_eq] at hat1
        rcases hat1 with q | q
        · rw [q] at e1; exact HD.out g e1 e2
        · rw [e1] at q
          have := (own2.lt g (by rw [ob_eq]; exact e2)).2
          cases q
          (try simp at this) <;> omega
      obtain ⟨z2, hz2⟩ : ∃ z : Ext W3, z.w = w1' := ⟨⟨w1', bel1'⟩, rfl⟩
      rw [← hz2] at own1n own2' ⊢
      clear own1 own2 own1' gr1 hat1 hz2 bel1' HD
      go_wp2_with (at_builtin; refine wpList_append_own_at _ rfl (.tmp 58) (.tmp 60) 24 rfl W3.heap.size 3 i0 (.int .i64 0) 1 8 Try.underlying24 hi0 hz0 hz1 hz2 rfl (by decide) (.slice a2 k c2) _ _ rfl (own2'.alloc _) _ 1 1 [.int .i64 (yk)] rfl rfl (cell_one_at _ _ _ _ (by simp)) (by intro u hu; simp at hu; subst hu; rfl) (by unfold maxLen; omega) (by omega) (by have := z2.size; simp at this ⊢; omega) ?_; intro v1' w1' own1' gr1 _ hat1; obtain ⟨b2, e2, rfl⟩ := own_slice own1')
      have bel1' : Below W3.heap.size W3 w1' := ((z2.below.alloc z2.size _).grown gr1 (by have := z2.size; simp; omega) (fun g hg => (own2'.lt g hg).1))
      have own1m : w1'.ownsRow W3.heap.size 3 1 (.slice b1 (k + 1) e1) (k + 1) ((firsts B.n (k + 1)).map (Value.int .i64)) := owns_of_block (own1n.alloc _) fun g hg => by
        refine gr1.block g (by have := (own1n.lt g hg).2; simp; omega) (fun e => ?_)
        rw [ob_eq] at e hg
        exact HD2.out g hg e.symm
      have own2m : w1'.ownsRow W3.heap.size 3 1 (.slice b2 (k + 1) e2) (k + 1) ((seconds B.n (k + 1)).map (Value.int .i64)) := by rw [seconds_succ, List.map_append, ← HX.out.2]; simpa using own1'
      have HD3 : Hid (∀ g, ob b1 = some g → ob b2 ≠ some g) := fun g e1 e2 => by
        rw [ob_eq, ob_eq] at hat1
        rcases hat1 with q | q
        · rw [q] at e2; exact HD2.out g e1 e2
        · rw [e2] at q
          have := (own1n.lt g (by rw [ob_eq]; exact e1)).2
          cases q
          (try simp at this) <;> omega
      clear own1n own2' own1' gr1 hat1 HD2
      go_roundw
      case rel => exact ⟨k + 1, b1, e1, b2, e2, by push_cast; rfl, rfl, rfl, by push_cast; omega, ⟨w1', bel1'⟩, rfl, own1m, own2m, HD3⟩
      case measure => simp [intOf]; omega
    · have hkP : (k : Int) = P.n := by omega
      have hk0 : 0 < k := by omega
      have hl1 : (firsts B.n k).length = k := firsts_len _ _
      have hl2 : (seconds B.n k).length = k := seconds_len _ _
      obtain ⟨g1, rfl, _⟩ := owns_at own1 hk0
      obtain ⟨g2, rfl, _⟩ := owns_at own2 hk0
      have rg : ∀ v : Int, 0 ≤ v → ∃ i : Nat, v.tmod P.n = (i : Int) ∧ i < k := fun v hv => by
        rw [Int.tmod_eq_emod_of_nonneg hv]
        have q1 := Int.emod_nonneg v (show P.n ≠ 0 by omega)
        have q2 := Int.emod_lt_of_pos v (show 0 < P.n by omega)
        exact ⟨(v % P.n).toNat, by omega, by omega⟩
      obtain ⟨i, hi1, hi2⟩ := rg V1 hv1.1
      obtain ⟨j, hj1, hj2⟩ := rg V2 hv2.1
      clear rg
      obtain ⟨Y, hY⟩ : ∃ Y, Y = y.w := ⟨_, rfl⟩
      have belY : Below W3.heap.size W3 Y := by rw [hY]; exact y.below
      have AT1 : ∀ u : Ext Y, Calls Try.prog 16 #[.slice a l.length c, .int .i64 1] u.w (Ans Y (.int .i64 V1)) := fun u => by rw [HV.out.2.1]; exact ATH.out Y (belW.trans (belY.mono belW.size)) 1 (by omega) u
      have AT2 : ∀ u : Ext Y, Calls Try.prog 16 #[.slice a l.length c, .int .i64 2] u.w (Ans Y (.int .i64 V2)) := fun u => by rw [HV.out.2.2]; exact ATH.out Y (belW.trans (belY.mono belW.size)) 2 (by omega) u
      have hPY : SysIn Y rP P := h3.ext ⟨Y, belY⟩
      have hAY : SysIn Y rA A := hA3.ext ⟨Y, belY⟩
      have hBY : SysIn Y rB B := hB3.ext ⟨Y, belY⟩
      rw [← hY] at own1 own2 ⊢
      clear hY e0 HD
      have row1 : Row Y (Value.int .i64) (some ⟨g1, 0, none⟩) (firsts B.n k) := own_row (c := c1) (by rw [hl1]; exact own1)
      have row2 : Row Y (Value.int .i64) (some ⟨g2, 0, none⟩) (seconds B.n k) := own_row (c := c2) (by rw [hl2]; exact own2)
      have toP : P.n.toNat = k := by omega
      have MA : IsMapP P A (firsts B.n k) := by have := HOK.out.ma; rw [← HPP.out, toP] at this; exact this
      have MB : IsMapP P B (seconds B.n k) := by have := HOK.out.mb; rw [← HPP.out, toP] at this; exact this
      have cel1 : ∀ (z : Nat), z < k → ∀ u : Ext Y, u.w.cell? ⟨g1, z, none⟩ = some (.int .i64 (firstN B.n z)) := fun z hz u => u.cell (by rw [own1.cellAt _ (by omega), List.getElem?_map, firsts_at hz]; rfl)
      have cel2 : ∀ (z : Nat), z < k → ∀ u : Ext Y, u.w.cell? ⟨g2, z, none⟩ = some (.int .i64 (secondN B.n z)) := fun z hz u => u.cell (by rw [own2.cellAt _ (by omega), List.getElem?_map, seconds_at hz]; rfl)
      have f1i := cel1 i hi2
      have f1j := cel1 j hj2
      have f2i := cel2 i hi2
      have f2j := cel2 j hj2
      have Gi : G P i := ⟨by omega, by omega⟩
      have Gj : G P j := ⟨by omega, by omega⟩
      obtain ⟨gxi, gyi, -⟩ := HOK.out.one i (by rw [← HPP.out]; exact Gi)
      obtain ⟨gxj, gyj, -⟩ := HOK.out.one j (by rw [← HPP.out]; exact Gj)
      have hjn := HOK.out.join i j (by rw [← HPP.out]; exact Gi) (by rw [← HPP.out]; exact Gj)
      rw [← HPP.out] at hjn
      obtain ⟨gjj, ejx, ejy⟩ := hjn
      obtain ⟨xi, hxi⟩ : ∃ z, z = firstN B.n i := ⟨_, rfl⟩
      obtain ⟨xj, hxj⟩ : ∃ z, z = firstN B.n j := ⟨_, rfl⟩
      obtain ⟨yi, hyi⟩ : ∃ z, z = secondN B.n i := ⟨_, rfl⟩
      obtain ⟨yj, hyj⟩ : ∃ z, z = secondN B.n j := ⟨_, rfl⟩
      obtain ⟨jj, hjj⟩ : ∃ z, z = P.join i j := ⟨_, rfl⟩
      obtain ⟨xx, hxx⟩ : ∃ z, z = firstN B.n jj := ⟨_, rfl⟩
      obtain ⟨yy9, hyy⟩ : ∃ z, z = secondN B.n jj := ⟨_, rfl⟩
      rw [← hjj] at gjj ejx ejy
      rw [← hxx, ← hxi, ← hxj] at ejx
      rw [← hyy, ← hyi, ← hyj] at ejy
      rw [← hxi] at gxi f1i
      rw [← hxj] at gxj f1j
      rw [← hyi] at gyi f2i
      rw [← hyj] at gyj f2j
      have JPc : ∀ u : Ext Y, Calls Try.prog 15 #[.agg #[.int .i64 P.n, .slice rP.pa P.plus.length rP.pc, .slice rP.ta P.times.length rP.tc, .slice rP.ba P.below.length rP.bc], .int .i64 i, .int .i64 j] u.w (Ans Y (.int .i64 jj)) := fun u => joinGrades_ans hPY i j jj (.inl ⟨hPs, Gi, Gj, hjj⟩) u
      have PTc : ∀ u : Ext Y, Calls Try.prog 35 #[.agg #[.int .i64 A.n, .slice rA.pa A.plus.length rA.pc, .slice rA.ta A.times.length rA.tc, .slice rA.ba A.below.length rA.bc], .agg #[.int .i64 B.n, .slice rB.pa B.plus.length rB.pc, .slice rB.ta B.times.length rB.tc, .slice rB.ba B.below.length rB.bc], .int .i64 jj] u.w (Ans Y (.tuple #[.int .i64 xx, .int .i64 yy9])) := fun u => partsOfGrade_ans hAY hBY jj xx yy9 (.inl ⟨HOK.out.has, ⟨gjj.1, by have := gjj.2; omega⟩, hxx, hyy⟩) u
      have JAc : ∀ u : Ext Y, Calls Try.prog 15 #[.agg #[.int .i64 A.n, .slice rA.pa A.plus.length rA.pc, .slice rA.ta A.times.length rA.tc, .slice rA.ba A.below.length rA.bc], .int .i64 xi, .int .i64 xj] u.w (Ans Y (.int .i64 xx)) := fun u => joinGrades_ans hAY xi xj xx (.inl ⟨HOK.out.has.1, gxi, gxj, ejx⟩) u
      have JBc : ∀ u : Ext Y, Calls Try.prog 15 #[.agg #[.int .i64 B.n, .slice rB.pa B.plus.length rB.pc, .slice rB.ta B.times.length rB.tc, .slice rB.ba B.below.length rB.bc], .int .i64 yi, .int .i64 yj] u.w (Ans Y (.int .i64 yy9)) := fun u => joinGrades_ans hBY yi yj yy9 (.inl ⟨HOK.out.has.2.1, gyi, gyj, ejy⟩) u
      have MAc : ∀ u : Ext Y, Calls Try.prog 26 #[.agg #[.int .i64 P.n, .slice rP.pa P.plus.length rP.pc, .slice rP.ta P.times.length rP.tc, .slice rP.ba P.below.length rP.bc], .agg #[.int .i64 A.n, .slice rA.pa A.plus.length rA.pc, .slice rA.ta A.times.length rA.tc, .slice rA.ba A.below.length rA.bc], .slice (some ⟨g1, 0, none⟩) k c1] u.w (Ans Y (.bool true)) := fun u => by
        have := isMap_ans (c := c1) hPY hAY row1 (by rw [hl1]; omega) true (by simp [MA]) u
        rw [hl1] at this
        exact this
      have MBc : ∀ u : Ext Y, Calls Try.prog 26 #[.agg #[.int .i64 P.n, .slice rP.pa P.plus.length rP.pc, .slice rP.ta P.times.length rP.tc, .slice rP.ba P.below.length rP.bc], .agg #[.int .i64 B.n, .slice rB.pa B.plus.length rB.pc, .slice rB.ta B.times.length rB.tc, .slice rB.ba B.below.length rB.bc], .slice (some ⟨g2, 0, none⟩) k c2] u.w (Ans Y (.bool true)) := fun u => by
        have := isMap_ans (c := c2) hPY hBY row2 (by rw [hl2]; omega) true (by simp [MB]) u
        rw [hl2] at this
        exact this
      have hn0 : (P.n == 0) = false := by rw [beq_eq_false_iff_ne]; omega
      have exx : (xx == xx) = true := by simp
      have eyy : (yy9 == yy9) = true := by simp
      have nik : (i : Int) < (k : Int) := by omega
      have njk : (j : Int) < (k : Int) := by omega
      have ni0 : (0 : Int) ≤ (i : Int) := by omega
      have nj0 : (0 : Int) ≤ (j : Int) := by omega
      have d0 : ∀ u : Ext Y, u.w.cell? ⟨B3, 0, none⟩ = some (.int .i64 P.n) := fun u => p0 ⟨u.w, belY.trans (u.below.mono belY.size)⟩
      have d1 : ∀ u : Ext Y, u.w.cell? ⟨B3, 1, none⟩ = some (.slice rP.pa P.plus.length rP.pc) := fun u => p1 ⟨u.w, belY.trans (u.below.mono belY.size)⟩
      have d2 : ∀ u : Ext Y, u.w.cell? ⟨B3, 2, none⟩ = some (.slice rP.ta P.times.length rP.tc) := fun u => p2 ⟨u.w, belY.trans (u.below.mono belY.size)⟩
      have d3 : ∀ u : Ext Y, u.w.cell? ⟨B3, 3, none⟩ = some (.slice rP.ba P.below.length rP.bc) := fun u => p3 ⟨u.w, belY.trans (u.below.mono belY.size)⟩
      have q0 : ∀ u : Ext Y, u.w.cell? ⟨B1, 0, none⟩ = some (.int .i64 A.n) := fun u => a0'' ⟨u.w, belY.trans (u.below.mono belY.size)⟩
      have q1 : ∀ u : Ext Y, u.w.cell? ⟨B1, 1, none⟩ = some (.slice rA.pa A.plus.length rA.pc) := fun u => a1'' ⟨u.w, belY.trans (u.below.mono belY.size)⟩
      have q2 : ∀ u : Ext Y, u.w.cell? ⟨B1, 2, none⟩ = some (.slice rA.ta A.times.length rA.tc) := fun u => a2'' ⟨u.w, belY.trans (u.below.mono belY.size)⟩
      have q3 : ∀ u : Ext Y, u.w.cell? ⟨B1, 3, none⟩ = some (.slice rA.ba A.below.length rA.bc) := fun u => a3'' ⟨u.w, belY.trans (u.below.mono belY.size)⟩
      have r0 : ∀ u : Ext Y, u.w.cell? ⟨B2, 0, none⟩ = some (.int .i64 B.n) := fun u => b0' ⟨u.w, belY.trans (u.below.mono belY.size)⟩
      have r1 : ∀ u : Ext Y, u.w.cell? ⟨B2, 1, none⟩ = some (.slice rB.pa B.plus.length rB.pc) := fun u => b1' ⟨u.w, belY.trans (u.below.mono belY.size)⟩
      have r2 : ∀ u : Ext Y, u.w.cell? ⟨B2, 2, none⟩ = some (.slice rB.ta B.times.length rB.tc) := fun u => b2' ⟨u.w, belY.trans (u.below.mono belY.size)⟩
      have r3 : ∀ u : Ext Y, u.w.cell? ⟨B2, 3, none⟩ = some (.slice rB.ba B.below.length rB.bc) := fun u => b3' ⟨u.w, belY.trans (u.below.mono belY.size)⟩
      clear p0 p1 p2 p3 a0'' a1'' a2'' a3'' b0' b1' b2' b3'
      have hendY : ∀ u : Ext Y, ∃ z : Ext W, u.w = z.w := fun u => hend ⟨u.w, belY.trans (u.below.mono belY.size)⟩
      obtain ⟨yy, hyq⟩ : ∃ y : Ext Y, y.w = Y := ⟨Ext.self Y, rfl⟩
      have nlt : ¬ (k : Int) < P.n := hlt
      have sd0 := d0 yy
      rw [hyq] at sd0
      have hi1e : V1 % P.n = (i : Int) := by rw [← Int.tmod_eq_emod_of_nonneg hv1.1]; exact hi1
      have hj1e : V2 % P.n = (j : Int) := by rw [← Int.tmod_eq_emod_of_nonneg hv2.1]; exact hj1
      clear hPn hkP
      clear own1 own2 row1 row2 MA MB cel1 cel2 hxi hxj hyi hyj hjj hxx hyy ejx ejy gjj gxi gxj gyi gyj Gi Gj toP hl1 hl2 hPY hAY hBY hlt
      go_upto_region 18 with fail
      clear sd0
      rw [← hyq]
      clear hyq
      refine region_ext yy (by kernel_rfl) (by kernel_rfl) ?_
      repeat (go_big_quiet_step ((go_at_call 16; with_reducible exact AT1 _)))
      refine wpQuiet_nil ?_
      rintro _ ⟨yy, rfl⟩
      go_upto_region 19 with fail
      refine region_ext yy (by kernel_rfl) (by kernel_rfl) ?_
      repeat (go_big_quiet_step ((go_at_call 16; with_reducible exact AT2 _)))
      refine wpQuiet_nil ?_
      rintro _ ⟨yy, rfl⟩
      clear AT1 AT2
      go_upto_region 20 with fail
      refine region_ext yy (by kernel_rfl) (by kernel_rfl) ?_
      repeat (go_big_quiet_step ((first | (go_at_call 15; with_reducible exact JPc _) | (go_at_call 35; with_reducible exact PTc _))))
      refine wpQuiet_nil ?_
      rintro _ ⟨yy, rfl⟩
      clear JPc PTc
      go_upto_region 21 with fail
      refine region_ext yy (by kernel_rfl) (by kernel_rfl) ?_
      repeat (go_big_quiet_step ((first | (go_at_call 26; (first | with_reducible exact MAc _ | with_reducible exact MBc _)) | (go_at_call 15; (first | with_reducible exact JAc _ | with_reducible exact JBc _)))))
      refine wpQuiet_nil ?_
      rintro _ ⟨yy, rfl⟩
      go_wp2_with fail
      go_ret
      exact law_end (hendY yy)

end Go.Proofs.Ytkokmpdmmfghhaa
