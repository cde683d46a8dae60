
/- Bounds and levels have the least grade 0, counts none; what is told as least is below all: for every code. -/
import Derived.Test.YtkokmpdmmfghhaaHA
import Derived.Test.YtkokmpdmmfghhaaKDrawR
import Derived.Test.YtkokmpdmmfghhaaKLeast
import Derived.Test.YtkokmpdmmfghhaaKApiB
import Derived.Test.YtkokmpdmmfghhaaKLevelSys
import Derived.Test.YtkokmpdmmfghhaaKBoundSys
import Derived.Test.YtkokmpdmmfghhaaKCountSys
import Derived.Test.YtkokmpdmmfghhaaKLeastDec
namespace Go.Proofs.Ytkokmpdmmfghhaa
open Go.RowKit

theorem least_at {s : Sys} (h : 0 ≤ s.least) : G s s.least ∧ LeastAt s s.least := by
  rcases firstI_is s.n (LeastAt s) with ⟨h0, h1, h2, _⟩ | ⟨h1, _⟩
  · exact ⟨⟨h0, h1⟩, h2⟩
  · have : s.least = -1 := h1
    omega

set_option maxRecDepth 100000 in
set_option maxHeartbeats 16000000 in
theorem fnLeastGrades_law {W : World} {a : Option Addr} {c : Nat} {l : List Int} (row : Row W (Value.int .u8) a l) (byte : ∀ u ∈ l, 0 ≤ u ∧ u ≤ 255) (lt : ∀ p, a = some p → p.block < W.heap.size) :
    Calls Try.prog 8 #[.slice a l.length c] W (LawEnd W) := by
  obtain ⟨x, hx⟩ : ∃ x : Ext W, x.w = W := ⟨Ext.self W, rfl⟩
  suffices hs : Calls Try.prog 8 #[.slice a l.length c] x.w (LawEnd W) by rw [hx] at hs; exact hs
  clear hx
  by_cases hb : (1048576 : Int) < l.length
  · have B := fun (y : Ext W) => big_ans (a := a) (c := c) (n := l.length) true (by simpa using hb) y
    go_enter Try.func8, Try.ntmps8
    go_wp2_with (go_at_call 11; refine Calls.mono (B _) ?_; rintro e w' ⟨rfl, y, rfl⟩)
    go_ret
    exact law_end ⟨y, rfl⟩
  have B := fun (y : Ext W) => big_ans (a := a) (c := c) (n := l.length) false (by simpa using Int.not_lt.1 hb) y
  have hlen : l.length ≤ 4611686018427387904 := by omega
  have AT : ∀ y : Ext W, Calls Try.prog 16 #[.slice a l.length c, .int .i64 0] y.w (ByteV W) := fun y => at0_ans row byte (by omega) 0 (by omega) y
  go_enter Try.func8, Try.ntmps8
  go_wp2_with (go_at_call 11; refine Calls.mono (B _) ?_; rintro e w' ⟨rfl, y0, rfl⟩)
  refine Calls.mono (AT y0) ?_
  rintro e w' ⟨v, y, rfl, rfl, hv0, hv1⟩
  have ht : v.tmod 8 = v % 8 := Int.tmod_eq_emod_of_nonneg hv0
  obtain ⟨m, hm⟩ : ∃ m : Nat, 1 + v % 8 = (m : Int) := ⟨(1 + v % 8).toNat, by omega⟩
  have hm1 : 1 ≤ m := by omega
  have hm8 : m ≤ 8 := by omega
  have hw1 : IntKind.i64.wrap (v.tmod 8) = v % 8 := by rw [ht]; exact IntWalk.i64_in _ (by omega)
  have hw2 : IntKind.i64.wrap (1 + v % 8) = (m : Int) := by rw [hm]; exact IntWalk.i64_in _ (by omega)
  have ht2 := Lib.hid ht
  have hm2 := Lib.hid hm
  clear ht hm
  go_wp2_with fail
  refine Calls.mono (drawLeastGrade_ans row hlen byte lt y) ?_
  rintro e w1 ⟨⟨pa, ta, ba, pc, tc, bc⟩, s, rfl, bel1, si, ll⟩
  clear B AT row lt byte hlen hb hw1 hw2 ht2 hm2 hv0 hv1
  go_wp2_with fail
  generalize hW2 : w1.alloc _ = W2
  generalize hB : w1.heap.size = B
  obtain ⟨c0, c1, c2, c3, h1, hback, yy, hy0⟩ := boxed si (Ext.self w1) hB hW2
  clear hW2 hB
  have hend : ∀ u : Ext W2, ∃ z : Ext W, u.w = z.w := fun u => by
    obtain ⟨z, hz⟩ := hback u
    exact ⟨⟨z.w, bel1.trans (z.below.mono bel1.size)⟩, hz⟩
  rw [← hy0]
  clear hy0 hback
  have LEA : ∀ (v : Int), ((IsSys s ∧ v = s.least) ∨ (¬ IsSys s ∧ v = -1)) → ∀ u : Ext W2, Calls Try.prog 38 #[.agg #[.int .i64 s.n, .slice pa s.plus.length pc, .slice ta s.times.length tc, .slice ba s.below.length bc]] u.w (Ans W2 (.int .i64 v)) := fun v hv u => leastGrade_ans h1 v hv u
  have BND : ∀ u : Ext W2, Calls Try.prog 39 #[.int .i64 m] u.w (NewOwn W2 (numS (fun _ => boundF) m)) := fun u => boundSystem_in m (by omega) (by omega) u
  have LEV : ∀ u : Ext W2, Calls Try.prog 23 #[.int .i64 m] u.w (NewOwn W2 (levS m)) := fun u => levelSystem_in m (by omega) (by omega) u
  have CNT : ∀ u : Ext W2, Calls Try.prog 33 #[.int .i64 m] u.w (NewOwn W2 (numS countF m)) := fun u => countSystem_in m (by omega) (by omega) u
  obtain ⟨g, hg⟩ : ∃ g, (IsSys s ∧ g = s.least) ∨ (¬ IsSys s ∧ g = -1) := by
    by_cases is : IsSys s
    · exact ⟨_, .inl ⟨is, rfl⟩⟩
    · exact ⟨_, .inr ⟨is, rfl⟩⟩
  have LEA1 := LEA g hg yy
  by_cases hg0 : g ≥ 0
  · skip
    obtain ⟨is, hgl⟩ : IsSys s ∧ g = s.least := hg.elim id (fun h => by omega)
    have hla := least_at (s := s) (by omega)
    rw [← hgl] at hla
    have lo := is.tab.lo
    have hi := is.tab.hi
    have HL := Lib.hid hla
    clear hla hgl hg
    go_wp2_with (go_at_call 38; refine Calls.mono LEA1 ?_; rintro e w' ⟨rfl, uu, rfl⟩)
    go_loopw [6] (fun i wr => ∃ k : Nat, i = .int .i64 k ∧ (k : Int) ≤ s.n ∧ ∃ y : Ext W2, wr = y.w) (fun i _ => (s.n - intOf i).toNat)
    case atStart => exact ⟨0, rfl, by omega, uu, rfl⟩
    case round =>
      obtain ⟨k, rfl, hk, y, rfl⟩ := hrel
      by_cases hlt : (k : Int) < s.n
      · skip
        have e0 := c0 y
        have e1 := c1 y
        have e2 := c2 y
        have e3 := c3 y
        have BEL : Calls Try.prog 19 #[.agg #[.int .i64 s.n, .slice pa s.plus.length pc, .slice ta s.times.length tc, .slice ba s.below.length bc], .int .i64 g, .int .i64 k] y.w (Ans W2 (.bool true)) := isBelow_ans h1 g k true (by simp only [true_iff]; exact ⟨⟨is, HL.out.1, by omega, hlt⟩, HL.out.2 k ⟨by omega, hlt⟩⟩) y
        have hwk : IntKind.i64.wrap ((k : Int) + 1) = (k : Int) + 1 := IntWalk.i64_in _ (by omega)
        go_wp2_with (go_at_call 19; (with_reducible refine Calls.mono BEL ?_); rintro e w' ⟨rfl, u2, rfl⟩)
        clear e0 e1 e2 e3
        go_roundw
        case rel => exact ⟨k + 1, by push_cast; rfl, by push_cast; omega, u2, rfl⟩
        case measure => simp [intOf]; omega
      · skip
        have e0 := c0 y
        go_wp2_with fail
        clear e0 LEA LEA1
        refine Calls.mono (BND y) ?_
        rintro e w' ⟨r1, u1, rfl, rfl, own1⟩
        have LB1 : ∀ u : Ext u1.w, Calls Try.prog 38 #[r1.val (numS (fun _ => boundF) m)] u.w (Ans u1.w (.int .i64 (0))) := fun u => leastGrade_ans (own1.sys (num8_small _ m hm8)) (0) (.inl ⟨bound8_sys m hm1 hm8, (bound8_least m hm1 hm8).symm⟩) u
        go_wp2_with fail
        refine Calls.mono (LB1 (Ext.self u1.w)) ?_
        rintro e w' ⟨rfl, x1, rfl⟩
        go_wp2_with fail
        refine Calls.mono (LEV (u1.trans x1)) ?_
        rintro e w' ⟨r2, u2, rfl, rfl, own2⟩
        have LB2 : ∀ u : Ext u2.w, Calls Try.prog 38 #[r2.val (levS m)] u.w (Ans u2.w (.int .i64 (0))) := fun u => leastGrade_ans (own2.sys (lev8_small m hm8)) (0) (.inl ⟨lev8_sys m hm1 hm8, (lev8_least m hm1 hm8).symm⟩) u
        go_wp2_with fail
        refine Calls.mono (LB2 (Ext.self u2.w)) ?_
        rintro e w' ⟨rfl, x2, rfl⟩
        go_wp2_with fail
        refine Calls.mono (CNT (u2.trans x2)) ?_
        rintro e w' ⟨r3, u3, rfl, rfl, own3⟩
        have LB3 : ∀ u : Ext u3.w, Calls Try.prog 38 #[r3.val (numS countF m)] u.w (Ans u3.w (.int .i64 (-1))) := fun u => leastGrade_ans (own3.sys (num8_small _ m hm8)) (-1) (.inl ⟨count8_sys m hm1 hm8, (count8_least m hm1 hm8).symm⟩) u
        go_wp2_with fail
        refine Calls.mono (LB3 (Ext.self u3.w)) ?_
        rintro e w' ⟨rfl, x3, rfl⟩
        go_wp2_with fail
        go_ret
        exact law_end (hend (u3.trans x3))
  · skip
    go_wp2_with (go_at_call 38; refine Calls.mono LEA1 ?_; rintro e w' ⟨rfl, y, rfl⟩)
    clear LEA LEA1
    refine Calls.mono (BND y) ?_
    rintro e w' ⟨r1, u1, rfl, rfl, own1⟩
    have LB1 : ∀ u : Ext u1.w, Calls Try.prog 38 #[r1.val (numS (fun _ => boundF) m)] u.w (Ans u1.w (.int .i64 (0))) := fun u => leastGrade_ans (own1.sys (num8_small _ m hm8)) (0) (.inl ⟨bound8_sys m hm1 hm8, (bound8_least m hm1 hm8).symm⟩) u
    go_wp2_with fail
    refine Calls.mono (LB1 (Ext.self u1.w)) ?_
    rintro e w' ⟨rfl, x1, rfl⟩
    go_wp2_with fail
    refine Calls.mono (LEV (u1.trans x1)) ?_
    rintro e w' ⟨r2, u2, rfl, rfl, own2⟩
    have LB2 : ∀ u : Ext u2.w, Calls Try.prog 38 #[r2.val (levS m)] u.w (Ans u2.w (.int .i64 (0))) := fun u => leastGrade_ans (own2.sys (lev8_small m hm8)) (0) (.inl ⟨lev8_sys m hm1 hm8, (lev8_least m hm1 hm8).symm⟩) u
    go_wp2_with fail
    refine Calls.mono (LB2 (Ext.self u2.w)) ?_
    rintro e w' ⟨rfl, x2, rfl⟩
    go_wp2_with fail
    refine Calls.mono (CNT (u2.trans x2)) ?_
    rintro e w' ⟨r3, u3, rfl, rfl, own3⟩
    have LB3 : ∀ u : Ext u3.w, Calls Try.prog 38 #[r3.val (numS countF m)] u.w (Ans u3.w (.int .i64 (-1))) := fun u => leastGrade_ans (own3.sys (num8_small _ m hm8)) (-1) (.inl ⟨count8_sys m hm1 hm8, (count8_least m hm1 hm8).symm⟩) u
    go_wp2_with fail
    refine Calls.mono (LB3 (Ext.self u3.w)) ?_
    rintro e w' ⟨rfl, x3, rfl⟩
    go_wp2_with fail
    go_ret
    exact law_end (hend (u3.trans x3))

end Go.Proofs.Ytkokmpdmmfghhaa
