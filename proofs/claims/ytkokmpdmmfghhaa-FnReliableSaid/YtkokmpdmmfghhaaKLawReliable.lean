
/- A system is reliable just if all its grades but 0 are a view: for every code. -/
import Derived.Test.YtkokmpdmmfghhaaHA
import Derived.Test.YtkokmpdmmfghhaaKDrawR
import Derived.Test.YtkokmpdmmfghhaaKRel
import Derived.Test.YtkokmpdmmfghhaaKSysB
import Derived.Test.YtkokmpdmmfghhaaKViewTop
import Derived.Test.YtkokmpdmmfghhaaKLevelSys
import Derived.Test.YtkokmpdmmfghhaaKSysDec
import Derived.Test.YtkokmpdmmfghhaaKNumModel
import Derived.Maps.AppendAt
namespace Go.Proofs.Ytkokmpdmmfghhaa
open Go.RowKit

/-- The grades from 1 on. -/
def fromOne (k : Nat) : List Int := (List.range k).map fun (i : Nat) => (i : Int) + 1
theorem fromOne_len (k : Nat) : (fromOne k).length = k := by simp [fromOne]
theorem fromOne_succ (k : Nat) : fromOne (k + 1) = fromOne k ++ [(k : Int) + 1] := by simp [fromOne, List.range_succ]
theorem fromOne_at {k i : Nat} {g : Int} (h : (fromOne k)[i]? = some g) : i < k ∧ g = (i : Int) + 1 := by
  have hi : i < k := by have := (List.getElem?_eq_some_iff.1 h).1; rwa [fromOne_len] at this
  refine ⟨hi, ?_⟩
  unfold fromOne at h
  rw [List.getElem?_map, List.getElem?_range hi] at h
  exact (Option.some.inj h).symm
theorem fromOne_mem {k : Nat} {g : Int} : g ∈ fromOne k ↔ 1 ≤ g ∧ g ≤ k := by
  unfold fromOne
  rw [List.mem_map]
  constructor
  · rintro ⟨i, hi, rfl⟩
    have := List.mem_range.1 hi
    omega
  · rintro ⟨h1, h2⟩
    exact ⟨(g - 1).toNat, List.mem_range.2 (by omega), by omega⟩
theorem reliable_view {s : Sys} (hs : IsSys s) : Reliable s ↔ IsViewP s (fromOne (s.n - 1).toNat) := by
  have lo := hs.tab.lo
  have h0 : G s 0 := ⟨by omega, by omega⟩
  have h1 : G s 1 := ⟨by omega, by omega⟩
  have asc : AscP s.n (fromOne (s.n - 1).toNat) := fun i g hg => by
    obtain ⟨hi, rfl⟩ := fromOne_at hg
    refine ⟨⟨by omega, by omega⟩, fun j f hj hf => ?_⟩
    obtain ⟨_, rfl⟩ := fromOne_at hf
    omega
  have mem : ∀ g, G s g → (g ∈ fromOne (s.n - 1).toNat ↔ g ≠ 0) := fun g hg => by
    rw [fromOne_mem]
    have := hg.1; have := hg.2
    omega
  have o := fun g hg => hs.one g hg
  constructor
  · rintro ⟨_, hr⟩
    refine ⟨hs, asc, (viewP_congr hs.tab mem).2 ⟨⟨by decide, fun h => h rfl⟩, fun a ha b hb => ?_⟩⟩
    obtain ⟨ra, rb⟩ := hr a ha
    obtain ⟨q1, q2⟩ := rb b hb
    refine ⟨⟨fun h => ?_, fun h e => ?_⟩, ⟨fun h => ⟨fun e => ?_, fun e => ?_⟩, fun h e => ?_⟩, fun h1 h2 e => ?_⟩
    · by_cases ea : a = 0
      · by_cases eb : b = 0
        · exact absurd (by rw [ea, eb]; exact (o 0 h0).z) h
        · exact .inr eb
      · exact .inl ea
    · obtain ⟨rfl, rfl⟩ := q1 e
      exact h.elim (fun h => h rfl) (fun h => h rfl)
    · subst e; exact h (o b hb).z1
    · subst e; exact h (o a ha).z2
    · exact (q2 e).elim h.1 h.2
    · subst e
      have := ra h1
      rw [h2] at this; cases this
  · rintro ⟨_, _, hv⟩
    obtain ⟨_, hv⟩ := (viewP_congr hs.tab mem).1 hv
    refine ⟨hs, fun a ha => ⟨fun hne => ?_, fun b hb => ⟨fun h => ?_, fun h => ?_⟩⟩⟩
    · cases e : s.le a 0
      · rfl
      · exact absurd rfl ((hv a ha 0 h0).2.2 hne e)
    · have := (hv a ha b hb).1
      refine ⟨Decidable.byContradiction fun e => this.2 (.inl e) h, Decidable.byContradiction fun e => this.2 (.inr e) h⟩
    · have := (hv a ha b hb).2.1
      by_cases ea : a = 0
      · exact .inl ea
      · exact .inr (Decidable.byContradiction fun e => this.2 ⟨ea, e⟩ h)

theorem lev1_rel : Reliable (levS 1) := ⟨lev1_sys, fun a ha => by
  have ha' : a = 0 ∨ a = 1 := by have := ha.1; have := ha.2; simp at *; omega
  refine ⟨fun h => ?_, fun b hb => ?_⟩
  · rcases ha' with rfl | rfl
    · exact absurd rfl h
    · decide +kernel
  · have hb' : b = 0 ∨ b = 1 := by have := hb.1; have := hb.2; simp at *; omega
    rcases ha' with rfl | rfl <;> rcases hb' with rfl | rfl <;> exact ⟨by decide +kernel, by decide +kernel⟩⟩
theorem lev1_small : Small (levS 1) := ⟨by decide +kernel, by decide +kernel, by decide +kernel⟩

set_option maxRecDepth 100000 in
set_option maxHeartbeats 16000000 in
theorem fnReliable_law {W : World} {a : Option Addr} {c : Nat} {l : List Int} (row : Row W (Value.int .u8) a l) (byte : ∀ u ∈ l, 0 ≤ u ∧ u ≤ 255) (lt : ∀ p, a = some p → p.block < W.heap.size) :
    Calls Try.prog 5 #[.slice a l.length c] W (LawEnd W) := by
  obtain ⟨x, hx⟩ : ∃ x : Ext W, x.w = W := ⟨Ext.self W, rfl⟩
  suffices hs : Calls Try.prog 5 #[.slice a l.length c] x.w (LawEnd W) by rw [hx] at hs; exact hs
  clear hx
  by_cases hb : (1048576 : Int) < l.length
  · have B := fun (y : Ext W) => big_ans (a := a) (c := c) (n := l.length) true (by simpa using hb) y
    go_enter Try.func5, Try.ntmps5
    go_wp2_with (go_at_call 11; refine Calls.mono (B _) ?_; rintro e w' ⟨rfl, y, rfl⟩)
    go_ret
    exact law_end ⟨y, rfl⟩
  have B := fun (y : Ext W) => big_ans (a := a) (c := c) (n := l.length) false (by simpa using Int.not_lt.1 hb) y
  have hlen : l.length ≤ 4611686018427387904 := by omega
  go_enter Try.func5, Try.ntmps5
  go_wp2_with (go_at_call 11; refine Calls.mono (B _) ?_; rintro e w' ⟨rfl, y, rfl⟩)
  refine Calls.mono (drawIsReliable_ans row hlen byte lt y) ?_
  rintro e w1 ⟨⟨pa, ta, ba, pc, tc, bc⟩, s, rfl, bel1, si, ll⟩
  clear B row lt byte hlen hb
  go_wp2_with fail
  generalize hW2 : w1.alloc _ = W2
  generalize hB : w1.heap.size = B
  obtain ⟨c0, c1, c2, c3, h1, hback, yy, hy0⟩ := boxed si (Ext.self w1) hB hW2
  clear hW2 hB
  have hend : ∀ u : Ext W2, ∃ z : Ext W, u.w = z.w := fun u => by
    obtain ⟨z, hz⟩ := hback u
    exact ⟨⟨z.w, bel1.trans (z.below.mono bel1.size)⟩, hz⟩
  rw [← hy0]
  clear hy0 hback
  have REL : ∀ (p : Bool), (p = true ↔ Reliable s) → ∀ u : Ext W2, Calls Try.prog 30 #[.agg #[.int .i64 s.n, .slice pa s.plus.length pc, .slice ta s.times.length tc, .slice ba s.below.length bc]] u.w (Ans W2 (.bool p)) := fun p hp u => isReliable_ans h1 p hp u
  have LEV : ∀ u : Ext W2, Calls Try.prog 23 #[.int .i64 1] u.w (NewOwn W2 (levS 1)) := fun u => levelSystem_in 1 (by omega) (by omega) u
  by_cases is : IsSys s
  · skip
    have hSYS : Calls Try.prog 29 #[.agg #[.int .i64 s.n, .slice pa s.plus.length pc, .slice ta s.times.length tc, .slice ba s.below.length bc]] yy.w (Ans W2 (.bool true)) := specIsSystem_ans h1 true (by simp [is]) yy
    go_wp2_with (go_at_call 29; refine Calls.mono hSYS ?_; rintro e w' ⟨rfl, uu, rfl⟩)
    clear hSYS
    obtain ⟨p, hp⟩ := bool_of (Reliable s)
    have hpv := hp.trans (reliable_view is)
    have lo := is.tab.lo
    have hi := is.tab.hi
    obtain ⟨i0, hi0, hz0, hz1, hz2⟩ := info_parts info_int
    have hsz := uu.size
    generalize hX : uu.w.alloc _ = X
    have ho : X.ownsRow W2.heap.size 3 1 (.slice (some ⟨uu.w.heap.size, 0, none⟩) 0 0) 0 ((fromOne 0).map (Value.int .i64)) := by
      rw [← hX]
      exact World.ownsRow_lit uu.w #[] 0 hsz (by unfold maxLen; omega) (by simp)
    obtain ⟨ux, hux⟩ : ∃ y : Ext W2, y.w = X := ⟨uu.alloc _, hX⟩
    clear hX
    rw [← hux] at ho ⊢
    clear hux
    go_loopw [5, 4] (fun i v wr => ∃ (k : Nat) (a' : Option Addr) (c' : Nat), i = .int .i64 ((k : Int) + 1) ∧ v = .slice a' k c' ∧ (k : Int) + 1 ≤ s.n ∧ ∃ y : Ext W2, wr = y.w ∧ y.w.ownsRow W2.heap.size 3 1 (.slice a' k c') k ((fromOne k).map (Value.int .i64))) (fun i _ _ => (s.n - intOf i).toNat)
    case atStart => exact ⟨0, _, _, rfl, rfl, by omega, ux, rfl, ho⟩
    case round =>
      obtain ⟨k, a', c', rfl, rfl, hk, y, rfl, own⟩ := hrel
      have e0 := c0 y
      have hwk : IntKind.i64.wrap ((k : Int) + 1 + 1) = (k : Int) + 1 + 1 := IntWalk.i64_in _ (by omega)
      by_cases hlt : (k : Int) + 1 < s.n
      · skip
        go_wp2_with (at_builtin; refine wpList_append_own_at _ rfl (.tmp 27) (.tmp 29) 24 rfl W2.heap.size 3 i0 (.int .i64 0) 1 8 Try.underlying24 hi0 hz0 hz1 hz2 rfl (by decide) (.slice a' k c') _ _ rfl (own.alloc _) _ 1 1 [.int .i64 ((k : Int) + 1)] rfl rfl (cell_one_at _ _ _ _ (by simp)) (by intro u hu; simp at hu; subst hu; rfl) (by unfold maxLen; omega) (by omega) (by have := y.size; simp at this ⊢; omega) ?_; intro v1' w1' own1 gr1 _ hat1; obtain ⟨b1, e1, rfl⟩ := own_slice own1)
        have bel1' : Below W2.heap.size W2 w1' := ((y.below.alloc y.size _).grown gr1 (by have := y.size; simp; omega) (fun g hg => (own.lt g hg).1))
        have own2 : w1'.ownsRow W2.heap.size 3 1 (.slice b1 (k + 1) e1) (k + 1) ((fromOne (k + 1)).map (Value.int .i64)) := by rw [fromOne_succ, List.map_append]; simpa using own1
        clear own own1 gr1 hat1
        go_roundw
        case rel => exact ⟨k + 1, b1, e1, by push_cast; rfl, rfl, by push_cast; omega, ⟨w1', bel1'⟩, rfl, own2⟩
        case measure => simp [intOf]; omega
      · skip
        have hk1 : k = (s.n - 1).toNat := by omega
        have hlen5 : (fromOne k).length = k := fromOne_len k
        have own' : y.w.ownsRow W2.heap.size 3 1 (.slice a' (fromOne k).length c') (fromOne k).length ((fromOne k).map (Value.int .i64)) := by rw [hlen5]; exact own
        have row5 : Row y.w (Value.int .i64) a' (fromOne k) := own_row own'
        have VIEW : ∀ u : Ext y.w, Calls Try.prog 22 #[.agg #[.int .i64 s.n, .slice pa s.plus.length pc, .slice ta s.times.length tc, .slice ba s.below.length bc], .slice a' k c'] u.w (Ans y.w (.bool p)) := fun u => by
          have := isView_ans (c := c') (h1.ext y) row5 (by rw [hlen5]; omega) p (by rw [hk1]; exact hpv) u
          rw [hlen5] at this
          exact this
        have RELP : ∀ u : Ext y.w, Calls Try.prog 30 #[.agg #[.int .i64 s.n, .slice pa s.plus.length pc, .slice ta s.times.length tc, .slice ba s.below.length bc]] u.w (Ans y.w (.bool p)) := fun u => isReliable_ans (h1.ext y) p hp u
        have LEV5 : ∀ u : Ext y.w, Calls Try.prog 23 #[.int .i64 1] u.w (NewOwn y.w (levS 1)) := fun u => levelSystem_in 1 (by omega) (by omega) u
        have d0 := fun u : Ext y.w => c0 (y.trans u)
        have d1 := fun u : Ext y.w => c1 (y.trans u)
        have d2 := fun u : Ext y.w => c2 (y.trans u)
        have d3 := fun u : Ext y.w => c3 (y.trans u)
        have hend5 := fun u : Ext y.w => hend (y.trans u)
        have hpp : (p == p) = true := by simp
        clear own own' row5 REL LEV hp hpv e0 hk1 hlen5
        go_wp2_with fail
        refine wp_region_held_drew (S := (fun w' => w'.cell? ⟨B, 0, none⟩ = some (.int .i64 s.n) ∧ w'.cell? ⟨B, 1, none⟩ = some (.slice pa s.plus.length pc) ∧ w'.cell? ⟨B, 2, none⟩ = some (.slice ta s.times.length tc) ∧ w'.cell? ⟨B, 3, none⟩ = some (.slice ba s.below.length bc))) (by kernel_rfl) ?_ (fun hHeld => ?_)
        · (try dsimp only)
          (first | exact ⟨d0 (v3.trans v4), d1 (v3.trans v4), d2 (v3.trans v4), d3 (v3.trans v4)⟩ | exact ⟨d0 v3, d1 v3, d2 v3, d3 v3⟩ | exact ⟨d0 v2, d1 v2, d2 v2, d3 v2⟩ | exact ⟨d0 v1, d1 v1, d2 v1, d3 v1⟩ | exact ⟨d0 (Ext.self y.w).drew, d1 (Ext.self y.w).drew, d2 (Ext.self y.w).drew, d3 (Ext.self y.w).drew⟩)
        refine wpAnyH_take (i := 0) (v := ?_) rfl (by kernel_rfl) (by kernel_rfl) (by kernel_rfl) (fun _ _ _ h => h) (Or.inl ⟨by rfl, ?_⟩) hHeld ?_
        rotate_left
        · intro w hSw; (try dsimp only at hSw); (try simp only [List.getElem_toArray, List.getElem_cons_zero]); first | (go_simp; done) | (go_simp; with_reducible rfl)
        try simp only [List.getElem_toArray, List.getElem_cons_zero, Act.put, List.setIfInBounds_toArray, List.set_cons_zero, List.set_cons_succ]
        refine wpAnyH_take (i := 2) (v := ?_) rfl (by kernel_rfl) (by kernel_rfl) (by kernel_rfl) (fun _ _ _ h => h) (Or.inl ⟨by rfl, ?_⟩) hHeld ?_
        rotate_left
        · intro w hSw; (try dsimp only at hSw); (try simp only [List.getElem_toArray, List.getElem_cons_succ, List.getElem_cons_zero]); first | (go_simp; done) | (go_simp; with_reducible rfl)
        try simp only [List.getElem_toArray, List.getElem_cons_succ, List.getElem_cons_zero, Act.put, List.setIfInBounds_toArray, List.set_cons_zero, List.set_cons_succ]
        refine wpAnyH_take (i := 3) (v := ?_) rfl (by kernel_rfl) (by kernel_rfl) (by kernel_rfl) (fun _ _ _ h => h) (Or.inl ⟨by rfl, ?_⟩) hHeld ?_
        rotate_left
        · intro w hSw; (try dsimp only at hSw); (try simp only [List.getElem_toArray, List.getElem_cons_succ, List.getElem_cons_zero]); first | (go_simp; done) | (go_simp; with_reducible rfl)
        try simp only [List.getElem_toArray, List.getElem_cons_succ, List.getElem_cons_zero, Act.put, List.setIfInBounds_toArray, List.set_cons_zero, List.set_cons_succ]
        refine wpAnyH_ready (rs := [1]) (by kernel_rfl) (by simp) ?_
        refine AllReadyH.cons rfl (fun K hK => ?_) AllReadyH.nil
        try simp only [List.getElem_toArray, List.getElem_cons_succ, List.getElem_cons_zero]
        go_simp
        (with_reducible refine Calls.mono (RELP (Ext.self y.w).drew) ?_)
        rintro e w' ⟨rfl, v1, rfl⟩
        (try dsimp only)
        refine hK.out _ _ ?_ (fun hHeld2 => ?_)
        · (try dsimp only)
          (first | exact ⟨d0 (v3.trans v4), d1 (v3.trans v4), d2 (v3.trans v4), d3 (v3.trans v4)⟩ | exact ⟨d0 v3, d1 v3, d2 v3, d3 v3⟩ | exact ⟨d0 v2, d1 v2, d2 v2, d3 v2⟩ | exact ⟨d0 v1, d1 v1, d2 v1, d3 v1⟩ | exact ⟨d0 (Ext.self y.w).drew, d1 (Ext.self y.w).drew, d2 (Ext.self y.w).drew, d3 (Ext.self y.w).drew⟩)
        clear hK K hHeld
        have hHeld := hHeld2
        clear hHeld2
        try simp only [List.getElem_toArray, List.getElem_cons_succ, List.getElem_cons_zero, Act.put, List.setIfInBounds_toArray, List.set_cons_zero, List.set_cons_succ]
        refine wpAnyH_ready (rs := [4]) (by kernel_rfl) (by simp) ?_
        refine AllReadyH.cons rfl (fun K hK => ?_) AllReadyH.nil
        try simp only [List.getElem_toArray, List.getElem_cons_succ, List.getElem_cons_zero]
        go_simp
        (with_reducible refine Calls.mono (VIEW v1) ?_)
        rintro e w' ⟨rfl, v2, rfl⟩
        (try dsimp only)
        refine hK.out _ _ ?_ (fun hHeld2 => ?_)
        · (try dsimp only)
          (first | exact ⟨d0 (v3.trans v4), d1 (v3.trans v4), d2 (v3.trans v4), d3 (v3.trans v4)⟩ | exact ⟨d0 v3, d1 v3, d2 v3, d3 v3⟩ | exact ⟨d0 v2, d1 v2, d2 v2, d3 v2⟩ | exact ⟨d0 v1, d1 v1, d2 v1, d3 v1⟩ | exact ⟨d0 (Ext.self y.w).drew, d1 (Ext.self y.w).drew, d2 (Ext.self y.w).drew, d3 (Ext.self y.w).drew⟩)
        clear hK K hHeld
        have hHeld := hHeld2
        clear hHeld2
        try simp only [List.getElem_toArray, List.getElem_cons_succ, List.getElem_cons_zero, Act.put, List.setIfInBounds_toArray, List.set_cons_zero, List.set_cons_succ]
        refine wpAnyH_take (i := 5) (v := ?_) rfl (by kernel_rfl) (by kernel_rfl) (by kernel_rfl) (fun _ _ _ h => h) (Or.inl ⟨by rfl, ?_⟩) hHeld ?_
        rotate_left
        · intro w hSw; (try dsimp only at hSw); (try simp only [List.getElem_toArray, List.getElem_cons_succ, List.getElem_cons_zero]); first | (go_simp; done) | (go_simp; with_reducible rfl)
        try simp only [List.getElem_toArray, List.getElem_cons_succ, List.getElem_cons_zero, Act.put, List.setIfInBounds_toArray, List.set_cons_zero, List.set_cons_succ]
        refine wpAnyH_take (i := 6) (v := ?_) rfl (by kernel_rfl) (by kernel_rfl) (by kernel_rfl) (fun _ _ _ h => h) (Or.inl ⟨by rfl, ?_⟩) hHeld ?_
        rotate_left
        · intro w hSw; (try dsimp only at hSw); (try simp only [List.getElem_toArray, List.getElem_cons_succ, List.getElem_cons_zero]); first | (go_simp; done) | (go_simp; with_reducible rfl)
        try simp only [List.getElem_toArray, List.getElem_cons_succ, List.getElem_cons_zero, Act.put, List.setIfInBounds_toArray, List.set_cons_zero, List.set_cons_succ]
        refine wpAnyH_ready (rs := [7]) (by kernel_rfl) (by simp) ?_
        refine AllReadyH.cons rfl (fun K hK => ?_) AllReadyH.nil
        try simp only [List.getElem_toArray, List.getElem_cons_succ, List.getElem_cons_zero]
        go_simp
        (with_reducible refine Calls.mono (LEV5 v2) ?_)
        rintro e w' ⟨r5, v3, rfl, rfl, own5⟩
        have RELL := fun u : Ext v3.w => isReliable_ans (own5.sys lev1_small) true (by simp [lev1_rel]) u
        (try dsimp only)
        refine hK.out _ _ ?_ (fun hHeld2 => ?_)
        · (try dsimp only)
          (first | exact ⟨d0 (v3.trans v4), d1 (v3.trans v4), d2 (v3.trans v4), d3 (v3.trans v4)⟩ | exact ⟨d0 v3, d1 v3, d2 v3, d3 v3⟩ | exact ⟨d0 v2, d1 v2, d2 v2, d3 v2⟩ | exact ⟨d0 v1, d1 v1, d2 v1, d3 v1⟩ | exact ⟨d0 (Ext.self y.w).drew, d1 (Ext.self y.w).drew, d2 (Ext.self y.w).drew, d3 (Ext.self y.w).drew⟩)
        clear hK K hHeld
        have hHeld := hHeld2
        clear hHeld2
        try simp only [List.getElem_toArray, List.getElem_cons_succ, List.getElem_cons_zero, Act.put, List.setIfInBounds_toArray, List.set_cons_zero, List.set_cons_succ]
        refine wpAnyH_ready (rs := [8]) (by kernel_rfl) (by simp) ?_
        refine AllReadyH.cons rfl (fun K hK => ?_) AllReadyH.nil
        try simp only [List.getElem_toArray, List.getElem_cons_succ, List.getElem_cons_zero]
        go_simp
        (with_reducible refine Calls.mono (RELL (Ext.self v3.w)) ?_)
        rintro e w' ⟨rfl, v4, rfl⟩
        (try dsimp only)
        refine hK.out _ _ ?_ (fun hHeld2 => ?_)
        · (try dsimp only)
          (first | exact ⟨d0 (v3.trans v4), d1 (v3.trans v4), d2 (v3.trans v4), d3 (v3.trans v4)⟩ | exact ⟨d0 v3, d1 v3, d2 v3, d3 v3⟩ | exact ⟨d0 v2, d1 v2, d2 v2, d3 v2⟩ | exact ⟨d0 v1, d1 v1, d2 v1, d3 v1⟩ | exact ⟨d0 (Ext.self y.w).drew, d1 (Ext.self y.w).drew, d2 (Ext.self y.w).drew, d3 (Ext.self y.w).drew⟩)
        clear hK K hHeld
        have hHeld := hHeld2
        clear hHeld2
        try simp only [List.getElem_toArray, List.getElem_cons_succ, List.getElem_cons_zero, Act.put, List.setIfInBounds_toArray, List.set_cons_zero, List.set_cons_succ]
        refine wpAnyH_take (i := 9) (v := ?_) rfl (by kernel_rfl) (by kernel_rfl) (by kernel_rfl) (fun _ _ _ h => h) (Or.inl ⟨by rfl, ?_⟩) hHeld ?_
        rotate_left
        · intro w hSw; (try dsimp only at hSw); (try simp only [List.getElem_toArray, List.getElem_cons_succ, List.getElem_cons_zero]); first | (go_simp; done) | (go_simp; with_reducible rfl)
        try simp only [List.getElem_toArray, List.getElem_cons_succ, List.getElem_cons_zero, Act.put, List.setIfInBounds_toArray, List.set_cons_zero, List.set_cons_succ]
        refine wpAnyH_take (i := 10) (v := ?_) rfl (by kernel_rfl) (by kernel_rfl) (by kernel_rfl) (fun _ _ _ h => h) (Or.inl ⟨by rfl, ?_⟩) hHeld ?_
        rotate_left
        · intro w hSw; (try dsimp only at hSw); (try simp only [List.getElem_toArray, List.getElem_cons_succ, List.getElem_cons_zero]); first | (go_simp; done) | (go_simp; with_reducible rfl)
        try simp only [List.getElem_toArray, List.getElem_cons_succ, List.getElem_cons_zero, Act.put, List.setIfInBounds_toArray, List.set_cons_zero, List.set_cons_succ]
        refine wpAnyH_done (by kernel_rfl) ?_ _
        go_wp2_with fail
        go_ret
        exact law_end (hend5 (v3.trans v4))
  · skip
    have hSYS : Calls Try.prog 29 #[.agg #[.int .i64 s.n, .slice pa s.plus.length pc, .slice ta s.times.length tc, .slice ba s.below.length bc]] yy.w (Ans W2 (.bool false)) := specIsSystem_ans h1 false (by simp [is]) yy
    go_wp2_with (go_at_call 29; refine Calls.mono hSYS ?_; rintro e w' ⟨rfl, uu, rfl⟩)
    clear hSYS
    refine Calls.mono (REL false (by simp; intro h; exact is h.1) uu) ?_
    rintro e w' ⟨rfl, u2, rfl⟩
    go_wp2_with fail
    refine Calls.mono (LEV u2) ?_
    rintro e w' ⟨r1, u3, rfl, rfl, own⟩
    have RELL := fun y : Ext u3.w => isReliable_ans (own.sys lev1_small) true (by simp [lev1_rel]) y
    go_wp2_with fail
    refine Calls.mono (RELL (Ext.self u3.w)) ?_
    rintro e w' ⟨rfl, u4, rfl⟩
    go_wp2_with fail
    go_ret
    exact law_end (hend (u3.trans u4))

end Go.Proofs.Ytkokmpdmmfghhaa
