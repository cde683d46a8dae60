
/- Sums, products, joins and meets of grades of a system go together as they must: for every code. -/
import Derived.Test.YtkokmpdmmfghhaaHA
import Derived.Test.YtkokmpdmmfghhaaKDrawR
import Derived.Test.YtkokmpdmmfghhaaKApiA
import Derived.Test.YtkokmpdmmfghhaaKApiB
import Derived.Test.YtkokmpdmmfghhaaKSumG
set_option linter.unusedVariables false
set_option linter.unusedSimpArgs false
namespace Go.Proofs.Ytkokmpdmmfghhaa
open Go.RowKit

theorem join_at {s : Sys} (h : IsSys s) {a b : Int} (ha : G s a) (hb : G s b) : G s (s.join a b) ∧ JoinAt s a b (s.join a b) := by
  rcases firstI_is s.n (JoinAt s a b) with ⟨h0, h1, h2, _⟩ | ⟨h1, _⟩
  · exact ⟨⟨h0, h1⟩, h2⟩
  · have := (h.two a b ha hb).join
    have h2 : s.join a b = -1 := h1
    omega
theorem join_comm {s : Sys} (a b : Int) : s.join b a = s.join a b :=
  firstI_congr fun i _ _ => ⟨fun ⟨p, q, r⟩ => ⟨q, p, fun h hh k1 k2 => r h hh k2 k1⟩, fun ⟨p, q, r⟩ => ⟨q, p, fun h hh k1 k2 => r h hh k2 k1⟩⟩
theorem meet_at {s : Sys} {a b : Int} (h : ¬ s.meet a b < 0) : G s (s.meet a b) ∧ MeetAt s a b (s.meet a b) := by
  rcases firstI_is s.n (MeetAt s a b) with ⟨h0, h1, h2, _⟩ | ⟨h1, _⟩
  · exact ⟨⟨h0, h1⟩, h2⟩
  · have h2 : s.meet a b = -1 := h1
    omega
theorem le_join {s : Sys} (h : IsSys s) {a b : Int} (ha : G s a) (hb : G s b) : s.le a b = decide (s.join a b = b) := by
  obtain ⟨gj, j1, j2, j3⟩ := join_at h ha hb
  by_cases e : s.join a b = b
  · rw [decide_eq_true e, ← e]; exact j1
  · rw [decide_eq_false e]
    cases q : s.le a b
    · rfl
    · have k := j3 b hb q (h.one b hb).rf
      rcases (h.two _ _ gj hb).anti with z | z | z
      · exact absurd z e
      · rw [k] at z; cases z
      · rw [j2] at z; cases z

set_option maxRecDepth 100000 in
set_option maxHeartbeats 32000000 in
theorem fnGradesReckoned_law {W : World} {a : Option Addr} {c : Nat} {l : List Int} (row : Row W (Value.int .u8) a l) (byte : ∀ u ∈ l, 0 ≤ u ∧ u ≤ 255) (lt : ∀ p, a = some p → p.block < W.heap.size) :
    Calls Try.prog 3 #[.slice a l.length c] W (LawEnd W) := by
  obtain ⟨x, hx⟩ : ∃ x : Ext W, x.w = W := ⟨Ext.self W, rfl⟩
  suffices hs : Calls Try.prog 3 #[.slice a l.length c] x.w (LawEnd W) by rw [hx] at hs; exact hs
  clear hx
  by_cases hb : (1048576 : Int) < l.length
  · have B := fun (y : Ext W) => big_ans (a := a) (c := c) (n := l.length) true (by simpa using hb) y
    go_enter Try.func3, Try.ntmps3
    go_wp2_with (go_at_call 11; refine Calls.mono (B _) ?_; rintro e w' ⟨rfl, y, rfl⟩)
    go_ret
    exact law_end ⟨y, rfl⟩
  have B := fun (y : Ext W) => big_ans (a := a) (c := c) (n := l.length) false (by simpa using Int.not_lt.1 hb) y
  have hlen : l.length ≤ 4611686018427387904 := by omega
  have hll : (l.length : Int) ≤ 1048576 := by omega
  go_enter Try.func3, Try.ntmps3
  go_wp2_with (go_at_call 11; refine Calls.mono (B _) ?_; rintro e w' ⟨rfl, y, rfl⟩)
  refine Calls.mono (drawIsSystem_ans row hlen byte lt y) ?_
  rintro e w1 ⟨⟨pa, ta, ba, pc, tc, bc⟩, s, rfl, bel1, si, ll⟩
  have row1 : Row w1 (Value.int .u8) a l := row.ext ⟨w1, bel1⟩
  clear B row lt hlen hb
  go_wp2_with fail
  generalize hW2 : w1.alloc _ = W2
  generalize hB : w1.heap.size = B
  obtain ⟨c0, c1, c2, c3, h1, hback, yy, hy0⟩ := boxed si (Ext.self w1) hB hW2
  have row2 : Row W2 (Value.int .u8) a l := by rw [← hW2]; exact row1.ext ((Ext.self w1).alloc _)
  clear hW2 hB row1
  have hend : ∀ u : Ext W2, ∃ z : Ext W, u.w = z.w := fun u => by
    obtain ⟨z, hz⟩ := hback u
    exact ⟨⟨z.w, bel1.trans (z.below.mono bel1.size)⟩, hz⟩
  rw [← hy0]
  clear hy0 hback
  by_cases is : IsSys s
  · skip
    have SYS : Calls Try.prog 13 #[.agg #[.int .i64 s.n, .slice pa s.plus.length pc, .slice ta s.times.length tc, .slice ba s.below.length bc]] yy.w (Ans W2 (.bool true)) := isSystem_ans h1 true (by simp [is]) yy
    have AT : ∀ (i : Nat), i ≤ 8 → ∀ y : Ext W2, Calls Try.prog 16 #[.slice a l.length c, .int .i64 i] y.w (ByteV W2) := fun i hi y => at0_ans row2 byte hll i hi y
    have AT0 : ∀ y : Ext W2, Calls Try.prog 16 #[.slice a l.length c, .int .i64 0] y.w (ByteV W2) := AT 0 (by omega)
    have AT1 : ∀ y : Ext W2, Calls Try.prog 16 #[.slice a l.length c, .int .i64 1] y.w (ByteV W2) := AT 1 (by omega)
    have AT2 : ∀ y : Ext W2, Calls Try.prog 16 #[.slice a l.length c, .int .i64 2] y.w (ByteV W2) := AT 2 (by omega)
    have lo := is.tab.lo
    have hi := is.tab.hi
    have hn0 : (s.n == 0) = false := by simp; omega
    have hn1 : ¬ s.n = 0 := by omega
    have RM : ∀ v : Int, 0 ≤ v → v ≤ 255 → ∃ g, G s g ∧ v.tmod s.n = g := fun v h0 h1 => by
      have h2 := Int.emod_nonneg v hn1
      have h3 := Int.emod_lt_of_pos v (show 0 < s.n by omega)
      refine ⟨v % s.n, ⟨h2, h3⟩, ?_⟩
      exact Int.tmod_eq_emod_of_nonneg h0
    clear AT byte hll row2
    go_wp2_with (go_at_call 13; refine Calls.mono SYS ?_; rintro e w' ⟨rfl, uu, rfl⟩)
    clear SYS
    refine wp_region_held_drew (S := (fun w' => w'.cell? ⟨B, 0, none⟩ = some (.int .i64 s.n) ∧ w'.cell? ⟨B, 1, none⟩ = some (.slice pa s.plus.length pc) ∧ w'.cell? ⟨B, 2, none⟩ = some (.slice ta s.times.length tc) ∧ w'.cell? ⟨B, 3, none⟩ = some (.slice ba s.below.length bc))) (by kernel_rfl) ?_ (fun hHeld => ?_)
    · (try dsimp only)
      (first | exact ⟨c0 z0, c1 z0, c2 z0, c3 z0⟩ | exact ⟨c0 uu.drew, c1 uu.drew, c2 uu.drew, c3 uu.drew⟩)
    refine wpAnyH_take (i := 0) (v := ?_) rfl (by kernel_rfl) (by kernel_rfl) (by kernel_rfl) (fun _ _ _ h => h) (Or.inl ⟨by rfl, ?_⟩) hHeld ?_
    rotate_left
    · intro w hSw; (try dsimp only at hSw); (try simp only [List.getElem_toArray, List.getElem_cons_zero]); first | (go_simp; done) | (go_simp; with_reducible rfl)
    try simp only [List.getElem_toArray, List.getElem_cons_zero, Act.put, List.setIfInBounds_toArray, List.set_cons_zero, List.set_cons_succ]
    refine wpAnyH_take (i := 2) (v := ?_) rfl (by kernel_rfl) (by kernel_rfl) (by kernel_rfl) (fun _ _ _ h => h) (Or.inl ⟨by rfl, ?_⟩) hHeld ?_
    rotate_left
    · intro w hSw; (try dsimp only at hSw); (try simp only [List.getElem_toArray, List.getElem_cons_succ, List.getElem_cons_zero]); first | (go_simp; done) | (go_simp; with_reducible rfl)
    try simp only [List.getElem_toArray, List.getElem_cons_succ, List.getElem_cons_zero, Act.put, List.setIfInBounds_toArray, List.set_cons_zero, List.set_cons_succ]
    refine wpAnyH_take (i := 3) (v := ?_) rfl (by kernel_rfl) (by kernel_rfl) (by kernel_rfl) (fun _ _ _ h => h) (Or.inl ⟨by rfl, ?_⟩) hHeld ?_
    rotate_left
    · intro w hSw; (try dsimp only at hSw); (try simp only [List.getElem_toArray, List.getElem_cons_succ, List.getElem_cons_zero]); first | (go_simp; done) | (go_simp; with_reducible rfl)
    try simp only [List.getElem_toArray, List.getElem_cons_succ, List.getElem_cons_zero, Act.put, List.setIfInBounds_toArray, List.set_cons_zero, List.set_cons_succ]
    refine wpAnyH_ready (rs := [1]) (by kernel_rfl) (by simp) ?_
    refine AllReadyH.cons rfl (fun K hK => ?_) AllReadyH.nil
    try simp only [List.getElem_toArray, List.getElem_cons_succ, List.getElem_cons_zero]
    go_simp
    (with_reducible refine Calls.mono (AT0 uu.drew) ?_)
    rintro e w' ⟨v0, z0, rfl, rfl, hv00, hv01⟩
    obtain ⟨g0, hg0, hw0⟩ := RM v0 hv00 hv01
    clear hv00 hv01
    (try dsimp only)
    refine hK.out _ _ ?_ (fun hHeld2 => ?_)
    · (try dsimp only)
      (first | exact ⟨c0 z0, c1 z0, c2 z0, c3 z0⟩ | exact ⟨c0 uu.drew, c1 uu.drew, c2 uu.drew, c3 uu.drew⟩)
    clear hK K hHeld
    have hHeld := hHeld2
    clear hHeld2
    try simp only [List.getElem_toArray, List.getElem_cons_succ, List.getElem_cons_zero, Act.put, List.setIfInBounds_toArray, List.set_cons_zero, List.set_cons_succ]
    refine wpAnyH_take (i := 4) (v := ?_) rfl (by kernel_rfl) (by kernel_rfl) (by kernel_rfl) (fun _ _ _ h => h) (Or.inl ⟨by rfl, ?_⟩) hHeld ?_
    rotate_left
    · intro w hSw; (try dsimp only at hSw); (try simp only [List.getElem_toArray, List.getElem_cons_succ, List.getElem_cons_zero]); first | (go_simp; done) | (go_simp; with_reducible rfl)
    try simp only [List.getElem_toArray, List.getElem_cons_succ, List.getElem_cons_zero, Act.put, List.setIfInBounds_toArray, List.set_cons_zero, List.set_cons_succ]
    refine wpAnyH_take (i := 5) (v := ?_) rfl (by kernel_rfl) (by kernel_rfl) (by kernel_rfl) (fun _ _ _ h => h) (Or.inl ⟨by rfl, ?_⟩) hHeld ?_
    rotate_left
    · intro w hSw; (try dsimp only at hSw); (try simp only [List.getElem_toArray, List.getElem_cons_succ, List.getElem_cons_zero]); first | (go_simp; done) | (go_simp; with_reducible rfl)
    try simp only [List.getElem_toArray, List.getElem_cons_succ, List.getElem_cons_zero, Act.put, List.setIfInBounds_toArray, List.set_cons_zero, List.set_cons_succ]
    refine wpAnyH_done (by kernel_rfl) ?_ _
    clear hw0
    go_wp2_with fail
    refine wp_region_held_drew (S := (fun w' => w'.cell? ⟨B, 0, none⟩ = some (.int .i64 s.n) ∧ w'.cell? ⟨B, 1, none⟩ = some (.slice pa s.plus.length pc) ∧ w'.cell? ⟨B, 2, none⟩ = some (.slice ta s.times.length tc) ∧ w'.cell? ⟨B, 3, none⟩ = some (.slice ba s.below.length bc))) (by kernel_rfl) ?_ (fun hHeld => ?_)
    · (try dsimp only)
      (first | exact ⟨c0 z1, c1 z1, c2 z1, c3 z1⟩ | exact ⟨c0 z0.drew, c1 z0.drew, c2 z0.drew, c3 z0.drew⟩)
    refine wpAnyH_take (i := 0) (v := ?_) rfl (by kernel_rfl) (by kernel_rfl) (by kernel_rfl) (fun _ _ _ h => h) (Or.inl ⟨by rfl, ?_⟩) hHeld ?_
    rotate_left
    · intro w hSw; (try dsimp only at hSw); (try simp only [List.getElem_toArray, List.getElem_cons_zero]); first | (go_simp; done) | (go_simp; with_reducible rfl)
    try simp only [List.getElem_toArray, List.getElem_cons_zero, Act.put, List.setIfInBounds_toArray, List.set_cons_zero, List.set_cons_succ]
    refine wpAnyH_take (i := 2) (v := ?_) rfl (by kernel_rfl) (by kernel_rfl) (by kernel_rfl) (fun _ _ _ h => h) (Or.inl ⟨by rfl, ?_⟩) hHeld ?_
    rotate_left
    · intro w hSw; (try dsimp only at hSw); (try simp only [List.getElem_toArray, List.getElem_cons_succ, List.getElem_cons_zero]); first | (go_simp; done) | (go_simp; with_reducible rfl)
    try simp only [List.getElem_toArray, List.getElem_cons_succ, List.getElem_cons_zero, Act.put, List.setIfInBounds_toArray, List.set_cons_zero, List.set_cons_succ]
    refine wpAnyH_take (i := 3) (v := ?_) rfl (by kernel_rfl) (by kernel_rfl) (by kernel_rfl) (fun _ _ _ h => h) (Or.inl ⟨by rfl, ?_⟩) hHeld ?_
    rotate_left
    · intro w hSw; (try dsimp only at hSw); (try simp only [List.getElem_toArray, List.getElem_cons_succ, List.getElem_cons_zero]); first | (go_simp; done) | (go_simp; with_reducible rfl)
    try simp only [List.getElem_toArray, List.getElem_cons_succ, List.getElem_cons_zero, Act.put, List.setIfInBounds_toArray, List.set_cons_zero, List.set_cons_succ]
    refine wpAnyH_ready (rs := [1]) (by kernel_rfl) (by simp) ?_
    refine AllReadyH.cons rfl (fun K hK => ?_) AllReadyH.nil
    try simp only [List.getElem_toArray, List.getElem_cons_succ, List.getElem_cons_zero]
    go_simp
    (with_reducible refine Calls.mono (AT1 z0.drew) ?_)
    rintro e w' ⟨v1, z1, rfl, rfl, hv10, hv11⟩
    obtain ⟨g1, hg1, hw1⟩ := RM v1 hv10 hv11
    clear hv10 hv11
    (try dsimp only)
    refine hK.out _ _ ?_ (fun hHeld2 => ?_)
    · (try dsimp only)
      (first | exact ⟨c0 z1, c1 z1, c2 z1, c3 z1⟩ | exact ⟨c0 z0.drew, c1 z0.drew, c2 z0.drew, c3 z0.drew⟩)
    clear hK K hHeld
    have hHeld := hHeld2
    clear hHeld2
    try simp only [List.getElem_toArray, List.getElem_cons_succ, List.getElem_cons_zero, Act.put, List.setIfInBounds_toArray, List.set_cons_zero, List.set_cons_succ]
    refine wpAnyH_take (i := 4) (v := ?_) rfl (by kernel_rfl) (by kernel_rfl) (by kernel_rfl) (fun _ _ _ h => h) (Or.inl ⟨by rfl, ?_⟩) hHeld ?_
    rotate_left
    · intro w hSw; (try dsimp only at hSw); (try simp only [List.getElem_toArray, List.getElem_cons_succ, List.getElem_cons_zero]); first | (go_simp; done) | (go_simp; with_reducible rfl)
    try simp only [List.getElem_toArray, List.getElem_cons_succ, List.getElem_cons_zero, Act.put, List.setIfInBounds_toArray, List.set_cons_zero, List.set_cons_succ]
    refine wpAnyH_take (i := 5) (v := ?_) rfl (by kernel_rfl) (by kernel_rfl) (by kernel_rfl) (fun _ _ _ h => h) (Or.inl ⟨by rfl, ?_⟩) hHeld ?_
    rotate_left
    · intro w hSw; (try dsimp only at hSw); (try simp only [List.getElem_toArray, List.getElem_cons_succ, List.getElem_cons_zero]); first | (go_simp; done) | (go_simp; with_reducible rfl)
    try simp only [List.getElem_toArray, List.getElem_cons_succ, List.getElem_cons_zero, Act.put, List.setIfInBounds_toArray, List.set_cons_zero, List.set_cons_succ]
    refine wpAnyH_done (by kernel_rfl) ?_ _
    clear hw1
    go_wp2_with fail
    refine wp_region_held_drew (S := (fun w' => w'.cell? ⟨B, 0, none⟩ = some (.int .i64 s.n) ∧ w'.cell? ⟨B, 1, none⟩ = some (.slice pa s.plus.length pc) ∧ w'.cell? ⟨B, 2, none⟩ = some (.slice ta s.times.length tc) ∧ w'.cell? ⟨B, 3, none⟩ = some (.slice ba s.below.length bc))) (by kernel_rfl) ?_ (fun hHeld => ?_)
    · (try dsimp only)
      (first | exact ⟨c0 z2, c1 z2, c2 z2, c3 z2⟩ | exact ⟨c0 z1.drew, c1 z1.drew, c2 z1.drew, c3 z1.drew⟩)
    refine wpAnyH_take (i := 0) (v := ?_) rfl (by kernel_rfl) (by kernel_rfl) (by kernel_rfl) (fun _ _ _ h => h) (Or.inl ⟨by rfl, ?_⟩) hHeld ?_
    rotate_left
    · intro w hSw; (try dsimp only at hSw); (try simp only [List.getElem_toArray, List.getElem_cons_zero]); first | (go_simp; done) | (go_simp; with_reducible rfl)
    try simp only [List.getElem_toArray, List.getElem_cons_zero, Act.put, List.setIfInBounds_toArray, List.set_cons_zero, List.set_cons_succ]
    refine wpAnyH_take (i := 2) (v := ?_) rfl (by kernel_rfl) (by kernel_rfl) (by kernel_rfl) (fun _ _ _ h => h) (Or.inl ⟨by rfl, ?_⟩) hHeld ?_
    rotate_left
    · intro w hSw; (try dsimp only at hSw); (try simp only [List.getElem_toArray, List.getElem_cons_succ, List.getElem_cons_zero]); first | (go_simp; done) | (go_simp; with_reducible rfl)
    try simp only [List.getElem_toArray, List.getElem_cons_succ, List.getElem_cons_zero, Act.put, List.setIfInBounds_toArray, List.set_cons_zero, List.set_cons_succ]
    refine wpAnyH_take (i := 3) (v := ?_) rfl (by kernel_rfl) (by kernel_rfl) (by kernel_rfl) (fun _ _ _ h => h) (Or.inl ⟨by rfl, ?_⟩) hHeld ?_
    rotate_left
    · intro w hSw; (try dsimp only at hSw); (try simp only [List.getElem_toArray, List.getElem_cons_succ, List.getElem_cons_zero]); first | (go_simp; done) | (go_simp; with_reducible rfl)
    try simp only [List.getElem_toArray, List.getElem_cons_succ, List.getElem_cons_zero, Act.put, List.setIfInBounds_toArray, List.set_cons_zero, List.set_cons_succ]
    refine wpAnyH_ready (rs := [1]) (by kernel_rfl) (by simp) ?_
    refine AllReadyH.cons rfl (fun K hK => ?_) AllReadyH.nil
    try simp only [List.getElem_toArray, List.getElem_cons_succ, List.getElem_cons_zero]
    go_simp
    (with_reducible refine Calls.mono (AT2 z1.drew) ?_)
    rintro e w' ⟨v2, z2, rfl, rfl, hv20, hv21⟩
    obtain ⟨g2, hg2, hw2⟩ := RM v2 hv20 hv21
    clear hv20 hv21
    (try dsimp only)
    refine hK.out _ _ ?_ (fun hHeld2 => ?_)
    · (try dsimp only)
      (first | exact ⟨c0 z2, c1 z2, c2 z2, c3 z2⟩ | exact ⟨c0 z1.drew, c1 z1.drew, c2 z1.drew, c3 z1.drew⟩)
    clear hK K hHeld
    have hHeld := hHeld2
    clear hHeld2
    try simp only [List.getElem_toArray, List.getElem_cons_succ, List.getElem_cons_zero, Act.put, List.setIfInBounds_toArray, List.set_cons_zero, List.set_cons_succ]
    refine wpAnyH_take (i := 4) (v := ?_) rfl (by kernel_rfl) (by kernel_rfl) (by kernel_rfl) (fun _ _ _ h => h) (Or.inl ⟨by rfl, ?_⟩) hHeld ?_
    rotate_left
    · intro w hSw; (try dsimp only at hSw); (try simp only [List.getElem_toArray, List.getElem_cons_succ, List.getElem_cons_zero]); first | (go_simp; done) | (go_simp; with_reducible rfl)
    try simp only [List.getElem_toArray, List.getElem_cons_succ, List.getElem_cons_zero, Act.put, List.setIfInBounds_toArray, List.set_cons_zero, List.set_cons_succ]
    refine wpAnyH_take (i := 5) (v := ?_) rfl (by kernel_rfl) (by kernel_rfl) (by kernel_rfl) (fun _ _ _ h => h) (Or.inl ⟨by rfl, ?_⟩) hHeld ?_
    rotate_left
    · intro w hSw; (try dsimp only at hSw); (try simp only [List.getElem_toArray, List.getElem_cons_succ, List.getElem_cons_zero]); first | (go_simp; done) | (go_simp; with_reducible rfl)
    try simp only [List.getElem_toArray, List.getElem_cons_succ, List.getElem_cons_zero, Act.put, List.setIfInBounds_toArray, List.set_cons_zero, List.set_cons_succ]
    refine wpAnyH_done (by kernel_rfl) ?_ _
    clear hw2
    go_wp2_with fail
    have gbx := is.tab.addG hg1 hg2
    have gab := is.tab.mulG hg0 hg1
    have gax := is.tab.mulG hg0 hg2
    have dl := (is.three g0 g1 g2 hg0 hg1 hg2).dl
    have ADD : ∀ y : Ext W2, Calls Try.prog 14 #[.agg #[.int .i64 s.n, .slice pa s.plus.length pc, .slice ta s.times.length tc, .slice ba s.below.length bc], .int .i64 g1, .int .i64 g2] y.w (Ans W2 (.int .i64 (s.add g1 g2))) := fun y => addGrades_ans h1 g1 g2 _ (.inl ⟨is, hg1, hg2, rfl⟩) y
    have MUL1 : ∀ y : Ext W2, Calls Try.prog 17 #[.agg #[.int .i64 s.n, .slice pa s.plus.length pc, .slice ta s.times.length tc, .slice ba s.below.length bc], .int .i64 g0, .int .i64 (s.add g1 g2)] y.w (Ans W2 (.int .i64 (s.mul g0 (s.add g1 g2)))) := fun y => multiplyGrades_ans h1 _ _ _ (.inl ⟨is, hg0, gbx, rfl⟩) y
    have MUL2 : ∀ y : Ext W2, Calls Try.prog 17 #[.agg #[.int .i64 s.n, .slice pa s.plus.length pc, .slice ta s.times.length tc, .slice ba s.below.length bc], .int .i64 g0, .int .i64 g1] y.w (Ans W2 (.int .i64 (s.mul g0 g1))) := fun y => multiplyGrades_ans h1 _ _ _ (.inl ⟨is, hg0, hg1, rfl⟩) y
    have MUL3 : ∀ y : Ext W2, Calls Try.prog 17 #[.agg #[.int .i64 s.n, .slice pa s.plus.length pc, .slice ta s.times.length tc, .slice ba s.below.length bc], .int .i64 g0, .int .i64 g2] y.w (Ans W2 (.int .i64 (s.mul g0 g2))) := fun y => multiplyGrades_ans h1 _ _ _ (.inl ⟨is, hg0, hg2, rfl⟩) y
    have SUM : ∀ (y : Ext W2) (pq : Nat), (∀ i x, [s.mul g0 g1, s.mul g0 g2][i]? = some x → y.w.cell? ⟨pq, 0 + i, none⟩ = some (.int .i64 x)) → Calls Try.prog 18 #[.agg #[.int .i64 s.n, .slice pa s.plus.length pc, .slice ta s.times.length tc, .slice ba s.below.length bc], .slice (some ⟨pq, 0, none⟩) 2 2] y.w (Ans y.w (.int .i64 (s.mul g0 (s.add g1 g2)))) := fun y pq hc =>
      sumGrades_ans (c := 2) (l := [s.mul g0 g1, s.mul g0 g2]) (h1.ext y) (.inr ⟨pq, 0, rfl, hc⟩) (by simp) _ (.inl ⟨is, by simp [gab, gax], by rw [dl]; simp [Sys.sumL, (is.one _ gab).z]⟩) (Ext.self y.w)
    have hqq : (s.mul g0 (s.add g1 g2) == s.mul g0 (s.add g1 g2)) = true := by simp
    have hqq2 : (s.mul g0 (s.add g1 g2) != s.mul g0 (s.add g1 g2)) = false := by simp
    clear gbx gab gax dl
    refine wp_region_held_drew (S := (fun w' => w'.cell? ⟨B, 0, none⟩ = some (.int .i64 s.n) ∧ w'.cell? ⟨B, 1, none⟩ = some (.slice pa s.plus.length pc) ∧ w'.cell? ⟨B, 2, none⟩ = some (.slice ta s.times.length tc) ∧ w'.cell? ⟨B, 3, none⟩ = some (.slice ba s.below.length bc))) (by kernel_rfl) ?_ (fun hHeld => ?_)
    · (try dsimp only)
      (first | exact ⟨c0 ((q3.alloc _).trans q4), c1 ((q3.alloc _).trans q4), c2 ((q3.alloc _).trans q4), c3 ((q3.alloc _).trans q4)⟩ | exact ⟨c0 (q3.alloc _), c1 (q3.alloc _), c2 (q3.alloc _), c3 (q3.alloc _)⟩ | exact ⟨c0 q3, c1 q3, c2 q3, c3 q3⟩ | exact ⟨c0 q2, c1 q2, c2 q2, c3 q2⟩ | exact ⟨c0 q1, c1 q1, c2 q1, c3 q1⟩ | exact ⟨c0 q0, c1 q0, c2 q0, c3 q0⟩ | exact ⟨c0 z2.drew, c1 z2.drew, c2 z2.drew, c3 z2.drew⟩)
    refine wpAnyH_take (i := 0) (v := ?_) rfl (by kernel_rfl) (by kernel_rfl) (by kernel_rfl) (fun _ _ _ h => h) (Or.inl ⟨by rfl, ?_⟩) hHeld ?_
    rotate_left
    · intro w hSw; (try dsimp only at hSw); (try simp only [List.getElem_toArray, List.getElem_cons_zero]); first | (go_simp; done) | (go_simp; with_reducible rfl)
    try simp only [List.getElem_toArray, List.getElem_cons_zero, Act.put, List.setIfInBounds_toArray, List.set_cons_zero, List.set_cons_succ]
    refine wpAnyH_take (i := 1) (v := ?_) rfl (by kernel_rfl) (by kernel_rfl) (by kernel_rfl) (fun _ _ _ h => h) (Or.inl ⟨by rfl, ?_⟩) hHeld ?_
    rotate_left
    · intro w hSw; (try dsimp only at hSw); (try simp only [List.getElem_toArray, List.getElem_cons_succ, List.getElem_cons_zero]); first | (go_simp; done) | (go_simp; with_reducible rfl)
    try simp only [List.getElem_toArray, List.getElem_cons_succ, List.getElem_cons_zero, Act.put, List.setIfInBounds_toArray, List.set_cons_zero, List.set_cons_succ]
    refine wpAnyH_take (i := 2) (v := ?_) rfl (by kernel_rfl) (by kernel_rfl) (by kernel_rfl) (fun _ _ _ h => h) (Or.inl ⟨by rfl, ?_⟩) hHeld ?_
    rotate_left
    · intro w hSw; (try dsimp only at hSw); (try simp only [List.getElem_toArray, List.getElem_cons_succ, List.getElem_cons_zero]); first | (go_simp; done) | (go_simp; with_reducible rfl)
    try simp only [List.getElem_toArray, List.getElem_cons_succ, List.getElem_cons_zero, Act.put, List.setIfInBounds_toArray, List.set_cons_zero, List.set_cons_succ]
    refine wpAnyH_take (i := 3) (v := ?_) rfl (by kernel_rfl) (by kernel_rfl) (by kernel_rfl) (fun _ _ _ h => h) (Or.inl ⟨by rfl, ?_⟩) hHeld ?_
    rotate_left
    · intro w hSw; (try dsimp only at hSw); (try simp only [List.getElem_toArray, List.getElem_cons_succ, List.getElem_cons_zero]); first | (go_simp; done) | (go_simp; with_reducible rfl)
    try simp only [List.getElem_toArray, List.getElem_cons_succ, List.getElem_cons_zero, Act.put, List.setIfInBounds_toArray, List.set_cons_zero, List.set_cons_succ]
    refine wpAnyH_take (i := 4) (v := ?_) rfl (by kernel_rfl) (by kernel_rfl) (by kernel_rfl) (fun _ _ _ h => h) (Or.inl ⟨by rfl, ?_⟩) hHeld ?_
    rotate_left
    · intro w hSw; (try dsimp only at hSw); (try simp only [List.getElem_toArray, List.getElem_cons_succ, List.getElem_cons_zero]); first | (go_simp; done) | (go_simp; with_reducible rfl)
    try simp only [List.getElem_toArray, List.getElem_cons_succ, List.getElem_cons_zero, Act.put, List.setIfInBounds_toArray, List.set_cons_zero, List.set_cons_succ]
    refine wpAnyH_take (i := 7) (v := ?_) rfl (by kernel_rfl) (by kernel_rfl) (by kernel_rfl) (fun _ _ _ h => h) (Or.inl ⟨by rfl, ?_⟩) hHeld ?_
    rotate_left
    · intro w hSw; (try dsimp only at hSw); (try simp only [List.getElem_toArray, List.getElem_cons_succ, List.getElem_cons_zero]); first | (go_simp; done) | (go_simp; with_reducible rfl)
    try simp only [List.getElem_toArray, List.getElem_cons_succ, List.getElem_cons_zero, Act.put, List.setIfInBounds_toArray, List.set_cons_zero, List.set_cons_succ]
    refine wpAnyH_take (i := 8) (v := ?_) rfl (by kernel_rfl) (by kernel_rfl) (by kernel_rfl) (fun _ _ _ h => h) (Or.inl ⟨by rfl, ?_⟩) hHeld ?_
    rotate_left
    · intro w hSw; (try dsimp only at hSw); (try simp only [List.getElem_toArray, List.getElem_cons_succ, List.getElem_cons_zero]); first | (go_simp; done) | (go_simp; with_reducible rfl)
    try simp only [List.getElem_toArray, List.getElem_cons_succ, List.getElem_cons_zero, Act.put, List.setIfInBounds_toArray, List.set_cons_zero, List.set_cons_succ]
    refine wpAnyH_take (i := 9) (v := ?_) rfl (by kernel_rfl) (by kernel_rfl) (by kernel_rfl) (fun _ _ _ h => h) (Or.inl ⟨by rfl, ?_⟩) hHeld ?_
    rotate_left
    · intro w hSw; (try dsimp only at hSw); (try simp only [List.getElem_toArray, List.getElem_cons_succ, List.getElem_cons_zero]); first | (go_simp; done) | (go_simp; with_reducible rfl)
    try simp only [List.getElem_toArray, List.getElem_cons_succ, List.getElem_cons_zero, Act.put, List.setIfInBounds_toArray, List.set_cons_zero, List.set_cons_succ]
    refine wpAnyH_take (i := 10) (v := ?_) rfl (by kernel_rfl) (by kernel_rfl) (by kernel_rfl) (fun _ _ _ h => h) (Or.inl ⟨by rfl, ?_⟩) hHeld ?_
    rotate_left
    · intro w hSw; (try dsimp only at hSw); (try simp only [List.getElem_toArray, List.getElem_cons_succ, List.getElem_cons_zero]); first | (go_simp; done) | (go_simp; with_reducible rfl)
    try simp only [List.getElem_toArray, List.getElem_cons_succ, List.getElem_cons_zero, Act.put, List.setIfInBounds_toArray, List.set_cons_zero, List.set_cons_succ]
    refine wpAnyH_take (i := 12) (v := ?_) rfl (by kernel_rfl) (by kernel_rfl) (by kernel_rfl) (fun _ _ _ h => h) (Or.inl ⟨by rfl, ?_⟩) hHeld ?_
    rotate_left
    · intro w hSw; (try dsimp only at hSw); (try simp only [List.getElem_toArray, List.getElem_cons_succ, List.getElem_cons_zero]); first | (go_simp; done) | (go_simp; with_reducible rfl)
    try simp only [List.getElem_toArray, List.getElem_cons_succ, List.getElem_cons_zero, Act.put, List.setIfInBounds_toArray, List.set_cons_zero, List.set_cons_succ]
    refine wpAnyH_take (i := 13) (v := ?_) rfl (by kernel_rfl) (by kernel_rfl) (by kernel_rfl) (fun _ _ _ h => h) (Or.inl ⟨by rfl, ?_⟩) hHeld ?_
    rotate_left
    · intro w hSw; (try dsimp only at hSw); (try simp only [List.getElem_toArray, List.getElem_cons_succ, List.getElem_cons_zero]); first | (go_simp; done) | (go_simp; with_reducible rfl)
    try simp only [List.getElem_toArray, List.getElem_cons_succ, List.getElem_cons_zero, Act.put, List.setIfInBounds_toArray, List.set_cons_zero, List.set_cons_succ]
    refine wpAnyH_take (i := 14) (v := ?_) rfl (by kernel_rfl) (by kernel_rfl) (by kernel_rfl) (fun _ _ _ h => h) (Or.inl ⟨by rfl, ?_⟩) hHeld ?_
    rotate_left
    · intro w hSw; (try dsimp only at hSw); (try simp only [List.getElem_toArray, List.getElem_cons_succ, List.getElem_cons_zero]); first | (go_simp; done) | (go_simp; with_reducible rfl)
    try simp only [List.getElem_toArray, List.getElem_cons_succ, List.getElem_cons_zero, Act.put, List.setIfInBounds_toArray, List.set_cons_zero, List.set_cons_succ]
    refine wpAnyH_ready (rs := [5]) (by kernel_rfl) (by simp) ?_
    refine AllReadyH.cons rfl (fun K hK => ?_) ?_
    · skip
      try simp only [List.getElem_toArray, List.getElem_cons_succ, List.getElem_cons_zero]
      go_simp
      (with_reducible refine Calls.mono (ADD z2.drew) ?_)
      rintro e w' ⟨rfl, q0, rfl⟩
      refine hK.out _ _ ?_ (fun hHeld2 => ?_)
      · (try dsimp only)
        (first | exact ⟨c0 ((q3.alloc _).trans q4), c1 ((q3.alloc _).trans q4), c2 ((q3.alloc _).trans q4), c3 ((q3.alloc _).trans q4)⟩ | exact ⟨c0 (q3.alloc _), c1 (q3.alloc _), c2 (q3.alloc _), c3 (q3.alloc _)⟩ | exact ⟨c0 q3, c1 q3, c2 q3, c3 q3⟩ | exact ⟨c0 q2, c1 q2, c2 q2, c3 q2⟩ | exact ⟨c0 q1, c1 q1, c2 q1, c3 q1⟩ | exact ⟨c0 q0, c1 q0, c2 q0, c3 q0⟩ | exact ⟨c0 z2.drew, c1 z2.drew, c2 z2.drew, c3 z2.drew⟩)
      clear hK K hHeld
      have hHeld := hHeld2
      clear hHeld2
      try simp only [List.getElem_toArray, List.getElem_cons_succ, List.getElem_cons_zero, Act.put, List.setIfInBounds_toArray, List.set_cons_zero, List.set_cons_succ]
      refine wpAnyH_ready (rs := [6]) (by kernel_rfl) (by simp) ?_
      refine AllReadyH.cons rfl (fun K hK => ?_) ?_
      · skip
        try simp only [List.getElem_toArray, List.getElem_cons_succ, List.getElem_cons_zero]
        go_simp
        (with_reducible refine Calls.mono (MUL1 q0) ?_)
        rintro e w' ⟨rfl, q1, rfl⟩
        refine hK.out _ _ ?_ (fun hHeld2 => ?_)
        · (try dsimp only)
          (first | exact ⟨c0 ((q3.alloc _).trans q4), c1 ((q3.alloc _).trans q4), c2 ((q3.alloc _).trans q4), c3 ((q3.alloc _).trans q4)⟩ | exact ⟨c0 (q3.alloc _), c1 (q3.alloc _), c2 (q3.alloc _), c3 (q3.alloc _)⟩ | exact ⟨c0 q3, c1 q3, c2 q3, c3 q3⟩ | exact ⟨c0 q2, c1 q2, c2 q2, c3 q2⟩ | exact ⟨c0 q1, c1 q1, c2 q1, c3 q1⟩ | exact ⟨c0 q0, c1 q0, c2 q0, c3 q0⟩ | exact ⟨c0 z2.drew, c1 z2.drew, c2 z2.drew, c3 z2.drew⟩)
        clear hK K hHeld
        have hHeld := hHeld2
        clear hHeld2
        try simp only [List.getElem_toArray, List.getElem_cons_succ, List.getElem_cons_zero, Act.put, List.setIfInBounds_toArray, List.set_cons_zero, List.set_cons_succ]
        refine wpAnyH_ready (rs := [11]) (by kernel_rfl) (by simp) ?_
        refine AllReadyH.cons rfl (fun K hK => ?_) ?_
        · skip
          try simp only [List.getElem_toArray, List.getElem_cons_succ, List.getElem_cons_zero]
          go_simp
          (with_reducible refine Calls.mono (MUL2 q1) ?_)
          rintro e w' ⟨rfl, q2, rfl⟩
          refine hK.out _ _ ?_ (fun hHeld2 => ?_)
          · (try dsimp only)
            (first | exact ⟨c0 ((q3.alloc _).trans q4), c1 ((q3.alloc _).trans q4), c2 ((q3.alloc _).trans q4), c3 ((q3.alloc _).trans q4)⟩ | exact ⟨c0 (q3.alloc _), c1 (q3.alloc _), c2 (q3.alloc _), c3 (q3.alloc _)⟩ | exact ⟨c0 q3, c1 q3, c2 q3, c3 q3⟩ | exact ⟨c0 q2, c1 q2, c2 q2, c3 q2⟩ | exact ⟨c0 q1, c1 q1, c2 q1, c3 q1⟩ | exact ⟨c0 q0, c1 q0, c2 q0, c3 q0⟩ | exact ⟨c0 z2.drew, c1 z2.drew, c2 z2.drew, c3 z2.drew⟩)
          clear hK K hHeld
          have hHeld := hHeld2
          clear hHeld2
          try simp only [List.getElem_toArray, List.getElem_cons_succ, List.getElem_cons_zero, Act.put, List.setIfInBounds_toArray, List.set_cons_zero, List.set_cons_succ]
          refine wpAnyH_ready (rs := [15]) (by kernel_rfl) (by simp) ?_
          refine AllReadyH.cons rfl (fun K hK => ?_) ?_
          · skip
            try simp only [List.getElem_toArray, List.getElem_cons_succ, List.getElem_cons_zero]
            go_simp
            (with_reducible refine Calls.mono (MUL3 q2) ?_)
            rintro e w' ⟨rfl, q3, rfl⟩
            refine hK.out _ _ ?_ (fun hHeld2 => ?_)
            · (try dsimp only)
              (first | exact ⟨c0 ((q3.alloc _).trans q4), c1 ((q3.alloc _).trans q4), c2 ((q3.alloc _).trans q4), c3 ((q3.alloc _).trans q4)⟩ | exact ⟨c0 (q3.alloc _), c1 (q3.alloc _), c2 (q3.alloc _), c3 (q3.alloc _)⟩ | exact ⟨c0 q3, c1 q3, c2 q3, c3 q3⟩ | exact ⟨c0 q2, c1 q2, c2 q2, c3 q2⟩ | exact ⟨c0 q1, c1 q1, c2 q1, c3 q1⟩ | exact ⟨c0 q0, c1 q0, c2 q0, c3 q0⟩ | exact ⟨c0 z2.drew, c1 z2.drew, c2 z2.drew, c3 z2.drew⟩)
            clear hK K hHeld
            have hHeld := hHeld2
            clear hHeld2
            try simp only [List.getElem_toArray, List.getElem_cons_succ, List.getElem_cons_zero, Act.put, List.setIfInBounds_toArray, List.set_cons_zero, List.set_cons_succ]
            refine wpAnyH_ready (rs := [16]) (by kernel_rfl) (by simp) ?_
            refine AllReadyH.cons rfl (fun K hK => ?_) ?_
            · skip
              try simp only [List.getElem_toArray, List.getElem_cons_succ, List.getElem_cons_zero]
              go_simp
              refine hK.out _ _ ?_ (fun hHeld2 => ?_)
              · (try dsimp only)
                (first | exact ⟨c0 ((q3.alloc _).trans q4), c1 ((q3.alloc _).trans q4), c2 ((q3.alloc _).trans q4), c3 ((q3.alloc _).trans q4)⟩ | exact ⟨c0 (q3.alloc _), c1 (q3.alloc _), c2 (q3.alloc _), c3 (q3.alloc _)⟩ | exact ⟨c0 q3, c1 q3, c2 q3, c3 q3⟩ | exact ⟨c0 q2, c1 q2, c2 q2, c3 q2⟩ | exact ⟨c0 q1, c1 q1, c2 q1, c3 q1⟩ | exact ⟨c0 q0, c1 q0, c2 q0, c3 q0⟩ | exact ⟨c0 z2.drew, c1 z2.drew, c2 z2.drew, c3 z2.drew⟩)
              clear hK K hHeld
              have hHeld := hHeld2
              clear hHeld2
              try simp only [List.getElem_toArray, List.getElem_cons_succ, List.getElem_cons_zero, Act.put, List.setIfInBounds_toArray, List.set_cons_zero, List.set_cons_succ]
              refine wpAnyH_ready (rs := [17]) (by kernel_rfl) (by simp) ?_
              refine AllReadyH.cons rfl (fun K hK => ?_) ?_
              · skip
                try simp only [List.getElem_toArray, List.getElem_cons_succ, List.getElem_cons_zero]
                go_simp
                refine Calls.mono (SUM (q3.alloc (.cells #[.int .i64 (s.mul g0 g1), .int .i64 (s.mul g0 g2)] 3)) q3.w.heap.size (fun i x hx => by rw [show (q3.alloc (.cells #[.int .i64 (s.mul g0 g1), .int .i64 (s.mul g0 g2)] 3)).w = q3.w.alloc (.cells #[.int .i64 (s.mul g0 g1), .int .i64 (s.mul g0 g2)] 3) from rfl, World.cell?_alloc_at _ _ _ _ rfl]; rcases i with _ | _ | i <;> simp at hx ⊢ <;> exact hx)) ?_
                rintro e w' ⟨rfl, q4, rfl⟩
                refine hK.out _ _ ?_ (fun hHeld2 => ?_)
                · (try dsimp only)
                  (first | exact ⟨c0 ((q3.alloc _).trans q4), c1 ((q3.alloc _).trans q4), c2 ((q3.alloc _).trans q4), c3 ((q3.alloc _).trans q4)⟩ | exact ⟨c0 (q3.alloc _), c1 (q3.alloc _), c2 (q3.alloc _), c3 (q3.alloc _)⟩ | exact ⟨c0 q3, c1 q3, c2 q3, c3 q3⟩ | exact ⟨c0 q2, c1 q2, c2 q2, c3 q2⟩ | exact ⟨c0 q1, c1 q1, c2 q1, c3 q1⟩ | exact ⟨c0 q0, c1 q0, c2 q0, c3 q0⟩ | exact ⟨c0 z2.drew, c1 z2.drew, c2 z2.drew, c3 z2.drew⟩)
                clear hK K hHeld
                have hHeld := hHeld2
                clear hHeld2
                try simp only [List.getElem_toArray, List.getElem_cons_succ, List.getElem_cons_zero, Act.put, List.setIfInBounds_toArray, List.set_cons_zero, List.set_cons_succ]
                refine wpAnyH_take (i := 18) (v := ?_) rfl (by kernel_rfl) (by kernel_rfl) (by kernel_rfl) (fun _ _ _ h => h) (Or.inl ⟨by rfl, ?_⟩) hHeld ?_
                rotate_left
                · intro w hSw; (try dsimp only at hSw); (try simp only [List.getElem_toArray, List.getElem_cons_succ, List.getElem_cons_zero]); first | (go_simp; done) | (go_simp; with_reducible rfl)
                try simp only [List.getElem_toArray, List.getElem_cons_succ, List.getElem_cons_zero, Act.put, List.setIfInBounds_toArray, List.set_cons_zero, List.set_cons_succ]
                refine wpAnyH_done (by kernel_rfl) ?_ _
                obtain ⟨z3, hz3⟩ : ∃ z : Ext W2, z.w = q4.w := ⟨(q3.alloc _).trans q4, rfl⟩
                rw [← hz3]
                clear hz3 hHeld ADD MUL1 MUL2 MUL3 SUM hqq hqq2 AT0 AT1 AT2 RM hn0 hn1
                obtain ⟨gj, j1, j2, j3⟩ := join_at is hg0 hg1
                have LJ := le_join is hg0 hg1
                have JO1 : ∀ y : Ext W2, Calls Try.prog 15 #[.agg #[.int .i64 s.n, .slice pa s.plus.length pc, .slice ta s.times.length tc, .slice ba s.below.length bc], .int .i64 g0, .int .i64 g1] y.w (Ans W2 (.int .i64 (s.join g0 g1))) := fun y => joinGrades_ans h1 _ _ _ (.inl ⟨is, hg0, hg1, rfl⟩) y
                have JO2 : ∀ y : Ext W2, Calls Try.prog 15 #[.agg #[.int .i64 s.n, .slice pa s.plus.length pc, .slice ta s.times.length tc, .slice ba s.below.length bc], .int .i64 g1, .int .i64 g0] y.w (Ans W2 (.int .i64 (s.join g0 g1))) := fun y => joinGrades_ans h1 _ _ _ (.inl ⟨is, hg1, hg0, (join_comm g0 g1).symm⟩) y
                have ME1 : ∀ y : Ext W2, Calls Try.prog 20 #[.agg #[.int .i64 s.n, .slice pa s.plus.length pc, .slice ta s.times.length tc, .slice ba s.below.length bc], .int .i64 g0, .int .i64 g1] y.w (Ans W2 (.int .i64 (s.meet g0 g1))) := fun y => meetGrades_ans h1 _ _ _ (.inl ⟨is, hg0, hg1, rfl⟩) y
                have MA := @meet_at s g0 g1
                have BEL : ∀ (i j : Int) (p : Bool), G s i → G s j → s.le i j = p → ∀ y : Ext W2, Calls Try.prog 19 #[.agg #[.int .i64 s.n, .slice pa s.plus.length pc, .slice ta s.times.length tc, .slice ba s.below.length bc], .int .i64 i, .int .i64 j] y.w (Ans W2 (.bool p)) := fun i j p hi hj hp y => isBelow_ans h1 i j p (by rw [hp]; exact ⟨fun h => ⟨⟨is, hi, hj⟩, h⟩, fun h => h.2⟩) y
                generalize s.join g0 g1 = j at *
                generalize s.meet g0 g1 = m at *
                have B1 := BEL g0 j true hg0 gj j1
                have B2 := BEL g1 j true hg1 gj j2
                have hjj : (j != j) = false := by simp
                clear h1
                by_cases ej : j = g1
                · skip
                  have B4 := BEL g0 g1 true hg0 hg1 (by rw [LJ, decide_eq_true ej])
                  have hjb : (j == g1) = true := by simp [ej]
                  have EJ := Lib.hid ej
                  clear ej LJ
                  cases e3 : s.le g0 g2
                  · skip
                    have B5 := BEL g0 g2 false hg0 hg2 e3
                    clear e3
                    by_cases hm : m < 0
                    · skip
                      go_wp2_with (first | (go_at_call 19; (first | (with_reducible refine Calls.mono (B1 _) ?_) | (with_reducible refine Calls.mono (B2 _) ?_) | (with_reducible refine Calls.mono (B4 _) ?_) | (with_reducible refine Calls.mono (B5 _) ?_) | (with_reducible refine Calls.mono (B6 _) ?_) | (with_reducible refine Calls.mono (B7 _) ?_) | (with_reducible refine Calls.mono (B8 _) ?_) | (with_reducible refine Calls.mono (B9 _) ?_) | (with_reducible refine Calls.mono (BA _) ?_) | (with_reducible refine Calls.mono (BB _) ?_) | (with_reducible refine Calls.mono (BC _) ?_)); rintro e w' ⟨rfl, u, rfl⟩) | (go_at_call 15; (first | (with_reducible refine Calls.mono (JO1 _) ?_) | (with_reducible refine Calls.mono (JO2 _) ?_)); rintro e w' ⟨rfl, u, rfl⟩) | (go_at_call 20; (with_reducible refine Calls.mono (ME1 _) ?_); rintro e w' ⟨rfl, u, rfl⟩))
                      go_ret
                      exact law_end (hend _)
                    · skip
                      obtain ⟨gm, m1, m2, m3⟩ := MA hm
                      have B8 := BEL m g0 true gm hg0 m1
                      have B9 := BEL m g1 true gm hg1 m2
                      cases e1 : s.le g2 g0
                      · skip
                        have BA := BEL g2 g0 false hg2 hg0 e1
                        clear m3 m1 m2 j1 j2 j3 BEL MA e1
                        go_wp2_with (first | (go_at_call 19; (first | (with_reducible refine Calls.mono (B1 _) ?_) | (with_reducible refine Calls.mono (B2 _) ?_) | (with_reducible refine Calls.mono (B4 _) ?_) | (with_reducible refine Calls.mono (B5 _) ?_) | (with_reducible refine Calls.mono (B6 _) ?_) | (with_reducible refine Calls.mono (B7 _) ?_) | (with_reducible refine Calls.mono (B8 _) ?_) | (with_reducible refine Calls.mono (B9 _) ?_) | (with_reducible refine Calls.mono (BA _) ?_) | (with_reducible refine Calls.mono (BB _) ?_) | (with_reducible refine Calls.mono (BC _) ?_)); rintro e w' ⟨rfl, u, rfl⟩) | (go_at_call 15; (first | (with_reducible refine Calls.mono (JO1 _) ?_) | (with_reducible refine Calls.mono (JO2 _) ?_)); rintro e w' ⟨rfl, u, rfl⟩) | (go_at_call 20; (with_reducible refine Calls.mono (ME1 _) ?_); rintro e w' ⟨rfl, u, rfl⟩))
                        go_ret
                        exact law_end (hend _)
                      · skip
                        have BA := BEL g2 g0 true hg2 hg0 e1
                        cases e2 : s.le g2 g1
                        · skip
                          have BB := BEL g2 g1 false hg2 hg1 e2
                          clear m3 m1 m2 j1 j2 j3 BEL MA e1 e2
                          go_wp2_with (first | (go_at_call 19; (first | (with_reducible refine Calls.mono (B1 _) ?_) | (with_reducible refine Calls.mono (B2 _) ?_) | (with_reducible refine Calls.mono (B4 _) ?_) | (with_reducible refine Calls.mono (B5 _) ?_) | (with_reducible refine Calls.mono (B6 _) ?_) | (with_reducible refine Calls.mono (B7 _) ?_) | (with_reducible refine Calls.mono (B8 _) ?_) | (with_reducible refine Calls.mono (B9 _) ?_) | (with_reducible refine Calls.mono (BA _) ?_) | (with_reducible refine Calls.mono (BB _) ?_) | (with_reducible refine Calls.mono (BC _) ?_)); rintro e w' ⟨rfl, u, rfl⟩) | (go_at_call 15; (first | (with_reducible refine Calls.mono (JO1 _) ?_) | (with_reducible refine Calls.mono (JO2 _) ?_)); rintro e w' ⟨rfl, u, rfl⟩) | (go_at_call 20; (with_reducible refine Calls.mono (ME1 _) ?_); rintro e w' ⟨rfl, u, rfl⟩))
                          go_ret
                          exact law_end (hend _)
                        · skip
                          have BB := BEL g2 g1 true hg2 hg1 e2
                          have BC := BEL g2 m true hg2 gm (m3 g2 hg2 e1 e2)
                          clear m3 m1 m2 j1 j2 j3 BEL MA e1 e2
                          go_wp2_with (first | (go_at_call 19; (first | (with_reducible refine Calls.mono (B1 _) ?_) | (with_reducible refine Calls.mono (B2 _) ?_) | (with_reducible refine Calls.mono (B4 _) ?_) | (with_reducible refine Calls.mono (B5 _) ?_) | (with_reducible refine Calls.mono (B6 _) ?_) | (with_reducible refine Calls.mono (B7 _) ?_) | (with_reducible refine Calls.mono (B8 _) ?_) | (with_reducible refine Calls.mono (B9 _) ?_) | (with_reducible refine Calls.mono (BA _) ?_) | (with_reducible refine Calls.mono (BB _) ?_) | (with_reducible refine Calls.mono (BC _) ?_)); rintro e w' ⟨rfl, u, rfl⟩) | (go_at_call 15; (first | (with_reducible refine Calls.mono (JO1 _) ?_) | (with_reducible refine Calls.mono (JO2 _) ?_)); rintro e w' ⟨rfl, u, rfl⟩) | (go_at_call 20; (with_reducible refine Calls.mono (ME1 _) ?_); rintro e w' ⟨rfl, u, rfl⟩))
                          go_ret
                          exact law_end (hend _)
                  · skip
                    have B5 := BEL g0 g2 true hg0 hg2 e3
                    cases e4 : s.le g1 g2
                    · skip
                      have B6 := BEL g1 g2 false hg1 hg2 e4
                      clear e3 e4
                      by_cases hm : m < 0
                      · skip
                        go_wp2_with (first | (go_at_call 19; (first | (with_reducible refine Calls.mono (B1 _) ?_) | (with_reducible refine Calls.mono (B2 _) ?_) | (with_reducible refine Calls.mono (B4 _) ?_) | (with_reducible refine Calls.mono (B5 _) ?_) | (with_reducible refine Calls.mono (B6 _) ?_) | (with_reducible refine Calls.mono (B7 _) ?_) | (with_reducible refine Calls.mono (B8 _) ?_) | (with_reducible refine Calls.mono (B9 _) ?_) | (with_reducible refine Calls.mono (BA _) ?_) | (with_reducible refine Calls.mono (BB _) ?_) | (with_reducible refine Calls.mono (BC _) ?_)); rintro e w' ⟨rfl, u, rfl⟩) | (go_at_call 15; (first | (with_reducible refine Calls.mono (JO1 _) ?_) | (with_reducible refine Calls.mono (JO2 _) ?_)); rintro e w' ⟨rfl, u, rfl⟩) | (go_at_call 20; (with_reducible refine Calls.mono (ME1 _) ?_); rintro e w' ⟨rfl, u, rfl⟩))
                        go_ret
                        exact law_end (hend _)
                      · skip
                        obtain ⟨gm, m1, m2, m3⟩ := MA hm
                        have B8 := BEL m g0 true gm hg0 m1
                        have B9 := BEL m g1 true gm hg1 m2
                        cases e1 : s.le g2 g0
                        · skip
                          have BA := BEL g2 g0 false hg2 hg0 e1
                          clear m3 m1 m2 j1 j2 j3 BEL MA e1
                          go_wp2_with (first | (go_at_call 19; (first | (with_reducible refine Calls.mono (B1 _) ?_) | (with_reducible refine Calls.mono (B2 _) ?_) | (with_reducible refine Calls.mono (B4 _) ?_) | (with_reducible refine Calls.mono (B5 _) ?_) | (with_reducible refine Calls.mono (B6 _) ?_) | (with_reducible refine Calls.mono (B7 _) ?_) | (with_reducible refine Calls.mono (B8 _) ?_) | (with_reducible refine Calls.mono (B9 _) ?_) | (with_reducible refine Calls.mono (BA _) ?_) | (with_reducible refine Calls.mono (BB _) ?_) | (with_reducible refine Calls.mono (BC _) ?_)); rintro e w' ⟨rfl, u, rfl⟩) | (go_at_call 15; (first | (with_reducible refine Calls.mono (JO1 _) ?_) | (with_reducible refine Calls.mono (JO2 _) ?_)); rintro e w' ⟨rfl, u, rfl⟩) | (go_at_call 20; (with_reducible refine Calls.mono (ME1 _) ?_); rintro e w' ⟨rfl, u, rfl⟩))
                          go_ret
                          exact law_end (hend _)
                        · skip
                          have BA := BEL g2 g0 true hg2 hg0 e1
                          cases e2 : s.le g2 g1
                          · skip
                            have BB := BEL g2 g1 false hg2 hg1 e2
                            clear m3 m1 m2 j1 j2 j3 BEL MA e1 e2
                            go_wp2_with (first | (go_at_call 19; (first | (with_reducible refine Calls.mono (B1 _) ?_) | (with_reducible refine Calls.mono (B2 _) ?_) | (with_reducible refine Calls.mono (B4 _) ?_) | (with_reducible refine Calls.mono (B5 _) ?_) | (with_reducible refine Calls.mono (B6 _) ?_) | (with_reducible refine Calls.mono (B7 _) ?_) | (with_reducible refine Calls.mono (B8 _) ?_) | (with_reducible refine Calls.mono (B9 _) ?_) | (with_reducible refine Calls.mono (BA _) ?_) | (with_reducible refine Calls.mono (BB _) ?_) | (with_reducible refine Calls.mono (BC _) ?_)); rintro e w' ⟨rfl, u, rfl⟩) | (go_at_call 15; (first | (with_reducible refine Calls.mono (JO1 _) ?_) | (with_reducible refine Calls.mono (JO2 _) ?_)); rintro e w' ⟨rfl, u, rfl⟩) | (go_at_call 20; (with_reducible refine Calls.mono (ME1 _) ?_); rintro e w' ⟨rfl, u, rfl⟩))
                            go_ret
                            exact law_end (hend _)
                          · skip
                            have BB := BEL g2 g1 true hg2 hg1 e2
                            have BC := BEL g2 m true hg2 gm (m3 g2 hg2 e1 e2)
                            clear m3 m1 m2 j1 j2 j3 BEL MA e1 e2
                            go_wp2_with (first | (go_at_call 19; (first | (with_reducible refine Calls.mono (B1 _) ?_) | (with_reducible refine Calls.mono (B2 _) ?_) | (with_reducible refine Calls.mono (B4 _) ?_) | (with_reducible refine Calls.mono (B5 _) ?_) | (with_reducible refine Calls.mono (B6 _) ?_) | (with_reducible refine Calls.mono (B7 _) ?_) | (with_reducible refine Calls.mono (B8 _) ?_) | (with_reducible refine Calls.mono (B9 _) ?_) | (with_reducible refine Calls.mono (BA _) ?_) | (with_reducible refine Calls.mono (BB _) ?_) | (with_reducible refine Calls.mono (BC _) ?_)); rintro e w' ⟨rfl, u, rfl⟩) | (go_at_call 15; (first | (with_reducible refine Calls.mono (JO1 _) ?_) | (with_reducible refine Calls.mono (JO2 _) ?_)); rintro e w' ⟨rfl, u, rfl⟩) | (go_at_call 20; (with_reducible refine Calls.mono (ME1 _) ?_); rintro e w' ⟨rfl, u, rfl⟩))
                            go_ret
                            exact law_end (hend _)
                    · skip
                      have B6 := BEL g1 g2 true hg1 hg2 e4
                      have B7 := BEL j g2 true gj hg2 (j3 g2 hg2 e3 e4)
                      clear e3 e4
                      by_cases hm : m < 0
                      · skip
                        go_wp2_with (first | (go_at_call 19; (first | (with_reducible refine Calls.mono (B1 _) ?_) | (with_reducible refine Calls.mono (B2 _) ?_) | (with_reducible refine Calls.mono (B4 _) ?_) | (with_reducible refine Calls.mono (B5 _) ?_) | (with_reducible refine Calls.mono (B6 _) ?_) | (with_reducible refine Calls.mono (B7 _) ?_) | (with_reducible refine Calls.mono (B8 _) ?_) | (with_reducible refine Calls.mono (B9 _) ?_) | (with_reducible refine Calls.mono (BA _) ?_) | (with_reducible refine Calls.mono (BB _) ?_) | (with_reducible refine Calls.mono (BC _) ?_)); rintro e w' ⟨rfl, u, rfl⟩) | (go_at_call 15; (first | (with_reducible refine Calls.mono (JO1 _) ?_) | (with_reducible refine Calls.mono (JO2 _) ?_)); rintro e w' ⟨rfl, u, rfl⟩) | (go_at_call 20; (with_reducible refine Calls.mono (ME1 _) ?_); rintro e w' ⟨rfl, u, rfl⟩))
                        go_ret
                        exact law_end (hend _)
                      · skip
                        obtain ⟨gm, m1, m2, m3⟩ := MA hm
                        have B8 := BEL m g0 true gm hg0 m1
                        have B9 := BEL m g1 true gm hg1 m2
                        cases e1 : s.le g2 g0
                        · skip
                          have BA := BEL g2 g0 false hg2 hg0 e1
                          clear m3 m1 m2 j1 j2 j3 BEL MA e1
                          go_wp2_with (first | (go_at_call 19; (first | (with_reducible refine Calls.mono (B1 _) ?_) | (with_reducible refine Calls.mono (B2 _) ?_) | (with_reducible refine Calls.mono (B4 _) ?_) | (with_reducible refine Calls.mono (B5 _) ?_) | (with_reducible refine Calls.mono (B6 _) ?_) | (with_reducible refine Calls.mono (B7 _) ?_) | (with_reducible refine Calls.mono (B8 _) ?_) | (with_reducible refine Calls.mono (B9 _) ?_) | (with_reducible refine Calls.mono (BA _) ?_) | (with_reducible refine Calls.mono (BB _) ?_) | (with_reducible refine Calls.mono (BC _) ?_)); rintro e w' ⟨rfl, u, rfl⟩) | (go_at_call 15; (first | (with_reducible refine Calls.mono (JO1 _) ?_) | (with_reducible refine Calls.mono (JO2 _) ?_)); rintro e w' ⟨rfl, u, rfl⟩) | (go_at_call 20; (with_reducible refine Calls.mono (ME1 _) ?_); rintro e w' ⟨rfl, u, rfl⟩))
                          go_ret
                          exact law_end (hend _)
                        · skip
                          have BA := BEL g2 g0 true hg2 hg0 e1
                          cases e2 : s.le g2 g1
                          · skip
                            have BB := BEL g2 g1 false hg2 hg1 e2
                            clear m3 m1 m2 j1 j2 j3 BEL MA e1 e2
                            go_wp2_with (first | (go_at_call 19; (first | (with_reducible refine Calls.mono (B1 _) ?_) | (with_reducible refine Calls.mono (B2 _) ?_) | (with_reducible refine Calls.mono (B4 _) ?_) | (with_reducible refine Calls.mono (B5 _) ?_) | (with_reducible refine Calls.mono (B6 _) ?_) | (with_reducible refine Calls.mono (B7 _) ?_) | (with_reducible refine Calls.mono (B8 _) ?_) | (with_reducible refine Calls.mono (B9 _) ?_) | (with_reducible refine Calls.mono (BA _) ?_) | (with_reducible refine Calls.mono (BB _) ?_) | (with_reducible refine Calls.mono (BC _) ?_)); rintro e w' ⟨rfl, u, rfl⟩) | (go_at_call 15; (first | (with_reducible refine Calls.mono (JO1 _) ?_) | (with_reducible refine Calls.mono (JO2 _) ?_)); rintro e w' ⟨rfl, u, rfl⟩) | (go_at_call 20; (with_reducible refine Calls.mono (ME1 _) ?_); rintro e w' ⟨rfl, u, rfl⟩))
                            go_ret
                            exact law_end (hend _)
                          · skip
                            have BB := BEL g2 g1 true hg2 hg1 e2
                            have BC := BEL g2 m true hg2 gm (m3 g2 hg2 e1 e2)
                            clear m3 m1 m2 j1 j2 j3 BEL MA e1 e2
                            go_wp2_with (first | (go_at_call 19; (first | (with_reducible refine Calls.mono (B1 _) ?_) | (with_reducible refine Calls.mono (B2 _) ?_) | (with_reducible refine Calls.mono (B4 _) ?_) | (with_reducible refine Calls.mono (B5 _) ?_) | (with_reducible refine Calls.mono (B6 _) ?_) | (with_reducible refine Calls.mono (B7 _) ?_) | (with_reducible refine Calls.mono (B8 _) ?_) | (with_reducible refine Calls.mono (B9 _) ?_) | (with_reducible refine Calls.mono (BA _) ?_) | (with_reducible refine Calls.mono (BB _) ?_) | (with_reducible refine Calls.mono (BC _) ?_)); rintro e w' ⟨rfl, u, rfl⟩) | (go_at_call 15; (first | (with_reducible refine Calls.mono (JO1 _) ?_) | (with_reducible refine Calls.mono (JO2 _) ?_)); rintro e w' ⟨rfl, u, rfl⟩) | (go_at_call 20; (with_reducible refine Calls.mono (ME1 _) ?_); rintro e w' ⟨rfl, u, rfl⟩))
                            go_ret
                            exact law_end (hend _)
                · skip
                  have B4 := BEL g0 g1 false hg0 hg1 (by rw [LJ, decide_eq_false ej])
                  have hjb : (j == g1) = false := by simp [ej]
                  have EJ := Lib.hid ej
                  clear ej LJ
                  cases e3 : s.le g0 g2
                  · skip
                    have B5 := BEL g0 g2 false hg0 hg2 e3
                    clear e3
                    by_cases hm : m < 0
                    · skip
                      go_wp2_with (first | (go_at_call 19; (first | (with_reducible refine Calls.mono (B1 _) ?_) | (with_reducible refine Calls.mono (B2 _) ?_) | (with_reducible refine Calls.mono (B4 _) ?_) | (with_reducible refine Calls.mono (B5 _) ?_) | (with_reducible refine Calls.mono (B6 _) ?_) | (with_reducible refine Calls.mono (B7 _) ?_) | (with_reducible refine Calls.mono (B8 _) ?_) | (with_reducible refine Calls.mono (B9 _) ?_) | (with_reducible refine Calls.mono (BA _) ?_) | (with_reducible refine Calls.mono (BB _) ?_) | (with_reducible refine Calls.mono (BC _) ?_)); rintro e w' ⟨rfl, u, rfl⟩) | (go_at_call 15; (first | (with_reducible refine Calls.mono (JO1 _) ?_) | (with_reducible refine Calls.mono (JO2 _) ?_)); rintro e w' ⟨rfl, u, rfl⟩) | (go_at_call 20; (with_reducible refine Calls.mono (ME1 _) ?_); rintro e w' ⟨rfl, u, rfl⟩))
                      go_ret
                      exact law_end (hend _)
                    · skip
                      obtain ⟨gm, m1, m2, m3⟩ := MA hm
                      have B8 := BEL m g0 true gm hg0 m1
                      have B9 := BEL m g1 true gm hg1 m2
                      cases e1 : s.le g2 g0
                      · skip
                        have BA := BEL g2 g0 false hg2 hg0 e1
                        clear m3 m1 m2 j1 j2 j3 BEL MA e1
                        go_wp2_with (first | (go_at_call 19; (first | (with_reducible refine Calls.mono (B1 _) ?_) | (with_reducible refine Calls.mono (B2 _) ?_) | (with_reducible refine Calls.mono (B4 _) ?_) | (with_reducible refine Calls.mono (B5 _) ?_) | (with_reducible refine Calls.mono (B6 _) ?_) | (with_reducible refine Calls.mono (B7 _) ?_) | (with_reducible refine Calls.mono (B8 _) ?_) | (with_reducible refine Calls.mono (B9 _) ?_) | (with_reducible refine Calls.mono (BA _) ?_) | (with_reducible refine Calls.mono (BB _) ?_) | (with_reducible refine Calls.mono (BC _) ?_)); rintro e w' ⟨rfl, u, rfl⟩) | (go_at_call 15; (first | (with_reducible refine Calls.mono (JO1 _) ?_) | (with_reducible refine Calls.mono (JO2 _) ?_)); rintro e w' ⟨rfl, u, rfl⟩) | (go_at_call 20; (with_reducible refine Calls.mono (ME1 _) ?_); rintro e w' ⟨rfl, u, rfl⟩))
                        go_ret
                        exact law_end (hend _)
                      · skip
                        have BA := BEL g2 g0 true hg2 hg0 e1
                        cases e2 : s.le g2 g1
                        · skip
                          have BB := BEL g2 g1 false hg2 hg1 e2
                          clear m3 m1 m2 j1 j2 j3 BEL MA e1 e2
                          go_wp2_with (first | (go_at_call 19; (first | (with_reducible refine Calls.mono (B1 _) ?_) | (with_reducible refine Calls.mono (B2 _) ?_) | (with_reducible refine Calls.mono (B4 _) ?_) | (with_reducible refine Calls.mono (B5 _) ?_) | (with_reducible refine Calls.mono (B6 _) ?_) | (with_reducible refine Calls.mono (B7 _) ?_) | (with_reducible refine Calls.mono (B8 _) ?_) | (with_reducible refine Calls.mono (B9 _) ?_) | (with_reducible refine Calls.mono (BA _) ?_) | (with_reducible refine Calls.mono (BB _) ?_) | (with_reducible refine Calls.mono (BC _) ?_)); rintro e w' ⟨rfl, u, rfl⟩) | (go_at_call 15; (first | (with_reducible refine Calls.mono (JO1 _) ?_) | (with_reducible refine Calls.mono (JO2 _) ?_)); rintro e w' ⟨rfl, u, rfl⟩) | (go_at_call 20; (with_reducible refine Calls.mono (ME1 _) ?_); rintro e w' ⟨rfl, u, rfl⟩))
                          go_ret
                          exact law_end (hend _)
                        · skip
                          have BB := BEL g2 g1 true hg2 hg1 e2
                          have BC := BEL g2 m true hg2 gm (m3 g2 hg2 e1 e2)
                          clear m3 m1 m2 j1 j2 j3 BEL MA e1 e2
                          go_wp2_with (first | (go_at_call 19; (first | (with_reducible refine Calls.mono (B1 _) ?_) | (with_reducible refine Calls.mono (B2 _) ?_) | (with_reducible refine Calls.mono (B4 _) ?_) | (with_reducible refine Calls.mono (B5 _) ?_) | (with_reducible refine Calls.mono (B6 _) ?_) | (with_reducible refine Calls.mono (B7 _) ?_) | (with_reducible refine Calls.mono (B8 _) ?_) | (with_reducible refine Calls.mono (B9 _) ?_) | (with_reducible refine Calls.mono (BA _) ?_) | (with_reducible refine Calls.mono (BB _) ?_) | (with_reducible refine Calls.mono (BC _) ?_)); rintro e w' ⟨rfl, u, rfl⟩) | (go_at_call 15; (first | (with_reducible refine Calls.mono (JO1 _) ?_) | (with_reducible refine Calls.mono (JO2 _) ?_)); rintro e w' ⟨rfl, u, rfl⟩) | (go_at_call 20; (with_reducible refine Calls.mono (ME1 _) ?_); rintro e w' ⟨rfl, u, rfl⟩))
                          go_ret
                          exact law_end (hend _)
                  · skip
                    have B5 := BEL g0 g2 true hg0 hg2 e3
                    cases e4 : s.le g1 g2
                    · skip
                      have B6 := BEL g1 g2 false hg1 hg2 e4
                      clear e3 e4
                      by_cases hm : m < 0
                      · skip
                        go_wp2_with (first | (go_at_call 19; (first | (with_reducible refine Calls.mono (B1 _) ?_) | (with_reducible refine Calls.mono (B2 _) ?_) | (with_reducible refine Calls.mono (B4 _) ?_) | (with_reducible refine Calls.mono (B5 _) ?_) | (with_reducible refine Calls.mono (B6 _) ?_) | (with_reducible refine Calls.mono (B7 _) ?_) | (with_reducible refine Calls.mono (B8 _) ?_) | (with_reducible refine Calls.mono (B9 _) ?_) | (with_reducible refine Calls.mono (BA _) ?_) | (with_reducible refine Calls.mono (BB _) ?_) | (with_reducible refine Calls.mono (BC _) ?_)); rintro e w' ⟨rfl, u, rfl⟩) | (go_at_call 15; (first | (with_reducible refine Calls.mono (JO1 _) ?_) | (with_reducible refine Calls.mono (JO2 _) ?_)); rintro e w' ⟨rfl, u, rfl⟩) | (go_at_call 20; (with_reducible refine Calls.mono (ME1 _) ?_); rintro e w' ⟨rfl, u, rfl⟩))
                        go_ret
                        exact law_end (hend _)
                      · skip
                        obtain ⟨gm, m1, m2, m3⟩ := MA hm
                        have B8 := BEL m g0 true gm hg0 m1
                        have B9 := BEL m g1 true gm hg1 m2
                        cases e1 : s.le g2 g0
                        · skip
                          have BA := BEL g2 g0 false hg2 hg0 e1
                          clear m3 m1 m2 j1 j2 j3 BEL MA e1
                          go_wp2_with (first | (go_at_call 19; (first | (with_reducible refine Calls.mono (B1 _) ?_) | (with_reducible refine Calls.mono (B2 _) ?_) | (with_reducible refine Calls.mono (B4 _) ?_) | (with_reducible refine Calls.mono (B5 _) ?_) | (with_reducible refine Calls.mono (B6 _) ?_) | (with_reducible refine Calls.mono (B7 _) ?_) | (with_reducible refine Calls.mono (B8 _) ?_) | (with_reducible refine Calls.mono (B9 _) ?_) | (with_reducible refine Calls.mono (BA _) ?_) | (with_reducible refine Calls.mono (BB _) ?_) | (with_reducible refine Calls.mono (BC _) ?_)); rintro e w' ⟨rfl, u, rfl⟩) | (go_at_call 15; (first | (with_reducible refine Calls.mono (JO1 _) ?_) | (with_reducible refine Calls.mono (JO2 _) ?_)); rintro e w' ⟨rfl, u, rfl⟩) | (go_at_call 20; (with_reducible refine Calls.mono (ME1 _) ?_); rintro e w' ⟨rfl, u, rfl⟩))
                          go_ret
                          exact law_end (hend _)
                        · skip
                          have BA := BEL g2 g0 true hg2 hg0 e1
                          cases e2 : s.le g2 g1
                          · skip
                            have BB := BEL g2 g1 false hg2 hg1 e2
                            clear m3 m1 m2 j1 j2 j3 BEL MA e1 e2
                            go_wp2_with (first | (go_at_call 19; (first | (with_reducible refine Calls.mono (B1 _) ?_) | (with_reducible refine Calls.mono (B2 _) ?_) | (with_reducible refine Calls.mono (B4 _) ?_) | (with_reducible refine Calls.mono (B5 _) ?_) | (with_reducible refine Calls.mono (B6 _) ?_) | (with_reducible refine Calls.mono (B7 _) ?_) | (with_reducible refine Calls.mono (B8 _) ?_) | (with_reducible refine Calls.mono (B9 _) ?_) | (with_reducible refine Calls.mono (BA _) ?_) | (with_reducible refine Calls.mono (BB _) ?_) | (with_reducible refine Calls.mono (BC _) ?_)); rintro e w' ⟨rfl, u, rfl⟩) | (go_at_call 15; (first | (with_reducible refine Calls.mono (JO1 _) ?_) | (with_reducible refine Calls.mono (JO2 _) ?_)); rintro e w' ⟨rfl, u, rfl⟩) | (go_at_call 20; (with_reducible refine Calls.mono (ME1 _) ?_); rintro e w' ⟨rfl, u, rfl⟩))
                            go_ret
                            exact law_end (hend _)
                          · skip
                            have BB := BEL g2 g1 true hg2 hg1 e2
                            have BC := BEL g2 m true hg2 gm (m3 g2 hg2 e1 e2)
                            clear m3 m1 m2 j1 j2 j3 BEL MA e1 e2
                            go_wp2_with (first | (go_at_call 19; (first | (with_reducible refine Calls.mono (B1 _) ?_) | (with_reducible refine Calls.mono (B2 _) ?_) | (with_reducible refine Calls.mono (B4 _) ?_) | (with_reducible refine Calls.mono (B5 _) ?_) | (with_reducible refine Calls.mono (B6 _) ?_) | (with_reducible refine Calls.mono (B7 _) ?_) | (with_reducible refine Calls.mono (B8 _) ?_) | (with_reducible refine Calls.mono (B9 _) ?_) | (with_reducible refine Calls.mono (BA _) ?_) | (with_reducible refine Calls.mono (BB _) ?_) | (with_reducible refine Calls.mono (BC _) ?_)); rintro e w' ⟨rfl, u, rfl⟩) | (go_at_call 15; (first | (with_reducible refine Calls.mono (JO1 _) ?_) | (with_reducible refine Calls.mono (JO2 _) ?_)); rintro e w' ⟨rfl, u, rfl⟩) | (go_at_call 20; (with_reducible refine Calls.mono (ME1 _) ?_); rintro e w' ⟨rfl, u, rfl⟩))
                            go_ret
                            exact law_end (hend _)
                    · skip
                      have B6 := BEL g1 g2 true hg1 hg2 e4
                      have B7 := BEL j g2 true gj hg2 (j3 g2 hg2 e3 e4)
                      clear e3 e4
                      by_cases hm : m < 0
                      · skip
                        go_wp2_with (first | (go_at_call 19; (first | (with_reducible refine Calls.mono (B1 _) ?_) | (with_reducible refine Calls.mono (B2 _) ?_) | (with_reducible refine Calls.mono (B4 _) ?_) | (with_reducible refine Calls.mono (B5 _) ?_) | (with_reducible refine Calls.mono (B6 _) ?_) | (with_reducible refine Calls.mono (B7 _) ?_) | (with_reducible refine Calls.mono (B8 _) ?_) | (with_reducible refine Calls.mono (B9 _) ?_) | (with_reducible refine Calls.mono (BA _) ?_) | (with_reducible refine Calls.mono (BB _) ?_) | (with_reducible refine Calls.mono (BC _) ?_)); rintro e w' ⟨rfl, u, rfl⟩) | (go_at_call 15; (first | (with_reducible refine Calls.mono (JO1 _) ?_) | (with_reducible refine Calls.mono (JO2 _) ?_)); rintro e w' ⟨rfl, u, rfl⟩) | (go_at_call 20; (with_reducible refine Calls.mono (ME1 _) ?_); rintro e w' ⟨rfl, u, rfl⟩))
                        go_ret
                        exact law_end (hend _)
                      · skip
                        obtain ⟨gm, m1, m2, m3⟩ := MA hm
                        have B8 := BEL m g0 true gm hg0 m1
                        have B9 := BEL m g1 true gm hg1 m2
                        cases e1 : s.le g2 g0
                        · skip
                          have BA := BEL g2 g0 false hg2 hg0 e1
                          clear m3 m1 m2 j1 j2 j3 BEL MA e1
                          go_wp2_with (first | (go_at_call 19; (first | (with_reducible refine Calls.mono (B1 _) ?_) | (with_reducible refine Calls.mono (B2 _) ?_) | (with_reducible refine Calls.mono (B4 _) ?_) | (with_reducible refine Calls.mono (B5 _) ?_) | (with_reducible refine Calls.mono (B6 _) ?_) | (with_reducible refine Calls.mono (B7 _) ?_) | (with_reducible refine Calls.mono (B8 _) ?_) | (with_reducible refine Calls.mono (B9 _) ?_) | (with_reducible refine Calls.mono (BA _) ?_) | (with_reducible refine Calls.mono (BB _) ?_) | (with_reducible refine Calls.mono (BC _) ?_)); rintro e w' ⟨rfl, u, rfl⟩) | (go_at_call 15; (first | (with_reducible refine Calls.mono (JO1 _) ?_) | (with_reducible refine Calls.mono (JO2 _) ?_)); rintro e w' ⟨rfl, u, rfl⟩) | (go_at_call 20; (with_reducible refine Calls.mono (ME1 _) ?_); rintro e w' ⟨rfl, u, rfl⟩))
                          go_ret
                          exact law_end (hend _)
                        · skip
                          have BA := BEL g2 g0 true hg2 hg0 e1
                          cases e2 : s.le g2 g1
                          · skip
                            have BB := BEL g2 g1 false hg2 hg1 e2
                            clear m3 m1 m2 j1 j2 j3 BEL MA e1 e2
                            go_wp2_with (first | (go_at_call 19; (first | (with_reducible refine Calls.mono (B1 _) ?_) | (with_reducible refine Calls.mono (B2 _) ?_) | (with_reducible refine Calls.mono (B4 _) ?_) | (with_reducible refine Calls.mono (B5 _) ?_) | (with_reducible refine Calls.mono (B6 _) ?_) | (with_reducible refine Calls.mono (B7 _) ?_) | (with_reducible refine Calls.mono (B8 _) ?_) | (with_reducible refine Calls.mono (B9 _) ?_) | (with_reducible refine Calls.mono (BA _) ?_) | (with_reducible refine Calls.mono (BB _) ?_) | (with_reducible refine Calls.mono (BC _) ?_)); rintro e w' ⟨rfl, u, rfl⟩) | (go_at_call 15; (first | (with_reducible refine Calls.mono (JO1 _) ?_) | (with_reducible refine Calls.mono (JO2 _) ?_)); rintro e w' ⟨rfl, u, rfl⟩) | (go_at_call 20; (with_reducible refine Calls.mono (ME1 _) ?_); rintro e w' ⟨rfl, u, rfl⟩))
                            go_ret
                            exact law_end (hend _)
                          · skip
                            have BB := BEL g2 g1 true hg2 hg1 e2
                            have BC := BEL g2 m true hg2 gm (m3 g2 hg2 e1 e2)
                            clear m3 m1 m2 j1 j2 j3 BEL MA e1 e2
                            go_wp2_with (first | (go_at_call 19; (first | (with_reducible refine Calls.mono (B1 _) ?_) | (with_reducible refine Calls.mono (B2 _) ?_) | (with_reducible refine Calls.mono (B4 _) ?_) | (with_reducible refine Calls.mono (B5 _) ?_) | (with_reducible refine Calls.mono (B6 _) ?_) | (with_reducible refine Calls.mono (B7 _) ?_) | (with_reducible refine Calls.mono (B8 _) ?_) | (with_reducible refine Calls.mono (B9 _) ?_) | (with_reducible refine Calls.mono (BA _) ?_) | (with_reducible refine Calls.mono (BB _) ?_) | (with_reducible refine Calls.mono (BC _) ?_)); rintro e w' ⟨rfl, u, rfl⟩) | (go_at_call 15; (first | (with_reducible refine Calls.mono (JO1 _) ?_) | (with_reducible refine Calls.mono (JO2 _) ?_)); rintro e w' ⟨rfl, u, rfl⟩) | (go_at_call 20; (with_reducible refine Calls.mono (ME1 _) ?_); rintro e w' ⟨rfl, u, rfl⟩))
                            go_ret
                            exact law_end (hend _)
              exact AllReadyH.nil
            exact AllReadyH.nil
          exact AllReadyH.nil
        exact AllReadyH.nil
      exact AllReadyH.nil
    exact AllReadyH.nil
  · skip
    have SYS : Calls Try.prog 13 #[.agg #[.int .i64 s.n, .slice pa s.plus.length pc, .slice ta s.times.length tc, .slice ba s.below.length bc]] yy.w (Ans W2 (.bool false)) := isSystem_ans h1 false (by simp [is]) yy
    have ADD : ∀ y : Ext W2, Calls Try.prog 14 #[.agg #[.int .i64 s.n, .slice pa s.plus.length pc, .slice ta s.times.length tc, .slice ba s.below.length bc], .int .i64 0, .int .i64 0] y.w (Ans W2 (.int .i64 (-1))) := fun y => addGrades_ans h1 0 0 (-1) (.inr ⟨fun h => is h.1, rfl⟩) y
    have JOI : ∀ y : Ext W2, Calls Try.prog 15 #[.agg #[.int .i64 s.n, .slice pa s.plus.length pc, .slice ta s.times.length tc, .slice ba s.below.length bc], .int .i64 0, .int .i64 0] y.w (Ans W2 (.int .i64 (-1))) := fun y => joinGrades_ans h1 0 0 (-1) (.inr ⟨fun h => is h.1, rfl⟩) y
    go_wp2_with (go_at_call 13; refine Calls.mono SYS ?_; rintro e w' ⟨rfl, u1, rfl⟩)
    refine Calls.mono (ADD u1) ?_
    rintro e w' ⟨rfl, u2, rfl⟩
    go_wp2_with fail
    refine Calls.mono (JOI u2) ?_
    rintro e w' ⟨rfl, u3, rfl⟩
    go_wp2_with fail
    go_ret
    exact law_end (hend u3)

end Go.Proofs.Ytkokmpdmmfghhaa
