
/- The draws' cursor: a byte of it, a number below another one. -/
import Derived.Test.YtkokmpdmmfghhaaHA
import Derived.Laws.BitsLemmas
import Derived.RegionTactic
import Derived.Outline
namespace Go.Proofs.Ytkokmpdmmfghhaa
open Go.RowKit

theorem i64_and255 (n : Int) : bits .and .i64 n 255 = n % 256 := by
  have h255 : (BitVec.ofInt 64 255).toNat = 2 ^ 8 - 1 := by decide
  have key : (BitVec.ofInt 64 n &&& BitVec.ofInt 64 255).toNat = (n % ((2 ^ 64 : Nat) : Int)).toNat % 2 ^ 8 := by
    rw [BitVec.toNat_and, BitVec.toNat_ofInt, h255, Nat.and_two_pow_sub_one_eq_mod]
  show IntKind.i64.wrap ((BitVec.ofInt 64 n &&& BitVec.ofInt 64 255).toNat : Nat) = n % 256
  rw [key, IntKind.wrap_i64]
  omega
theorem i64_and255_lt (n : Int) : bits .and .i64 n 255 < 256 := by rw [i64_and255]; omega
theorem i64_and255_in (n : Int) : 0 ≤ bits .and .i64 n 255 ∧ bits .and .i64 n 255 ≤ 255 := by rw [i64_and255]; omega

/-- A cursor over bytes that lie elsewhere. -/
structure CurAt (w : World) (C : Nat) (a : Option Addr) (c : Nat) (l : List Int) : Prop where
  blk : ∃ i h : Int, w.heap[C]? = some (.cells #[.slice a l.length c, .int .i64 i, .int .i64 h] 95 (0, 0)) ∧ 0 ≤ i ∧ i ≤ l.length
  row : Row w (Value.int .u8) a l
  ne : ∀ p, a = some p → p.block ≠ C
  len : l.length ≤ 4611686018427387904
  byte : ∀ u ∈ l, 0 ≤ u ∧ u ≤ 255

theorem CurAt.keep {w w' : World} {C : Nat} {a : Option Addr} {c : Nat} {l : List Int} (h : CurAt w C a c l) (ho : ∀ k, k < w.heap.size → w'.heap[k]? = w.heap[k]?) : CurAt w' C a c l := by
  obtain ⟨i, hh, hb, r⟩ := h.blk
  refine ⟨⟨i, hh, (ho C (Array.getElem?_eq_some_iff.1 hb).1).trans hb, r⟩, ?_, h.ne, h.len, h.byte⟩
  rcases h.row with e | ⟨b, o, ha, hc⟩
  · exact .inl e
  · exact .inr ⟨b, o, ha, fun i x hx => by
      have := hc i x hx
      rw [World.cell?_of_block (w := w) (a := ⟨b, o + i, none⟩) (ho b (cell_lt this))]
      exact this⟩
theorem CurAt.ext {W : World} {C : Nat} {a : Option Addr} {c : Nat} {l : List Int} (h : CurAt W C a c l) (x : Ext W) : CurAt x.w C a c l := h.keep fun k hk => x.below.block k hk

/-- A draw hands back a number below n, and turns the cursor alone. -/
def DrewN (n : Int) (W : World) (C : Nat) (a : Option Addr) (c : Nat) (l : List Int) : Ending → World → Prop :=
  fun e w' => ∃ v : Int, e = .returned (.int .i64 v) ∧ 0 ≤ v ∧ v < n ∧ Only W w' (· = C) ∧ CurAt w' C a c l

theorem row_only {α : Type} {w w' : World} {mk : α → Value} {a : Option Addr} {l : List α} {B : Nat → Prop} (h : Row w mk a l) (ho : Only w w' B) (hn : ∀ p, a = some p → ¬ B p.block) : Row w' mk a l := by
  rcases h with h | ⟨b, o, ha, hc⟩
  · exact .inl h
  · refine .inr ⟨b, o, ha, fun i x hx => ?_⟩
    have h1 := hc i x hx
    rw [World.cell?_of_block (w := w) (a := ⟨b, o + i, none⟩) (show w'.heap[b]? = w.heap[b]? from ho.block b (cell_lt h1) (hn _ ha))]
    exact h1

theorem cur_set {w w1 w2 : World} {C : Nat} {a : Option Addr} {c : Nat} {l : List Int} {i h i' h' : Int} (hb : w.heap[C]? = some (.cells #[.slice a l.length c, .int .i64 i, .int .i64 h] 95 (0, 0)))
    (row : Row w (Value.int .u8) a l) (ne : ∀ p, a = some p → p.block ≠ C) (len : l.length ≤ 4611686018427387904) (byte : ∀ u ∈ l, 0 ≤ u ∧ u ≤ 255) (hi : 0 ≤ i' ∧ i' ≤ l.length)
    (h1 : w.setCell ⟨C, 2, none⟩ (.int .i64 h') = w1) (h2 : w1.setCell ⟨C, 1, none⟩ (.int .i64 i') = w2) : Only w w2 (· = C) ∧ CurAt w2 C a c l := by
  have q1 := set_blk hb 2 _ h1
  have q2 := set_blk q1 1 _ h2
  simp at q2
  have ho : Only w w2 (· = C) := by
    refine ⟨?_, ?_, ?_, ?_, fun g _ hg => (set_other h2 hg).trans (set_other h1 hg)⟩
    · subst h2; subst h1; rfl
    · subst h2; subst h1; rfl
    · subst h2; subst h1; rfl
    · rw [set_size h2, set_size h1]; exact Nat.le_refl _
  exact ⟨ho, ⟨i', h', q2, hi⟩, row_only row ho ne, ne, len, byte⟩
theorem cur_set1 {w w1 : World} {C : Nat} {a : Option Addr} {c : Nat} {l : List Int} {i h h' : Int} (hb : w.heap[C]? = some (.cells #[.slice a l.length c, .int .i64 i, .int .i64 h] 95 (0, 0)))
    (row : Row w (Value.int .u8) a l) (ne : ∀ p, a = some p → p.block ≠ C) (len : l.length ≤ 4611686018427387904) (byte : ∀ u ∈ l, 0 ≤ u ∧ u ≤ 255) (hi : 0 ≤ i ∧ i ≤ l.length)
    (h1 : w.setCell ⟨C, 2, none⟩ (.int .i64 h') = w1) : Only w w1 (· = C) ∧ CurAt w1 C a c l := by
  have q1 := set_blk hb 2 _ h1
  simp at q1
  have ho : Only w w1 (· = C) := by
    refine ⟨?_, ?_, ?_, ?_, fun g _ hg => set_other h1 hg⟩
    · subst h1; rfl
    · subst h1; rfl
    · subst h1; rfl
    · rw [set_size h1]; exact Nat.le_refl _
  exact ⟨ho, ⟨i, h', q1, hi⟩, row_only row ho ne, ne, len, byte⟩

theorem cur_seti {w w1 : World} {C : Nat} {a : Option Addr} {c : Nat} {l : List Int} {i h i' : Int} (hb : w.heap[C]? = some (.cells #[.slice a l.length c, .int .i64 i, .int .i64 h] 95 (0, 0)))
    (row : Row w (Value.int .u8) a l) (ne : ∀ p, a = some p → p.block ≠ C) (len : l.length ≤ 4611686018427387904) (byte : ∀ u ∈ l, 0 ≤ u ∧ u ≤ 255) (hi : 0 ≤ i' ∧ i' ≤ l.length)
    (h1 : w.setCell ⟨C, 1, none⟩ (.int .i64 i') = w1) : Only w w1 (· = C) ∧ CurAt w1 C a c l := by
  have q1 := set_blk hb 1 _ h1
  simp at q1
  have ho : Only w w1 (· = C) := by
    refine ⟨?_, ?_, ?_, ?_, fun g _ hg => set_other h1 hg⟩
    · subst h1; rfl
    · subst h1; rfl
    · subst h1; rfl
    · rw [set_size h1]; exact Nat.le_refl _
  exact ⟨ho, ⟨i', h, q1, hi⟩, row_only row ho ne, ne, len, byte⟩

set_option maxHeartbeats 4000000 in
theorem l1Byte_ans {W : World} {C : Nat} {a : Option Addr} {c : Nat} {l : List Int} (h : CurAt W C a c l) : Calls Try.prog 134 #[.pointer (some ⟨C, 0, none⟩)] W (DrewN 256 W C a c l) := by
  obtain ⟨⟨i, hh, hb, hi0, hi1⟩, row, ne, len, byte⟩ := h
  have c0 := blk_cell hb 0
  have c1 := blk_cell hb 1
  have c2 := blk_cell hb 2
  have z0 := blk_free hb 0
  have z1 := blk_free hb 1
  have z2 := blk_free hb 2
  simp at c0 c1 c2
  have HB := Lib.hid hb
  have HR := Lib.hid row
  have HNE := Lib.hid ne
  have HBY := Lib.hid byte
  clear hb ne byte
  by_cases hlt : i < (l.length : Int)
  · obtain ⟨k, rfl⟩ : ∃ k : Nat, i = (k : Int) := ⟨i.toNat, by omega⟩
    have hk : k < l.length := by omega
    obtain ⟨b, o, rfl, hc⟩ := row.at hk
    have hcell := hc k l[k] (List.getElem?_eq_getElem hk)
    clear hc row
    have hu := HBY.out l[k] (List.getElem_mem hk)
    generalize l[k] = u at *
    go_enter Try.func134, Try.ntmps134
    go_wp2_with fail
    generalize wrap64 (wrap64 (hh * 6364136223846793005) + 1442695040888963407) = h2
    generalize hw1 : World.setCell _ _ _ = w1
    obtain ⟨ho, hc⟩ := cur_set1 HB.out HR.out HNE.out len HBY.out ⟨hi0, hi1⟩ hw1
    have b1 := set_blk HB.out 2 _ hw1
    simp at b1
    have c0 : ∀ y : Ext w1, y.w.cell? ⟨C, 0, none⟩ = some (.slice (some ⟨b, o, none⟩) l.length c) := fun y => blk_cell (y.blk b1) 0
    have c1 : ∀ y : Ext w1, y.w.cell? ⟨C, 1, none⟩ = some (.int .i64 (k : Int)) := fun y => blk_cell (y.blk b1) 1
    have c2 : ∀ y : Ext w1, y.w.cell? ⟨C, 2, none⟩ = some (.int .i64 h2) := fun y => blk_cell (y.blk b1) 2
    have z1 : ∀ y : Ext w1, y.w.frozen? ⟨C, 1, none⟩ = false := fun y => blk_free (y.blk b1) 1
    have d0 : ∀ y : Ext w1, y.w.cell? ⟨b, o + k, none⟩ = some (.int .u8 u) := fun y => y.cell (by rw [← hw1, World.cell?_of_block (w := W) (a := ⟨b, o + k, none⟩) (Below.heap_setCell _ _ _ _ (HNE.out _ rfl))]; exact hcell)
    clear hcell
    have HB1 := Lib.hid b1
    have HO := Lib.hid ho
    have HC := Lib.hid hc
    clear b1 hw1 ho hc
    obtain ⟨yy, hyy⟩ : ∃ y : Ext w1, y.w = w1 := ⟨Ext.self w1, rfl⟩
    rw [← hyy]
    clear hyy
    refine region_ext yy (by kernel_rfl) (by kernel_rfl) ?_
    repeat (go_big_quiet_step (fail))
    refine wpQuiet_nil ?_
    rintro _ ⟨yy, rfl⟩
    go_wp2_with fail
    refine region_ext yy (by kernel_rfl) (by kernel_rfl) ?_
    repeat (go_big_quiet_step (fail))
    refine wpQuiet_nil ?_
    rintro _ ⟨yy, rfl⟩
    go_wp2_with fail
    refine region_ext yy (by kernel_rfl) (by kernel_rfl) ?_
    repeat (go_big_quiet_step (fail))
    refine wpQuiet_nil ?_
    rintro _ ⟨yy, rfl⟩
    go_wp2_with fail
    generalize hw3 : World.setCell _ _ _ = w3
    obtain ⟨ho3, hc3⟩ := cur_seti (yy.blk HB1.out) (HC.out.ext yy).row HNE.out len HBY.out (by omega) hw3
    go_ret
    exact ⟨_, rfl, (i64_and255_in _).1, i64_and255_lt _, (HO.out.trans (Only.of yy.below _)).trans ho3, hc3⟩
  · clear row
    go_enter Try.func134, Try.ntmps134
    go_wp2_with fail
    generalize wrap64 (wrap64 (hh * 6364136223846793005) + 1442695040888963407) = h2
    generalize hw1 : World.setCell _ _ _ = w1
    obtain ⟨ho, hc⟩ := cur_set1 HB.out HR.out HNE.out len HBY.out ⟨hi0, hi1⟩ hw1
    have b1 := set_blk HB.out 2 _ hw1
    simp at b1
    have c0 : ∀ y : Ext w1, y.w.cell? ⟨C, 0, none⟩ = some (.slice a l.length c) := fun y => blk_cell (y.blk b1) 0
    have c1 : ∀ y : Ext w1, y.w.cell? ⟨C, 1, none⟩ = some (.int .i64 i) := fun y => blk_cell (y.blk b1) 1
    have c2 : ∀ y : Ext w1, y.w.cell? ⟨C, 2, none⟩ = some (.int .i64 h2) := fun y => blk_cell (y.blk b1) 2
    have z1 : ∀ y : Ext w1, y.w.frozen? ⟨C, 1, none⟩ = false := fun y => blk_free (y.blk b1) 1
    clear z0
    have HB1 := Lib.hid b1
    have HO := Lib.hid ho
    have HC := Lib.hid hc
    clear b1 hw1 ho hc
    obtain ⟨yy, hyy⟩ : ∃ y : Ext w1, y.w = w1 := ⟨Ext.self w1, rfl⟩
    rw [← hyy]
    clear hyy
    refine region_ext yy (by kernel_rfl) (by kernel_rfl) ?_
    repeat (go_big_quiet_step (fail))
    refine wpQuiet_nil ?_
    rintro _ ⟨yy, rfl⟩
    go_wp2_with fail
    refine region_ext yy (by kernel_rfl) (by kernel_rfl) ?_
    repeat (go_big_quiet_step (fail))
    refine wpQuiet_nil ?_
    rintro _ ⟨yy, rfl⟩
    go_wp2_with fail
    go_wp2_with fail
    go_ret
    exact ⟨_, rfl, (i64_and255_in _).1, i64_and255_lt _, HO.out.trans (Only.of yy.below _), HC.out.ext yy⟩

/-- A number below n of a cursor. -/
theorem DrewN.of {n : Int} {W W1 : World} {C : Nat} {a : Option Addr} {c : Nat} {l : List Int} {e : Ending} {w : World} (h : Only W W1 (· = C)) (k : DrewN n W1 C a c l e w) : DrewN n W C a c l e w := by
  obtain ⟨v, he, h0, h1, ho, hc⟩ := k
  exact ⟨v, he, h0, h1, h.trans ho, hc⟩
theorem rem_in {v n : Int} (h0 : 0 ≤ v) (hn : 0 < n) : v.tmod n = v % n ∧ 0 ≤ v % n ∧ v % n < n := by
  refine ⟨Int.tmod_eq_emod_of_nonneg h0, Int.emod_nonneg _ (by omega), Int.emod_lt_of_pos _ hn⟩
set_option maxHeartbeats 4000000 in
theorem l1Below_ans {W : World} {C : Nat} {a : Option Addr} {c : Nat} {l : List Int} (h : CurAt W C a c l) (n : Int) (h0 : 0 < n) (h1 : n ≤ 256) : Calls Try.prog 84 #[.pointer (some ⟨C, 0, none⟩), .int .i64 n] W (DrewN n W C a c l) := by
  have C1 := l1Byte_ans h
  clear h
  have hn : ¬ n ≤ 0 := by omega
  go_enter Try.func84, Try.ntmps84
  go_wp2_with (go_at_call 134; refine Calls.mono C1 ?_; rintro e w' ⟨v, rfl, hv0, hv1, ho, hc⟩; have HO := Lib.hid ho; have HC := Lib.hid hc; clear ho hc C1)
  go_ret
  obtain ⟨e1, e2, e3⟩ := rem_in hv0 h0
  exact ⟨_, rfl, by omega, by omega, HO.out, HC.out⟩
set_option maxHeartbeats 4000000 in
theorem l1Below_zero {W : World} {C : Nat} {a : Option Addr} {c : Nat} {l : List Int} (h : CurAt W C a c l) (n : Int) (h0 : n ≤ 0) : Calls Try.prog 84 #[.pointer (some ⟨C, 0, none⟩), .int .i64 n] W (DrewN 1 W C a c l) := by
  have H := Lib.hid h
  clear h
  go_enter Try.func84, Try.ntmps84
  go_wp2
  go_ret
  exact ⟨_, rfl, by omega, by omega, Only.refl _ _, H.out⟩

end Go.Proofs.Ytkokmpdmmfghhaa
