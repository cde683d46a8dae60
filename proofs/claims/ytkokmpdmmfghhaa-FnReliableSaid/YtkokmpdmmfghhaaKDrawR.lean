
/- Draws of a system from a code. -/
import Derived.Test.YtkokmpdmmfghhaaKDrawT
namespace Go.Proofs.Ytkokmpdmmfghhaa
open Go.RowKit

/-- A system out of nowhere. -/
def DrawnS (W : World) : Ending → World → Prop :=
  fun e w' => ∃ (r : Ref) (s : Sys), e = .returned (r.val s) ∧ Below W.heap.size W w' ∧ SysIn w' r s ∧ (s.plus.length ≤ 256 ∧ s.times.length ≤ 256 ∧ s.below.length ≤ 256)

theorem below_only {W w' : World} {C : Nat} (hC : W.heap.size ≤ C) (ho : Only W w' (· = C)) : Below W.heap.size W w' :=
  ⟨ho.os, ho.tape, ho.output, ho.size, fun g hg => ho.block g hg (by omega)⟩

set_option maxHeartbeats 4000000 in
theorem drawIsReliable_ans {W : World} {a : Option Addr} {c : Nat} {l : List Int} (row : Row W (Value.int .u8) a l) (len : l.length ≤ 4611686018427387904) (byte : ∀ u ∈ l, 0 ≤ u ∧ u ≤ 255) (lt : ∀ p, a = some p → p.block < W.heap.size) (x : Ext W) :
    Calls Try.prog 28 #[.slice a l.length c] x.w (DrawnS W) := by
  go_enter Try.func28, Try.ntmps28
  go_wp2_with fail
  obtain ⟨y1, hy1⟩ : ∃ y : Ext W, y.w = x.w.alloc (.cells #[.int .i64 0, .slice none 0 0, .slice none 0 0, .slice none 0 0] 27) := ⟨x.alloc _, rfl⟩
  rw [← hy1]
  have bR0 := new_blk hy1.symm
  clear hy1
  refine Calls.mono (l1New_ans (row.ext y1) len byte (fun p hp => Nat.lt_of_lt_of_le (lt p hp) y1.size) (Ext.self y1.w)) ?_
  rintro e w' ⟨C, y2, rfl, rfl, hC, hc⟩
  have bR := y2.blk bR0
  have hRl := (Array.getElem?_eq_some_iff.1 bR0).1
  have hRC : ¬ x.w.heap.size = C := by omega
  have hCW : W.heap.size ≤ C := by have := x.size; omega
  have hoW : Only W y2.w (· = C) := Only.of (y1.trans y2).below _
  have hx := x.size
  clear bR0 row lt
  go_wp2_with fail
  refine Calls.mono (l1Once_ans hc 5 (by omega) (by omega)) ?_
  rintro e w2 ⟨bb, rfl, hoy, hc2⟩
  clear hc
  cases bb
  · skip
    go_wp2_with fail
    refine Calls.mono (dSystem_ans hc2) ?_
    rintro e w3 ⟨⟨pa, ta, ba, pc, tc, bc⟩, s, rfl, ho3, hc3, si, hr2, tk⟩
    have hr : ∀ p, pa = some p ∨ ta = some p ∨ ba = some p → x.w.heap.size < p.block := fun p hp => by have := (hr2 p hp).1; have := hoy.size; have := y2.size; omega
    have ho9 := hoy.trans ho3
    have bR3 := only_blk ho9 bR hRC
    have f0 := blk_cell bR3 0
    have f1 := blk_cell bR3 1
    have f2 := blk_cell bR3 2
    have f3 := blk_cell bR3 3
    have z0 := blk_free bR3 0
    have z1 := blk_free bR3 1
    have z2 := blk_free bR3 2
    have z3 := blk_free bR3 3
    simp at f0 f1 f2 f3
    have ho8 : Only W w3 (· = C) := hoW.trans ho9
    go_wp2_with fail
    clear f0 f1 f2 f3 z0 z1 z2 z3
    generalize hY4 : World.setCell _ _ _ = Y4
    obtain ⟨hoF, hsF, bF⟩ := set4 ho8 x.size bR3 hY4
    have q0 := blk_cell bF 0
    have q1 := blk_cell bF 1
    have q2 := blk_cell bF 2
    have q3 := blk_cell bF 3
    simp at q0 q1 q2 q3
    refine bodyPost_ret (v := Ref.val ⟨pa, ta, ba, pc, tc, bc⟩ s) (by simp [Ref.val,  results, Try.results28, go_sem, q0, q1, q2, q3]) rfl ?_
    exact ⟨_, _, rfl, below_only hCW hoF, sys_same si hsF (fun p hp e => by have := hr p hp; omega), ⟨tk.p.2, tk.t.2, tk.b.2⟩⟩
  · skip
    go_wp2_with fail
    refine Calls.mono (dAnySystem_ans hc2) ?_
    rintro e w3 ⟨⟨pa, ta, ba, pc, tc, bc⟩, s, rfl, ho3, hc3, si, hr2, tk⟩
    have hr : ∀ p, pa = some p ∨ ta = some p ∨ ba = some p → x.w.heap.size < p.block := fun p hp => by have := (hr2 p hp); have := hoy.size; have := y2.size; omega
    have ho9 := hoy.trans ho3
    have bR3 := only_blk ho9 bR hRC
    have f0 := blk_cell bR3 0
    have f1 := blk_cell bR3 1
    have f2 := blk_cell bR3 2
    have f3 := blk_cell bR3 3
    have z0 := blk_free bR3 0
    have z1 := blk_free bR3 1
    have z2 := blk_free bR3 2
    have z3 := blk_free bR3 3
    simp at f0 f1 f2 f3
    have ho8 : Only W w3 (· = C) := hoW.trans ho9
    go_wp2_with fail
    clear f0 f1 f2 f3 z0 z1 z2 z3
    generalize hY4 : World.setCell _ _ _ = Y4
    obtain ⟨hoF, hsF, bF⟩ := set4 ho8 x.size bR3 hY4
    have q0 := blk_cell bF 0
    have q1 := blk_cell bF 1
    have q2 := blk_cell bF 2
    have q3 := blk_cell bF 3
    simp at q0 q1 q2 q3
    refine bodyPost_ret (v := Ref.val ⟨pa, ta, ba, pc, tc, bc⟩ s) (by simp [Ref.val,  results, Try.results28, go_sem, q0, q1, q2, q3]) rfl ?_
    exact ⟨_, _, rfl, below_only hCW hoF, sys_same si hsF (fun p hp e => by have := hr p hp; omega), tk⟩

set_option maxHeartbeats 4000000 in
theorem drawLeastGrade_ans {W : World} {a : Option Addr} {c : Nat} {l : List Int} (row : Row W (Value.int .u8) a l) (len : l.length ≤ 4611686018427387904) (byte : ∀ u ∈ l, 0 ≤ u ∧ u ≤ 255) (lt : ∀ p, a = some p → p.block < W.heap.size) (x : Ext W) :
    Calls Try.prog 37 #[.slice a l.length c] x.w (DrawnS W) := by
  go_enter Try.func37, Try.ntmps37
  go_wp2_with fail
  obtain ⟨y1, hy1⟩ : ∃ y : Ext W, y.w = x.w.alloc (.cells #[.int .i64 0, .slice none 0 0, .slice none 0 0, .slice none 0 0] 27) := ⟨x.alloc _, rfl⟩
  rw [← hy1]
  have bR0 := new_blk hy1.symm
  clear hy1
  refine Calls.mono (l1New_ans (row.ext y1) len byte (fun p hp => Nat.lt_of_lt_of_le (lt p hp) y1.size) (Ext.self y1.w)) ?_
  rintro e w' ⟨C, y2, rfl, rfl, hC, hc⟩
  have bR := y2.blk bR0
  have hRl := (Array.getElem?_eq_some_iff.1 bR0).1
  have hRC : ¬ x.w.heap.size = C := by omega
  have hCW : W.heap.size ≤ C := by have := x.size; omega
  have hoW : Only W y2.w (· = C) := Only.of (y1.trans y2).below _
  have hx := x.size
  clear bR0 row lt
  go_wp2_with fail
  refine Calls.mono (l1Once_ans hc 5 (by omega) (by omega)) ?_
  rintro e w2 ⟨bb, rfl, hoy, hc2⟩
  clear hc
  cases bb
  · skip
    go_wp2_with fail
    refine Calls.mono (dSystem_ans hc2) ?_
    rintro e w3 ⟨⟨pa, ta, ba, pc, tc, bc⟩, s, rfl, ho3, hc3, si, hr2, tk⟩
    have hr : ∀ p, pa = some p ∨ ta = some p ∨ ba = some p → x.w.heap.size < p.block := fun p hp => by have := (hr2 p hp).1; have := hoy.size; have := y2.size; omega
    have ho9 := hoy.trans ho3
    have bR3 := only_blk ho9 bR hRC
    have f0 := blk_cell bR3 0
    have f1 := blk_cell bR3 1
    have f2 := blk_cell bR3 2
    have f3 := blk_cell bR3 3
    have z0 := blk_free bR3 0
    have z1 := blk_free bR3 1
    have z2 := blk_free bR3 2
    have z3 := blk_free bR3 3
    simp at f0 f1 f2 f3
    have ho8 : Only W w3 (· = C) := hoW.trans ho9
    go_wp2_with fail
    clear f0 f1 f2 f3 z0 z1 z2 z3
    generalize hY4 : World.setCell _ _ _ = Y4
    obtain ⟨hoF, hsF, bF⟩ := set4 ho8 x.size bR3 hY4
    have q0 := blk_cell bF 0
    have q1 := blk_cell bF 1
    have q2 := blk_cell bF 2
    have q3 := blk_cell bF 3
    simp at q0 q1 q2 q3
    refine bodyPost_ret (v := Ref.val ⟨pa, ta, ba, pc, tc, bc⟩ s) (by simp [Ref.val,  results, Try.results37, go_sem, q0, q1, q2, q3]) rfl ?_
    exact ⟨_, _, rfl, below_only hCW hoF, sys_same si hsF (fun p hp e => by have := hr p hp; omega), ⟨tk.p.2, tk.t.2, tk.b.2⟩⟩
  · skip
    go_wp2_with fail
    refine Calls.mono (dAnySystem_ans hc2) ?_
    rintro e w3 ⟨⟨pa, ta, ba, pc, tc, bc⟩, s, rfl, ho3, hc3, si, hr2, tk⟩
    have hr : ∀ p, pa = some p ∨ ta = some p ∨ ba = some p → x.w.heap.size < p.block := fun p hp => by have := (hr2 p hp); have := hoy.size; have := y2.size; omega
    have ho9 := hoy.trans ho3
    have bR3 := only_blk ho9 bR hRC
    have f0 := blk_cell bR3 0
    have f1 := blk_cell bR3 1
    have f2 := blk_cell bR3 2
    have f3 := blk_cell bR3 3
    have z0 := blk_free bR3 0
    have z1 := blk_free bR3 1
    have z2 := blk_free bR3 2
    have z3 := blk_free bR3 3
    simp at f0 f1 f2 f3
    have ho8 : Only W w3 (· = C) := hoW.trans ho9
    go_wp2_with fail
    clear f0 f1 f2 f3 z0 z1 z2 z3
    generalize hY4 : World.setCell _ _ _ = Y4
    obtain ⟨hoF, hsF, bF⟩ := set4 ho8 x.size bR3 hY4
    have q0 := blk_cell bF 0
    have q1 := blk_cell bF 1
    have q2 := blk_cell bF 2
    have q3 := blk_cell bF 3
    simp at q0 q1 q2 q3
    refine bodyPost_ret (v := Ref.val ⟨pa, ta, ba, pc, tc, bc⟩ s) (by simp [Ref.val,  results, Try.results37, go_sem, q0, q1, q2, q3]) rfl ?_
    exact ⟨_, _, rfl, below_only hCW hoF, sys_same si hsF (fun p hp e => by have := hr p hp; omega), tk⟩

set_option maxHeartbeats 4000000 in
theorem drawIsSystem_ans {W : World} {a : Option Addr} {c : Nat} {l : List Int} (row : Row W (Value.int .u8) a l) (len : l.length ≤ 4611686018427387904) (byte : ∀ u ∈ l, 0 ≤ u ∧ u ≤ 255) (lt : ∀ p, a = some p → p.block < W.heap.size) (x : Ext W) :
    Calls Try.prog 12 #[.slice a l.length c] x.w (DrawnS W) := by
  go_enter Try.func12, Try.ntmps12
  go_wp2_with fail
  obtain ⟨y1, hy1⟩ : ∃ y : Ext W, y.w = x.w.alloc (.cells #[.int .i64 0, .slice none 0 0, .slice none 0 0, .slice none 0 0] 27) := ⟨x.alloc _, rfl⟩
  rw [← hy1]
  have bR0 := new_blk hy1.symm
  clear hy1
  refine Calls.mono (l1New_ans (row.ext y1) len byte (fun p hp => Nat.lt_of_lt_of_le (lt p hp) y1.size) (Ext.self y1.w)) ?_
  rintro e w' ⟨C, y2, rfl, rfl, hC, hc⟩
  have bR := y2.blk bR0
  have hRl := (Array.getElem?_eq_some_iff.1 bR0).1
  have hRC : ¬ x.w.heap.size = C := by omega
  have hCW : W.heap.size ≤ C := by have := x.size; omega
  have hoW : Only W y2.w (· = C) := Only.of (y1.trans y2).below _
  have hx := x.size
  clear bR0 row lt
  go_wp2_with fail
  have hc2 := hc
  have hoy : Only y2.w y2.w (· = C) := Only.refl _ _
  refine Calls.mono (dAnySystem_ans hc2) ?_
  rintro e w3 ⟨⟨pa, ta, ba, pc, tc, bc⟩, s, rfl, ho3, hc3, si, hr2, tk⟩
  have hr : ∀ p, pa = some p ∨ ta = some p ∨ ba = some p → x.w.heap.size < p.block := fun p hp => by have := (hr2 p hp); have := hoy.size; have := y2.size; omega
  have ho9 := hoy.trans ho3
  have bR3 := only_blk ho9 bR hRC
  have f0 := blk_cell bR3 0
  have f1 := blk_cell bR3 1
  have f2 := blk_cell bR3 2
  have f3 := blk_cell bR3 3
  have z0 := blk_free bR3 0
  have z1 := blk_free bR3 1
  have z2 := blk_free bR3 2
  have z3 := blk_free bR3 3
  simp at f0 f1 f2 f3
  have ho8 : Only W w3 (· = C) := hoW.trans ho9
  go_wp2_with fail
  clear f0 f1 f2 f3 z0 z1 z2 z3
  generalize hY4 : World.setCell _ _ _ = Y4
  obtain ⟨hoF, hsF, bF⟩ := set4 ho8 x.size bR3 hY4
  have q0 := blk_cell bF 0
  have q1 := blk_cell bF 1
  have q2 := blk_cell bF 2
  have q3 := blk_cell bF 3
  simp at q0 q1 q2 q3
  refine bodyPost_ret (v := Ref.val ⟨pa, ta, ba, pc, tc, bc⟩ s) (by simp [Ref.val,  results, Try.results12, go_sem, q0, q1, q2, q3]) rfl ?_
  exact ⟨_, _, rfl, below_only hCW hoF, sys_same si hsF (fun p hp e => by have := hr p hp; omega), tk⟩

end Go.Proofs.Ytkokmpdmmfghhaa
