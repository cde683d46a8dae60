
/- The laws' marks of a system. -/
import Derived.Test.YtbfelekohdiddaaMark
import Derived.Test.YtbfelekohdiddaaOnly
namespace Go.Proofs.Ytbfelekohdiddaa
open Go.RowKit

set_option maxHeartbeats 4000000 in
theorem heldIntS_ans {W : World} {a : Option Addr} {c : Nat} {l : List Int} (h : Row W (Value.int .i64) a l) (hn : l.length ≤ 1000000000) (m : Int) (h0 : 0 ≤ m) (h1 : m ≤ 1000000000) (hl : ∀ (i : Nat) u, l[i]? = some u → u = m + (i : Int)) (x : Ext W) :
    Calls Try.prog 33 #[.slice a l.length c, .int .i64 m] x.w (Ans W (.int .i64 (m + l.length))) := by
  have HL := Lib.hid hl
  clear hl
  obtain ⟨yy, hyy⟩ : ∃ y : Ext W, x = y := ⟨x, rfl⟩
  rw [hyy]
  clear hyy
  go_enter Try.func33, Try.ntmps33
  go_wp2
  go_loopw [5, 1] (fun i k wr => ∃ j : Nat, i = .int .i64 j ∧ k = .int .i64 (m + j) ∧ j ≤ l.length ∧ (∃ y : Ext W, wr = y.w)) (fun i _ _ => l.length - (intOf i).toNat)
  case atStart => exact ⟨0, rfl, by simp, by omega, ⟨yy, rfl⟩⟩
  case round =>
    obtain ⟨j, rfl, rfl, hj, ⟨yy, rfl⟩⟩ := hrel
    by_cases hlt : j < l.length
    · have hlt' : (j : Int) < (l.length : Int) := by omega
      obtain ⟨b1, o1, rfl, hc⟩ := h.at hlt
      have c1 : ∀ y : Ext W, y.w.cell? ⟨b1, o1 + j, none⟩ = some ((Value.int .i64) l[j]) := fun y => y.cell (hc j _ (List.getElem?_eq_getElem hlt))
      have hu := HL.out j _ (List.getElem?_eq_getElem hlt)
      clear hc
      generalize l[j] = u at *
      subst hu
      skip
      go_wp2
      go_roundw
      case rel => exact ⟨j + 1, by go_num, by go_num, by omega, ⟨yy, rfl⟩⟩
      case measure => simp [intOf]; omega
    · have hlt' : ¬ (j : Int) < (l.length : Int) := by omega
      have hke : (j : Int) = (l.length : Int) := by omega
      have HK := Lib.hid hke
      clear hke
      go_wp2
      go_ret
      exact fin_int (by rw [HK.out]) ⟨yy, rfl⟩

set_option maxHeartbeats 4000000 in
theorem heldBoolS_ans {W : World} {a : Option Addr} {c : Nat} {l : List Bool} (h : Row W Value.bool a l) (hn : l.length ≤ 1000000000) (m : Int) (h0 : 0 ≤ m) (h1 : m ≤ 1000000000) (hl : ∀ (i : Nat) u, l[i]? = some u → u = bit3 (m + (i : Int))) (x : Ext W) :
    Calls Try.prog 34 #[.slice a l.length c, .int .i64 m] x.w (Ans W (.int .i64 (m + l.length))) := by
  have HL := Lib.hid hl
  clear hl
  obtain ⟨yy, hyy⟩ : ∃ y : Ext W, x = y := ⟨x, rfl⟩
  rw [hyy]
  clear hyy
  go_enter Try.func34, Try.ntmps34
  go_wp2
  go_loopw [5, 1] (fun i k wr => ∃ j : Nat, i = .int .i64 j ∧ k = .int .i64 (m + j) ∧ j ≤ l.length ∧ (∃ y : Ext W, wr = y.w)) (fun i _ _ => l.length - (intOf i).toNat)
  case atStart => exact ⟨0, rfl, by simp, by omega, ⟨yy, rfl⟩⟩
  case round =>
    obtain ⟨j, rfl, rfl, hj, ⟨yy, rfl⟩⟩ := hrel
    by_cases hlt : j < l.length
    · have hlt' : (j : Int) < (l.length : Int) := by omega
      obtain ⟨b1, o1, rfl, hc⟩ := h.at hlt
      have c1 : ∀ y : Ext W, y.w.cell? ⟨b1, o1 + j, none⟩ = some (Value.bool l[j]) := fun y => y.cell (hc j _ (List.getElem?_eq_getElem hlt))
      have hu := HL.out j _ (List.getElem?_eq_getElem hlt)
      clear hc
      generalize l[j] = u at *
      subst hu
      unfold bit3 at c1
      have hb3 : (m + (j : Int)).tmod 3 = (m + (j : Int)) % 3 := Int.tmod_eq_emod_of_nonneg (by omega)
      go_wp2
      go_roundw
      case rel => exact ⟨j + 1, by go_num, by go_num, by omega, ⟨yy, rfl⟩⟩
      case measure => simp [intOf]; omega
    · have hlt' : ¬ (j : Int) < (l.length : Int) := by omega
      have hke : (j : Int) = (l.length : Int) := by omega
      have HK := Lib.hid hke
      clear hke
      go_wp2
      go_ret
      exact fin_int (by rw [HK.out]) ⟨yy, rfl⟩

def Apart (v u : Value) : Prop := v.ownBlock = none ∨ v.ownBlock ≠ u.ownBlock
theorem Apart.symm {v u : Value} (h : Apart v u) : Apart u v := by
  unfold Apart at *
  cases hv : v.ownBlock <;> cases hu : u.ownBlock <;> simp_all
  exact fun e => h e.symm
/-- A system whose three tables lie in blocks of their own, from base on. -/
structure Own3 (w : World) (base : Nat) (r : Ref) (n1 n2 n3 : Nat) (x1 x2 x3 : List Value) : Prop where
  o1 : w.ownsRow base 3 1 (.slice r.pa n1 r.pc) n1 x1
  o2 : w.ownsRow base 3 1 (.slice r.ta n2 r.tc) n2 x2
  o3 : w.ownsRow base 4 1 (.slice r.ba n3 r.bc) n3 x3
  d12 : Apart (.slice r.pa n1 r.pc) (.slice r.ta n2 r.tc)
  d13 : Apart (.slice r.pa n1 r.pc) (.slice r.ba n3 r.bc)
  d23 : Apart (.slice r.ta n2 r.tc) (.slice r.ba n3 r.bc)
theorem Own3.ext {W : World} {base : Nat} {r : Ref} {n1 n2 n3 : Nat} {x1 x2 x3 : List Value} (h : Own3 W base r n1 n2 n3 x1 x2 x3) (y : Ext W) : Own3 y.w base r n1 n2 n3 x1 x2 x3 :=
  ⟨owns_ext h.o1 y, owns_ext h.o2 y, owns_ext h.o3 y, h.d12, h.d13, h.d23⟩
theorem Own3.lower {W : World} {base base' : Nat} {r : Ref} {n1 n2 n3 : Nat} {x1 x2 x3 : List Value} (h : Own3 W base r n1 n2 n3 x1 x2 x3) (hb : base' ≤ base) : Own3 W base' r n1 n2 n3 x1 x2 x3 :=
  ⟨owns_lower h.o1 hb, owns_lower h.o2 hb, owns_lower h.o3 hb, h.d12, h.d13, h.d23⟩
theorem own_row {α : Type} {w : World} {base : Nat} {E : TypeId} {mk : α → Value} {a : Option Addr} {c : Nat} {l : List α} (h : w.ownsRow base E 1 (.slice a l.length c) l.length (l.map mk)) : Row w mk a l := by
  obtain ⟨a', c', e, hr, _⟩ := owned_row h
  cases e
  exact hr
/-- A new system whose tables lie in blocks of their own. -/
def NewOwn (W : World) (s : Sys) : Ending → World → Prop := fun e w' => ∃ (r : Ref) (y : Ext W), e = .returned (r.val s) ∧ w' = y.w ∧
  Own3 y.w W.heap.size r s.plus.length s.times.length s.below.length (s.plus.map (Value.int .i64)) (s.times.map (Value.int .i64)) (s.below.map Value.bool)
theorem Own3.sys {w : World} {base : Nat} {r : Ref} {s : Sys} (h : Own3 w base r s.plus.length s.times.length s.below.length (s.plus.map (Value.int .i64)) (s.times.map (Value.int .i64)) (s.below.map Value.bool)) (sm : Small s) : SysIn w r s :=
  ⟨own_row h.o1, own_row h.o2, own_row h.o3, by have := sm.p; omega, by have := sm.t; omega, by have := sm.b; omega⟩

set_option maxHeartbeats 4000000 in
theorem markSystem_ans {w : World} {base : Nat} {r : Ref} {n1 n2 n3 : Nat} {x1 x2 x3 : List Value} (h : Own3 w base r n1 n2 n3 x1 x2 x3) (hbase : base ≤ w.heap.size) (z : Int) (hn1 : n1 ≤ 100000000) (hn2 : n2 ≤ 100000000) (hn3 : n3 ≤ 100000000) (m : Int) (hm0 : 0 ≤ m) (hm1 : m ≤ 100000000) :
    Calls Try.prog 11 #[.agg #[.int .i64 z, .slice r.pa n1 r.pc, .slice r.ta n2 r.tc, .slice r.ba n3 r.bc], .int .i64 m] w (fun e w' => e = .returned (.int .i64 (m + n1 + n2 + n3)) ∧
      Own3 w' base r n1 n2 n3 (marksI m n1) (marksI (m + n1) n2) (marksB (m + n1 + n2) n3) ∧ Below base w w' ∧ Only w w' (fun g => ob r.pa = some g ∨ ob r.ta = some g ∨ ob r.ba = some g)) := by
  go_enter Try.func11, Try.ntmps11
  go_wp2_with fail
  have l1 := h.o1.lt
  have l2 := h.o2.lt
  have l3 := h.o3.lt
  generalize hWb : w.alloc _ = Wb
  generalize hB : w.heap.size = B at *
  have bB : Wb.heap[B]? = some (.cells #[.int .i64 z, .slice r.pa n1 r.pc, .slice r.ta n2 r.tc, .slice r.ba n3 r.bc] 25 (0, 0)) := by
    subst hWb; subst hB
    show (w.heap.push _)[w.heap.size]? = _
    rw [Array.getElem?_push, if_pos rfl]
  have o1 : Wb.ownsRow base 3 1 (.slice r.pa n1 r.pc) n1 x1 := by subst hWb; exact h.o1.alloc _
  have o2 : Wb.ownsRow base 3 1 (.slice r.ta n2 r.tc) n2 x2 := by subst hWb; exact h.o2.alloc _
  have o3 : Wb.ownsRow base 4 1 (.slice r.ba n3 r.bc) n3 x3 := by subst hWb; exact h.o3.alloc _
  have bel : Below base w Wb := by subst hWb; exact (Below.refl _ _).alloc (by omega) _
  have hBs : B < Wb.heap.size := (Array.getElem?_eq_some_iff.1 bB).1
  have only0 : Only w Wb (fun g => ob r.pa = some g ∨ ob r.ta = some g ∨ ob r.ba = some g) := by subst hWb; exact Only.alloc _ _ _
  clear hWb
  refine Calls.mono (markIntS_ans o1 (by omega) m (by omega) (by omega)) ?_
  rintro e wa ⟨rfl, p1, g1⟩
  have bBa : wa.heap[B]? = _ := (g1.block B hBs (fun e => by have := (l1 B e.symm).2; omega)).trans bB
  have o2 := o2.kept g1 h.d12.symm
  have o3 := o3.kept g1 h.d13.symm
  have bel := bel.grown g1 (by omega) (fun k hk => (l1 k hk).1)
  have hBs : B < wa.heap.size := (Array.getElem?_eq_some_iff.1 bBa).1
  have k2 := blk_cell bBa 2
  have z2 : wa.cell? ⟨B, 2, none⟩ = some (.slice r.ta n2 r.tc) := k2
  have only1 := only0.trans (Only.grown (B := fun g => ob r.pa = some g ∨ ob r.ta = some g ∨ ob r.ba = some g) g1 (fun g e => .inl (by rw [← e, ob_eq])))
  clear k2 o1 bB
  go_wp2_with fail
  refine Calls.mono (markIntS_ans o2 (by omega) (m + n1) (by omega) (by omega)) ?_
  rintro e wb ⟨rfl, p2, g2⟩
  have bBb : wb.heap[B]? = _ := (g2.block B hBs (fun e => by have := (l2 B e.symm).2; omega)).trans bBa
  have p1 := p1.kept g2 h.d12
  have o3 := o3.kept g2 h.d23.symm
  have bel := bel.grown g2 (by omega) (fun k hk => (l2 k hk).1)
  have hBs : B < wb.heap.size := (Array.getElem?_eq_some_iff.1 bBb).1
  have k3 := blk_cell bBb 3
  have z3 : wb.cell? ⟨B, 3, none⟩ = some (.slice r.ba n3 r.bc) := k3
  have only2 := only1.trans (Only.grown (B := fun g => ob r.pa = some g ∨ ob r.ta = some g ∨ ob r.ba = some g) g2 (fun g e => .inr (.inl (by rw [← e, ob_eq]))))
  clear k3 o2 bBa z2
  go_wp2_with fail
  refine Calls.mono (markBoolS_ans o3 (by omega) (m + n1 + n2) (by omega) (by omega)) ?_
  rintro e wc ⟨rfl, p3, g3⟩
  have p1 := p1.kept g3 h.d13
  have p2 := p2.kept g3 h.d23
  have bel := bel.grown g3 (by omega) (fun k hk => (l3 k hk).1)
  have only3 := only2.trans (Only.grown (B := fun g => ob r.pa = some g ∨ ob r.ta = some g ∨ ob r.ba = some g) g3 (fun g e => .inr (.inr (by rw [← e, ob_eq]))))
  clear bBb z3
  go_wp2_with fail
  go_ret
  exact ⟨rfl, ⟨p1, p2, p3, h.d12, h.d13, h.d23⟩, bel, only3⟩

set_option maxHeartbeats 4000000 in
theorem heldSystem_ans {W : World} {r : Ref} {s : Sys} (h : SysIn W r s) (hn1 : s.plus.length ≤ 100000000) (hn2 : s.times.length ≤ 100000000) (hn3 : s.below.length ≤ 100000000) (m : Int) (hm0 : 0 ≤ m) (hm1 : m ≤ 100000000)
    (m1 : ∀ (i : Nat) u, s.plus[i]? = some u → u = m + (i : Int)) (m2 : ∀ (i : Nat) u, s.times[i]? = some u → u = m + (s.plus.length : Int) + (i : Int)) (m3 : ∀ (i : Nat) u, s.below[i]? = some u → u = bit3 (m + (s.plus.length : Int) + (s.times.length : Int) + (i : Int))) (x : Ext W) :
    Calls Try.prog 12 #[r.val s, .int .i64 m] x.w (Ans W (.int .i64 (m + s.plus.length + s.times.length + s.below.length))) := by
  have M1 := Lib.hid m1
  have M2 := Lib.hid m2
  have M3 := Lib.hid m3
  clear m1 m2 m3
  unfold Ref.val
  go_enter Try.func12, Try.ntmps12
  go_wp2_with fail
  generalize hW : x.w.alloc _ = W1
  generalize hB : x.w.heap.size = B
  obtain ⟨c0, c1, c2, c3, h1, hback, yy, hy0⟩ := boxed h x hB hW
  clear hW hB
  rw [← hy0]
  clear hy0
  (with_reducible refine Calls.mono (heldIntS_ans h1.plus (by omega) (m) (by omega) (by omega) M1.out _) ?_)
  rintro e w' ⟨rfl, yy, rfl⟩
  go_wp2_with fail
  (with_reducible refine Calls.mono (heldIntS_ans h1.times (by omega) (m + s.plus.length) (by omega) (by omega) M2.out _) ?_)
  rintro e w' ⟨rfl, yy, rfl⟩
  go_wp2_with fail
  (with_reducible refine Calls.mono (heldBoolS_ans h1.below (by omega) (m + s.plus.length + s.times.length) (by omega) (by omega) M3.out _) ?_)
  rintro e w' ⟨rfl, yy, rfl⟩
  go_wp2_with fail
  go_ret
  exact ⟨rfl, hback yy⟩

def uptoI (m : Int) (n : Nat) : List Int := (List.range n).map fun (i : Nat) => m + (i : Int)
def bitsB (m : Int) (n : Nat) : List Bool := (List.range n).map fun (i : Nat) => bit3 (m + (i : Int))
theorem marksI_eq (m : Int) (n : Nat) : marksI m n = (uptoI m n).map (Value.int .i64) := by simp [marksI, uptoI, List.map_map]
theorem marksB_eq (m : Int) (n : Nat) : marksB m n = (bitsB m n).map Value.bool := by simp [marksB, bitsB, List.map_map]
theorem uptoI_len (m : Int) (n : Nat) : (uptoI m n).length = n := by simp [uptoI]
theorem bitsB_len (m : Int) (n : Nat) : (bitsB m n).length = n := by simp [bitsB]
theorem uptoI_at {m : Int} {n i : Nat} {u : Int} (h : (uptoI m n)[i]? = some u) : u = m + (i : Int) := by
  obtain ⟨hi, h⟩ := List.getElem?_eq_some_iff.1 h
  rw [← h]; simp [uptoI]
theorem bitsB_at {m : Int} {n i : Nat} {u : Bool} (h : (bitsB m n)[i]? = some u) : u = bit3 (m + (i : Int)) := by
  obtain ⟨hi, h⟩ := List.getElem?_eq_some_iff.1 h
  rw [← h]; simp [bitsB]
/-- A system whose tables are marked. -/
def mkdS (s : Sys) (m : Int) : Sys := ⟨s.n, uptoI m s.plus.length, uptoI (m + s.plus.length) s.times.length, bitsB (m + s.plus.length + s.times.length) s.below.length⟩
theorem mkdS_val (r : Ref) (s : Sys) (m : Int) : r.val (mkdS s m) = r.val s := by simp [Ref.val, mkdS, uptoI_len, bitsB_len]
theorem Own3.marked {w : World} {base : Nat} {r : Ref} {s : Sys} {m : Int} (h : Own3 w base r s.plus.length s.times.length s.below.length (marksI m s.plus.length) (marksI (m + s.plus.length) s.times.length) (marksB (m + s.plus.length + s.times.length) s.below.length)) (sm : Small s) : SysIn w r (mkdS s m) := by
  have o1 := h.o1
  have o2 := h.o2
  have o3 := h.o3
  rw [marksI_eq] at o1 o2
  rw [marksB_eq] at o3
  refine ⟨own_row (c := r.pc) (l := uptoI m s.plus.length) (by rw [uptoI_len]; exact o1), own_row (c := r.tc) (l := uptoI (m + s.plus.length) s.times.length) (by rw [uptoI_len]; exact o2), own_row (c := r.bc) (l := bitsB (m + s.plus.length + s.times.length) s.below.length) (by rw [bitsB_len]; exact o3), ?_, ?_, ?_⟩
  · have := sm.p; simp [mkdS, uptoI_len]; omega
  · have := sm.t; simp [mkdS, uptoI_len]; omega
  · have := sm.b; simp [mkdS, bitsB_len]; omega
theorem heldMarked_ans {W : World} {r : Ref} {s : Sys} {m : Int} (h : SysIn W r (mkdS s m)) (hn1 : s.plus.length ≤ 100000000) (hn2 : s.times.length ≤ 100000000) (hn3 : s.below.length ≤ 100000000) (hm0 : 0 ≤ m) (hm1 : m ≤ 100000000) (x : Ext W) :
    Calls Try.prog 12 #[r.val s, .int .i64 m] x.w (Ans W (.int .i64 (m + s.plus.length + s.times.length + s.below.length))) := by
  have e1 : (mkdS s m).plus.length = s.plus.length := uptoI_len _ _
  have e2 : (mkdS s m).times.length = s.times.length := uptoI_len _ _
  have e3 : (mkdS s m).below.length = s.below.length := bitsB_len _ _
  have := heldSystem_ans h (by omega) (by omega) (by omega) m hm0 hm1 (fun i u hu => uptoI_at hu) (fun i u hu => by rw [e1]; exact uptoI_at hu) (fun i u hu => by rw [e1, e2]; exact bitsB_at hu) x
  rw [mkdS_val, e1, e2, e3] at this
  exact this

end Go.Proofs.Ytbfelekohdiddaa
