
/- The laws' marks of a system. -/
import Derived.Test.YtiekppegfocejaaDoorMark
import Derived.Test.YtiekppegfocejaaDoorOnly
namespace Go.Proofs.YtiekppegfocejaaDoor
open Go.RowKit

set_option maxHeartbeats 4000000 in
theorem heldIntS_ans {W : World} {a : Option Addr} {c : Nat} {l : List Int} (h : Row W (Value.int .i64) a l) (hn : l.length ≤ 1000000000) (m : Int) (h0 : 0 ≤ m) (h1 : m ≤ 1000000000) (hl : ∀ (i : Nat) u, l[i]? = some u → u = m + (i : Int)) (x : Ext W) :
    Calls Tryd.prog 27 #[.slice a l.length c, .int .i64 m] x.w (Ans W (.int .i64 (m + l.length))) := by
  have HL := Lib.hid hl
  clear hl
  obtain ⟨yy, hyy⟩ : ∃ y : Ext W, x = y := ⟨x, rfl⟩
  rw [hyy]
  clear hyy
  go_enter Tryd.func27, Tryd.ntmps27
  go_wp2
  go_loopw [5, 1] (fun i k wr => ∃ j : Nat, i = .int .i64 j ∧ k = .int .i64 (m + j) ∧ j ≤ l.length ∧ (∃ y : Ext W, wr = y.w)) (fun i _ _ => l.length - (intOf i).toNat)
  case atStart => exact ⟨0, rfl, by simp, by omega, ⟨yy, rfl⟩⟩
  case round =>
    obtain ⟨j, rfl, rfl, hj, ⟨yy, rfl⟩⟩ := hrel
    by_cases hlt : j < l.length
    · have hlt' : (j : Int) < (l.length : Int) := by omega
      obtain ⟨b1, o1, rfl, hc⟩ := h.at hlt
      have c1 : ∀ y : Ext W, y.w.cell? ⟨b1, o1 + j, none⟩ = some ((Value.int .i64) l[j]) := fun y => y.cell (hc j _ (List.getElem?_eq_getElem hlt))
      have hu := HL.out j _ (List.getElem?_eq_getElem hlt)
      clear hc
      generalize l[j] = u at *
      subst hu
      skip
      go_wp2
      go_roundw
      case rel => exact ⟨j + 1, by go_num, by go_num, by omega, ⟨yy, rfl⟩⟩
      case measure => simp [intOf]; omega
    · have hlt' : ¬ (j : Int) < (l.length : Int) := by omega
      have hke : (j : Int) = (l.length : Int) := by omega
      have HK := Lib.hid hke
      clear hke
      go_wp2
      go_ret
      exact fin_int (by rw [HK.out]) ⟨yy, rfl⟩

def Apart (v u : Value) : Prop := v.ownBlock = none ∨ v.ownBlock ≠ u.ownBlock
theorem Apart.symm {v u : Value} (h : Apart v u) : Apart u v := by
  unfold Apart at *
  cases hv : v.ownBlock <;> cases hu : u.ownBlock <;> simp_all
  exact fun e => h e.symm
/-- A system whose three tables lie in blocks of their own, from base on. -/
structure Own3 (w : World) (base : Nat) (r : Ref) (n1 n2 n3 : Nat) (x1 x2 x3 : List Value) : Prop where
  o1 : w.ownsRow base 3 1 (.slice r.pa n1 r.pc) n1 x1
  o2 : w.ownsRow base 3 1 (.slice r.ta n2 r.tc) n2 x2
  o3 : w.ownsRow base 4 1 (.slice r.ba n3 r.bc) n3 x3
  d12 : Apart (.slice r.pa n1 r.pc) (.slice r.ta n2 r.tc)
  d13 : Apart (.slice r.pa n1 r.pc) (.slice r.ba n3 r.bc)
  d23 : Apart (.slice r.ta n2 r.tc) (.slice r.ba n3 r.bc)
theorem Own3.ext {W : World} {base : Nat} {r : Ref} {n1 n2 n3 : Nat} {x1 x2 x3 : List Value} (h : Own3 W base r n1 n2 n3 x1 x2 x3) (y : Ext W) : Own3 y.w base r n1 n2 n3 x1 x2 x3 :=
  ⟨owns_ext h.o1 y, owns_ext h.o2 y, owns_ext h.o3 y, h.d12, h.d13, h.d23⟩
theorem Own3.lower {W : World} {base base' : Nat} {r : Ref} {n1 n2 n3 : Nat} {x1 x2 x3 : List Value} (h : Own3 W base r n1 n2 n3 x1 x2 x3) (hb : base' ≤ base) : Own3 W base' r n1 n2 n3 x1 x2 x3 :=
  ⟨owns_lower h.o1 hb, owns_lower h.o2 hb, owns_lower h.o3 hb, h.d12, h.d13, h.d23⟩
theorem own_row {α : Type} {w : World} {base : Nat} {E : TypeId} {mk : α → Value} {a : Option Addr} {c : Nat} {l : List α} (h : w.ownsRow base E 1 (.slice a l.length c) l.length (l.map mk)) : Row w mk a l := by
  obtain ⟨a', c', e, hr, _⟩ := owned_row h
  cases e
  exact hr
/-- A new system whose tables lie in blocks of their own. -/
def NewOwn (W : World) (s : Sys) : Ending → World → Prop := fun e w' => ∃ (r : Ref) (y : Ext W), e = .returned (r.val s) ∧ w' = y.w ∧
  Own3 y.w W.heap.size r s.plus.length s.times.length s.below.length (s.plus.map (Value.int .i64)) (s.times.map (Value.int .i64)) (s.below.map Value.bool)
theorem Own3.sys {w : World} {base : Nat} {r : Ref} {s : Sys} (h : Own3 w base r s.plus.length s.times.length s.below.length (s.plus.map (Value.int .i64)) (s.times.map (Value.int .i64)) (s.below.map Value.bool)) (sm : Small s) : SysIn w r s :=
  ⟨own_row h.o1, own_row h.o2, own_row h.o3, by have := sm.p; omega, by have := sm.t; omega, by have := sm.b; omega⟩

def uptoI (m : Int) (n : Nat) : List Int := (List.range n).map fun (i : Nat) => m + (i : Int)
def bitsB (m : Int) (n : Nat) : List Bool := (List.range n).map fun (i : Nat) => bit3 (m + (i : Int))
theorem marksI_eq (m : Int) (n : Nat) : marksI m n = (uptoI m n).map (Value.int .i64) := by simp [marksI, uptoI, List.map_map]
theorem marksB_eq (m : Int) (n : Nat) : marksB m n = (bitsB m n).map Value.bool := by simp [marksB, bitsB, List.map_map]
theorem uptoI_len (m : Int) (n : Nat) : (uptoI m n).length = n := by simp [uptoI]
theorem bitsB_len (m : Int) (n : Nat) : (bitsB m n).length = n := by simp [bitsB]
theorem uptoI_at {m : Int} {n i : Nat} {u : Int} (h : (uptoI m n)[i]? = some u) : u = m + (i : Int) := by
  obtain ⟨hi, h⟩ := List.getElem?_eq_some_iff.1 h
  rw [← h]; simp [uptoI]
theorem bitsB_at {m : Int} {n i : Nat} {u : Bool} (h : (bitsB m n)[i]? = some u) : u = bit3 (m + (i : Int)) := by
  obtain ⟨hi, h⟩ := List.getElem?_eq_some_iff.1 h
  rw [← h]; simp [bitsB]
/-- A system whose tables are marked. -/
def mkdS (s : Sys) (m : Int) : Sys := ⟨s.n, uptoI m s.plus.length, uptoI (m + s.plus.length) s.times.length, bitsB (m + s.plus.length + s.times.length) s.below.length⟩
theorem mkdS_val (r : Ref) (s : Sys) (m : Int) : r.val (mkdS s m) = r.val s := by simp [Ref.val, mkdS, uptoI_len, bitsB_len]
theorem Own3.marked {w : World} {base : Nat} {r : Ref} {s : Sys} {m : Int} (h : Own3 w base r s.plus.length s.times.length s.below.length (marksI m s.plus.length) (marksI (m + s.plus.length) s.times.length) (marksB (m + s.plus.length + s.times.length) s.below.length)) (sm : Small s) : SysIn w r (mkdS s m) := by
  have o1 := h.o1
  have o2 := h.o2
  have o3 := h.o3
  rw [marksI_eq] at o1 o2
  rw [marksB_eq] at o3
  refine ⟨own_row (c := r.pc) (l := uptoI m s.plus.length) (by rw [uptoI_len]; exact o1), own_row (c := r.tc) (l := uptoI (m + s.plus.length) s.times.length) (by rw [uptoI_len]; exact o2), own_row (c := r.bc) (l := bitsB (m + s.plus.length + s.times.length) s.below.length) (by rw [bitsB_len]; exact o3), ?_, ?_, ?_⟩
  · have := sm.p; simp [mkdS, uptoI_len]; omega
  · have := sm.t; simp [mkdS, uptoI_len]; omega
  · have := sm.b; simp [mkdS, bitsB_len]; omega
end Go.Proofs.YtiekppegfocejaaDoor
