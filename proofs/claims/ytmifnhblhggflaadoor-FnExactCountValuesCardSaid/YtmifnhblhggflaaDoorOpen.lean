
/- What the rows' arguments read as: a system, a slice of numbers. -/
import Derived.Test.YtmifnhblhggflaaDoorBase
import Derived.Test.YtmifnhblhggflaaDoorRows
import Derived.ProofKit
import Derived.OpenShut
import Derived.ShutString
import Derived.ChangeOld
import Derived.Below
import Derived.Lib.SmallJoins
import Derived.Deep.Grids
set_option linter.unusedVariables false
namespace Go.Proofs.YtmifnhblhggflaaDoor
open Go.RowKit Go.ChangeShapes Go.WideShapes Go.ChangeAt

open Go.ChangeShapes Go.WideShapes Go.ChangeAt
theorem laidOut : laidOutB Tryd.prog = true := by kernel_rfl
theorem own : ownKnob Tryd.prog.godebug = none := by kernel_rfl

section
variable {H : Type} {enc : TypeId × Value → H} {w : World}
theorem row_of_cells {α : Type} {mk : α → Value} {a : Addr} {l : List α} {len : Nat} {f : Nat → α} (hl : l.length = len) (hf : ∀ i (h : i < l.length), l[i] = f i) (h : ∀ i, i < len → w.cell? (a.add i) = some (mk (f i))) : Row w mk (some a) l := by
  by_cases h0 : len = 0
  · exact .inl (List.eq_nil_of_length_eq_zero (by omega))
  · have hc := h 0 (by omega)
    obtain ⟨b, o, spot⟩ := a
    have hspot : spot = none := by simpa [Addr.add] using World.cell?_spot hc
    subst hspot
    refine .inr ⟨b, o, rfl, fun i x hx => ?_⟩
    obtain ⟨hi, hx⟩ := List.getElem?_eq_some_iff.1 hx
    rw [← add_plain, h i (by omega), ← hx, hf i hi]

theorem open_row_ints {fuel : Nat} {c : Value} {x : DataW H × List MemPlace} (h : DataW.trod enc Tryd.prog w 0 (fun _ => true) true fuel 22 [c] = some x) :
    ∃ (a : Option Addr) (cap : Nat) (l : List Int), c = .slice a l.length cap ∧ Row w (Value.int .i64) a l ∧ l.length ≤ 9223372036854775807 ∧ (∀ n ∈ l, (Lit.int .i64 n).wf = true) := by
  rcases open_ints Tryd.underlying22 Tryd.underlying3 (by kernel_rfl) h with ⟨hcs, _⟩ | ⟨a, len, cap, zs, hcs, _, hl, hm, hz, _, hcell, hwz⟩
  · simp at hcs
    exact ⟨none, 0, [], hcs, .inl rfl, by simp, by simp⟩
  · simp at hcs hz
    unfold maxLen at hm
    have e : (zs.take len).length = len := by simp; omega
    refine ⟨some a, cap, zs.take len, by rw [e]; exact hcs, row_of_cells e (f := fun i => zs.getD i 0) (fun i hi => ?_) (fun i hi => hcell i (by omega)), by omega, fun n hn => hwz n (List.mem_of_mem_take hn)⟩
    rw [List.getElem_take]; simp [List.getD_eq_getElem?_getD, List.getElem?_eq_getElem (show i < zs.length by omega)]

theorem open_row_bools {fuel : Nat} {c : Value} {x : DataW H × List MemPlace} (h : DataW.trod enc Tryd.prog w 0 (fun _ => true) true fuel 50 [c] = some x) :
    ∃ (a : Option Addr) (cap : Nat) (l : List Bool), c = .slice a l.length cap ∧ Row w Value.bool a l ∧ l.length ≤ 9223372036854775807 := by
  rcases Deep.open_bools Tryd.underlying50 Tryd.underlying4 (by kernel_rfl) h with ⟨hcs, _⟩ | ⟨a, len, cap, B, hcs, _, hl, hm, _, hcell⟩
  · simp at hcs
    exact ⟨none, 0, [], hcs, .inl rfl, by simp⟩
  · simp at hcs
    unfold maxLen at hm
    have e : ((List.range len).map B).length = len := by simp
    refine ⟨some a, cap, (List.range len).map B, by rw [e]; exact hcs, row_of_cells e (f := B) (fun i hi => ?_) (fun i hi => hcell i (by omega)), by omega⟩
    simp

set_option maxRecDepth 100000 in
theorem open_sys {r0 : Reach} {b0 : Nat} {v : Value} {d : DataW H} {p : List MemPlace} (hv : Value.okWide Tryd.prog w r0 b0 52 v) (h : DataW.Trod enc Tryd.prog w 0 (fun _ => true) true 52 v d p) :
    ∃ (r : Ref) (s : Sys), v = r.val s ∧ SysIn w r s := by
  obtain ⟨c0, c1, c2, c3, y0, y1, y2, y3, m, rfl, _, _, t0, t1, t2, t3⟩ := Joins.open_agg4 Tryd.underlying52 (by kernel_rfl) (by kernel_rfl) hv h
  obtain ⟨n, e0, _, _⟩ := DataW.trod_int Tryd.underlying3 t0
  simp at e0
  obtain ⟨a1, p1, l1, rfl, r1, b1, _⟩ := open_row_ints t1
  obtain ⟨a2, p2, l2, rfl, r2, b2, _⟩ := open_row_ints t2
  obtain ⟨a3, p3, l3, rfl, r3, b3⟩ := open_row_bools t3
  subst e0
  exact ⟨⟨a1, a2, a3, p1, p2, p3⟩, ⟨n, l1, l2, l3⟩, rfl, r1, r2, r3, b1, b2, b3⟩
end

end Go.Proofs.YtmifnhblhggflaaDoor
