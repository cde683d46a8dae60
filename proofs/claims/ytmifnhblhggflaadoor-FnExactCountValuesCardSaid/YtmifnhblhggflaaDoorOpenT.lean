
/- What the table of forms reads as, and a heap that has it. -/
import Derived.Test.YtmifnhblhggflaaDoorOpen
import Derived.Test.YtmifnhblhggflaaDoorForms
import Derived.LaidMore
import Derived.Stop.Joined
import Derived.ChangeVars
set_option linter.unusedVariables false
namespace Go.Proofs.YtmifnhblhggflaaDoor
open Go.RowKit Go.ChangeShapes Go.WideShapes Go.ChangeAt Go.WideElems Go.WideMaps

theorem drop_split {α : Type} (l : List α) (i k : Nat) : l.drop i = (l.drop i).take k ++ l.drop (i + k) := by
  have := (List.take_append_drop k (l.drop i)).symm
  rwa [List.drop_drop] at this
theorem string_of_list {s : ByteArray} {l : List UInt8} (h : s.data.toList = l) : s = ⟨l.toArray⟩ := by
  obtain ⟨d⟩ := s
  simp at h
  subst h
  simp

section
variable {H : Type} {enc : TypeId × Value → H} {w : World} {sp : Nat → Bool} {held : Bool} {base : Nat}
set_option maxRecDepth 100000 in
theorem form_open {m : Nat} {cs : List Value} {x : DataW H × List MemPlace} (h : DataW.trod enc Tryd.prog w base sp held m 108 cs = some x) :
    ∃ (s : ByteArray) (c o p : Int) (g : Bool), cs = [.string s, .int .i64 c, .int .i64 o, .int .i64 p, .bool g] ∧ x.1 = .agg [.lit (.string s.data.toList), .lit (.int .i64 c), .lit (.int .i64 o), .lit (.int .i64 p), .lit (.bool g)] := by
  obtain ⟨xs, n, rfl, rfl, hl, hn, hel⟩ := DataW.trod_struct Tryd.underlying108 h
  have c0 : Tryd.prog.cellsOf 108 = 5 := by kernel_rfl
  have c1 : Tryd.prog.cellsOf 9 = 1 := by kernel_rfl
  have c2 : Tryd.prog.cellsOf 3 = 1 := by kernel_rfl
  have c3 : Tryd.prog.cellsOf 4 = 1 := by kernel_rfl
  rw [c0] at hl
  match cs, hl, xs, hn with
  | [a0, a1, a2, a3, a4], _, [x0, x1, x2, x3, x4], _ =>
    have h0 : DataW.trod enc Tryd.prog w base sp held n 9 (([a0, a1, a2, a3, a4].drop 0).take (Tryd.prog.cellsOf 9)) = some x0 := hel 0 _ rfl
    have h1 : DataW.trod enc Tryd.prog w base sp held n 3 (([a0, a1, a2, a3, a4].drop 1).take (Tryd.prog.cellsOf 3)) = some x1 := hel 1 _ rfl
    have h2 : DataW.trod enc Tryd.prog w base sp held n 3 (([a0, a1, a2, a3, a4].drop 2).take (Tryd.prog.cellsOf 3)) = some x2 := hel 2 _ rfl
    have h3 : DataW.trod enc Tryd.prog w base sp held n 3 (([a0, a1, a2, a3, a4].drop 3).take (Tryd.prog.cellsOf 3)) = some x3 := hel 3 _ rfl
    have h4 : DataW.trod enc Tryd.prog w base sp held n 4 (([a0, a1, a2, a3, a4].drop 4).take (Tryd.prog.cellsOf 4)) = some x4 := hel 4 _ rfl
    rw [c1] at h0
    rw [c2] at h1 h2 h3
    rw [c3] at h4
    obtain ⟨s, e0, q0, _⟩ := DataW.trod_string Tryd.underlying9 (x := x0) h0
    obtain ⟨c, e1, q1, _⟩ := DataW.trod_int Tryd.underlying3 (x := x1) h1
    obtain ⟨o, e2, q2, _⟩ := DataW.trod_int Tryd.underlying3 (x := x2) h2
    obtain ⟨p, e3, q3, _⟩ := DataW.trod_int Tryd.underlying3 (x := x3) h3
    obtain ⟨g, e4, q4⟩ := DataW.trod_bool Tryd.underlying4 (x := x4) h4
    simp at e0 e1 e2 e3 e4
    subst e0; subst e1; subst e2; subst e3; subst e4; subst q0; subst q1; subst q2; subst q3; subst q4
    exact ⟨s, c, o, p, g, rfl, rfl⟩
end

theorem gForms : Tryd.prog.globalNamed "loop.example/g03111/impl.typeForms" = some 0 := by kernel_rfl
theorem tForms : (Tryd.prog.globals[0]?).map (·.type) = some 116 := by kernel_rfl
set_option maxRecDepth 100000 in
theorem forms_cells {W : World} {sp : Nat → Bool} {held : Bool} {m : Nat} {cs : List Value} {p : List MemPlace} (h : DataW.trod (fun _ => ()) Tryd.prog W 0 sp held m 116 cs = some (Rows.laid_loop_example_g03111_impl_typeForms, p)) : cs = formCells := by
  obtain ⟨xs, n, rfl, hx, hl, hn, hel⟩ := DataW.trod_array Tryd.underlying116 h
  have c0 : Tryd.prog.cellsOf 116 = 25 := by kernel_rfl
  have c1 : Tryd.prog.cellsOf 108 = 5 := by kernel_rfl
  rw [c0] at hl
  rw [c1] at hel
  match xs, hn with
  | [x0, x1, x2, x3, x4], _ =>
    have hx1 := (Prod.mk.inj hx).1
    unfold Rows.laid_loop_example_g03111_impl_typeForms at hx1
    simp only [List.map_cons, List.map_nil, DataW.agg.injEq, List.cons.injEq, and_true] at hx1
    obtain ⟨y0, y1, y2, y3, y4⟩ := hx1
    obtain ⟨s0, c0a, o0, p0, g0, e0, q0⟩ := form_open (x := x0) (hel 0 (by decide))
    rw [← y0] at q0
    simp only [DataW.agg.injEq, List.cons.injEq, DataW.lit.injEq, Lit.string.injEq, Lit.int.injEq, Lit.bool.injEq, and_true, true_and] at q0
    obtain ⟨r0, rfl, rfl, rfl, rfl⟩ := q0
    rw [string_of_list r0.symm] at e0
    obtain ⟨s1, c1a, o1, p1, g1, e1, q1⟩ := form_open (x := x1) (hel 1 (by decide))
    rw [← y1] at q1
    simp only [DataW.agg.injEq, List.cons.injEq, DataW.lit.injEq, Lit.string.injEq, Lit.int.injEq, Lit.bool.injEq, and_true, true_and] at q1
    obtain ⟨r1, rfl, rfl, rfl, rfl⟩ := q1
    rw [string_of_list r1.symm] at e1
    obtain ⟨s2, c2a, o2, p2, g2, e2, q2⟩ := form_open (x := x2) (hel 2 (by decide))
    rw [← y2] at q2
    simp only [DataW.agg.injEq, List.cons.injEq, DataW.lit.injEq, Lit.string.injEq, Lit.int.injEq, Lit.bool.injEq, and_true, true_and] at q2
    obtain ⟨r2, rfl, rfl, rfl, rfl⟩ := q2
    rw [string_of_list r2.symm] at e2
    obtain ⟨s3, c3a, o3, p3, g3, e3, q3⟩ := form_open (x := x3) (hel 3 (by decide))
    rw [← y3] at q3
    simp only [DataW.agg.injEq, List.cons.injEq, DataW.lit.injEq, Lit.string.injEq, Lit.int.injEq, Lit.bool.injEq, and_true, true_and] at q3
    obtain ⟨r3, rfl, rfl, rfl, rfl⟩ := q3
    rw [string_of_list r3.symm] at e3
    obtain ⟨s4, c4a, o4, p4, g4, e4, q4⟩ := form_open (x := x4) (hel 4 (by decide))
    rw [← y4] at q4
    simp only [DataW.agg.injEq, List.cons.injEq, DataW.lit.injEq, Lit.string.injEq, Lit.int.injEq, Lit.bool.injEq, and_true, true_and] at q4
    obtain ⟨r4, rfl, rfl, rfl, rfl⟩ := q4
    rw [string_of_list r4.symm] at e4
    have f0 := drop_split cs 0 5
    rw [drop_split cs (0 + 5) 5, drop_split cs (0 + 5 + 5) 5, drop_split cs (0 + 5 + 5 + 5) 5, drop_split cs (0 + 5 + 5 + 5 + 5) 5] at f0
    simp only [Nat.zero_mul, Nat.reduceMul, Nat.reduceAdd, Nat.zero_add, Nat.one_mul] at e0 e1 e2 e3 e4 f0
    have hd : cs.drop 25 = [] := List.drop_eq_nil_of_le (by omega)
    rw [e0, e1, e2, e3, e4, hd] at f0
    exact f0
theorem forms_var {W : World} (h : laidMetH Tryd.prog [("loop.example/g03111/impl.typeForms", Rows.laid_loop_example_g03111_impl_typeForms)] W) : W.var? Tryd.prog "loop.example/g03111/impl.typeForms" = some formCells.toArray := by
  rw [MakeChecks.laidMetH_plain _ _ _ (by kernel_rfl)] at h
  obtain ⟨ps, ⟨g, t, cs, f, p, q, hg, ht, hv, hd, _⟩, _⟩ := h
  obtain rfl := Option.some.inj (gForms.symm.trans hg)
  obtain rfl := Option.some.inj (tForms.symm.trans ht)
  rw [hv, ← forms_cells hd]
theorem forms_of_var {W : World} (hv : W.var? Tryd.prog "loop.example/g03111/impl.typeForms" = some formCells.toArray) : Forms W := fun j v hj => by
  have := World.var?_cell gForms hv j
  rw [this]
  simpa using hj
theorem var_ext {W : World} {n : String} {cs : Array Value} (x : Ext W) (h : W.var? Tryd.prog n = some cs) : x.w.var? Tryd.prog n = some cs := by
  unfold World.var? at h ⊢
  cases e : Tryd.prog.globalNamed n with
  | none => rw [e] at h; cases h
  | some g =>
    rw [e] at h
    simp only [Option.bind_some] at h ⊢
    by_cases hg : g < W.heap.size
    · rw [x.below.block g hg]; exact h
    · rw [Array.getElem?_eq_none (by omega)] at h; cases h
/-- The table of forms as a datum. -/
def formsD {H : Type} : DataW H := .agg [.agg [.lit (.string [110]), .lit (.int .i64 0), .lit (.int .i64 0), .lit (.int .i64 0), .lit (.bool false)], .agg [.lit (.string [42]), .lit (.int .i64 1), .lit (.int .i64 0), .lit (.int .i64 2), .lit (.bool false)], .agg [.lit (.string [43]), .lit (.int .i64 2), .lit (.int .i64 0), .lit (.int .i64 2), .lit (.bool false)], .agg [.lit (.string [62]), .lit (.int .i64 3), .lit (.int .i64 35), .lit (.int .i64 2), .lit (.bool true)], .agg [.lit (.string [33]), .lit (.int .i64 19), .lit (.int .i64 36), .lit (.int .i64 1), .lit (.bool true)]]
theorem forms_reads {H : Type} (enc : TypeId × Value → H) (W : World) (sp : Nat → Bool) : DataW.trod enc Tryd.prog W 0 sp true 4 116 formCells = some (formsD, []) := by kernel_rfl
theorem forms_met (os : Os) (args : Array Value) : laidMetH Tryd.prog [("loop.example/g03111/impl.typeForms", Rows.laid_loop_example_g03111_impl_typeForms)] ((World.doorLaid Tryd.prog 400 os).forCall (fun _ _ => 0) ⟨#[], args, []⟩).memory :=
  laidMetH_of_parts3 (fuel := 8) (laidMet_of_run' 8 (by kernel_rfl) (by kernel_rfl)) (by kernel_rfl) (by kernel_rfl)

end Go.Proofs.YtmifnhblhggflaaDoor
