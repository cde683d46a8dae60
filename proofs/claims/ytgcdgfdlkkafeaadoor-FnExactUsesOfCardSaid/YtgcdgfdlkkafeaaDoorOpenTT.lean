/- What the tables of forms read as, and a heap that has them. -/
import Derived.Test.YtgcdgfdlkkafeaaDoorOpenT
import Derived.Test.YtgcdgfdlkkafeaaDoorFormsT
import Derived.Laws.IdiomArrays
set_option linter.unusedVariables false
namespace Go.Proofs.YtgcdgfdlkkafeaaDoor
open Go.RowKit Go.ChangeShapes Go.WideShapes Go.ChangeAt Go.WideMaps Go.WideElems

section
variable {H : Type} {enc : TypeId × Value → H} {w : World} {sp : Nat → Bool} {held : Bool} {base : Nat}
set_option maxRecDepth 100000 in
theorem tform_open {m : Nat} {cs : List Value} {x : DataW H × List MemPlace} (h : DataW.trod enc Tryd.prog w base sp held m 110 cs = some x) :
    ∃ (s : ByteArray) (k a b c : Int) (g t : Bool), cs = [.string s, .int .i64 k, .int .i64 a, .int .i64 b, .int .i64 c, .bool g, .bool t] ∧ x.1 = .agg [.lit (.string s.data.toList), .lit (.int .i64 k), .agg [.lit (.int .i64 a), .lit (.int .i64 b), .lit (.int .i64 c)], .lit (.bool g), .lit (.bool t)] := by
  obtain ⟨xs, n, rfl, rfl, hl, hn, hel⟩ := DataW.trod_struct Tryd.underlying110 h
  have c0 : Tryd.prog.cellsOf 110 = 7 := by kernel_rfl
  have c1 : Tryd.prog.cellsOf 9 = 1 := by kernel_rfl
  have c2 : Tryd.prog.cellsOf 3 = 1 := by kernel_rfl
  have c3 : Tryd.prog.cellsOf 4 = 1 := by kernel_rfl
  have c4 : Tryd.prog.cellsOf 108 = 3 := by kernel_rfl
  rw [c0] at hl
  match cs, hl, xs, hn with
  | [a0, a1, a2, a3, a4, a5, a6], _, [x0, x1, x2, x3, x4], _ =>
    have h0 : DataW.trod enc Tryd.prog w base sp held n 9 (([a0, a1, a2, a3, a4, a5, a6].drop 0).take (Tryd.prog.cellsOf 9)) = some x0 := hel 0 _ rfl
    have h1 : DataW.trod enc Tryd.prog w base sp held n 3 (([a0, a1, a2, a3, a4, a5, a6].drop 1).take (Tryd.prog.cellsOf 3)) = some x1 := hel 1 _ rfl
    have h2 : DataW.trod enc Tryd.prog w base sp held n 108 (([a0, a1, a2, a3, a4, a5, a6].drop 2).take (Tryd.prog.cellsOf 108)) = some x2 := hel 2 _ rfl
    have h3 : DataW.trod enc Tryd.prog w base sp held n 4 (([a0, a1, a2, a3, a4, a5, a6].drop 5).take (Tryd.prog.cellsOf 4)) = some x3 := hel 3 _ rfl
    have h4 : DataW.trod enc Tryd.prog w base sp held n 4 (([a0, a1, a2, a3, a4, a5, a6].drop 6).take (Tryd.prog.cellsOf 4)) = some x4 := hel 4 _ rfl
    rw [c1] at h0
    rw [c2] at h1
    rw [c4] at h2
    rw [c3] at h3 h4
    obtain ⟨s, e0, q0, _⟩ := DataW.trod_string Tryd.underlying9 (x := x0) h0
    obtain ⟨c, e1, q1, _⟩ := DataW.trod_int Tryd.underlying3 (x := x1) h1
    obtain ⟨y0, y1, y2, n2, q2, g0, g1, g2⟩ := trod_array3 Tryd.underlying108 c2 (x := x2) h2
    obtain ⟨i0, u0, w0, _⟩ := DataW.trod_int Tryd.underlying3 g0
    obtain ⟨i1, u1, w1, _⟩ := DataW.trod_int Tryd.underlying3 g1
    obtain ⟨i2, u2, w2, _⟩ := DataW.trod_int Tryd.underlying3 g2
    obtain ⟨p, e3, q3⟩ := DataW.trod_bool Tryd.underlying4 (x := x3) h3
    obtain ⟨g, e4, q4⟩ := DataW.trod_bool Tryd.underlying4 (x := x4) h4
    simp at e0 e1 e3 e4 u0 u1 u2
    subst e0; subst e1; subst e3; subst e4; subst u0; subst u1; subst u2; subst w0; subst w1; subst w2; subst q0; subst q1; subst q2; subst q3; subst q4
    exact ⟨s, c, i0, i1, i2, p, g, rfl, rfl⟩
end

theorem gTForms : Tryd.prog.globalNamed "loop.example/g03111/impl.termForms" = some 1 := by kernel_rfl
theorem tTForms : (Tryd.prog.globals[1]?).map (·.type) = some 111 := by kernel_rfl
set_option maxRecDepth 100000 in
set_option maxHeartbeats 4000000 in
theorem tforms_cells {W : World} {sp : Nat → Bool} {held : Bool} {m : Nat} {cs : List Value} {p : List MemPlace} (h : DataW.trod (fun _ => ()) Tryd.prog W 0 sp held m 111 cs = some (Rows.laid_loop_example_g03111_impl_termForms, p)) : cs = tformCells := by
  obtain ⟨xs, n, rfl, hx, hl, hn, hel⟩ := DataW.trod_array Tryd.underlying111 h
  have c0 : Tryd.prog.cellsOf 111 = 91 := by kernel_rfl
  have c1 : Tryd.prog.cellsOf 110 = 7 := by kernel_rfl
  rw [c0] at hl
  rw [c1] at hel
  match xs, hn with
  | [x0, x1, x2, x3, x4, x5, x6, x7, x8, x9, x10, x11, x12], _ =>
    have hx1 := (Prod.mk.inj hx).1
    unfold Rows.laid_loop_example_g03111_impl_termForms at hx1
    simp only [List.map_cons, List.map_nil, DataW.agg.injEq, List.cons.injEq, and_true] at hx1
    obtain ⟨y0, y1, y2, y3, y4, y5, y6, y7, y8, y9, y10, y11, y12⟩ := hx1
    obtain ⟨s0, k0, a0, b0, c0c, g0, t0, e0, q0⟩ := tform_open (x := x0) (hel 0 (by decide))
    rw [← y0] at q0
    simp only [DataW.agg.injEq, List.cons.injEq, DataW.lit.injEq, Lit.string.injEq, Lit.int.injEq, Lit.bool.injEq, and_true, true_and] at q0
    obtain ⟨r0, rfl, ⟨rfl, rfl, rfl⟩, rfl, rfl⟩ := q0
    rw [string_of_list r0.symm] at e0
    obtain ⟨s1, k1, a1, b1, c1c, g1, t1, e1, q1⟩ := tform_open (x := x1) (hel 1 (by decide))
    rw [← y1] at q1
    simp only [DataW.agg.injEq, List.cons.injEq, DataW.lit.injEq, Lit.string.injEq, Lit.int.injEq, Lit.bool.injEq, and_true, true_and] at q1
    obtain ⟨r1, rfl, ⟨rfl, rfl, rfl⟩, rfl, rfl⟩ := q1
    rw [string_of_list r1.symm] at e1
    obtain ⟨s2, k2, a2, b2, c2c, g2, t2, e2, q2⟩ := tform_open (x := x2) (hel 2 (by decide))
    rw [← y2] at q2
    simp only [DataW.agg.injEq, List.cons.injEq, DataW.lit.injEq, Lit.string.injEq, Lit.int.injEq, Lit.bool.injEq, and_true, true_and] at q2
    obtain ⟨r2, rfl, ⟨rfl, rfl, rfl⟩, rfl, rfl⟩ := q2
    rw [string_of_list r2.symm] at e2
    obtain ⟨s3, k3, a3, b3, c3c, g3, t3, e3, q3⟩ := tform_open (x := x3) (hel 3 (by decide))
    rw [← y3] at q3
    simp only [DataW.agg.injEq, List.cons.injEq, DataW.lit.injEq, Lit.string.injEq, Lit.int.injEq, Lit.bool.injEq, and_true, true_and] at q3
    obtain ⟨r3, rfl, ⟨rfl, rfl, rfl⟩, rfl, rfl⟩ := q3
    rw [string_of_list r3.symm] at e3
    obtain ⟨s4, k4, a4, b4, c4c, g4, t4, e4, q4⟩ := tform_open (x := x4) (hel 4 (by decide))
    rw [← y4] at q4
    simp only [DataW.agg.injEq, List.cons.injEq, DataW.lit.injEq, Lit.string.injEq, Lit.int.injEq, Lit.bool.injEq, and_true, true_and] at q4
    obtain ⟨r4, rfl, ⟨rfl, rfl, rfl⟩, rfl, rfl⟩ := q4
    rw [string_of_list r4.symm] at e4
    obtain ⟨s5, k5, a5, b5, c5c, g5, t5, e5, q5⟩ := tform_open (x := x5) (hel 5 (by decide))
    rw [← y5] at q5
    simp only [DataW.agg.injEq, List.cons.injEq, DataW.lit.injEq, Lit.string.injEq, Lit.int.injEq, Lit.bool.injEq, and_true, true_and] at q5
    obtain ⟨r5, rfl, ⟨rfl, rfl, rfl⟩, rfl, rfl⟩ := q5
    rw [string_of_list r5.symm] at e5
    obtain ⟨s6, k6, a6, b6, c6c, g6, t6, e6, q6⟩ := tform_open (x := x6) (hel 6 (by decide))
    rw [← y6] at q6
    simp only [DataW.agg.injEq, List.cons.injEq, DataW.lit.injEq, Lit.string.injEq, Lit.int.injEq, Lit.bool.injEq, and_true, true_and] at q6
    obtain ⟨r6, rfl, ⟨rfl, rfl, rfl⟩, rfl, rfl⟩ := q6
    rw [string_of_list r6.symm] at e6
    obtain ⟨s7, k7, a7, b7, c7c, g7, t7, e7, q7⟩ := tform_open (x := x7) (hel 7 (by decide))
    rw [← y7] at q7
    simp only [DataW.agg.injEq, List.cons.injEq, DataW.lit.injEq, Lit.string.injEq, Lit.int.injEq, Lit.bool.injEq, and_true, true_and] at q7
    obtain ⟨r7, rfl, ⟨rfl, rfl, rfl⟩, rfl, rfl⟩ := q7
    rw [string_of_list r7.symm] at e7
    obtain ⟨s8, k8, a8, b8, c8c, g8, t8, e8, q8⟩ := tform_open (x := x8) (hel 8 (by decide))
    rw [← y8] at q8
    simp only [DataW.agg.injEq, List.cons.injEq, DataW.lit.injEq, Lit.string.injEq, Lit.int.injEq, Lit.bool.injEq, and_true, true_and] at q8
    obtain ⟨r8, rfl, ⟨rfl, rfl, rfl⟩, rfl, rfl⟩ := q8
    rw [string_of_list r8.symm] at e8
    obtain ⟨s9, k9, a9, b9, c9c, g9, t9, e9, q9⟩ := tform_open (x := x9) (hel 9 (by decide))
    rw [← y9] at q9
    simp only [DataW.agg.injEq, List.cons.injEq, DataW.lit.injEq, Lit.string.injEq, Lit.int.injEq, Lit.bool.injEq, and_true, true_and] at q9
    obtain ⟨r9, rfl, ⟨rfl, rfl, rfl⟩, rfl, rfl⟩ := q9
    rw [string_of_list r9.symm] at e9
    obtain ⟨s10, k10, a10, b10, c10c, g10, t10, e10, q10⟩ := tform_open (x := x10) (hel 10 (by decide))
    rw [← y10] at q10
    simp only [DataW.agg.injEq, List.cons.injEq, DataW.lit.injEq, Lit.string.injEq, Lit.int.injEq, Lit.bool.injEq, and_true, true_and] at q10
    obtain ⟨r10, rfl, ⟨rfl, rfl, rfl⟩, rfl, rfl⟩ := q10
    rw [string_of_list r10.symm] at e10
    obtain ⟨s11, k11, a11, b11, c11c, g11, t11, e11, q11⟩ := tform_open (x := x11) (hel 11 (by decide))
    rw [← y11] at q11
    simp only [DataW.agg.injEq, List.cons.injEq, DataW.lit.injEq, Lit.string.injEq, Lit.int.injEq, Lit.bool.injEq, and_true, true_and] at q11
    obtain ⟨r11, rfl, ⟨rfl, rfl, rfl⟩, rfl, rfl⟩ := q11
    rw [string_of_list r11.symm] at e11
    obtain ⟨s12, k12, a12, b12, c12c, g12, t12, e12, q12⟩ := tform_open (x := x12) (hel 12 (by decide))
    rw [← y12] at q12
    simp only [DataW.agg.injEq, List.cons.injEq, DataW.lit.injEq, Lit.string.injEq, Lit.int.injEq, Lit.bool.injEq, and_true, true_and] at q12
    obtain ⟨r12, rfl, ⟨rfl, rfl, rfl⟩, rfl, rfl⟩ := q12
    rw [string_of_list r12.symm] at e12
    have f0 := drop_split cs 0 7
    rw [drop_split cs (0 + 7) 7, drop_split cs (0 + 7 + 7) 7, drop_split cs (0 + 7 + 7 + 7) 7, drop_split cs (0 + 7 + 7 + 7 + 7) 7, drop_split cs (0 + 7 + 7 + 7 + 7 + 7) 7, drop_split cs (0 + 7 + 7 + 7 + 7 + 7 + 7) 7, drop_split cs (0 + 7 + 7 + 7 + 7 + 7 + 7 + 7) 7, drop_split cs (0 + 7 + 7 + 7 + 7 + 7 + 7 + 7 + 7) 7, drop_split cs (0 + 7 + 7 + 7 + 7 + 7 + 7 + 7 + 7 + 7) 7, drop_split cs (0 + 7 + 7 + 7 + 7 + 7 + 7 + 7 + 7 + 7 + 7) 7, drop_split cs (0 + 7 + 7 + 7 + 7 + 7 + 7 + 7 + 7 + 7 + 7 + 7) 7, drop_split cs (0 + 7 + 7 + 7 + 7 + 7 + 7 + 7 + 7 + 7 + 7 + 7 + 7) 7] at f0
    simp only [Nat.zero_mul, Nat.reduceMul, Nat.reduceAdd, Nat.zero_add, Nat.one_mul] at e0 e1 e2 e3 e4 e5 e6 e7 e8 e9 e10 e11 e12 f0
    have hd : cs.drop 91 = [] := List.drop_eq_nil_of_le (by omega)
    rw [e0, e1, e2, e3, e4, e5, e6, e7, e8, e9, e10, e11, e12, hd] at f0
    exact f0

theorem forms_var2 {W : World} (h : laidMetH Tryd.prog [("loop.example/g03111/impl.typeForms", Rows.laid_loop_example_g03111_impl_typeForms), ("loop.example/g03111/impl.termForms", Rows.laid_loop_example_g03111_impl_termForms)] W) : W.var? Tryd.prog "loop.example/g03111/impl.typeForms" = some formCells.toArray ∧ W.var? Tryd.prog "loop.example/g03111/impl.termForms" = some tformCells.toArray := by
  rw [MakeChecks.laidMetH_plain _ _ _ (by kernel_rfl)] at h
  obtain ⟨ps, ⟨g, t, cs, f, p, q, hg, ht, hv, hd, ⟨g2, t2, cs2, f2, p2, q2, hg2, ht2, hv2, hd2, _⟩, _⟩, _⟩ := h
  obtain rfl := Option.some.inj (gForms.symm.trans hg)
  obtain rfl := Option.some.inj (tForms.symm.trans ht)
  obtain rfl := Option.some.inj (gTForms.symm.trans hg2)
  obtain rfl := Option.some.inj (tTForms.symm.trans ht2)
  exact ⟨by rw [hv, ← forms_cells hd], by rw [hv2, ← tforms_cells hd2]⟩
theorem tforms_of_var {W : World} (hv : W.var? Tryd.prog "loop.example/g03111/impl.termForms" = some tformCells.toArray) : TForms W := fun j v hj => by
  have := World.var?_cell gTForms hv j
  rw [this]
  simpa using hj
/-- The table of forms of terms as a datum. -/
def tformsD {H : Type} : DataW H := .agg [.agg [.lit (.string []), .lit (.int .i64 0), .agg [.lit (.int .i64 0), .lit (.int .i64 0), .lit (.int .i64 0)], .lit (.bool false), .lit (.bool false)], .agg [.lit (.string []), .lit (.int .i64 0), .agg [.lit (.int .i64 0), .lit (.int .i64 0), .lit (.int .i64 0)], .lit (.bool false), .lit (.bool false)], .agg [.lit (.string [97, 100, 100]), .lit (.int .i64 2), .agg [.lit (.int .i64 0), .lit (.int .i64 0), .lit (.int .i64 0)], .lit (.bool false), .lit (.bool false)], .agg [.lit (.string [105, 102]), .lit (.int .i64 3), .agg [.lit (.int .i64 0), .lit (.int .i64 0), .lit (.int .i64 0)], .lit (.bool false), .lit (.bool false)], .agg [.lit (.string [112, 97, 105, 114]), .lit (.int .i64 2), .agg [.lit (.int .i64 0), .lit (.int .i64 0), .lit (.int .i64 0)], .lit (.bool false), .lit (.bool false)], .agg [.lit (.string [115, 112, 108, 105, 116]), .lit (.int .i64 2), .agg [.lit (.int .i64 0), .lit (.int .i64 2), .lit (.int .i64 0)], .lit (.bool true), .lit (.bool false)], .agg [.lit (.string [108, 101, 102, 116]), .lit (.int .i64 1), .agg [.lit (.int .i64 0), .lit (.int .i64 0), .lit (.int .i64 0)], .lit (.bool false), .lit (.bool true)], .agg [.lit (.string [114, 105, 103, 104, 116]), .lit (.int .i64 1), .agg [.lit (.int .i64 0), .lit (.int .i64 0), .lit (.int .i64 0)], .lit (.bool false), .lit (.bool true)], .agg [.lit (.string [99, 97, 115, 101]), .lit (.int .i64 3), .agg [.lit (.int .i64 0), .lit (.int .i64 1), .lit (.int .i64 1)], .lit (.bool true), .lit (.bool false)], .agg [.lit (.string [102, 117, 110]), .lit (.int .i64 1), .agg [.lit (.int .i64 1), .lit (.int .i64 0), .lit (.int .i64 0)], .lit (.bool true), .lit (.bool true)], .agg [.lit (.string [97, 112, 112]), .lit (.int .i64 2), .agg [.lit (.int .i64 0), .lit (.int .i64 0), .lit (.int .i64 0)], .lit (.bool false), .lit (.bool false)], .agg [.lit (.string [98, 111, 120]), .lit (.int .i64 1), .agg [.lit (.int .i64 0), .lit (.int .i64 0), .lit (.int .i64 0)], .lit (.bool true), .lit (.bool false)], .agg [.lit (.string [111, 112, 101, 110]), .lit (.int .i64 2), .agg [.lit (.int .i64 0), .lit (.int .i64 1), .lit (.int .i64 0)], .lit (.bool true), .lit (.bool false)]]
theorem tforms_reads {H : Type} (enc : TypeId × Value → H) (W : World) (sp : Nat → Bool) : DataW.trod enc Tryd.prog W 0 sp true 4 111 tformCells = some (tformsD, []) := by kernel_rfl
theorem forms_met2 (os : Os) (args : Array Value) : laidMetH Tryd.prog [("loop.example/g03111/impl.typeForms", Rows.laid_loop_example_g03111_impl_typeForms), ("loop.example/g03111/impl.termForms", Rows.laid_loop_example_g03111_impl_termForms)] ((World.doorLaid Tryd.prog 400 os).forCall (fun _ _ => 0) ⟨#[], args, []⟩).memory :=
  laidMetH_of_parts3 (fuel := 8) (laidMet_of_run' 8 (by kernel_rfl) (by kernel_rfl)) (by kernel_rfl) (by kernel_rfl)
theorem trodVars_two {H : Type} {enc : TypeId × Value → H} {P : Program} {w : World} {spare : Nat → Bool} {n m : String} {gs : List (DataW H)} {ps : List MemPlace} (h : DataW.TrodVars enc P w spare [n, m] gs ps) :
    ∃ g t cs fuel d p g2 t2 cs2 fuel2 d2 p2, gs = [d, d2] ∧ P.globalNamed n = some g ∧ (P.globals[g]?).map (·.type) = some t ∧ w.var? P n = some cs ∧ DataW.trod enc P w 0 spare true fuel t cs.toList = some (d, p) ∧
      P.globalNamed m = some g2 ∧ (P.globals[g2]?).map (·.type) = some t2 ∧ w.var? P m = some cs2 ∧ DataW.trod enc P w 0 spare true fuel2 t2 cs2.toList = some (d2, p2) ∧ ps = MemPlace.row ⟨g, 0, none⟩ cs.size ++ p ++ (MemPlace.row ⟨g2, 0, none⟩ cs2.size ++ p2) := by
  cases gs with
  | nil => simp [DataW.TrodVars] at h
  | cons d ds =>
    obtain ⟨g, t, cs, fuel, p, q, h1, h2, h3, h4, hs, e⟩ := h
    obtain ⟨g2, t2, cs2, fuel2, d2, p2, rfl, k1, k2, k3, k4, rfl⟩ := trodVars_one hs
    exact ⟨g, t, cs, fuel, d, p, g2, t2, cs2, fuel2, d2, p2, rfl, h1, h2, h3, h4, k1, k2, k3, k4, e⟩

end Go.Proofs.YtgcdgfdlkkafeaaDoor
