/- For every term (of whatever shape) and every number NormalForm answers as its model does, in memory of its own, at each of two calls, and leaves its arguments alone; the two tables of forms read as the program's own text lays them; no other condition. -/
import Derived.Test.YtncfbljablbglaaDoorZ3GC
import Derived.Test.YtncfbljablbglaaDoorZ3KLawNormalForm
import Derived.Test.YtncfbljablbglaaDoorTie
import Derived.Test.YtncfbljablbglaaDoorCards
import Derived.SevenTiedAt
set_option linter.unusedVariables false
set_option linter.unusedSimpArgs false
set_option linter.unusedVariables false
namespace Go.Proofs.YtncfbljablbglaaDoor
open Go.RowKit Go.ChangeShapes Go.WideShapes Go.ChangeAt Go.WideMaps Go.WideElems

set_option maxRecDepth 100000 in
theorem fnExactNormalForm_lifted (os : Os) (started : os.Started) (H : Type) (enc : TypeId × Value → H) :
    ReturnsInHanded {} Tryd.checked os 3 .any (fun w args => (Rows.fnExactNormalFormSpec.pre enc Tryd.prog Tryd.f3 [] false w args ∧ laidMetH Tryd.prog [("loop.example/g03111/impl.typeForms", Rows.laid_loop_example_g03111_impl_typeForms), ("loop.example/g03111/impl.termForms", Rows.laid_loop_example_g03111_impl_termForms)] w) ∧ sizedMet enc Tryd.prog Tryd.f3 (OpenSpec.ofChange Rows.fnExactNormalFormSpec) false w args)
      (Rows.fnExactNormalFormSpec.post enc Tryd.prog Tryd.f3 false true false false) := by
  refine returnsInHanded_of_change_and (C := Tryd.checked) (X := fun w _ => laidMetH Tryd.prog [("loop.example/g03111/impl.typeForms", Rows.laid_loop_example_g03111_impl_typeForms), ("loop.example/g03111/impl.termForms", Rows.laid_loop_example_g03111_impl_termForms)] w) (fun _ _ _ hh h => h.of_heap hh) own started (by kernel_rfl) Tryd.func3
    (ChangeSpec.witness_shaped (enc := enc) (C := Tryd.checked) (os := os) (X := fun w _ => laidMetH Tryd.prog [("loop.example/g03111/impl.typeForms", Rows.laid_loop_example_g03111_impl_typeForms), ("loop.example/g03111/impl.termForms", Rows.laid_loop_example_g03111_impl_termForms)] w) false (World.doorLaid Tryd.prog 400 os) #[.agg #[.int .i64 0, .int .i64 0, .slice none 0 0, .slice none 0 0], .int .i64 0] 8 rfl (World.shaped_of_RefB (by kernel_rfl) (by kernel_rfl)) (by kernel_rfl) (by kernel_rfl) (by kernel_rfl) (forms_met2 os _)) ?_
  intro W base args ds gs before hval0 hW _ _ hL _
  have hval : ∀ (j : Nat) t v, Tryd.f3.params[j]? = some t → args[j]? = some v → Value.okWide Tryd.prog W .any base t v := hval0
  have hW' := hW
  obtain ⟨p, q, hA0, hV0, rfl, hfz, hnd⟩ := hW
  have hA : DataW.TrodAll enc Tryd.prog W 0 (fun _ => true) true Tryd.f3.params.toList args.toList ds p := hA0
  have hV : DataW.TrodVars enc Tryd.prog W (fun _ => true) ["loop.example/g03111/impl.termForms", "loop.example/g03111/impl.typeForms"] gs q := hV0
  rw [Tryd.params3] at hA hval
  obtain ⟨v0, vs0, d0, ds0, p0, q0, hargs, rfl, rfl, h0, g0⟩ := trodAll_cons hA
  obtain ⟨v1, vs1, d1, ds1, p1, q1, rfl, rfl, rfl, h1, g1⟩ := trodAll_cons g0
  obtain ⟨rfl, rfl, rfl⟩ := trodAll_nil g1
  obtain rfl : args = #[v0, v1] := by cases args; simp_all
  obtain ⟨g, tt, cs, fuel, dd, pp, g', tt', cs', fuel', dd', pp', rfl, hg, ht, hvar, hd, hg', ht', hvar', hd', rfl⟩ := trodVars_two hV
  obtain rfl := Option.some.inj (gTForms.symm.trans hg)
  obtain rfl := Option.some.inj (tTForms.symm.trans ht)
  obtain rfl := Option.some.inj (gForms.symm.trans hg')
  obtain rfl := Option.some.inj (tForms.symm.trans ht')
  obtain ⟨hfv, hfv2⟩ := forms_var2 hL
  obtain rfl : cs = tformCells.toArray := Option.some.inj (hvar.symm.trans hfv2)
  obtain rfl : cs' = formCells.toArray := Option.some.inj (hvar'.symm.trans hfv)
  obtain ⟨rfl, rfl⟩ := DataW.Trod.unique (v := .agg tformCells.toArray) ⟨fuel, hd⟩ ⟨4, tforms_reads enc W _⟩
  obtain ⟨rfl, rfl⟩ := DataW.Trod.unique (v := .agg formCells.toArray) ⟨fuel', hd'⟩ ⟨4, forms_reads enc W _⟩
  have FF := forms_of_var hfv
  have TT := tforms_of_var hfv2
  have k0 := h0
  have lt0 : ∀ x ∈ p0, x.block < W.heap.size := by obtain ⟨m, hm⟩ := k0; exact DataW.trod_lt m _ _ _ hm
  obtain ⟨t0, r0, rfl, y0, m0⟩ := open_term (hval 0 25 v0 rfl rfl) h0
  obtain ⟨a1, rfl, rfl, rfl, w1⟩ := open_int Tryd.underlying3 (hval 1 3 v1 rfl rfl) h1
  clear hA0 hval0
  refine (normalForm_law FF TT y0 m0 a1).mono fun e W' ⟨he, bel⟩ => ?_
  subst he
  exact ⟨_, rfl, _, _, _, _, _, _, hW', trodAll_mk1 (shut_bool Tryd.underlying4 _), (trodAll_cons_mk (Below.trod laidOut (by kernel_rfl) (of_decide_eq_true (by kernel_rfl)) k0 bel lt0) (trodAll_cons_mk (shut_int Tryd.underlying3 w1) trodAll_mk0)), ⟨_, _, _, _, _, _, gTForms, tTForms, var_ext ⟨W', bel⟩ hfv2, tforms_reads enc W' _, trodVars_mk1 gForms tForms (var_ext ⟨W', bel⟩ hfv) (forms_reads enc W' _), rfl⟩, bel.frame _, fun h => by cases h⟩

theorem fnExactNormalForm_row : Rows.FnExactNormalFormSaid :=
  OpenClaim.holds_of_wide 3 Tryd.f3 rfl rfl rfl rfl rfl rfl rfl ⟨rfl, rfl, rfl, rfl, rfl⟩ rfl rfl rfl rfl rfl (by kernel_rfl) Tryd.func3 (by kernel_rfl)
    (of_decide_eq_true (by kernel_rfl)) (by unfold Func.isWrapper; first | (rw [if_pos (by decide +kernel)]; kernel_rfl) | (rw [if_neg (by decide +kernel)]; exact ⟨rfl, rfl⟩))
    (fun os started H enc _ => fnExactNormalForm_lifted os started H enc)
theorem fnExactNormalForm_card : Rows.FnExactNormalFormCardSaid :=
  Claim7.holds_tied_plain_at .later [] [.data, .data] true Rows.fnExactNormalFormCard.stood.harness false
    fnExactNormalForm_row (fun _ h => by cases h) (by kernel_rfl) (fun _ h => by cases h) fnExactNormalForm_row_tie rfl ⟨rfl, rfl⟩ (by kernel_rfl) rfl
    (fun f fn hf hfn => by
      obtain rfl : f = 3 := Option.some.inj ((show Tryd.prog.funcNamed "loop.example/g03111/laws.FnExactNormalForm" = some 3 by kernel_rfl).symm.trans hf) |>.symm
      obtain rfl : fn = Tryd.f3 := (Option.some.inj (Tryd.func3.symm.trans hfn)).symm
      exact ⟨by kernel_rfl, fun j t ht => by
        rw [Tryd.params3] at ht
        have hm : t ∈ [25, 3] := by simpa using Array.mem_of_getElem? ht
        have hall : ([25, 3].all fun u => !Tryd.prog.wantsStandIn u) = true := by kernel_rfl
        exact (show Tryd.prog.wantsStandIn t = false by simpa using List.all_eq_true.1 hall t hm)⟩)
    (by kernel_rfl)
#print axioms fnExactNormalForm_card

end Go.Proofs.YtncfbljablbglaaDoor
