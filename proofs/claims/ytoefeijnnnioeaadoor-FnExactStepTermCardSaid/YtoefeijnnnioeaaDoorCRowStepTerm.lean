/- For every term (of whatever shape) StepTerm answers as its model does, in memory of its own, at each of two calls, and leaves its arguments alone; the two tables of forms read as the program's own text lays them; no other condition. -/
import Derived.Test.YtoefeijnnnioeaaDoorZ1GC
import Derived.Test.YtoefeijnnnioeaaDoorZ1KLawStepTerm
import Derived.Test.YtoefeijnnnioeaaDoorTie
import Derived.Test.YtoefeijnnnioeaaDoorCards
import Derived.SevenTiedAt
set_option linter.unusedVariables false
set_option linter.unusedSimpArgs false
set_option linter.unusedVariables false
namespace Go.Proofs.YtoefeijnnnioeaaDoor
open Go.RowKit Go.ChangeShapes Go.WideShapes Go.ChangeAt Go.WideMaps Go.WideElems

set_option maxRecDepth 100000 in
theorem fnExactStepTerm_lifted (os : Os) (started : os.Started) (H : Type) (enc : TypeId × Value → H) :
    ReturnsInHanded {} Tryd.checked os 11 .any (fun w args => (Rows.fnExactStepTermSpec.pre enc Tryd.prog Tryd.f11 [] false w args ∧ laidMetH Tryd.prog [("loop.example/g03111/impl.typeForms", Rows.laid_loop_example_g03111_impl_typeForms), ("loop.example/g03111/impl.termForms", Rows.laid_loop_example_g03111_impl_termForms)] w) ∧ sizedMet enc Tryd.prog Tryd.f11 (OpenSpec.ofChange Rows.fnExactStepTermSpec) false w args)
      (Rows.fnExactStepTermSpec.post enc Tryd.prog Tryd.f11 false true false false) := by
  refine returnsInHanded_of_change_and (C := Tryd.checked) (X := fun w _ => laidMetH Tryd.prog [("loop.example/g03111/impl.typeForms", Rows.laid_loop_example_g03111_impl_typeForms), ("loop.example/g03111/impl.termForms", Rows.laid_loop_example_g03111_impl_termForms)] w) (fun _ _ _ hh h => h.of_heap hh) own started (by kernel_rfl) Tryd.func11
    (ChangeSpec.witness_shaped (enc := enc) (C := Tryd.checked) (os := os) (X := fun w _ => laidMetH Tryd.prog [("loop.example/g03111/impl.typeForms", Rows.laid_loop_example_g03111_impl_typeForms), ("loop.example/g03111/impl.termForms", Rows.laid_loop_example_g03111_impl_termForms)] w) false (World.doorLaid Tryd.prog 400 os) #[.agg #[.int .i64 0, .int .i64 0, .slice none 0 0, .slice none 0 0]] 8 rfl (World.shaped_of_RefB (by kernel_rfl) (by kernel_rfl)) (by kernel_rfl) (by kernel_rfl) (by kernel_rfl) (forms_met2 os _)) ?_
  intro W base args ds gs before hval0 hW _ _ hL _
  have hval : ∀ (j : Nat) t v, Tryd.f11.params[j]? = some t → args[j]? = some v → Value.okWide Tryd.prog W .any base t v := hval0
  have hW' := hW
  obtain ⟨p, q, hA0, hV0, rfl, hfz, hnd⟩ := hW
  have hA : DataW.TrodAll enc Tryd.prog W 0 (fun _ => true) true Tryd.f11.params.toList args.toList ds p := hA0
  have hV : DataW.TrodVars enc Tryd.prog W (fun _ => true) ["loop.example/g03111/impl.termForms", "loop.example/g03111/impl.typeForms"] gs q := hV0
  rw [Tryd.params11] at hA hval
  obtain ⟨v0, vs0, d0, ds0, p0, q0, hargs, rfl, rfl, h0, g0⟩ := trodAll_cons hA
  obtain ⟨rfl, rfl, rfl⟩ := trodAll_nil g0
  obtain rfl : args = #[v0] := by cases args; simp_all
  obtain ⟨g, tt, cs, fuel, dd, pp, g', tt', cs', fuel', dd', pp', rfl, hg, ht, hvar, hd, hg', ht', hvar', hd', rfl⟩ := trodVars_two hV
  obtain rfl := Option.some.inj (gTForms.symm.trans hg)
  obtain rfl := Option.some.inj (tTForms.symm.trans ht)
  obtain rfl := Option.some.inj (gForms.symm.trans hg')
  obtain rfl := Option.some.inj (tForms.symm.trans ht')
  obtain ⟨hfv, hfv2⟩ := forms_var2 hL
  obtain rfl : cs = tformCells.toArray := Option.some.inj (hvar.symm.trans hfv2)
  obtain rfl : cs' = formCells.toArray := Option.some.inj (hvar'.symm.trans hfv)
  obtain ⟨rfl, rfl⟩ := DataW.Trod.unique (v := .agg tformCells.toArray) ⟨fuel, hd⟩ ⟨4, tforms_reads enc W _⟩
  obtain ⟨rfl, rfl⟩ := DataW.Trod.unique (v := .agg formCells.toArray) ⟨fuel', hd'⟩ ⟨4, forms_reads enc W _⟩
  have FF := forms_of_var hfv
  have TT := tforms_of_var hfv2
  have k0 := h0
  have lt0 : ∀ x ∈ p0, x.block < W.heap.size := by obtain ⟨m, hm⟩ := k0; exact DataW.trod_lt m _ _ _ hm
  obtain ⟨t0, r0, rfl, y0, m0⟩ := open_term (hval 0 29 v0 rfl rfl) h0
  clear hA0 hval0
  refine (stepTerm_law FF TT y0 m0).mono fun e W' ⟨he, bel⟩ => ?_
  subst he
  exact ⟨_, rfl, _, _, _, _, _, _, hW', trodAll_mk1 (shut_bool Tryd.underlying4 _), (trodAll_cons_mk (Below.trod laidOut (by kernel_rfl) (of_decide_eq_true (by kernel_rfl)) k0 bel lt0) trodAll_mk0), ⟨_, _, _, _, _, _, gTForms, tTForms, var_ext ⟨W', bel⟩ hfv2, tforms_reads enc W' _, trodVars_mk1 gForms tForms (var_ext ⟨W', bel⟩ hfv) (forms_reads enc W' _), rfl⟩, bel.frame _, fun h => by cases h⟩

theorem fnExactStepTerm_row : Rows.FnExactStepTermSaid :=
  OpenClaim.holds_of_wide 11 Tryd.f11 rfl rfl rfl rfl rfl rfl rfl ⟨rfl, rfl, rfl, rfl, rfl⟩ rfl rfl rfl rfl rfl (by kernel_rfl) Tryd.func11 (by kernel_rfl)
    (of_decide_eq_true (by kernel_rfl)) (by unfold Func.isWrapper; first | (rw [if_pos (by decide +kernel)]; kernel_rfl) | (rw [if_neg (by decide +kernel)]; exact ⟨rfl, rfl⟩))
    (fun os started H enc _ => fnExactStepTerm_lifted os started H enc)
theorem fnExactStepTerm_card : Rows.FnExactStepTermCardSaid :=
  Claim7.holds_tied_plain_at .later [] [.data, .data] true Rows.fnExactStepTermCard.stood.harness false
    fnExactStepTerm_row (fun _ h => by cases h) (by kernel_rfl) (fun _ h => by cases h) fnExactStepTerm_row_tie rfl ⟨rfl, rfl⟩ (by kernel_rfl) rfl
    (fun f fn hf hfn => by
      obtain rfl : f = 11 := Option.some.inj ((show Tryd.prog.funcNamed "loop.example/g03111/laws.FnExactStepTerm" = some 11 by kernel_rfl).symm.trans hf) |>.symm
      obtain rfl : fn = Tryd.f11 := (Option.some.inj (Tryd.func11.symm.trans hfn)).symm
      exact ⟨by kernel_rfl, fun j t ht => by
        rw [Tryd.params11] at ht
        have hm : t ∈ [29] := by simpa using Array.mem_of_getElem? ht
        have hall : ([29].all fun u => !Tryd.prog.wantsStandIn u) = true := by kernel_rfl
        exact (show Tryd.prog.wantsStandIn t = false by simpa using List.all_eq_true.1 hall t hm)⟩)
    (by kernel_rfl)
#print axioms fnExactStepTerm_card

end Go.Proofs.YtoefeijnnnioeaaDoor
