/- For every two terms (of whatever shape) and every path (of whatever numbers) ReplaceAt answers as its model does, in memory of its own, at each of two calls, and leaves its arguments alone; the two tables of forms read as the program's own text lays them; no other condition. -/
import Derived.Test.YtoefeijnnnioeaaDoorZ1GC
import Derived.Test.YtoefeijnnnioeaaDoorZ1KOpenMN
import Derived.Test.YtoefeijnnnioeaaDoorZ1KLawReplaceAt
import Derived.Test.YtoefeijnnnioeaaDoorTie
import Derived.Test.YtoefeijnnnioeaaDoorCards
import Derived.SevenTiedAt
set_option linter.unusedVariables false
set_option linter.unusedSimpArgs false
set_option linter.unusedVariables false
namespace Go.Proofs.YtoefeijnnnioeaaDoor
open Go.RowKit Go.ChangeShapes Go.WideShapes Go.ChangeAt Go.WideMaps Go.WideElems

set_option maxRecDepth 100000 in
theorem fnExactReplaceAt_lifted (os : Os) (started : os.Started) (H : Type) (enc : TypeId × Value → H) :
    ReturnsInHanded {} Tryd.checked os 8 .any (fun w args => (Rows.fnExactReplaceAtSpec.pre enc Tryd.prog Tryd.f8 [] false w args ∧ laidMetH Tryd.prog [("loop.example/g03111/impl.typeForms", Rows.laid_loop_example_g03111_impl_typeForms), ("loop.example/g03111/impl.termForms", Rows.laid_loop_example_g03111_impl_termForms)] w) ∧ sizedMet enc Tryd.prog Tryd.f8 (OpenSpec.ofChange Rows.fnExactReplaceAtSpec) false w args)
      (Rows.fnExactReplaceAtSpec.post enc Tryd.prog Tryd.f8 false true false false) := by
  refine returnsInHanded_of_change_and (C := Tryd.checked) (X := fun w _ => laidMetH Tryd.prog [("loop.example/g03111/impl.typeForms", Rows.laid_loop_example_g03111_impl_typeForms), ("loop.example/g03111/impl.termForms", Rows.laid_loop_example_g03111_impl_termForms)] w) (fun _ _ _ hh h => h.of_heap hh) own started (by kernel_rfl) Tryd.func8
    (ChangeSpec.witness_shaped (enc := enc) (C := Tryd.checked) (os := os) (X := fun w _ => laidMetH Tryd.prog [("loop.example/g03111/impl.typeForms", Rows.laid_loop_example_g03111_impl_typeForms), ("loop.example/g03111/impl.termForms", Rows.laid_loop_example_g03111_impl_termForms)] w) false (World.doorLaid Tryd.prog 400 os) #[.agg #[.int .i64 0, .int .i64 0, .slice none 0 0, .slice none 0 0], .slice none 0 0, .agg #[.int .i64 0, .int .i64 0, .slice none 0 0, .slice none 0 0]] 8 rfl (World.shaped_of_RefB (by kernel_rfl) (by kernel_rfl)) (by kernel_rfl) (by kernel_rfl) (by kernel_rfl) (forms_met2 os _)) ?_
  intro W base args ds gs before hval0 hW _ _ hL _
  have hval : ∀ (j : Nat) t v, Tryd.f8.params[j]? = some t → args[j]? = some v → Value.okWide Tryd.prog W .any base t v := hval0
  have hW' := hW
  obtain ⟨p, q, hA0, hV0, rfl, hfz, hnd⟩ := hW
  have hA : DataW.TrodAll enc Tryd.prog W 0 (fun _ => true) true Tryd.f8.params.toList args.toList ds p := hA0
  have hV : DataW.TrodVars enc Tryd.prog W (fun _ => true) ["loop.example/g03111/impl.termForms", "loop.example/g03111/impl.typeForms"] gs q := hV0
  rw [Tryd.params8] at hA hval
  obtain ⟨v0, vs0, d0, ds0, p0, q0, hargs, rfl, rfl, h0, g0⟩ := trodAll_cons hA
  obtain ⟨v1, vs1, d1, ds1, p1, q1, rfl, rfl, rfl, h1, g1⟩ := trodAll_cons g0
  obtain ⟨v2, vs2, d2, ds2, p2, q2, rfl, rfl, rfl, h2, g2⟩ := trodAll_cons g1
  obtain ⟨rfl, rfl, rfl⟩ := trodAll_nil g2
  obtain rfl : args = #[v0, v1, v2] := by cases args; simp_all
  obtain ⟨g, tt, cs, fuel, dd, pp, g', tt', cs', fuel', dd', pp', rfl, hg, ht, hvar, hd, hg', ht', hvar', hd', rfl⟩ := trodVars_two hV
  obtain rfl := Option.some.inj (gTForms.symm.trans hg)
  obtain rfl := Option.some.inj (tTForms.symm.trans ht)
  obtain rfl := Option.some.inj (gForms.symm.trans hg')
  obtain rfl := Option.some.inj (tForms.symm.trans ht')
  obtain ⟨hfv, hfv2⟩ := forms_var2 hL
  obtain rfl : cs = tformCells.toArray := Option.some.inj (hvar.symm.trans hfv2)
  obtain rfl : cs' = formCells.toArray := Option.some.inj (hvar'.symm.trans hfv)
  obtain ⟨rfl, rfl⟩ := DataW.Trod.unique (v := .agg tformCells.toArray) ⟨fuel, hd⟩ ⟨4, tforms_reads enc W _⟩
  obtain ⟨rfl, rfl⟩ := DataW.Trod.unique (v := .agg formCells.toArray) ⟨fuel', hd'⟩ ⟨4, forms_reads enc W _⟩
  have FF := forms_of_var hfv
  have TT := tforms_of_var hfv2
  have k0 := h0
  have lt0 : ∀ x ∈ p0, x.block < W.heap.size := by obtain ⟨m, hm⟩ := k0; exact DataW.trod_lt m _ _ _ hm
  obtain ⟨t0, r0, rfl, y0, m0⟩ := open_term (hval 0 29 v0 rfl rfl) h0
  have k1 := h1
  have lt1 : ∀ x ∈ p1, x.block < W.heap.size := by obtain ⟨m, hm⟩ := k1; exact DataW.trod_lt m _ _ _ hm
  obtain ⟨z1, len1, cap1, rfl⟩ := okWide_slice Tryd.underlying22 (hval 1 22 v1 rfl rfl)
  obtain ⟨fu1, hf1⟩ := h1
  obtain ⟨a1, c1, l1, hs1, y1, b1, w1⟩ := open_row_ints (by simpa [Value.cells] using hf1)
  cases hs1
  have k2 := h2
  have lt2 : ∀ x ∈ p2, x.block < W.heap.size := by obtain ⟨m, hm⟩ := k2; exact DataW.trod_lt m _ _ _ hm
  obtain ⟨t2, r2, rfl, y2, m2, n2⟩ := open_termN (hval 2 29 v2 rfl rfl) h2
  clear hA0 hval0
  refine (replaceAt_law FF TT y0 m0 y1 b1 y2 m2 n2).mono fun e W' ⟨he, bel⟩ => ?_
  subst he
  exact ⟨_, rfl, _, _, _, _, _, _, hW', trodAll_mk1 (shut_bool Tryd.underlying4 _), (trodAll_cons_mk (Below.trod laidOut (by kernel_rfl) (of_decide_eq_true (by kernel_rfl)) k0 bel lt0) (trodAll_cons_mk (Below.trod laidOut (by kernel_rfl) (of_decide_eq_true (by kernel_rfl)) k1 bel lt1) (trodAll_cons_mk (Below.trod laidOut (by kernel_rfl) (of_decide_eq_true (by kernel_rfl)) k2 bel lt2) trodAll_mk0))), ⟨_, _, _, _, _, _, gTForms, tTForms, var_ext ⟨W', bel⟩ hfv2, tforms_reads enc W' _, trodVars_mk1 gForms tForms (var_ext ⟨W', bel⟩ hfv) (forms_reads enc W' _), rfl⟩, bel.frame _, fun h => by cases h⟩

theorem fnExactReplaceAt_row : Rows.FnExactReplaceAtSaid :=
  OpenClaim.holds_of_wide 8 Tryd.f8 rfl rfl rfl rfl rfl rfl rfl ⟨rfl, rfl, rfl, rfl, rfl⟩ rfl rfl rfl rfl rfl (by kernel_rfl) Tryd.func8 (by kernel_rfl)
    (of_decide_eq_true (by kernel_rfl)) (by unfold Func.isWrapper; first | (rw [if_pos (by decide +kernel)]; kernel_rfl) | (rw [if_neg (by decide +kernel)]; exact ⟨rfl, rfl⟩))
    (fun os started H enc _ => fnExactReplaceAt_lifted os started H enc)
theorem fnExactReplaceAt_card : Rows.FnExactReplaceAtCardSaid :=
  Claim7.holds_tied_plain_at .later [] [.data, .data] true Rows.fnExactReplaceAtCard.stood.harness false
    fnExactReplaceAt_row (fun _ h => by cases h) (by kernel_rfl) (fun _ h => by cases h) fnExactReplaceAt_row_tie rfl ⟨rfl, rfl⟩ (by kernel_rfl) rfl
    (fun f fn hf hfn => by
      obtain rfl : f = 8 := Option.some.inj ((show Tryd.prog.funcNamed "loop.example/g03111/laws.FnExactReplaceAt" = some 8 by kernel_rfl).symm.trans hf) |>.symm
      obtain rfl : fn = Tryd.f8 := (Option.some.inj (Tryd.func8.symm.trans hfn)).symm
      exact ⟨by kernel_rfl, fun j t ht => by
        rw [Tryd.params8] at ht
        have hm : t ∈ [29, 22, 29] := by simpa using Array.mem_of_getElem? ht
        have hall : ([29, 22, 29].all fun u => !Tryd.prog.wantsStandIn u) = true := by kernel_rfl
        exact (show Tryd.prog.wantsStandIn t = false by simpa using List.all_eq_true.1 hall t hm)⟩)
    (by kernel_rfl)
#print axioms fnExactReplaceAt_card

end Go.Proofs.YtoefeijnnnioeaaDoor
