/-
  DERIVED. GIVEN WITH THE SEED: THE PROGRAM's TIES (one call each: nine closed facts by the kernel) AND EACH ROW's TIE, after the 31st guide's Derived/Test/Toyas{Tie, Card}.lean. No idea stands in it: it is a product of the set-up. Laid BY PROGRAM, IN A SANDBOX (cutbox-door.mjs). By AI agents, Wed Nov 11 2026. No macro, syntax, notation, axiom, sorry.
-/
import Derived.Test.YtiekppegfocejaaDoorRows
import Derived.LaidByTextLater
import Derived.SevenTiedAt
import Derived.LaidSub
import Derived.LaidOnce
namespace Go.Proofs.YtiekppegfocejaaDoor
open Go
set_option maxRecDepth 100000
theorem seatTie1 : Tryd.prog.laidByTextLater [("loop.example/g03111/impl.typeForms", Rows.laid_loop_example_g03111_impl_typeForms), ("loop.example/g03111/impl.termForms", Rows.laid_loop_example_g03111_impl_termForms)] [.data, .data] true :=
  Program.laidByTextLater_by_one 41 8 92 (by kernel_rfl) (by kernel_rfl) (by kernel_rfl) (by kernel_rfl) (by kernel_rfl) (by kernel_rfl) (fun _ _ => by kernel_rfl)
theorem noOwnUnsafe : Tryd.pinned.checked.prog.headLifts.contains "ownunsafe" = false := by kernel_rfl
theorem tie : Tryd.prog.laidByTextLater [("loop.example/g03111/impl.typeForms", Rows.laid_loop_example_g03111_impl_typeForms)] [.data] true :=
  Program.laidByTextLater.sub seatTie1 ["loop.example/g03111/impl.typeForms"] (by kernel_rfl) (by kernel_rfl)
theorem fnExactPartsOfType_row_tie : Rows.fnExactPartsOfTypeRow.laidByTextAt .later Tryd.pinned [.data] true :=
  OpenClaim.laidByTextAt_later rfl rfl tie noOwnUnsafe
theorem fnExactMapType_row_tie : Rows.fnExactMapTypeRow.laidByTextAt .later Tryd.pinned [.data] true :=
  OpenClaim.laidByTextAt_later rfl rfl tie noOwnUnsafe
theorem tie2 : Tryd.prog.laidByTextLater [("loop.example/g03111/impl.typeForms", Rows.laid_loop_example_g03111_impl_typeForms), ("loop.example/g03111/impl.termForms", Rows.laid_loop_example_g03111_impl_termForms)] [.data, .data] true :=
  Program.laidByTextLater.sub seatTie1 ["loop.example/g03111/impl.typeForms", "loop.example/g03111/impl.termForms"] (by kernel_rfl) (by kernel_rfl)
theorem fnExactShiftTerm_row_tie : Rows.fnExactShiftTermRow.laidByTextAt .later Tryd.pinned [.data, .data] true :=
  OpenClaim.laidByTextAt_later rfl rfl tie2 noOwnUnsafe
theorem fnExactSubstituteTerm_row_tie : Rows.fnExactSubstituteTermRow.laidByTextAt .later Tryd.pinned [.data, .data] true :=
  OpenClaim.laidByTextAt_later rfl rfl tie2 noOwnUnsafe
theorem fnExactMapTerm_row_tie : Rows.fnExactMapTermRow.laidByTextAt .later Tryd.pinned [.data, .data] true :=
  OpenClaim.laidByTextAt_later rfl rfl tie2 noOwnUnsafe
theorem fnExactPartsOfTypeUpto_row_tie : Rows.fnExactPartsOfTypeUptoRow.laidByTextAt .later Tryd.pinned [.data] true :=
  OpenClaim.laidByTextAt_later rfl rfl tie noOwnUnsafe
theorem fnExactShiftTermUpto_row_tie : Rows.fnExactShiftTermUptoRow.laidByTextAt .later Tryd.pinned [.data, .data] true :=
  OpenClaim.laidByTextAt_later rfl rfl tie2 noOwnUnsafe
theorem fnExactSubstituteTermUpto_row_tie : Rows.fnExactSubstituteTermUptoRow.laidByTextAt .later Tryd.pinned [.data, .data] true :=
  OpenClaim.laidByTextAt_later rfl rfl tie2 noOwnUnsafe
theorem fnExactMapTypeUpto_row_tie : Rows.fnExactMapTypeUptoRow.laidByTextAt .later Tryd.pinned [.data] true :=
  OpenClaim.laidByTextAt_later rfl rfl tie noOwnUnsafe
theorem fnExactMapTermUpto_row_tie : Rows.fnExactMapTermUptoRow.laidByTextAt .later Tryd.pinned [.data, .data] true :=
  OpenClaim.laidByTextAt_later rfl rfl tie2 noOwnUnsafe
end Go.Proofs.YtiekppegfocejaaDoor
