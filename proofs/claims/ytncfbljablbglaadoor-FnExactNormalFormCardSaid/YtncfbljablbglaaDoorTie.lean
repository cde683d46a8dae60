/-
  DERIVED. GIVEN WITH THE SEED: THE PROGRAM's TIES (one call each: nine closed facts by the kernel) AND EACH ROW's TIE, after the 31st guide's Derived/Test/Toyas{Tie, Card}.lean. No idea stands in it: it is a product of the set-up. Laid BY PROGRAM, IN A SANDBOX (cutbox-door.mjs). By AI agents, Wed Nov 11 2026. No macro, syntax, notation, axiom, sorry.
-/
import Derived.Test.YtncfbljablbglaaDoorRows
import Derived.LaidByTextLater
import Derived.SevenTiedAt
import Derived.LaidSub
import Derived.LaidOnce
namespace Go.Proofs.YtncfbljablbglaaDoor
open Go
set_option maxRecDepth 100000
theorem seatTie1 : Tryd.prog.laidByTextLater [("loop.example/g03111/impl.typeForms", Rows.laid_loop_example_g03111_impl_typeForms), ("loop.example/g03111/impl.termForms", Rows.laid_loop_example_g03111_impl_termForms)] [.data, .data] true :=
  Program.laidByTextLater_by_one 41 8 92 (by kernel_rfl) (by kernel_rfl) (by kernel_rfl) (by kernel_rfl) (by kernel_rfl) (by kernel_rfl) (fun _ _ => by kernel_rfl)
theorem noOwnUnsafe : Tryd.pinned.checked.prog.headLifts.contains "ownunsafe" = false := by kernel_rfl
theorem tie : Tryd.prog.laidByTextLater [("loop.example/g03111/impl.typeForms", Rows.laid_loop_example_g03111_impl_typeForms), ("loop.example/g03111/impl.termForms", Rows.laid_loop_example_g03111_impl_termForms)] [.data, .data] true :=
  Program.laidByTextLater.sub seatTie1 ["loop.example/g03111/impl.typeForms", "loop.example/g03111/impl.termForms"] (by kernel_rfl) (by kernel_rfl)
theorem fnExactNormalForm_row_tie : Rows.fnExactNormalFormRow.laidByTextAt .later Tryd.pinned [.data, .data] true :=
  OpenClaim.laidByTextAt_later rfl rfl tie noOwnUnsafe
theorem fnExactMapTerm_row_tie : Rows.fnExactMapTermRow.laidByTextAt .later Tryd.pinned [.data, .data] true :=
  OpenClaim.laidByTextAt_later rfl rfl tie noOwnUnsafe
theorem fnExactOpenAll_row_tie : Rows.fnExactOpenAllRow.laidByTextAt .later Tryd.pinned [.data, .data] true :=
  OpenClaim.laidByTextAt_later rfl rfl tie noOwnUnsafe
theorem fnExactFillOpen_row_tie : Rows.fnExactFillOpenRow.laidByTextAt .later Tryd.pinned [.data, .data] true :=
  OpenClaim.laidByTextAt_later rfl rfl tie noOwnUnsafe
theorem tie2 : Tryd.prog.laidByTextLater [("loop.example/g03111/impl.typeForms", Rows.laid_loop_example_g03111_impl_typeForms)] [.data] true :=
  Program.laidByTextLater.sub seatTie1 ["loop.example/g03111/impl.typeForms"] (by kernel_rfl) (by kernel_rfl)
theorem fnExactMapType_row_tie : Rows.fnExactMapTypeRow.laidByTextAt .later Tryd.pinned [.data] true :=
  OpenClaim.laidByTextAt_later rfl rfl tie2 noOwnUnsafe
theorem fnExactNormalFormUpto_row_tie : Rows.fnExactNormalFormUptoRow.laidByTextAt .later Tryd.pinned [.data, .data] true :=
  OpenClaim.laidByTextAt_later rfl rfl tie noOwnUnsafe
theorem fnExactMapTypeUpto_row_tie : Rows.fnExactMapTypeUptoRow.laidByTextAt .later Tryd.pinned [.data] true :=
  OpenClaim.laidByTextAt_later rfl rfl tie2 noOwnUnsafe
theorem fnExactMapTermUpto_row_tie : Rows.fnExactMapTermUptoRow.laidByTextAt .later Tryd.pinned [.data, .data] true :=
  OpenClaim.laidByTextAt_later rfl rfl tie noOwnUnsafe
theorem fnExactOpenAllUpto_row_tie : Rows.fnExactOpenAllUptoRow.laidByTextAt .later Tryd.pinned [.data, .data] true :=
  OpenClaim.laidByTextAt_later rfl rfl tie noOwnUnsafe
theorem fnExactFillOpenUpto_row_tie : Rows.fnExactFillOpenUptoRow.laidByTextAt .later Tryd.pinned [.data, .data] true :=
  OpenClaim.laidByTextAt_later rfl rfl tie noOwnUnsafe
end Go.Proofs.YtncfbljablbglaaDoor
