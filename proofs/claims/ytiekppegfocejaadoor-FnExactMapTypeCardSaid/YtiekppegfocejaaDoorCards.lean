/-
  DERIVED. GIVEN WITH THE SEED: THE CARDS: each row of YtiekppegfocejaaDoorRows.lean that lists a variable, with what it lists TIED to the program's text (the seventh form; the later family's looks); each row that meets fmt, with fmt's text TOLD by the authors' own Lean function (tested against real Go, not proved from fmt's source: count such statements apart). THE CARD IS WHAT COUNTS. Prove the row's statement (the work); the ties are given (YtiekppegfocejaaDoorTie.lean); close each card by the builder's one call (the guide's Derived/Test/ToyasCard.lean, 'card_holds'). Laid BY PROGRAM, IN A SANDBOX (cutbox-door.mjs). By AI agents, Wed Nov 11 2026. No macro, syntax, notation, axiom, sorry.
-/
import Derived.Test.YtiekppegfocejaaDoorRows
import GoSem.ClaimSeven
namespace Go.Proofs.YtiekppegfocejaaDoor
namespace Rows

/-- THE TIED CARD OF 'laws.FnExactPartsOfType'. -/
def fnExactPartsOfTypeCard : Claim7 := { stood := { row := fnExactPartsOfTypeRow, standIns := [], harness := (true, "cfbb4dcc968e5ccd436b7c0990097a49d2e17ad642f41906a3150548ea3c1a88"), looks := false }, kinds := [], alts := [], laidByText := true, laidKinds := [.data], laidTests := true, laidLooks := .later }
def FnExactPartsOfTypeCardSaid : Prop := Claim7.holds Tryd.pinned (.plain (OpenSpec.ofChange fnExactPartsOfTypeSpec)) fnExactPartsOfTypeCard

/-- THE TIED CARD OF 'laws.FnExactShiftTerm'. -/
def fnExactShiftTermCard : Claim7 := { stood := { row := fnExactShiftTermRow, standIns := [], harness := (true, "cfbb4dcc968e5ccd436b7c0990097a49d2e17ad642f41906a3150548ea3c1a88"), looks := false }, kinds := [], alts := [], laidByText := true, laidKinds := [.data, .data], laidTests := true, laidLooks := .later }
def FnExactShiftTermCardSaid : Prop := Claim7.holds Tryd.pinned (.plain (OpenSpec.ofChange fnExactShiftTermSpec)) fnExactShiftTermCard

/-- THE TIED CARD OF 'laws.FnExactSubstituteTerm'. -/
def fnExactSubstituteTermCard : Claim7 := { stood := { row := fnExactSubstituteTermRow, standIns := [], harness := (true, "cfbb4dcc968e5ccd436b7c0990097a49d2e17ad642f41906a3150548ea3c1a88"), looks := false }, kinds := [], alts := [], laidByText := true, laidKinds := [.data, .data], laidTests := true, laidLooks := .later }
def FnExactSubstituteTermCardSaid : Prop := Claim7.holds Tryd.pinned (.plain (OpenSpec.ofChange fnExactSubstituteTermSpec)) fnExactSubstituteTermCard

/-- THE TIED CARD OF 'laws.FnExactMapType'. -/
def fnExactMapTypeCard : Claim7 := { stood := { row := fnExactMapTypeRow, standIns := [], harness := (true, "cfbb4dcc968e5ccd436b7c0990097a49d2e17ad642f41906a3150548ea3c1a88"), looks := false }, kinds := [], alts := [], laidByText := true, laidKinds := [.data], laidTests := true, laidLooks := .later }
def FnExactMapTypeCardSaid : Prop := Claim7.holds Tryd.pinned (.plain (OpenSpec.ofChange fnExactMapTypeSpec)) fnExactMapTypeCard

/-- THE TIED CARD OF 'laws.FnExactMapTerm'. -/
def fnExactMapTermCard : Claim7 := { stood := { row := fnExactMapTermRow, standIns := [], harness := (true, "cfbb4dcc968e5ccd436b7c0990097a49d2e17ad642f41906a3150548ea3c1a88"), looks := false }, kinds := [], alts := [], laidByText := true, laidKinds := [.data, .data], laidTests := true, laidLooks := .later }
def FnExactMapTermCardSaid : Prop := Claim7.holds Tryd.pinned (.plain (OpenSpec.ofChange fnExactMapTermSpec)) fnExactMapTermCard

/-- THE SECOND FORM's CARD OF 'laws.FnExactPartsOfType'. -/
def fnExactPartsOfTypeUptoCard : Claim7 := { stood := { row := fnExactPartsOfTypeUptoRow, standIns := [], harness := (true, "cfbb4dcc968e5ccd436b7c0990097a49d2e17ad642f41906a3150548ea3c1a88"), looks := false }, kinds := [], alts := [], laidByText := true, laidKinds := [.data], laidTests := true, laidLooks := .later }
def FnExactPartsOfTypeUptoCardSaid : Prop := Claim7.holds Tryd.pinned (.plain (OpenSpec.upto fnExactPartsOfTypeSpec)) fnExactPartsOfTypeUptoCard

/-- THE SECOND FORM's CARD OF 'laws.FnExactShiftTerm'. -/
def fnExactShiftTermUptoCard : Claim7 := { stood := { row := fnExactShiftTermUptoRow, standIns := [], harness := (true, "cfbb4dcc968e5ccd436b7c0990097a49d2e17ad642f41906a3150548ea3c1a88"), looks := false }, kinds := [], alts := [], laidByText := true, laidKinds := [.data, .data], laidTests := true, laidLooks := .later }
def FnExactShiftTermUptoCardSaid : Prop := Claim7.holds Tryd.pinned (.plain (OpenSpec.upto fnExactShiftTermSpec)) fnExactShiftTermUptoCard

/-- THE SECOND FORM's CARD OF 'laws.FnExactSubstituteTerm'. -/
def fnExactSubstituteTermUptoCard : Claim7 := { stood := { row := fnExactSubstituteTermUptoRow, standIns := [], harness := (true, "cfbb4dcc968e5ccd436b7c0990097a49d2e17ad642f41906a3150548ea3c1a88"), looks := false }, kinds := [], alts := [], laidByText := true, laidKinds := [.data, .data], laidTests := true, laidLooks := .later }
def FnExactSubstituteTermUptoCardSaid : Prop := Claim7.holds Tryd.pinned (.plain (OpenSpec.upto fnExactSubstituteTermSpec)) fnExactSubstituteTermUptoCard

/-- THE SECOND FORM's CARD OF 'laws.FnExactMapType'. -/
def fnExactMapTypeUptoCard : Claim7 := { stood := { row := fnExactMapTypeUptoRow, standIns := [], harness := (true, "cfbb4dcc968e5ccd436b7c0990097a49d2e17ad642f41906a3150548ea3c1a88"), looks := false }, kinds := [], alts := [], laidByText := true, laidKinds := [.data], laidTests := true, laidLooks := .later }
def FnExactMapTypeUptoCardSaid : Prop := Claim7.holds Tryd.pinned (.plain (OpenSpec.upto fnExactMapTypeSpec)) fnExactMapTypeUptoCard

/-- THE SECOND FORM's CARD OF 'laws.FnExactMapTerm'. -/
def fnExactMapTermUptoCard : Claim7 := { stood := { row := fnExactMapTermUptoRow, standIns := [], harness := (true, "cfbb4dcc968e5ccd436b7c0990097a49d2e17ad642f41906a3150548ea3c1a88"), looks := false }, kinds := [], alts := [], laidByText := true, laidKinds := [.data, .data], laidTests := true, laidLooks := .later }
def FnExactMapTermUptoCardSaid : Prop := Claim7.holds Tryd.pinned (.plain (OpenSpec.upto fnExactMapTermSpec)) fnExactMapTermUptoCard
end Rows
end Go.Proofs.YtiekppegfocejaaDoor
