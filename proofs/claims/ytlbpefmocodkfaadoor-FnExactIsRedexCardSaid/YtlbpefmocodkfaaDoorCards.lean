/-
  DERIVED. GIVEN WITH THE SEED: THE CARDS: each row of YtlbpefmocodkfaaDoorRows.lean that lists a variable, with what it lists TIED to the program's text (the seventh form; the later family's looks); each row that meets fmt, with fmt's text TOLD by the authors' own Lean function (tested against real Go, not proved from fmt's source: count such statements apart). THE CARD IS WHAT COUNTS. Prove the row's statement (the work); the ties are given (YtlbpefmocodkfaaDoorTie.lean); close each card by the builder's one call (the guide's Derived/Test/ToyasCard.lean, 'card_holds'). Laid BY PROGRAM, IN A SANDBOX (cutbox-door.mjs). By AI agents, Wed Nov 11 2026. No macro, syntax, notation, axiom, sorry.
-/
import Derived.Test.YtlbpefmocodkfaaDoorRows
import GoSem.ClaimSeven
namespace Go.Proofs.YtlbpefmocodkfaaDoor
namespace Rows

/-- THE TIED CARD OF 'laws.FnExactIsType'. -/
def fnExactIsTypeCard : Claim7 := { stood := { row := fnExactIsTypeRow, standIns := [], harness := (true, "6f8ad27da1dcb4aa0582d8d9e81b6deb4bcd436056bae30ea03160d1663145d9"), looks := false }, kinds := [], alts := [], laidByText := true, laidKinds := [.data], laidTests := true, laidLooks := .later }
def FnExactIsTypeCardSaid : Prop := Claim7.holds Tryd.pinned (.plain (OpenSpec.ofChange fnExactIsTypeSpec)) fnExactIsTypeCard

/-- THE TIED CARD OF 'laws.FnExactIsData'. -/
def fnExactIsDataCard : Claim7 := { stood := { row := fnExactIsDataRow, standIns := [], harness := (true, "6f8ad27da1dcb4aa0582d8d9e81b6deb4bcd436056bae30ea03160d1663145d9"), looks := false }, kinds := [], alts := [], laidByText := true, laidKinds := [.data], laidTests := true, laidLooks := .later }
def FnExactIsDataCardSaid : Prop := Claim7.holds Tryd.pinned (.plain (OpenSpec.ofChange fnExactIsDataSpec)) fnExactIsDataCard

/-- THE TIED CARD OF 'laws.FnExactIsTerm'. -/
def fnExactIsTermCard : Claim7 := { stood := { row := fnExactIsTermRow, standIns := [], harness := (true, "6f8ad27da1dcb4aa0582d8d9e81b6deb4bcd436056bae30ea03160d1663145d9"), looks := false }, kinds := [], alts := [], laidByText := true, laidKinds := [.data, .data], laidTests := true, laidLooks := .later }
def FnExactIsTermCardSaid : Prop := Claim7.holds Tryd.pinned (.plain (OpenSpec.ofChange fnExactIsTermSpec)) fnExactIsTermCard

/-- THE TIED CARD OF 'laws.FnExactIsWritten'. -/
def fnExactIsWrittenCard : Claim7 := { stood := { row := fnExactIsWrittenRow, standIns := [], harness := (true, "6f8ad27da1dcb4aa0582d8d9e81b6deb4bcd436056bae30ea03160d1663145d9"), looks := false }, kinds := [], alts := [], laidByText := true, laidKinds := [.data, .data], laidTests := true, laidLooks := .later }
def FnExactIsWrittenCardSaid : Prop := Claim7.holds Tryd.pinned (.plain (OpenSpec.ofChange fnExactIsWrittenSpec)) fnExactIsWrittenCard

/-- THE TIED CARD OF 'laws.FnExactSizeOfTerm'. -/
def fnExactSizeOfTermCard : Claim7 := { stood := { row := fnExactSizeOfTermRow, standIns := [], harness := (true, "6f8ad27da1dcb4aa0582d8d9e81b6deb4bcd436056bae30ea03160d1663145d9"), looks := false }, kinds := [], alts := [], laidByText := true, laidKinds := [.data, .data], laidTests := true, laidLooks := .later }
def FnExactSizeOfTermCardSaid : Prop := Claim7.holds Tryd.pinned (.plain (OpenSpec.ofChange fnExactSizeOfTermSpec)) fnExactSizeOfTermCard

/-- THE TIED CARD OF 'laws.FnExactSameTerms'. -/
def fnExactSameTermsCard : Claim7 := { stood := { row := fnExactSameTermsRow, standIns := [], harness := (true, "6f8ad27da1dcb4aa0582d8d9e81b6deb4bcd436056bae30ea03160d1663145d9"), looks := false }, kinds := [], alts := [], laidByText := true, laidKinds := [.data, .data], laidTests := true, laidLooks := .later }
def FnExactSameTermsCardSaid : Prop := Claim7.holds Tryd.pinned (.plain (OpenSpec.ofChange fnExactSameTermsSpec)) fnExactSameTermsCard

/-- THE TIED CARD OF 'laws.FnExactUsesOf'. -/
def fnExactUsesOfCard : Claim7 := { stood := { row := fnExactUsesOfRow, standIns := [], harness := (true, "6f8ad27da1dcb4aa0582d8d9e81b6deb4bcd436056bae30ea03160d1663145d9"), looks := false }, kinds := [], alts := [], laidByText := true, laidKinds := [.data, .data], laidTests := true, laidLooks := .later }
def FnExactUsesOfCardSaid : Prop := Claim7.holds Tryd.pinned (.plain (OpenSpec.ofChange fnExactUsesOfSpec)) fnExactUsesOfCard

/-- THE TIED CARD OF 'laws.FnExactShiftTerm'. -/
def fnExactShiftTermCard : Claim7 := { stood := { row := fnExactShiftTermRow, standIns := [], harness := (true, "6f8ad27da1dcb4aa0582d8d9e81b6deb4bcd436056bae30ea03160d1663145d9"), looks := false }, kinds := [], alts := [], laidByText := true, laidKinds := [.data, .data], laidTests := true, laidLooks := .later }
def FnExactShiftTermCardSaid : Prop := Claim7.holds Tryd.pinned (.plain (OpenSpec.ofChange fnExactShiftTermSpec)) fnExactShiftTermCard

/-- THE TIED CARD OF 'laws.FnExactSubstituteTerm'. -/
def fnExactSubstituteTermCard : Claim7 := { stood := { row := fnExactSubstituteTermRow, standIns := [], harness := (true, "6f8ad27da1dcb4aa0582d8d9e81b6deb4bcd436056bae30ea03160d1663145d9"), looks := false }, kinds := [], alts := [], laidByText := true, laidKinds := [.data, .data], laidTests := true, laidLooks := .later }
def FnExactSubstituteTermCardSaid : Prop := Claim7.holds Tryd.pinned (.plain (OpenSpec.ofChange fnExactSubstituteTermSpec)) fnExactSubstituteTermCard

/-- THE TIED CARD OF 'laws.FnExactTermAt'. -/
def fnExactTermAtCard : Claim7 := { stood := { row := fnExactTermAtRow, standIns := [], harness := (true, "6f8ad27da1dcb4aa0582d8d9e81b6deb4bcd436056bae30ea03160d1663145d9"), looks := false }, kinds := [], alts := [], laidByText := true, laidKinds := [.data, .data], laidTests := true, laidLooks := .later }
def FnExactTermAtCardSaid : Prop := Claim7.holds Tryd.pinned (.plain (OpenSpec.ofChange fnExactTermAtSpec)) fnExactTermAtCard

/-- THE TIED CARD OF 'laws.FnExactIsRedex'. -/
def fnExactIsRedexCard : Claim7 := { stood := { row := fnExactIsRedexRow, standIns := [], harness := (true, "6f8ad27da1dcb4aa0582d8d9e81b6deb4bcd436056bae30ea03160d1663145d9"), looks := false }, kinds := [], alts := [], laidByText := true, laidKinds := [.data, .data], laidTests := true, laidLooks := .later }
def FnExactIsRedexCardSaid : Prop := Claim7.holds Tryd.pinned (.plain (OpenSpec.ofChange fnExactIsRedexSpec)) fnExactIsRedexCard

/-- THE TIED CARD OF 'laws.FnExactMapTerm'. -/
def fnExactMapTermCard : Claim7 := { stood := { row := fnExactMapTermRow, standIns := [], harness := (true, "6f8ad27da1dcb4aa0582d8d9e81b6deb4bcd436056bae30ea03160d1663145d9"), looks := false }, kinds := [], alts := [], laidByText := true, laidKinds := [.data, .data], laidTests := true, laidLooks := .later }
def FnExactMapTermCardSaid : Prop := Claim7.holds Tryd.pinned (.plain (OpenSpec.ofChange fnExactMapTermSpec)) fnExactMapTermCard

/-- THE SECOND FORM's CARD OF 'laws.FnExactIsType'. -/
def fnExactIsTypeUptoCard : Claim7 := { stood := { row := fnExactIsTypeUptoRow, standIns := [], harness := (true, "6f8ad27da1dcb4aa0582d8d9e81b6deb4bcd436056bae30ea03160d1663145d9"), looks := false }, kinds := [], alts := [], laidByText := true, laidKinds := [.data], laidTests := true, laidLooks := .later }
def FnExactIsTypeUptoCardSaid : Prop := Claim7.holds Tryd.pinned (.plain (OpenSpec.upto fnExactIsTypeSpec)) fnExactIsTypeUptoCard

/-- THE SECOND FORM's CARD OF 'laws.FnExactIsData'. -/
def fnExactIsDataUptoCard : Claim7 := { stood := { row := fnExactIsDataUptoRow, standIns := [], harness := (true, "6f8ad27da1dcb4aa0582d8d9e81b6deb4bcd436056bae30ea03160d1663145d9"), looks := false }, kinds := [], alts := [], laidByText := true, laidKinds := [.data], laidTests := true, laidLooks := .later }
def FnExactIsDataUptoCardSaid : Prop := Claim7.holds Tryd.pinned (.plain (OpenSpec.upto fnExactIsDataSpec)) fnExactIsDataUptoCard

/-- THE SECOND FORM's CARD OF 'laws.FnExactIsTerm'. -/
def fnExactIsTermUptoCard : Claim7 := { stood := { row := fnExactIsTermUptoRow, standIns := [], harness := (true, "6f8ad27da1dcb4aa0582d8d9e81b6deb4bcd436056bae30ea03160d1663145d9"), looks := false }, kinds := [], alts := [], laidByText := true, laidKinds := [.data, .data], laidTests := true, laidLooks := .later }
def FnExactIsTermUptoCardSaid : Prop := Claim7.holds Tryd.pinned (.plain (OpenSpec.upto fnExactIsTermSpec)) fnExactIsTermUptoCard

/-- THE SECOND FORM's CARD OF 'laws.FnExactIsWritten'. -/
def fnExactIsWrittenUptoCard : Claim7 := { stood := { row := fnExactIsWrittenUptoRow, standIns := [], harness := (true, "6f8ad27da1dcb4aa0582d8d9e81b6deb4bcd436056bae30ea03160d1663145d9"), looks := false }, kinds := [], alts := [], laidByText := true, laidKinds := [.data, .data], laidTests := true, laidLooks := .later }
def FnExactIsWrittenUptoCardSaid : Prop := Claim7.holds Tryd.pinned (.plain (OpenSpec.upto fnExactIsWrittenSpec)) fnExactIsWrittenUptoCard

/-- THE SECOND FORM's CARD OF 'laws.FnExactSizeOfTerm'. -/
def fnExactSizeOfTermUptoCard : Claim7 := { stood := { row := fnExactSizeOfTermUptoRow, standIns := [], harness := (true, "6f8ad27da1dcb4aa0582d8d9e81b6deb4bcd436056bae30ea03160d1663145d9"), looks := false }, kinds := [], alts := [], laidByText := true, laidKinds := [.data, .data], laidTests := true, laidLooks := .later }
def FnExactSizeOfTermUptoCardSaid : Prop := Claim7.holds Tryd.pinned (.plain (OpenSpec.upto fnExactSizeOfTermSpec)) fnExactSizeOfTermUptoCard

/-- THE SECOND FORM's CARD OF 'laws.FnExactSameTerms'. -/
def fnExactSameTermsUptoCard : Claim7 := { stood := { row := fnExactSameTermsUptoRow, standIns := [], harness := (true, "6f8ad27da1dcb4aa0582d8d9e81b6deb4bcd436056bae30ea03160d1663145d9"), looks := false }, kinds := [], alts := [], laidByText := true, laidKinds := [.data, .data], laidTests := true, laidLooks := .later }
def FnExactSameTermsUptoCardSaid : Prop := Claim7.holds Tryd.pinned (.plain (OpenSpec.upto fnExactSameTermsSpec)) fnExactSameTermsUptoCard

/-- THE SECOND FORM's CARD OF 'laws.FnExactUsesOf'. -/
def fnExactUsesOfUptoCard : Claim7 := { stood := { row := fnExactUsesOfUptoRow, standIns := [], harness := (true, "6f8ad27da1dcb4aa0582d8d9e81b6deb4bcd436056bae30ea03160d1663145d9"), looks := false }, kinds := [], alts := [], laidByText := true, laidKinds := [.data, .data], laidTests := true, laidLooks := .later }
def FnExactUsesOfUptoCardSaid : Prop := Claim7.holds Tryd.pinned (.plain (OpenSpec.upto fnExactUsesOfSpec)) fnExactUsesOfUptoCard

/-- THE SECOND FORM's CARD OF 'laws.FnExactShiftTerm'. -/
def fnExactShiftTermUptoCard : Claim7 := { stood := { row := fnExactShiftTermUptoRow, standIns := [], harness := (true, "6f8ad27da1dcb4aa0582d8d9e81b6deb4bcd436056bae30ea03160d1663145d9"), looks := false }, kinds := [], alts := [], laidByText := true, laidKinds := [.data, .data], laidTests := true, laidLooks := .later }
def FnExactShiftTermUptoCardSaid : Prop := Claim7.holds Tryd.pinned (.plain (OpenSpec.upto fnExactShiftTermSpec)) fnExactShiftTermUptoCard

/-- THE SECOND FORM's CARD OF 'laws.FnExactSubstituteTerm'. -/
def fnExactSubstituteTermUptoCard : Claim7 := { stood := { row := fnExactSubstituteTermUptoRow, standIns := [], harness := (true, "6f8ad27da1dcb4aa0582d8d9e81b6deb4bcd436056bae30ea03160d1663145d9"), looks := false }, kinds := [], alts := [], laidByText := true, laidKinds := [.data, .data], laidTests := true, laidLooks := .later }
def FnExactSubstituteTermUptoCardSaid : Prop := Claim7.holds Tryd.pinned (.plain (OpenSpec.upto fnExactSubstituteTermSpec)) fnExactSubstituteTermUptoCard

/-- THE SECOND FORM's CARD OF 'laws.FnExactTermAt'. -/
def fnExactTermAtUptoCard : Claim7 := { stood := { row := fnExactTermAtUptoRow, standIns := [], harness := (true, "6f8ad27da1dcb4aa0582d8d9e81b6deb4bcd436056bae30ea03160d1663145d9"), looks := false }, kinds := [], alts := [], laidByText := true, laidKinds := [.data, .data], laidTests := true, laidLooks := .later }
def FnExactTermAtUptoCardSaid : Prop := Claim7.holds Tryd.pinned (.plain (OpenSpec.upto fnExactTermAtSpec)) fnExactTermAtUptoCard

/-- THE SECOND FORM's CARD OF 'laws.FnExactIsRedex'. -/
def fnExactIsRedexUptoCard : Claim7 := { stood := { row := fnExactIsRedexUptoRow, standIns := [], harness := (true, "6f8ad27da1dcb4aa0582d8d9e81b6deb4bcd436056bae30ea03160d1663145d9"), looks := false }, kinds := [], alts := [], laidByText := true, laidKinds := [.data, .data], laidTests := true, laidLooks := .later }
def FnExactIsRedexUptoCardSaid : Prop := Claim7.holds Tryd.pinned (.plain (OpenSpec.upto fnExactIsRedexSpec)) fnExactIsRedexUptoCard

/-- THE SECOND FORM's CARD OF 'laws.FnExactMapTerm'. -/
def fnExactMapTermUptoCard : Claim7 := { stood := { row := fnExactMapTermUptoRow, standIns := [], harness := (true, "6f8ad27da1dcb4aa0582d8d9e81b6deb4bcd436056bae30ea03160d1663145d9"), looks := false }, kinds := [], alts := [], laidByText := true, laidKinds := [.data, .data], laidTests := true, laidLooks := .later }
def FnExactMapTermUptoCardSaid : Prop := Claim7.holds Tryd.pinned (.plain (OpenSpec.upto fnExactMapTermSpec)) fnExactMapTermUptoCard
end Rows
end Go.Proofs.YtlbpefmocodkfaaDoor
