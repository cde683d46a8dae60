/-
  DERIVED. GIVEN WITH THE SEED: THE CARDS: each row of YtcjmkimegmpnbaaDoorRows.lean that lists a variable, with what it lists TIED to the program's text (the seventh form; the later family's looks); each row that meets fmt, with fmt's text TOLD by the authors' own Lean function (tested against real Go, not proved from fmt's source: count such statements apart). THE CARD IS WHAT COUNTS. Prove the row's statement (the work); the ties are given (YtcjmkimegmpnbaaDoorTie.lean); close each card by the builder's one call (the guide's Derived/Test/ToyasCard.lean, 'card_holds'). Laid BY PROGRAM, IN A SANDBOX (cutbox-door.mjs). By AI agents, Wed Nov 11 2026. No macro, syntax, notation, axiom, sorry.
-/
import Derived.Test.YtcjmkimegmpnbaaDoorRows
import GoSem.ClaimSeven
namespace Go.Proofs.YtcjmkimegmpnbaaDoor
namespace Rows

/-- THE TIED CARD OF 'laws.FnExactPartsOfType'. -/
def fnExactPartsOfTypeCard : Claim7 := { stood := { row := fnExactPartsOfTypeRow, standIns := [], harness := (true, "498846254962ae144b1697bf6366dcc7b8ce09d213129f6d789f6c2ece5115ba"), looks := false }, kinds := [], alts := [], laidByText := true, laidKinds := [.data], laidTests := true, laidLooks := .later }
def FnExactPartsOfTypeCardSaid : Prop := Claim7.holds Tryd.pinned (.plain (OpenSpec.ofChange fnExactPartsOfTypeSpec)) fnExactPartsOfTypeCard

/-- THE TIED CARD OF 'laws.FnExactShiftTerm'. -/
def fnExactShiftTermCard : Claim7 := { stood := { row := fnExactShiftTermRow, standIns := [], harness := (true, "498846254962ae144b1697bf6366dcc7b8ce09d213129f6d789f6c2ece5115ba"), looks := false }, kinds := [], alts := [], laidByText := true, laidKinds := [.data, .data], laidTests := true, laidLooks := .later }
def FnExactShiftTermCardSaid : Prop := Claim7.holds Tryd.pinned (.plain (OpenSpec.ofChange fnExactShiftTermSpec)) fnExactShiftTermCard

/-- THE TIED CARD OF 'laws.FnExactSubstituteTerm'. -/
def fnExactSubstituteTermCard : Claim7 := { stood := { row := fnExactSubstituteTermRow, standIns := [], harness := (true, "498846254962ae144b1697bf6366dcc7b8ce09d213129f6d789f6c2ece5115ba"), looks := false }, kinds := [], alts := [], laidByText := true, laidKinds := [.data, .data], laidTests := true, laidLooks := .later }
def FnExactSubstituteTermCardSaid : Prop := Claim7.holds Tryd.pinned (.plain (OpenSpec.ofChange fnExactSubstituteTermSpec)) fnExactSubstituteTermCard

/-- THE TIED CARD OF 'laws.FnExactMapTerm'. -/
def fnExactMapTermCard : Claim7 := { stood := { row := fnExactMapTermRow, standIns := [], harness := (true, "498846254962ae144b1697bf6366dcc7b8ce09d213129f6d789f6c2ece5115ba"), looks := false }, kinds := [], alts := [], laidByText := true, laidKinds := [.data, .data], laidTests := true, laidLooks := .later }
def FnExactMapTermCardSaid : Prop := Claim7.holds Tryd.pinned (.plain (OpenSpec.ofChange fnExactMapTermSpec)) fnExactMapTermCard

/-- THE TIED CARD OF 'laws.FnExactIsRedex'. -/
def fnExactIsRedexCard : Claim7 := { stood := { row := fnExactIsRedexRow, standIns := [], harness := (true, "498846254962ae144b1697bf6366dcc7b8ce09d213129f6d789f6c2ece5115ba"), looks := false }, kinds := [], alts := [], laidByText := true, laidKinds := [.data, .data], laidTests := true, laidLooks := .later }
def FnExactIsRedexCardSaid : Prop := Claim7.holds Tryd.pinned (.plain (OpenSpec.ofChange fnExactIsRedexSpec)) fnExactIsRedexCard

/-- THE TIED CARD OF 'laws.FnExactContract'. -/
def fnExactContractCard : Claim7 := { stood := { row := fnExactContractRow, standIns := [], harness := (true, "498846254962ae144b1697bf6366dcc7b8ce09d213129f6d789f6c2ece5115ba"), looks := false }, kinds := [], alts := [], laidByText := true, laidKinds := [.data, .data], laidTests := true, laidLooks := .later }
def FnExactContractCardSaid : Prop := Claim7.holds Tryd.pinned (.plain (OpenSpec.ofChange fnExactContractSpec)) fnExactContractCard

/-- THE TIED CARD OF 'laws.FnExactRedexesOf'. -/
def fnExactRedexesOfCard : Claim7 := { stood := { row := fnExactRedexesOfRow, standIns := [], harness := (true, "498846254962ae144b1697bf6366dcc7b8ce09d213129f6d789f6c2ece5115ba"), looks := false }, kinds := [], alts := [], laidByText := true, laidKinds := [.data, .data], laidTests := true, laidLooks := .later }
def FnExactRedexesOfCardSaid : Prop := Claim7.holds Tryd.pinned (.plain (OpenSpec.ofChange fnExactRedexesOfSpec)) fnExactRedexesOfCard

/-- THE TIED CARD OF 'laws.FnExactTermAt'. -/
def fnExactTermAtCard : Claim7 := { stood := { row := fnExactTermAtRow, standIns := [], harness := (true, "498846254962ae144b1697bf6366dcc7b8ce09d213129f6d789f6c2ece5115ba"), looks := false }, kinds := [], alts := [], laidByText := true, laidKinds := [.data, .data], laidTests := true, laidLooks := .later }
def FnExactTermAtCardSaid : Prop := Claim7.holds Tryd.pinned (.plain (OpenSpec.ofChange fnExactTermAtSpec)) fnExactTermAtCard

/-- THE TIED CARD OF 'laws.FnExactReplaceAt'. -/
def fnExactReplaceAtCard : Claim7 := { stood := { row := fnExactReplaceAtRow, standIns := [], harness := (true, "498846254962ae144b1697bf6366dcc7b8ce09d213129f6d789f6c2ece5115ba"), looks := false }, kinds := [], alts := [], laidByText := true, laidKinds := [.data, .data], laidTests := true, laidLooks := .later }
def FnExactReplaceAtCardSaid : Prop := Claim7.holds Tryd.pinned (.plain (OpenSpec.ofChange fnExactReplaceAtSpec)) fnExactReplaceAtCard

/-- THE TIED CARD OF 'laws.FnExactContractAt'. -/
def fnExactContractAtCard : Claim7 := { stood := { row := fnExactContractAtRow, standIns := [], harness := (true, "498846254962ae144b1697bf6366dcc7b8ce09d213129f6d789f6c2ece5115ba"), looks := false }, kinds := [], alts := [], laidByText := true, laidKinds := [.data, .data], laidTests := true, laidLooks := .later }
def FnExactContractAtCardSaid : Prop := Claim7.holds Tryd.pinned (.plain (OpenSpec.ofChange fnExactContractAtSpec)) fnExactContractAtCard

/-- THE TIED CARD OF 'laws.FnExactIsNormal'. -/
def fnExactIsNormalCard : Claim7 := { stood := { row := fnExactIsNormalRow, standIns := [], harness := (true, "498846254962ae144b1697bf6366dcc7b8ce09d213129f6d789f6c2ece5115ba"), looks := false }, kinds := [], alts := [], laidByText := true, laidKinds := [.data, .data], laidTests := true, laidLooks := .later }
def FnExactIsNormalCardSaid : Prop := Claim7.holds Tryd.pinned (.plain (OpenSpec.ofChange fnExactIsNormalSpec)) fnExactIsNormalCard

/-- THE TIED CARD OF 'laws.FnExactStepTerm'. -/
def fnExactStepTermCard : Claim7 := { stood := { row := fnExactStepTermRow, standIns := [], harness := (true, "498846254962ae144b1697bf6366dcc7b8ce09d213129f6d789f6c2ece5115ba"), looks := false }, kinds := [], alts := [], laidByText := true, laidKinds := [.data, .data], laidTests := true, laidLooks := .later }
def FnExactStepTermCardSaid : Prop := Claim7.holds Tryd.pinned (.plain (OpenSpec.ofChange fnExactStepTermSpec)) fnExactStepTermCard

/-- THE SECOND FORM's CARD OF 'laws.FnExactPartsOfType'. -/
def fnExactPartsOfTypeUptoCard : Claim7 := { stood := { row := fnExactPartsOfTypeUptoRow, standIns := [], harness := (true, "498846254962ae144b1697bf6366dcc7b8ce09d213129f6d789f6c2ece5115ba"), looks := false }, kinds := [], alts := [], laidByText := true, laidKinds := [.data], laidTests := true, laidLooks := .later }
def FnExactPartsOfTypeUptoCardSaid : Prop := Claim7.holds Tryd.pinned (.plain (OpenSpec.upto fnExactPartsOfTypeSpec)) fnExactPartsOfTypeUptoCard

/-- THE SECOND FORM's CARD OF 'laws.FnExactShiftTerm'. -/
def fnExactShiftTermUptoCard : Claim7 := { stood := { row := fnExactShiftTermUptoRow, standIns := [], harness := (true, "498846254962ae144b1697bf6366dcc7b8ce09d213129f6d789f6c2ece5115ba"), looks := false }, kinds := [], alts := [], laidByText := true, laidKinds := [.data, .data], laidTests := true, laidLooks := .later }
def FnExactShiftTermUptoCardSaid : Prop := Claim7.holds Tryd.pinned (.plain (OpenSpec.upto fnExactShiftTermSpec)) fnExactShiftTermUptoCard

/-- THE SECOND FORM's CARD OF 'laws.FnExactSubstituteTerm'. -/
def fnExactSubstituteTermUptoCard : Claim7 := { stood := { row := fnExactSubstituteTermUptoRow, standIns := [], harness := (true, "498846254962ae144b1697bf6366dcc7b8ce09d213129f6d789f6c2ece5115ba"), looks := false }, kinds := [], alts := [], laidByText := true, laidKinds := [.data, .data], laidTests := true, laidLooks := .later }
def FnExactSubstituteTermUptoCardSaid : Prop := Claim7.holds Tryd.pinned (.plain (OpenSpec.upto fnExactSubstituteTermSpec)) fnExactSubstituteTermUptoCard

/-- THE SECOND FORM's CARD OF 'laws.FnExactMapTerm'. -/
def fnExactMapTermUptoCard : Claim7 := { stood := { row := fnExactMapTermUptoRow, standIns := [], harness := (true, "498846254962ae144b1697bf6366dcc7b8ce09d213129f6d789f6c2ece5115ba"), looks := false }, kinds := [], alts := [], laidByText := true, laidKinds := [.data, .data], laidTests := true, laidLooks := .later }
def FnExactMapTermUptoCardSaid : Prop := Claim7.holds Tryd.pinned (.plain (OpenSpec.upto fnExactMapTermSpec)) fnExactMapTermUptoCard

/-- THE SECOND FORM's CARD OF 'laws.FnExactIsRedex'. -/
def fnExactIsRedexUptoCard : Claim7 := { stood := { row := fnExactIsRedexUptoRow, standIns := [], harness := (true, "498846254962ae144b1697bf6366dcc7b8ce09d213129f6d789f6c2ece5115ba"), looks := false }, kinds := [], alts := [], laidByText := true, laidKinds := [.data, .data], laidTests := true, laidLooks := .later }
def FnExactIsRedexUptoCardSaid : Prop := Claim7.holds Tryd.pinned (.plain (OpenSpec.upto fnExactIsRedexSpec)) fnExactIsRedexUptoCard

/-- THE SECOND FORM's CARD OF 'laws.FnExactContract'. -/
def fnExactContractUptoCard : Claim7 := { stood := { row := fnExactContractUptoRow, standIns := [], harness := (true, "498846254962ae144b1697bf6366dcc7b8ce09d213129f6d789f6c2ece5115ba"), looks := false }, kinds := [], alts := [], laidByText := true, laidKinds := [.data, .data], laidTests := true, laidLooks := .later }
def FnExactContractUptoCardSaid : Prop := Claim7.holds Tryd.pinned (.plain (OpenSpec.upto fnExactContractSpec)) fnExactContractUptoCard

/-- THE SECOND FORM's CARD OF 'laws.FnExactRedexesOf'. -/
def fnExactRedexesOfUptoCard : Claim7 := { stood := { row := fnExactRedexesOfUptoRow, standIns := [], harness := (true, "498846254962ae144b1697bf6366dcc7b8ce09d213129f6d789f6c2ece5115ba"), looks := false }, kinds := [], alts := [], laidByText := true, laidKinds := [.data, .data], laidTests := true, laidLooks := .later }
def FnExactRedexesOfUptoCardSaid : Prop := Claim7.holds Tryd.pinned (.plain (OpenSpec.upto fnExactRedexesOfSpec)) fnExactRedexesOfUptoCard

/-- THE SECOND FORM's CARD OF 'laws.FnExactTermAt'. -/
def fnExactTermAtUptoCard : Claim7 := { stood := { row := fnExactTermAtUptoRow, standIns := [], harness := (true, "498846254962ae144b1697bf6366dcc7b8ce09d213129f6d789f6c2ece5115ba"), looks := false }, kinds := [], alts := [], laidByText := true, laidKinds := [.data, .data], laidTests := true, laidLooks := .later }
def FnExactTermAtUptoCardSaid : Prop := Claim7.holds Tryd.pinned (.plain (OpenSpec.upto fnExactTermAtSpec)) fnExactTermAtUptoCard

/-- THE SECOND FORM's CARD OF 'laws.FnExactReplaceAt'. -/
def fnExactReplaceAtUptoCard : Claim7 := { stood := { row := fnExactReplaceAtUptoRow, standIns := [], harness := (true, "498846254962ae144b1697bf6366dcc7b8ce09d213129f6d789f6c2ece5115ba"), looks := false }, kinds := [], alts := [], laidByText := true, laidKinds := [.data, .data], laidTests := true, laidLooks := .later }
def FnExactReplaceAtUptoCardSaid : Prop := Claim7.holds Tryd.pinned (.plain (OpenSpec.upto fnExactReplaceAtSpec)) fnExactReplaceAtUptoCard

/-- THE SECOND FORM's CARD OF 'laws.FnExactContractAt'. -/
def fnExactContractAtUptoCard : Claim7 := { stood := { row := fnExactContractAtUptoRow, standIns := [], harness := (true, "498846254962ae144b1697bf6366dcc7b8ce09d213129f6d789f6c2ece5115ba"), looks := false }, kinds := [], alts := [], laidByText := true, laidKinds := [.data, .data], laidTests := true, laidLooks := .later }
def FnExactContractAtUptoCardSaid : Prop := Claim7.holds Tryd.pinned (.plain (OpenSpec.upto fnExactContractAtSpec)) fnExactContractAtUptoCard

/-- THE SECOND FORM's CARD OF 'laws.FnExactIsNormal'. -/
def fnExactIsNormalUptoCard : Claim7 := { stood := { row := fnExactIsNormalUptoRow, standIns := [], harness := (true, "498846254962ae144b1697bf6366dcc7b8ce09d213129f6d789f6c2ece5115ba"), looks := false }, kinds := [], alts := [], laidByText := true, laidKinds := [.data, .data], laidTests := true, laidLooks := .later }
def FnExactIsNormalUptoCardSaid : Prop := Claim7.holds Tryd.pinned (.plain (OpenSpec.upto fnExactIsNormalSpec)) fnExactIsNormalUptoCard

/-- THE SECOND FORM's CARD OF 'laws.FnExactStepTerm'. -/
def fnExactStepTermUptoCard : Claim7 := { stood := { row := fnExactStepTermUptoRow, standIns := [], harness := (true, "498846254962ae144b1697bf6366dcc7b8ce09d213129f6d789f6c2ece5115ba"), looks := false }, kinds := [], alts := [], laidByText := true, laidKinds := [.data, .data], laidTests := true, laidLooks := .later }
def FnExactStepTermUptoCardSaid : Prop := Claim7.holds Tryd.pinned (.plain (OpenSpec.upto fnExactStepTermSpec)) fnExactStepTermUptoCard
end Rows
end Go.Proofs.YtcjmkimegmpnbaaDoor
