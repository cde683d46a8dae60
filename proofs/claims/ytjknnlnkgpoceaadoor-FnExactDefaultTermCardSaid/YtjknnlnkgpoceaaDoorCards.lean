/-
  DERIVED. GIVEN WITH THE SEED: THE CARDS: each row of YtjknnlnkgpoceaaDoorRows.lean that lists a variable, with what it lists TIED to the program's text (the seventh form; the later family's looks); each row that meets fmt, with fmt's text TOLD by the authors' own Lean function (tested against real Go, not proved from fmt's source: count such statements apart). THE CARD IS WHAT COUNTS. Prove the row's statement (the work); the ties are given (YtjknnlnkgpoceaaDoorTie.lean); close each card by the builder's one call (the guide's Derived/Test/ToyasCard.lean, 'card_holds'). Laid BY PROGRAM, IN A SANDBOX (cutbox-door.mjs). By AI agents, Wed Nov 11 2026. No macro, syntax, notation, axiom, sorry.
-/
import Derived.Test.YtjknnlnkgpoceaaDoorRows
import GoSem.ClaimSeven
namespace Go.Proofs.YtjknnlnkgpoceaaDoor
namespace Rows

/-- THE TIED CARD OF 'laws.FnExactMapType'. -/
def fnExactMapTypeCard : Claim7 := { stood := { row := fnExactMapTypeRow, standIns := [], harness := (true, "5dbaa58699b689512906afc63f2d6b73a284c4f71d431795d1c51c40c41c538f"), looks := false }, kinds := [], alts := [], laidByText := true, laidKinds := [.data], laidTests := true, laidLooks := .later }
def FnExactMapTypeCardSaid : Prop := Claim7.holds Tryd.pinned (.plain (OpenSpec.ofChange fnExactMapTypeSpec)) fnExactMapTypeCard

/-- THE TIED CARD OF 'laws.FnExactCountValues'. -/
def fnExactCountValuesCard : Claim7 := { stood := { row := fnExactCountValuesRow, standIns := [], harness := (true, "5dbaa58699b689512906afc63f2d6b73a284c4f71d431795d1c51c40c41c538f"), looks := false }, kinds := [], alts := [], laidByText := true, laidKinds := [.data], laidTests := true, laidLooks := .later }
def FnExactCountValuesCardSaid : Prop := Claim7.holds Tryd.pinned (.plain (OpenSpec.ofChange fnExactCountValuesSpec)) fnExactCountValuesCard

/-- THE TIED CARD OF 'laws.FnExactIsValue'. -/
def fnExactIsValueCard : Claim7 := { stood := { row := fnExactIsValueRow, standIns := [], harness := (true, "5dbaa58699b689512906afc63f2d6b73a284c4f71d431795d1c51c40c41c538f"), looks := false }, kinds := [], alts := [], laidByText := true, laidKinds := [.data, .data], laidTests := true, laidLooks := .later }
def FnExactIsValueCardSaid : Prop := Claim7.holds Tryd.pinned (.plain (OpenSpec.ofChange fnExactIsValueSpec)) fnExactIsValueCard

/-- THE TIED CARD OF 'laws.FnExactPartsOfType'. -/
def fnExactPartsOfTypeCard : Claim7 := { stood := { row := fnExactPartsOfTypeRow, standIns := [], harness := (true, "5dbaa58699b689512906afc63f2d6b73a284c4f71d431795d1c51c40c41c538f"), looks := false }, kinds := [], alts := [], laidByText := true, laidKinds := [.data], laidTests := true, laidLooks := .later }
def FnExactPartsOfTypeCardSaid : Prop := Claim7.holds Tryd.pinned (.plain (OpenSpec.ofChange fnExactPartsOfTypeSpec)) fnExactPartsOfTypeCard

/-- THE TIED CARD OF 'laws.FnExactContract'. -/
def fnExactContractCard : Claim7 := { stood := { row := fnExactContractRow, standIns := [], harness := (true, "5dbaa58699b689512906afc63f2d6b73a284c4f71d431795d1c51c40c41c538f"), looks := false }, kinds := [], alts := [], laidByText := true, laidKinds := [.data, .data], laidTests := true, laidLooks := .later }
def FnExactContractCardSaid : Prop := Claim7.holds Tryd.pinned (.plain (OpenSpec.ofChange fnExactContractSpec)) fnExactContractCard

/-- THE TIED CARD OF 'laws.FnExactRedexesOf'. -/
def fnExactRedexesOfCard : Claim7 := { stood := { row := fnExactRedexesOfRow, standIns := [], harness := (true, "5dbaa58699b689512906afc63f2d6b73a284c4f71d431795d1c51c40c41c538f"), looks := false }, kinds := [], alts := [], laidByText := true, laidKinds := [.data, .data], laidTests := true, laidLooks := .later }
def FnExactRedexesOfCardSaid : Prop := Claim7.holds Tryd.pinned (.plain (OpenSpec.ofChange fnExactRedexesOfSpec)) fnExactRedexesOfCard

/-- THE TIED CARD OF 'laws.FnExactReplaceAt'. -/
def fnExactReplaceAtCard : Claim7 := { stood := { row := fnExactReplaceAtRow, standIns := [], harness := (true, "5dbaa58699b689512906afc63f2d6b73a284c4f71d431795d1c51c40c41c538f"), looks := false }, kinds := [], alts := [], laidByText := true, laidKinds := [.data, .data], laidTests := true, laidLooks := .later }
def FnExactReplaceAtCardSaid : Prop := Claim7.holds Tryd.pinned (.plain (OpenSpec.ofChange fnExactReplaceAtSpec)) fnExactReplaceAtCard

/-- THE TIED CARD OF 'laws.FnExactContractAt'. -/
def fnExactContractAtCard : Claim7 := { stood := { row := fnExactContractAtRow, standIns := [], harness := (true, "5dbaa58699b689512906afc63f2d6b73a284c4f71d431795d1c51c40c41c538f"), looks := false }, kinds := [], alts := [], laidByText := true, laidKinds := [.data, .data], laidTests := true, laidLooks := .later }
def FnExactContractAtCardSaid : Prop := Claim7.holds Tryd.pinned (.plain (OpenSpec.ofChange fnExactContractAtSpec)) fnExactContractAtCard

/-- THE TIED CARD OF 'laws.FnExactIsNormal'. -/
def fnExactIsNormalCard : Claim7 := { stood := { row := fnExactIsNormalRow, standIns := [], harness := (true, "5dbaa58699b689512906afc63f2d6b73a284c4f71d431795d1c51c40c41c538f"), looks := false }, kinds := [], alts := [], laidByText := true, laidKinds := [.data, .data], laidTests := true, laidLooks := .later }
def FnExactIsNormalCardSaid : Prop := Claim7.holds Tryd.pinned (.plain (OpenSpec.ofChange fnExactIsNormalSpec)) fnExactIsNormalCard

/-- THE TIED CARD OF 'laws.FnExactStepTerm'. -/
def fnExactStepTermCard : Claim7 := { stood := { row := fnExactStepTermRow, standIns := [], harness := (true, "5dbaa58699b689512906afc63f2d6b73a284c4f71d431795d1c51c40c41c538f"), looks := false }, kinds := [], alts := [], laidByText := true, laidKinds := [.data, .data], laidTests := true, laidLooks := .later }
def FnExactStepTermCardSaid : Prop := Claim7.holds Tryd.pinned (.plain (OpenSpec.ofChange fnExactStepTermSpec)) fnExactStepTermCard

/-- THE TIED CARD OF 'laws.FnExactValueAt'. -/
def fnExactValueAtCard : Claim7 := { stood := { row := fnExactValueAtRow, standIns := [], harness := (true, "5dbaa58699b689512906afc63f2d6b73a284c4f71d431795d1c51c40c41c538f"), looks := false }, kinds := [], alts := [], laidByText := true, laidKinds := [.data], laidTests := true, laidLooks := .later }
def FnExactValueAtCardSaid : Prop := Claim7.holds Tryd.pinned (.plain (OpenSpec.ofChange fnExactValueAtSpec)) fnExactValueAtCard

/-- THE TIED CARD OF 'laws.FnExactDefaultTerm'. -/
def fnExactDefaultTermCard : Claim7 := { stood := { row := fnExactDefaultTermRow, standIns := [], harness := (true, "5dbaa58699b689512906afc63f2d6b73a284c4f71d431795d1c51c40c41c538f"), looks := false }, kinds := [], alts := [], laidByText := true, laidKinds := [.data], laidTests := true, laidLooks := .later }
def FnExactDefaultTermCardSaid : Prop := Claim7.holds Tryd.pinned (.plain (OpenSpec.ofChange fnExactDefaultTermSpec)) fnExactDefaultTermCard

/-- THE SECOND FORM's CARD OF 'laws.FnExactMapType'. -/
def fnExactMapTypeUptoCard : Claim7 := { stood := { row := fnExactMapTypeUptoRow, standIns := [], harness := (true, "5dbaa58699b689512906afc63f2d6b73a284c4f71d431795d1c51c40c41c538f"), looks := false }, kinds := [], alts := [], laidByText := true, laidKinds := [.data], laidTests := true, laidLooks := .later }
def FnExactMapTypeUptoCardSaid : Prop := Claim7.holds Tryd.pinned (.plain (OpenSpec.upto fnExactMapTypeSpec)) fnExactMapTypeUptoCard

/-- THE SECOND FORM's CARD OF 'laws.FnExactCountValues'. -/
def fnExactCountValuesUptoCard : Claim7 := { stood := { row := fnExactCountValuesUptoRow, standIns := [], harness := (true, "5dbaa58699b689512906afc63f2d6b73a284c4f71d431795d1c51c40c41c538f"), looks := false }, kinds := [], alts := [], laidByText := true, laidKinds := [.data], laidTests := true, laidLooks := .later }
def FnExactCountValuesUptoCardSaid : Prop := Claim7.holds Tryd.pinned (.plain (OpenSpec.upto fnExactCountValuesSpec)) fnExactCountValuesUptoCard

/-- THE SECOND FORM's CARD OF 'laws.FnExactIsValue'. -/
def fnExactIsValueUptoCard : Claim7 := { stood := { row := fnExactIsValueUptoRow, standIns := [], harness := (true, "5dbaa58699b689512906afc63f2d6b73a284c4f71d431795d1c51c40c41c538f"), looks := false }, kinds := [], alts := [], laidByText := true, laidKinds := [.data, .data], laidTests := true, laidLooks := .later }
def FnExactIsValueUptoCardSaid : Prop := Claim7.holds Tryd.pinned (.plain (OpenSpec.upto fnExactIsValueSpec)) fnExactIsValueUptoCard

/-- THE SECOND FORM's CARD OF 'laws.FnExactPartsOfType'. -/
def fnExactPartsOfTypeUptoCard : Claim7 := { stood := { row := fnExactPartsOfTypeUptoRow, standIns := [], harness := (true, "5dbaa58699b689512906afc63f2d6b73a284c4f71d431795d1c51c40c41c538f"), looks := false }, kinds := [], alts := [], laidByText := true, laidKinds := [.data], laidTests := true, laidLooks := .later }
def FnExactPartsOfTypeUptoCardSaid : Prop := Claim7.holds Tryd.pinned (.plain (OpenSpec.upto fnExactPartsOfTypeSpec)) fnExactPartsOfTypeUptoCard

/-- THE SECOND FORM's CARD OF 'laws.FnExactContract'. -/
def fnExactContractUptoCard : Claim7 := { stood := { row := fnExactContractUptoRow, standIns := [], harness := (true, "5dbaa58699b689512906afc63f2d6b73a284c4f71d431795d1c51c40c41c538f"), looks := false }, kinds := [], alts := [], laidByText := true, laidKinds := [.data, .data], laidTests := true, laidLooks := .later }
def FnExactContractUptoCardSaid : Prop := Claim7.holds Tryd.pinned (.plain (OpenSpec.upto fnExactContractSpec)) fnExactContractUptoCard

/-- THE SECOND FORM's CARD OF 'laws.FnExactRedexesOf'. -/
def fnExactRedexesOfUptoCard : Claim7 := { stood := { row := fnExactRedexesOfUptoRow, standIns := [], harness := (true, "5dbaa58699b689512906afc63f2d6b73a284c4f71d431795d1c51c40c41c538f"), looks := false }, kinds := [], alts := [], laidByText := true, laidKinds := [.data, .data], laidTests := true, laidLooks := .later }
def FnExactRedexesOfUptoCardSaid : Prop := Claim7.holds Tryd.pinned (.plain (OpenSpec.upto fnExactRedexesOfSpec)) fnExactRedexesOfUptoCard

/-- THE SECOND FORM's CARD OF 'laws.FnExactReplaceAt'. -/
def fnExactReplaceAtUptoCard : Claim7 := { stood := { row := fnExactReplaceAtUptoRow, standIns := [], harness := (true, "5dbaa58699b689512906afc63f2d6b73a284c4f71d431795d1c51c40c41c538f"), looks := false }, kinds := [], alts := [], laidByText := true, laidKinds := [.data, .data], laidTests := true, laidLooks := .later }
def FnExactReplaceAtUptoCardSaid : Prop := Claim7.holds Tryd.pinned (.plain (OpenSpec.upto fnExactReplaceAtSpec)) fnExactReplaceAtUptoCard

/-- THE SECOND FORM's CARD OF 'laws.FnExactContractAt'. -/
def fnExactContractAtUptoCard : Claim7 := { stood := { row := fnExactContractAtUptoRow, standIns := [], harness := (true, "5dbaa58699b689512906afc63f2d6b73a284c4f71d431795d1c51c40c41c538f"), looks := false }, kinds := [], alts := [], laidByText := true, laidKinds := [.data, .data], laidTests := true, laidLooks := .later }
def FnExactContractAtUptoCardSaid : Prop := Claim7.holds Tryd.pinned (.plain (OpenSpec.upto fnExactContractAtSpec)) fnExactContractAtUptoCard

/-- THE SECOND FORM's CARD OF 'laws.FnExactIsNormal'. -/
def fnExactIsNormalUptoCard : Claim7 := { stood := { row := fnExactIsNormalUptoRow, standIns := [], harness := (true, "5dbaa58699b689512906afc63f2d6b73a284c4f71d431795d1c51c40c41c538f"), looks := false }, kinds := [], alts := [], laidByText := true, laidKinds := [.data, .data], laidTests := true, laidLooks := .later }
def FnExactIsNormalUptoCardSaid : Prop := Claim7.holds Tryd.pinned (.plain (OpenSpec.upto fnExactIsNormalSpec)) fnExactIsNormalUptoCard

/-- THE SECOND FORM's CARD OF 'laws.FnExactStepTerm'. -/
def fnExactStepTermUptoCard : Claim7 := { stood := { row := fnExactStepTermUptoRow, standIns := [], harness := (true, "5dbaa58699b689512906afc63f2d6b73a284c4f71d431795d1c51c40c41c538f"), looks := false }, kinds := [], alts := [], laidByText := true, laidKinds := [.data, .data], laidTests := true, laidLooks := .later }
def FnExactStepTermUptoCardSaid : Prop := Claim7.holds Tryd.pinned (.plain (OpenSpec.upto fnExactStepTermSpec)) fnExactStepTermUptoCard

/-- THE SECOND FORM's CARD OF 'laws.FnExactValueAt'. -/
def fnExactValueAtUptoCard : Claim7 := { stood := { row := fnExactValueAtUptoRow, standIns := [], harness := (true, "5dbaa58699b689512906afc63f2d6b73a284c4f71d431795d1c51c40c41c538f"), looks := false }, kinds := [], alts := [], laidByText := true, laidKinds := [.data], laidTests := true, laidLooks := .later }
def FnExactValueAtUptoCardSaid : Prop := Claim7.holds Tryd.pinned (.plain (OpenSpec.upto fnExactValueAtSpec)) fnExactValueAtUptoCard

/-- THE SECOND FORM's CARD OF 'laws.FnExactDefaultTerm'. -/
def fnExactDefaultTermUptoCard : Claim7 := { stood := { row := fnExactDefaultTermUptoRow, standIns := [], harness := (true, "5dbaa58699b689512906afc63f2d6b73a284c4f71d431795d1c51c40c41c538f"), looks := false }, kinds := [], alts := [], laidByText := true, laidKinds := [.data], laidTests := true, laidLooks := .later }
def FnExactDefaultTermUptoCardSaid : Prop := Claim7.holds Tryd.pinned (.plain (OpenSpec.upto fnExactDefaultTermSpec)) fnExactDefaultTermUptoCard
end Rows
end Go.Proofs.YtjknnlnkgpoceaaDoor
