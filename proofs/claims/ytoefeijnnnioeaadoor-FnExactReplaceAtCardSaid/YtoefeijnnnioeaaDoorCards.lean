/-
  DERIVED. GIVEN WITH THE SEED: THE CARDS: each row of YtoefeijnnnioeaaDoorRows.lean that lists a variable, with what it lists TIED to the program's text (the seventh form; the later family's looks); each row that meets fmt, with fmt's text TOLD by the authors' own Lean function (tested against real Go, not proved from fmt's source: count such statements apart). THE CARD IS WHAT COUNTS. Prove the row's statement (the work); the ties are given (YtoefeijnnnioeaaDoorTie.lean); close each card by the builder's one call (the guide's Derived/Test/ToyasCard.lean, 'card_holds'). Laid BY PROGRAM, IN A SANDBOX (cutbox-door.mjs). By AI agents, Wed Nov 11 2026. No macro, syntax, notation, axiom, sorry.
-/
import Derived.Test.YtoefeijnnnioeaaDoorRows
import GoSem.ClaimSeven
namespace Go.Proofs.YtoefeijnnnioeaaDoor
namespace Rows

/-- THE TIED CARD OF 'laws.FnExactMapType'. -/
def fnExactMapTypeCard : Claim7 := { stood := { row := fnExactMapTypeRow, standIns := [], harness := (true, "e827224b36460cb8236fed8e19436f5321b291296890916e2c3efb61f4c32241"), looks := false }, kinds := [], alts := [], laidByText := true, laidKinds := [.data], laidTests := true, laidLooks := .later }
def FnExactMapTypeCardSaid : Prop := Claim7.holds Tryd.pinned (.plain (OpenSpec.ofChange fnExactMapTypeSpec)) fnExactMapTypeCard

/-- THE TIED CARD OF 'laws.FnExactMapTerm'. -/
def fnExactMapTermCard : Claim7 := { stood := { row := fnExactMapTermRow, standIns := [], harness := (true, "e827224b36460cb8236fed8e19436f5321b291296890916e2c3efb61f4c32241"), looks := false }, kinds := [], alts := [], laidByText := true, laidKinds := [.data, .data], laidTests := true, laidLooks := .later }
def FnExactMapTermCardSaid : Prop := Claim7.holds Tryd.pinned (.plain (OpenSpec.ofChange fnExactMapTermSpec)) fnExactMapTermCard

/-- THE TIED CARD OF 'laws.FnExactIsValue'. -/
def fnExactIsValueCard : Claim7 := { stood := { row := fnExactIsValueRow, standIns := [], harness := (true, "e827224b36460cb8236fed8e19436f5321b291296890916e2c3efb61f4c32241"), looks := false }, kinds := [], alts := [], laidByText := true, laidKinds := [.data, .data], laidTests := true, laidLooks := .later }
def FnExactIsValueCardSaid : Prop := Claim7.holds Tryd.pinned (.plain (OpenSpec.ofChange fnExactIsValueSpec)) fnExactIsValueCard

/-- THE TIED CARD OF 'laws.FnExactContract'. -/
def fnExactContractCard : Claim7 := { stood := { row := fnExactContractRow, standIns := [], harness := (true, "e827224b36460cb8236fed8e19436f5321b291296890916e2c3efb61f4c32241"), looks := false }, kinds := [], alts := [], laidByText := true, laidKinds := [.data, .data], laidTests := true, laidLooks := .later }
def FnExactContractCardSaid : Prop := Claim7.holds Tryd.pinned (.plain (OpenSpec.ofChange fnExactContractSpec)) fnExactContractCard

/-- THE TIED CARD OF 'laws.FnExactRedexesOf'. -/
def fnExactRedexesOfCard : Claim7 := { stood := { row := fnExactRedexesOfRow, standIns := [], harness := (true, "e827224b36460cb8236fed8e19436f5321b291296890916e2c3efb61f4c32241"), looks := false }, kinds := [], alts := [], laidByText := true, laidKinds := [.data, .data], laidTests := true, laidLooks := .later }
def FnExactRedexesOfCardSaid : Prop := Claim7.holds Tryd.pinned (.plain (OpenSpec.ofChange fnExactRedexesOfSpec)) fnExactRedexesOfCard

/-- THE TIED CARD OF 'laws.FnExactReplaceAt'. -/
def fnExactReplaceAtCard : Claim7 := { stood := { row := fnExactReplaceAtRow, standIns := [], harness := (true, "e827224b36460cb8236fed8e19436f5321b291296890916e2c3efb61f4c32241"), looks := false }, kinds := [], alts := [], laidByText := true, laidKinds := [.data, .data], laidTests := true, laidLooks := .later }
def FnExactReplaceAtCardSaid : Prop := Claim7.holds Tryd.pinned (.plain (OpenSpec.ofChange fnExactReplaceAtSpec)) fnExactReplaceAtCard

/-- THE TIED CARD OF 'laws.FnExactContractAt'. -/
def fnExactContractAtCard : Claim7 := { stood := { row := fnExactContractAtRow, standIns := [], harness := (true, "e827224b36460cb8236fed8e19436f5321b291296890916e2c3efb61f4c32241"), looks := false }, kinds := [], alts := [], laidByText := true, laidKinds := [.data, .data], laidTests := true, laidLooks := .later }
def FnExactContractAtCardSaid : Prop := Claim7.holds Tryd.pinned (.plain (OpenSpec.ofChange fnExactContractAtSpec)) fnExactContractAtCard

/-- THE TIED CARD OF 'laws.FnExactIsNormal'. -/
def fnExactIsNormalCard : Claim7 := { stood := { row := fnExactIsNormalRow, standIns := [], harness := (true, "e827224b36460cb8236fed8e19436f5321b291296890916e2c3efb61f4c32241"), looks := false }, kinds := [], alts := [], laidByText := true, laidKinds := [.data, .data], laidTests := true, laidLooks := .later }
def FnExactIsNormalCardSaid : Prop := Claim7.holds Tryd.pinned (.plain (OpenSpec.ofChange fnExactIsNormalSpec)) fnExactIsNormalCard

/-- THE TIED CARD OF 'laws.FnExactStepTerm'. -/
def fnExactStepTermCard : Claim7 := { stood := { row := fnExactStepTermRow, standIns := [], harness := (true, "e827224b36460cb8236fed8e19436f5321b291296890916e2c3efb61f4c32241"), looks := false }, kinds := [], alts := [], laidByText := true, laidKinds := [.data, .data], laidTests := true, laidLooks := .later }
def FnExactStepTermCardSaid : Prop := Claim7.holds Tryd.pinned (.plain (OpenSpec.ofChange fnExactStepTermSpec)) fnExactStepTermCard

/-- THE TIED CARD OF 'laws.FnExactValueAt'. -/
def fnExactValueAtCard : Claim7 := { stood := { row := fnExactValueAtRow, standIns := [], harness := (true, "e827224b36460cb8236fed8e19436f5321b291296890916e2c3efb61f4c32241"), looks := false }, kinds := [], alts := [], laidByText := true, laidKinds := [.data], laidTests := true, laidLooks := .later }
def FnExactValueAtCardSaid : Prop := Claim7.holds Tryd.pinned (.plain (OpenSpec.ofChange fnExactValueAtSpec)) fnExactValueAtCard

/-- THE TIED CARD OF 'laws.FnExactPlaceOf'. -/
def fnExactPlaceOfCard : Claim7 := { stood := { row := fnExactPlaceOfRow, standIns := [], harness := (true, "e827224b36460cb8236fed8e19436f5321b291296890916e2c3efb61f4c32241"), looks := false }, kinds := [], alts := [], laidByText := true, laidKinds := [.data, .data], laidTests := true, laidLooks := .later }
def FnExactPlaceOfCardSaid : Prop := Claim7.holds Tryd.pinned (.plain (OpenSpec.ofChange fnExactPlaceOfSpec)) fnExactPlaceOfCard

/-- THE TIED CARD OF 'laws.FnExactFillOpen'. -/
def fnExactFillOpenCard : Claim7 := { stood := { row := fnExactFillOpenRow, standIns := [], harness := (true, "e827224b36460cb8236fed8e19436f5321b291296890916e2c3efb61f4c32241"), looks := false }, kinds := [], alts := [], laidByText := true, laidKinds := [.data, .data], laidTests := true, laidLooks := .later }
def FnExactFillOpenCardSaid : Prop := Claim7.holds Tryd.pinned (.plain (OpenSpec.ofChange fnExactFillOpenSpec)) fnExactFillOpenCard

/-- THE SECOND FORM's CARD OF 'laws.FnExactMapType'. -/
def fnExactMapTypeUptoCard : Claim7 := { stood := { row := fnExactMapTypeUptoRow, standIns := [], harness := (true, "e827224b36460cb8236fed8e19436f5321b291296890916e2c3efb61f4c32241"), looks := false }, kinds := [], alts := [], laidByText := true, laidKinds := [.data], laidTests := true, laidLooks := .later }
def FnExactMapTypeUptoCardSaid : Prop := Claim7.holds Tryd.pinned (.plain (OpenSpec.upto fnExactMapTypeSpec)) fnExactMapTypeUptoCard

/-- THE SECOND FORM's CARD OF 'laws.FnExactMapTerm'. -/
def fnExactMapTermUptoCard : Claim7 := { stood := { row := fnExactMapTermUptoRow, standIns := [], harness := (true, "e827224b36460cb8236fed8e19436f5321b291296890916e2c3efb61f4c32241"), looks := false }, kinds := [], alts := [], laidByText := true, laidKinds := [.data, .data], laidTests := true, laidLooks := .later }
def FnExactMapTermUptoCardSaid : Prop := Claim7.holds Tryd.pinned (.plain (OpenSpec.upto fnExactMapTermSpec)) fnExactMapTermUptoCard

/-- THE SECOND FORM's CARD OF 'laws.FnExactIsValue'. -/
def fnExactIsValueUptoCard : Claim7 := { stood := { row := fnExactIsValueUptoRow, standIns := [], harness := (true, "e827224b36460cb8236fed8e19436f5321b291296890916e2c3efb61f4c32241"), looks := false }, kinds := [], alts := [], laidByText := true, laidKinds := [.data, .data], laidTests := true, laidLooks := .later }
def FnExactIsValueUptoCardSaid : Prop := Claim7.holds Tryd.pinned (.plain (OpenSpec.upto fnExactIsValueSpec)) fnExactIsValueUptoCard

/-- THE SECOND FORM's CARD OF 'laws.FnExactContract'. -/
def fnExactContractUptoCard : Claim7 := { stood := { row := fnExactContractUptoRow, standIns := [], harness := (true, "e827224b36460cb8236fed8e19436f5321b291296890916e2c3efb61f4c32241"), looks := false }, kinds := [], alts := [], laidByText := true, laidKinds := [.data, .data], laidTests := true, laidLooks := .later }
def FnExactContractUptoCardSaid : Prop := Claim7.holds Tryd.pinned (.plain (OpenSpec.upto fnExactContractSpec)) fnExactContractUptoCard

/-- THE SECOND FORM's CARD OF 'laws.FnExactRedexesOf'. -/
def fnExactRedexesOfUptoCard : Claim7 := { stood := { row := fnExactRedexesOfUptoRow, standIns := [], harness := (true, "e827224b36460cb8236fed8e19436f5321b291296890916e2c3efb61f4c32241"), looks := false }, kinds := [], alts := [], laidByText := true, laidKinds := [.data, .data], laidTests := true, laidLooks := .later }
def FnExactRedexesOfUptoCardSaid : Prop := Claim7.holds Tryd.pinned (.plain (OpenSpec.upto fnExactRedexesOfSpec)) fnExactRedexesOfUptoCard

/-- THE SECOND FORM's CARD OF 'laws.FnExactReplaceAt'. -/
def fnExactReplaceAtUptoCard : Claim7 := { stood := { row := fnExactReplaceAtUptoRow, standIns := [], harness := (true, "e827224b36460cb8236fed8e19436f5321b291296890916e2c3efb61f4c32241"), looks := false }, kinds := [], alts := [], laidByText := true, laidKinds := [.data, .data], laidTests := true, laidLooks := .later }
def FnExactReplaceAtUptoCardSaid : Prop := Claim7.holds Tryd.pinned (.plain (OpenSpec.upto fnExactReplaceAtSpec)) fnExactReplaceAtUptoCard

/-- THE SECOND FORM's CARD OF 'laws.FnExactContractAt'. -/
def fnExactContractAtUptoCard : Claim7 := { stood := { row := fnExactContractAtUptoRow, standIns := [], harness := (true, "e827224b36460cb8236fed8e19436f5321b291296890916e2c3efb61f4c32241"), looks := false }, kinds := [], alts := [], laidByText := true, laidKinds := [.data, .data], laidTests := true, laidLooks := .later }
def FnExactContractAtUptoCardSaid : Prop := Claim7.holds Tryd.pinned (.plain (OpenSpec.upto fnExactContractAtSpec)) fnExactContractAtUptoCard

/-- THE SECOND FORM's CARD OF 'laws.FnExactIsNormal'. -/
def fnExactIsNormalUptoCard : Claim7 := { stood := { row := fnExactIsNormalUptoRow, standIns := [], harness := (true, "e827224b36460cb8236fed8e19436f5321b291296890916e2c3efb61f4c32241"), looks := false }, kinds := [], alts := [], laidByText := true, laidKinds := [.data, .data], laidTests := true, laidLooks := .later }
def FnExactIsNormalUptoCardSaid : Prop := Claim7.holds Tryd.pinned (.plain (OpenSpec.upto fnExactIsNormalSpec)) fnExactIsNormalUptoCard

/-- THE SECOND FORM's CARD OF 'laws.FnExactStepTerm'. -/
def fnExactStepTermUptoCard : Claim7 := { stood := { row := fnExactStepTermUptoRow, standIns := [], harness := (true, "e827224b36460cb8236fed8e19436f5321b291296890916e2c3efb61f4c32241"), looks := false }, kinds := [], alts := [], laidByText := true, laidKinds := [.data, .data], laidTests := true, laidLooks := .later }
def FnExactStepTermUptoCardSaid : Prop := Claim7.holds Tryd.pinned (.plain (OpenSpec.upto fnExactStepTermSpec)) fnExactStepTermUptoCard

/-- THE SECOND FORM's CARD OF 'laws.FnExactValueAt'. -/
def fnExactValueAtUptoCard : Claim7 := { stood := { row := fnExactValueAtUptoRow, standIns := [], harness := (true, "e827224b36460cb8236fed8e19436f5321b291296890916e2c3efb61f4c32241"), looks := false }, kinds := [], alts := [], laidByText := true, laidKinds := [.data], laidTests := true, laidLooks := .later }
def FnExactValueAtUptoCardSaid : Prop := Claim7.holds Tryd.pinned (.plain (OpenSpec.upto fnExactValueAtSpec)) fnExactValueAtUptoCard

/-- THE SECOND FORM's CARD OF 'laws.FnExactPlaceOf'. -/
def fnExactPlaceOfUptoCard : Claim7 := { stood := { row := fnExactPlaceOfUptoRow, standIns := [], harness := (true, "e827224b36460cb8236fed8e19436f5321b291296890916e2c3efb61f4c32241"), looks := false }, kinds := [], alts := [], laidByText := true, laidKinds := [.data, .data], laidTests := true, laidLooks := .later }
def FnExactPlaceOfUptoCardSaid : Prop := Claim7.holds Tryd.pinned (.plain (OpenSpec.upto fnExactPlaceOfSpec)) fnExactPlaceOfUptoCard

/-- THE SECOND FORM's CARD OF 'laws.FnExactFillOpen'. -/
def fnExactFillOpenUptoCard : Claim7 := { stood := { row := fnExactFillOpenUptoRow, standIns := [], harness := (true, "e827224b36460cb8236fed8e19436f5321b291296890916e2c3efb61f4c32241"), looks := false }, kinds := [], alts := [], laidByText := true, laidKinds := [.data, .data], laidTests := true, laidLooks := .later }
def FnExactFillOpenUptoCardSaid : Prop := Claim7.holds Tryd.pinned (.plain (OpenSpec.upto fnExactFillOpenSpec)) fnExactFillOpenUptoCard
end Rows
end Go.Proofs.YtoefeijnnnioeaaDoor
