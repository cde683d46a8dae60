/-
  DERIVED. GIVEN WITH THE SEED: THE CARDS: each row of YteffcfaoganciaaDoorRows.lean that lists a variable, with what it lists TIED to the program's text (the seventh form; the later family's looks); each row that meets fmt, with fmt's text TOLD by the authors' own Lean function (tested against real Go, not proved from fmt's source: count such statements apart). THE CARD IS WHAT COUNTS. Prove the row's statement (the work); the ties are given (YteffcfaoganciaaDoorTie.lean); close each card by the builder's one call (the guide's Derived/Test/ToyasCard.lean, 'card_holds'). Laid BY PROGRAM, IN A SANDBOX (cutbox-door.mjs). By AI agents, Wed Nov 11 2026. No macro, syntax, notation, axiom, sorry.
-/
import Derived.Test.YteffcfaoganciaaDoorRows
import GoSem.ClaimSeven
namespace Go.Proofs.YteffcfaoganciaaDoor
namespace Rows

/-- THE TIED CARD OF 'laws.FnExactIsSession'. -/
def fnExactIsSessionCard : Claim7 := { stood := { row := fnExactIsSessionRow, standIns := [], harness := (true, "e42c088803a5a705737838acd44c8931e8f8e0d20d362893234d9cf8e621da83"), looks := false }, kinds := [], alts := [], laidByText := true, laidKinds := [.data, .data], laidTests := true, laidLooks := .later }
def FnExactIsSessionCardSaid : Prop := Claim7.holds Tryd.pinned (.plain (OpenSpec.ofChange fnExactIsSessionSpec)) fnExactIsSessionCard

/-- THE TIED CARD OF 'laws.FnExactCountOpen'. -/
def fnExactCountOpenCard : Claim7 := { stood := { row := fnExactCountOpenRow, standIns := [], harness := (true, "e42c088803a5a705737838acd44c8931e8f8e0d20d362893234d9cf8e621da83"), looks := false }, kinds := [], alts := [], laidByText := true, laidKinds := [.data, .data], laidTests := true, laidLooks := .later }
def FnExactCountOpenCardSaid : Prop := Claim7.holds Tryd.pinned (.plain (OpenSpec.ofChange fnExactCountOpenSpec)) fnExactCountOpenCard

/-- THE TIED CARD OF 'laws.FnExactOpenAll'. -/
def fnExactOpenAllCard : Claim7 := { stood := { row := fnExactOpenAllRow, standIns := [], harness := (true, "e42c088803a5a705737838acd44c8931e8f8e0d20d362893234d9cf8e621da83"), looks := false }, kinds := [], alts := [], laidByText := true, laidKinds := [.data, .data], laidTests := true, laidLooks := .later }
def FnExactOpenAllCardSaid : Prop := Claim7.holds Tryd.pinned (.plain (OpenSpec.ofChange fnExactOpenAllSpec)) fnExactOpenAllCard

/-- THE TIED CARD OF 'laws.FnExactFillOpen'. -/
def fnExactFillOpenCard : Claim7 := { stood := { row := fnExactFillOpenRow, standIns := [], harness := (true, "e42c088803a5a705737838acd44c8931e8f8e0d20d362893234d9cf8e621da83"), looks := false }, kinds := [], alts := [], laidByText := true, laidKinds := [.data, .data], laidTests := true, laidLooks := .later }
def FnExactFillOpenCardSaid : Prop := Claim7.holds Tryd.pinned (.plain (OpenSpec.ofChange fnExactFillOpenSpec)) fnExactFillOpenCard

/-- THE TIED CARD OF 'laws.FnExactCountSeen'. -/
def fnExactCountSeenCard : Claim7 := { stood := { row := fnExactCountSeenRow, standIns := [], harness := (true, "e42c088803a5a705737838acd44c8931e8f8e0d20d362893234d9cf8e621da83"), looks := false }, kinds := [], alts := [], laidByText := true, laidKinds := [.data], laidTests := true, laidLooks := .later }
def FnExactCountSeenCardSaid : Prop := Claim7.holds Tryd.pinned (.plain (OpenSpec.ofChange fnExactCountSeenSpec)) fnExactCountSeenCard

/-- THE TIED CARD OF 'laws.FnExactBoxType'. -/
def fnExactBoxTypeCard : Claim7 := { stood := { row := fnExactBoxTypeRow, standIns := [], harness := (true, "e42c088803a5a705737838acd44c8931e8f8e0d20d362893234d9cf8e621da83"), looks := false }, kinds := [], alts := [], laidByText := true, laidKinds := [.data, .data], laidTests := true, laidLooks := .later }
def FnExactBoxTypeCardSaid : Prop := Claim7.holds Tryd.pinned (.plain (OpenSpec.ofChange fnExactBoxTypeSpec)) fnExactBoxTypeCard

/-- THE TIED CARD OF 'laws.FnExactForgetType'. -/
def fnExactForgetTypeCard : Claim7 := { stood := { row := fnExactForgetTypeRow, standIns := [], harness := (true, "e42c088803a5a705737838acd44c8931e8f8e0d20d362893234d9cf8e621da83"), looks := false }, kinds := [], alts := [], laidByText := true, laidKinds := [.data], laidTests := true, laidLooks := .later }
def FnExactForgetTypeCardSaid : Prop := Claim7.holds Tryd.pinned (.plain (OpenSpec.ofChange fnExactForgetTypeSpec)) fnExactForgetTypeCard

/-- THE TIED CARD OF 'laws.FnExactPlaceOf'. -/
def fnExactPlaceOfCard : Claim7 := { stood := { row := fnExactPlaceOfRow, standIns := [], harness := (true, "e42c088803a5a705737838acd44c8931e8f8e0d20d362893234d9cf8e621da83"), looks := false }, kinds := [], alts := [], laidByText := true, laidKinds := [.data, .data], laidTests := true, laidLooks := .later }
def FnExactPlaceOfCardSaid : Prop := Claim7.holds Tryd.pinned (.plain (OpenSpec.ofChange fnExactPlaceOfSpec)) fnExactPlaceOfCard

/-- THE TIED CARD OF 'laws.FnExactFormatGrades'. -/
def fnExactFormatGradesCard : Claim7 := { stood := { row := fnExactFormatGradesRow, standIns := [], harness := (true, "e42c088803a5a705737838acd44c8931e8f8e0d20d362893234d9cf8e621da83"), looks := false }, kinds := [], alts := [], laidByText := true, laidKinds := [.data, .data, .data], laidTests := true, laidLooks := .later }
def FnExactFormatGradesCardSaid : Prop := Claim7.holds Tryd.pinned (.plain (OpenSpec.ofChange fnExactFormatGradesSpec)) fnExactFormatGradesCard

/-- THE SECOND FORM's CARD OF 'laws.FnExactIsSession'. -/
def fnExactIsSessionUptoCard : Claim7 := { stood := { row := fnExactIsSessionUptoRow, standIns := [], harness := (true, "e42c088803a5a705737838acd44c8931e8f8e0d20d362893234d9cf8e621da83"), looks := false }, kinds := [], alts := [], laidByText := true, laidKinds := [.data, .data], laidTests := true, laidLooks := .later }
def FnExactIsSessionUptoCardSaid : Prop := Claim7.holds Tryd.pinned (.plain (OpenSpec.upto fnExactIsSessionSpec)) fnExactIsSessionUptoCard

/-- THE SECOND FORM's CARD OF 'laws.FnExactCountOpen'. -/
def fnExactCountOpenUptoCard : Claim7 := { stood := { row := fnExactCountOpenUptoRow, standIns := [], harness := (true, "e42c088803a5a705737838acd44c8931e8f8e0d20d362893234d9cf8e621da83"), looks := false }, kinds := [], alts := [], laidByText := true, laidKinds := [.data, .data], laidTests := true, laidLooks := .later }
def FnExactCountOpenUptoCardSaid : Prop := Claim7.holds Tryd.pinned (.plain (OpenSpec.upto fnExactCountOpenSpec)) fnExactCountOpenUptoCard

/-- THE SECOND FORM's CARD OF 'laws.FnExactOpenAll'. -/
def fnExactOpenAllUptoCard : Claim7 := { stood := { row := fnExactOpenAllUptoRow, standIns := [], harness := (true, "e42c088803a5a705737838acd44c8931e8f8e0d20d362893234d9cf8e621da83"), looks := false }, kinds := [], alts := [], laidByText := true, laidKinds := [.data, .data], laidTests := true, laidLooks := .later }
def FnExactOpenAllUptoCardSaid : Prop := Claim7.holds Tryd.pinned (.plain (OpenSpec.upto fnExactOpenAllSpec)) fnExactOpenAllUptoCard

/-- THE SECOND FORM's CARD OF 'laws.FnExactFillOpen'. -/
def fnExactFillOpenUptoCard : Claim7 := { stood := { row := fnExactFillOpenUptoRow, standIns := [], harness := (true, "e42c088803a5a705737838acd44c8931e8f8e0d20d362893234d9cf8e621da83"), looks := false }, kinds := [], alts := [], laidByText := true, laidKinds := [.data, .data], laidTests := true, laidLooks := .later }
def FnExactFillOpenUptoCardSaid : Prop := Claim7.holds Tryd.pinned (.plain (OpenSpec.upto fnExactFillOpenSpec)) fnExactFillOpenUptoCard

/-- THE SECOND FORM's CARD OF 'laws.FnExactCountSeen'. -/
def fnExactCountSeenUptoCard : Claim7 := { stood := { row := fnExactCountSeenUptoRow, standIns := [], harness := (true, "e42c088803a5a705737838acd44c8931e8f8e0d20d362893234d9cf8e621da83"), looks := false }, kinds := [], alts := [], laidByText := true, laidKinds := [.data], laidTests := true, laidLooks := .later }
def FnExactCountSeenUptoCardSaid : Prop := Claim7.holds Tryd.pinned (.plain (OpenSpec.upto fnExactCountSeenSpec)) fnExactCountSeenUptoCard

/-- THE SECOND FORM's CARD OF 'laws.FnExactBoxType'. -/
def fnExactBoxTypeUptoCard : Claim7 := { stood := { row := fnExactBoxTypeUptoRow, standIns := [], harness := (true, "e42c088803a5a705737838acd44c8931e8f8e0d20d362893234d9cf8e621da83"), looks := false }, kinds := [], alts := [], laidByText := true, laidKinds := [.data, .data], laidTests := true, laidLooks := .later }
def FnExactBoxTypeUptoCardSaid : Prop := Claim7.holds Tryd.pinned (.plain (OpenSpec.upto fnExactBoxTypeSpec)) fnExactBoxTypeUptoCard

/-- THE SECOND FORM's CARD OF 'laws.FnExactForgetType'. -/
def fnExactForgetTypeUptoCard : Claim7 := { stood := { row := fnExactForgetTypeUptoRow, standIns := [], harness := (true, "e42c088803a5a705737838acd44c8931e8f8e0d20d362893234d9cf8e621da83"), looks := false }, kinds := [], alts := [], laidByText := true, laidKinds := [.data], laidTests := true, laidLooks := .later }
def FnExactForgetTypeUptoCardSaid : Prop := Claim7.holds Tryd.pinned (.plain (OpenSpec.upto fnExactForgetTypeSpec)) fnExactForgetTypeUptoCard

/-- THE SECOND FORM's CARD OF 'laws.FnExactPlaceOf'. -/
def fnExactPlaceOfUptoCard : Claim7 := { stood := { row := fnExactPlaceOfUptoRow, standIns := [], harness := (true, "e42c088803a5a705737838acd44c8931e8f8e0d20d362893234d9cf8e621da83"), looks := false }, kinds := [], alts := [], laidByText := true, laidKinds := [.data, .data], laidTests := true, laidLooks := .later }
def FnExactPlaceOfUptoCardSaid : Prop := Claim7.holds Tryd.pinned (.plain (OpenSpec.upto fnExactPlaceOfSpec)) fnExactPlaceOfUptoCard

/-- THE SECOND FORM's CARD OF 'laws.FnExactFormatGrades'. -/
def fnExactFormatGradesUptoCard : Claim7 := { stood := { row := fnExactFormatGradesUptoRow, standIns := [], harness := (true, "e42c088803a5a705737838acd44c8931e8f8e0d20d362893234d9cf8e621da83"), looks := false }, kinds := [], alts := [], laidByText := true, laidKinds := [.data, .data, .data], laidTests := true, laidLooks := .later }
def FnExactFormatGradesUptoCardSaid : Prop := Claim7.holds Tryd.pinned (.plain (OpenSpec.upto fnExactFormatGradesSpec)) fnExactFormatGradesUptoCard
end Rows
end Go.Proofs.YteffcfaoganciaaDoor
