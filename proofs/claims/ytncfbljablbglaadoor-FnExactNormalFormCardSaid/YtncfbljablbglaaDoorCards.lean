/-
  DERIVED. GIVEN WITH THE SEED: THE CARDS: each row of YtncfbljablbglaaDoorRows.lean that lists a variable, with what it lists TIED to the program's text (the seventh form; the later family's looks); each row that meets fmt, with fmt's text TOLD by the authors' own Lean function (tested against real Go, not proved from fmt's source: count such statements apart). THE CARD IS WHAT COUNTS. Prove the row's statement (the work); the ties are given (YtncfbljablbglaaDoorTie.lean); close each card by the builder's one call (the guide's Derived/Test/ToyasCard.lean, 'card_holds'). Laid BY PROGRAM, IN A SANDBOX (cutbox-door.mjs). By AI agents, Wed Nov 11 2026. No macro, syntax, notation, axiom, sorry.
-/
import Derived.Test.YtncfbljablbglaaDoorRows
import GoSem.ClaimSeven
namespace Go.Proofs.YtncfbljablbglaaDoor
namespace Rows

/-- THE TIED CARD OF 'laws.FnExactNormalForm'. -/
def fnExactNormalFormCard : Claim7 := { stood := { row := fnExactNormalFormRow, standIns := [], harness := (true, "7373409b4256e32d4e7ec70babceacb84d666d2d7829aa2bbbbcee65da0e90df"), looks := false }, kinds := [], alts := [], laidByText := true, laidKinds := [.data, .data], laidTests := true, laidLooks := .later }
def FnExactNormalFormCardSaid : Prop := Claim7.holds Tryd.pinned (.plain (OpenSpec.ofChange fnExactNormalFormSpec)) fnExactNormalFormCard

/-- THE TIED CARD OF 'laws.FnExactMapType'. -/
def fnExactMapTypeCard : Claim7 := { stood := { row := fnExactMapTypeRow, standIns := [], harness := (true, "7373409b4256e32d4e7ec70babceacb84d666d2d7829aa2bbbbcee65da0e90df"), looks := false }, kinds := [], alts := [], laidByText := true, laidKinds := [.data], laidTests := true, laidLooks := .later }
def FnExactMapTypeCardSaid : Prop := Claim7.holds Tryd.pinned (.plain (OpenSpec.ofChange fnExactMapTypeSpec)) fnExactMapTypeCard

/-- THE TIED CARD OF 'laws.FnExactMapTerm'. -/
def fnExactMapTermCard : Claim7 := { stood := { row := fnExactMapTermRow, standIns := [], harness := (true, "7373409b4256e32d4e7ec70babceacb84d666d2d7829aa2bbbbcee65da0e90df"), looks := false }, kinds := [], alts := [], laidByText := true, laidKinds := [.data, .data], laidTests := true, laidLooks := .later }
def FnExactMapTermCardSaid : Prop := Claim7.holds Tryd.pinned (.plain (OpenSpec.ofChange fnExactMapTermSpec)) fnExactMapTermCard

/-- THE TIED CARD OF 'laws.FnExactOpenAll'. -/
def fnExactOpenAllCard : Claim7 := { stood := { row := fnExactOpenAllRow, standIns := [], harness := (true, "7373409b4256e32d4e7ec70babceacb84d666d2d7829aa2bbbbcee65da0e90df"), looks := false }, kinds := [], alts := [], laidByText := true, laidKinds := [.data, .data], laidTests := true, laidLooks := .later }
def FnExactOpenAllCardSaid : Prop := Claim7.holds Tryd.pinned (.plain (OpenSpec.ofChange fnExactOpenAllSpec)) fnExactOpenAllCard

/-- THE TIED CARD OF 'laws.FnExactFillOpen'. -/
def fnExactFillOpenCard : Claim7 := { stood := { row := fnExactFillOpenRow, standIns := [], harness := (true, "7373409b4256e32d4e7ec70babceacb84d666d2d7829aa2bbbbcee65da0e90df"), looks := false }, kinds := [], alts := [], laidByText := true, laidKinds := [.data, .data], laidTests := true, laidLooks := .later }
def FnExactFillOpenCardSaid : Prop := Claim7.holds Tryd.pinned (.plain (OpenSpec.ofChange fnExactFillOpenSpec)) fnExactFillOpenCard

/-- THE SECOND FORM's CARD OF 'laws.FnExactNormalForm'. -/
def fnExactNormalFormUptoCard : Claim7 := { stood := { row := fnExactNormalFormUptoRow, standIns := [], harness := (true, "7373409b4256e32d4e7ec70babceacb84d666d2d7829aa2bbbbcee65da0e90df"), looks := false }, kinds := [], alts := [], laidByText := true, laidKinds := [.data, .data], laidTests := true, laidLooks := .later }
def FnExactNormalFormUptoCardSaid : Prop := Claim7.holds Tryd.pinned (.plain (OpenSpec.upto fnExactNormalFormSpec)) fnExactNormalFormUptoCard

/-- THE SECOND FORM's CARD OF 'laws.FnExactMapType'. -/
def fnExactMapTypeUptoCard : Claim7 := { stood := { row := fnExactMapTypeUptoRow, standIns := [], harness := (true, "7373409b4256e32d4e7ec70babceacb84d666d2d7829aa2bbbbcee65da0e90df"), looks := false }, kinds := [], alts := [], laidByText := true, laidKinds := [.data], laidTests := true, laidLooks := .later }
def FnExactMapTypeUptoCardSaid : Prop := Claim7.holds Tryd.pinned (.plain (OpenSpec.upto fnExactMapTypeSpec)) fnExactMapTypeUptoCard

/-- THE SECOND FORM's CARD OF 'laws.FnExactMapTerm'. -/
def fnExactMapTermUptoCard : Claim7 := { stood := { row := fnExactMapTermUptoRow, standIns := [], harness := (true, "7373409b4256e32d4e7ec70babceacb84d666d2d7829aa2bbbbcee65da0e90df"), looks := false }, kinds := [], alts := [], laidByText := true, laidKinds := [.data, .data], laidTests := true, laidLooks := .later }
def FnExactMapTermUptoCardSaid : Prop := Claim7.holds Tryd.pinned (.plain (OpenSpec.upto fnExactMapTermSpec)) fnExactMapTermUptoCard

/-- THE SECOND FORM's CARD OF 'laws.FnExactOpenAll'. -/
def fnExactOpenAllUptoCard : Claim7 := { stood := { row := fnExactOpenAllUptoRow, standIns := [], harness := (true, "7373409b4256e32d4e7ec70babceacb84d666d2d7829aa2bbbbcee65da0e90df"), looks := false }, kinds := [], alts := [], laidByText := true, laidKinds := [.data, .data], laidTests := true, laidLooks := .later }
def FnExactOpenAllUptoCardSaid : Prop := Claim7.holds Tryd.pinned (.plain (OpenSpec.upto fnExactOpenAllSpec)) fnExactOpenAllUptoCard

/-- THE SECOND FORM's CARD OF 'laws.FnExactFillOpen'. -/
def fnExactFillOpenUptoCard : Claim7 := { stood := { row := fnExactFillOpenUptoRow, standIns := [], harness := (true, "7373409b4256e32d4e7ec70babceacb84d666d2d7829aa2bbbbcee65da0e90df"), looks := false }, kinds := [], alts := [], laidByText := true, laidKinds := [.data, .data], laidTests := true, laidLooks := .later }
def FnExactFillOpenUptoCardSaid : Prop := Claim7.holds Tryd.pinned (.plain (OpenSpec.upto fnExactFillOpenSpec)) fnExactFillOpenUptoCard
end Rows
end Go.Proofs.YtncfbljablbglaaDoor
