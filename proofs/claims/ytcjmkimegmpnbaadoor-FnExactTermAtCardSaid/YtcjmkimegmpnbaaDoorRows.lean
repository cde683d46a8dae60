/-
  NARROWER THAN 'FOR EVERY INPUT', by the rows' own cells (each row's printed sentence says how): FnExactPartsOfType: laid · FnExactShiftTerm: loops, laid · FnExactSubstituteTerm: loops, laid · FnExactMapTerm: loops, laid · FnExactIsRedex: loops, laid · FnExactContract: loops, laid · FnExactRedexesOf: loops, laid · FnExactTermAt: loops, laid · FnExactReplaceAt: loops, laid · FnExactContractAt: loops, laid · FnExactIsNormal: loops, laid · FnExactStepTerm: loops, laid.
  DERIVED. THE GIVEN ROWS OF THIS SEAT. 12 by the template 'for every input the law returns true; each argument reads behind the call as it read before'; 0 by the template 'total and deterministic' (their statements: YtcjmkimegmpnbaaDoorTotals.lean).
  GIVEN WITH THE SEED: the statements are not yours to turn. If you find one false, say at which input.
  Laid BY PROGRAM, IN A SANDBOX (cutbox-rows.mjs): the forced cells as the released guide's own fill.sh prints them over the translation 868d404368fea366… (all of the seat's roots in one cut). By AI agents, Wed Nov 11 2026. No macro, syntax, notation, axiom, sorry.
-/
import Derived.Test.YtcjmkimegmpnbaaDoorChecked
import GoSem.Claim
import GoSem.ClaimJoined
import GoSem.ClaimMapViews
import Derived.JoinedTies
import Derived.KernelRfl
namespace Go.Proofs.YtcjmkimegmpnbaaDoor
/- THE CELL 'sum', in the pinned program and in every row, IS THE sha256 OF THE DUMP (.gsa) THAT YtcjmkimegmpnbaaDoorProg.lean LOADS. Nothing in Lean hashes anything: it is a label: what it is worth is what the hold of that sum in a sandbox is worth. -/
noncomputable def Tryd.pinned : Pinned := { name := "ytcjmkimegmpnbaadoor", sum := "868d404368fea366d1e5e11d149c39521a94b935208387a8eca2e1a64fe47224", checked := Tryd.checked }
namespace Rows
def none {H : Type} : Left H := { results := [], args := [] }

/- WHAT THE LISTED PACKAGE-LEVEL VARIABLES READ AS WHEN THE CALL BEGINS. Each datum BY PROGRAM (the guide's laid-datum.mjs) off the statement by which the dump's own 'gosem.cut.vars' lays the variable. In a bare row this is a premise. The card (YtcjmkimegmpnbaaDoorCards.lean) ties it to the program's text. -/
def laid_loop_example_g03111_impl_typeForms {H : Type} : DataW H := .agg [.agg [.lit (.string [110]), .lit (.int .i64 0), .lit (.int .i64 0), .lit (.int .i64 0), .lit (.bool false)], .agg [.lit (.string [42]), .lit (.int .i64 1), .lit (.int .i64 0), .lit (.int .i64 2), .lit (.bool false)], .agg [.lit (.string [43]), .lit (.int .i64 2), .lit (.int .i64 0), .lit (.int .i64 2), .lit (.bool false)], .agg [.lit (.string [62]), .lit (.int .i64 3), .lit (.int .i64 35), .lit (.int .i64 2), .lit (.bool true)], .agg [.lit (.string [33]), .lit (.int .i64 19), .lit (.int .i64 36), .lit (.int .i64 1), .lit (.bool true)]]
def laid_loop_example_g03111_impl_termForms {H : Type} : DataW H := .agg [.agg [.lit (.string []), .lit (.int .i64 0), .agg [.lit (.int .i64 0), .lit (.int .i64 0), .lit (.int .i64 0)], .lit (.bool false), .lit (.bool false)], .agg [.lit (.string []), .lit (.int .i64 0), .agg [.lit (.int .i64 0), .lit (.int .i64 0), .lit (.int .i64 0)], .lit (.bool false), .lit (.bool false)], .agg [.lit (.string [97, 100, 100]), .lit (.int .i64 2), .agg [.lit (.int .i64 0), .lit (.int .i64 0), .lit (.int .i64 0)], .lit (.bool false), .lit (.bool false)], .agg [.lit (.string [105, 102]), .lit (.int .i64 3), .agg [.lit (.int .i64 0), .lit (.int .i64 0), .lit (.int .i64 0)], .lit (.bool false), .lit (.bool false)], .agg [.lit (.string [112, 97, 105, 114]), .lit (.int .i64 2), .agg [.lit (.int .i64 0), .lit (.int .i64 0), .lit (.int .i64 0)], .lit (.bool false), .lit (.bool false)], .agg [.lit (.string [115, 112, 108, 105, 116]), .lit (.int .i64 2), .agg [.lit (.int .i64 0), .lit (.int .i64 2), .lit (.int .i64 0)], .lit (.bool true), .lit (.bool false)], .agg [.lit (.string [108, 101, 102, 116]), .lit (.int .i64 1), .agg [.lit (.int .i64 0), .lit (.int .i64 0), .lit (.int .i64 0)], .lit (.bool false), .lit (.bool true)], .agg [.lit (.string [114, 105, 103, 104, 116]), .lit (.int .i64 1), .agg [.lit (.int .i64 0), .lit (.int .i64 0), .lit (.int .i64 0)], .lit (.bool false), .lit (.bool true)], .agg [.lit (.string [99, 97, 115, 101]), .lit (.int .i64 3), .agg [.lit (.int .i64 0), .lit (.int .i64 1), .lit (.int .i64 1)], .lit (.bool true), .lit (.bool false)], .agg [.lit (.string [102, 117, 110]), .lit (.int .i64 1), .agg [.lit (.int .i64 1), .lit (.int .i64 0), .lit (.int .i64 0)], .lit (.bool true), .lit (.bool true)], .agg [.lit (.string [97, 112, 112]), .lit (.int .i64 2), .agg [.lit (.int .i64 0), .lit (.int .i64 0), .lit (.int .i64 0)], .lit (.bool false), .lit (.bool false)], .agg [.lit (.string [98, 111, 120]), .lit (.int .i64 1), .agg [.lit (.int .i64 0), .lit (.int .i64 0), .lit (.int .i64 0)], .lit (.bool true), .lit (.bool false)], .agg [.lit (.string [111, 112, 101, 110]), .lit (.int .i64 2), .agg [.lit (.int .i64 0), .lit (.int .i64 1), .lit (.int .i64 0)], .lit (.bool true), .lit (.bool false)]]

/-- 'laws.FnExactPartsOfType': WHATEVER THE INPUT: true; the input reads as it did. -/
def fnExactPartsOfTypeSpec : ChangeSpec := { name := "fnExactPartsOfType", vars := ["loop.example/g03111/impl.typeForms"], fn := fun _ => fun
  | [d, g1] => { results := [.lit (.bool true)], args := [d], vars := [g1] }
  | _ => none }
def fnExactPartsOfTypeRow : OpenClaim := { program := "ytcjmkimegmpnbaadoor", sum := "868d404368fea366d1e5e11d149c39521a94b935208387a8eca2e1a64fe47224", func := "loop.example/g03111/laws.FnExactPartsOfType", spec := "fnExactPartsOfType", named := ["loop.example/g03111/impl.typeForms"], apart := false, laid := [("loop.example/g03111/impl.typeForms", laid_loop_example_g03111_impl_typeForms)] }
def FnExactPartsOfTypeSaid : Prop := fnExactPartsOfTypeRow.holds Tryd.pinned (OpenSpec.ofChange fnExactPartsOfTypeSpec)

/-- ITS FALSE NEIGHBOUR: 'it returns false'. Refute it at one input. -/
def fnExactPartsOfTypeWrong : ChangeSpec := { name := "fnExactPartsOfType", vars := ["loop.example/g03111/impl.typeForms"], fn := fun _ => fun
  | [d, g1] => { results := [.lit (.bool false)], args := [d], vars := [g1] }
  | _ => none }
def FnExactPartsOfTypeWrongFalsely : Prop := fnExactPartsOfTypeRow.holds Tryd.pinned (OpenSpec.ofChange fnExactPartsOfTypeWrong)

/-- 'laws.FnExactShiftTerm': WHATEVER THE INPUT: true; the input reads as it did. -/
def fnExactShiftTermSpec : ChangeSpec := { name := "fnExactShiftTerm", vars := ["loop.example/g03111/impl.termForms", "loop.example/g03111/impl.typeForms"], fn := fun _ => fun
  | [d1, d2, d3, g1, g2] => { results := [.lit (.bool true)], args := [d1, d2, d3], vars := [g1, g2] }
  | _ => none }
def fnExactShiftTermRow : OpenClaim := { program := "ytcjmkimegmpnbaadoor", sum := "868d404368fea366d1e5e11d149c39521a94b935208387a8eca2e1a64fe47224", func := "loop.example/g03111/laws.FnExactShiftTerm", spec := "fnExactShiftTerm", unfollowed := true, recurses := true, named := ["loop.example/g03111/impl.termForms", "loop.example/g03111/impl.typeForms"], loops := true, apart := false, laid := [("loop.example/g03111/impl.typeForms", laid_loop_example_g03111_impl_typeForms), ("loop.example/g03111/impl.termForms", laid_loop_example_g03111_impl_termForms)] }
def FnExactShiftTermSaid : Prop := fnExactShiftTermRow.holds Tryd.pinned (OpenSpec.ofChange fnExactShiftTermSpec)

/-- ITS FALSE NEIGHBOUR: 'it returns false'. Refute it at one input. -/
def fnExactShiftTermWrong : ChangeSpec := { name := "fnExactShiftTerm", vars := ["loop.example/g03111/impl.termForms", "loop.example/g03111/impl.typeForms"], fn := fun _ => fun
  | [d1, d2, d3, g1, g2] => { results := [.lit (.bool false)], args := [d1, d2, d3], vars := [g1, g2] }
  | _ => none }
def FnExactShiftTermWrongFalsely : Prop := fnExactShiftTermRow.holds Tryd.pinned (OpenSpec.ofChange fnExactShiftTermWrong)

/-- 'laws.FnExactSubstituteTerm': WHATEVER THE INPUT: true; the input reads as it did. -/
def fnExactSubstituteTermSpec : ChangeSpec := { name := "fnExactSubstituteTerm", vars := ["loop.example/g03111/impl.termForms", "loop.example/g03111/impl.typeForms"], fn := fun _ => fun
  | [d1, d2, d3, g1, g2] => { results := [.lit (.bool true)], args := [d1, d2, d3], vars := [g1, g2] }
  | _ => none }
def fnExactSubstituteTermRow : OpenClaim := { program := "ytcjmkimegmpnbaadoor", sum := "868d404368fea366d1e5e11d149c39521a94b935208387a8eca2e1a64fe47224", func := "loop.example/g03111/laws.FnExactSubstituteTerm", spec := "fnExactSubstituteTerm", unfollowed := true, recurses := true, named := ["loop.example/g03111/impl.termForms", "loop.example/g03111/impl.typeForms"], loops := true, apart := false, laid := [("loop.example/g03111/impl.typeForms", laid_loop_example_g03111_impl_typeForms), ("loop.example/g03111/impl.termForms", laid_loop_example_g03111_impl_termForms)] }
def FnExactSubstituteTermSaid : Prop := fnExactSubstituteTermRow.holds Tryd.pinned (OpenSpec.ofChange fnExactSubstituteTermSpec)

/-- ITS FALSE NEIGHBOUR: 'it returns false'. Refute it at one input. -/
def fnExactSubstituteTermWrong : ChangeSpec := { name := "fnExactSubstituteTerm", vars := ["loop.example/g03111/impl.termForms", "loop.example/g03111/impl.typeForms"], fn := fun _ => fun
  | [d1, d2, d3, g1, g2] => { results := [.lit (.bool false)], args := [d1, d2, d3], vars := [g1, g2] }
  | _ => none }
def FnExactSubstituteTermWrongFalsely : Prop := fnExactSubstituteTermRow.holds Tryd.pinned (OpenSpec.ofChange fnExactSubstituteTermWrong)

/-- 'laws.FnExactMapTerm': WHATEVER THE INPUT: true; the input reads as it did. -/
def fnExactMapTermSpec : ChangeSpec := { name := "fnExactMapTerm", vars := ["loop.example/g03111/impl.termForms", "loop.example/g03111/impl.typeForms"], fn := fun _ => fun
  | [d1, d2, g1, g2] => { results := [.lit (.bool true)], args := [d1, d2], vars := [g1, g2] }
  | _ => none }
def fnExactMapTermRow : OpenClaim := { program := "ytcjmkimegmpnbaadoor", sum := "868d404368fea366d1e5e11d149c39521a94b935208387a8eca2e1a64fe47224", func := "loop.example/g03111/laws.FnExactMapTerm", spec := "fnExactMapTerm", recurses := true, named := ["loop.example/g03111/impl.termForms", "loop.example/g03111/impl.typeForms"], loops := true, apart := false, laid := [("loop.example/g03111/impl.typeForms", laid_loop_example_g03111_impl_typeForms), ("loop.example/g03111/impl.termForms", laid_loop_example_g03111_impl_termForms)] }
def FnExactMapTermSaid : Prop := fnExactMapTermRow.holds Tryd.pinned (OpenSpec.ofChange fnExactMapTermSpec)

/-- ITS FALSE NEIGHBOUR: 'it returns false'. Refute it at one input. -/
def fnExactMapTermWrong : ChangeSpec := { name := "fnExactMapTerm", vars := ["loop.example/g03111/impl.termForms", "loop.example/g03111/impl.typeForms"], fn := fun _ => fun
  | [d1, d2, g1, g2] => { results := [.lit (.bool false)], args := [d1, d2], vars := [g1, g2] }
  | _ => none }
def FnExactMapTermWrongFalsely : Prop := fnExactMapTermRow.holds Tryd.pinned (OpenSpec.ofChange fnExactMapTermWrong)

/-- 'laws.FnExactIsRedex': WHATEVER THE INPUT: true; the input reads as it did. -/
def fnExactIsRedexSpec : ChangeSpec := { name := "fnExactIsRedex", vars := ["loop.example/g03111/impl.termForms", "loop.example/g03111/impl.typeForms"], fn := fun _ => fun
  | [d, g1, g2] => { results := [.lit (.bool true)], args := [d], vars := [g1, g2] }
  | _ => none }
def fnExactIsRedexRow : OpenClaim := { program := "ytcjmkimegmpnbaadoor", sum := "868d404368fea366d1e5e11d149c39521a94b935208387a8eca2e1a64fe47224", func := "loop.example/g03111/laws.FnExactIsRedex", spec := "fnExactIsRedex", recurses := true, named := ["loop.example/g03111/impl.termForms", "loop.example/g03111/impl.typeForms"], loops := true, apart := false, laid := [("loop.example/g03111/impl.typeForms", laid_loop_example_g03111_impl_typeForms), ("loop.example/g03111/impl.termForms", laid_loop_example_g03111_impl_termForms)] }
def FnExactIsRedexSaid : Prop := fnExactIsRedexRow.holds Tryd.pinned (OpenSpec.ofChange fnExactIsRedexSpec)

/-- ITS FALSE NEIGHBOUR: 'it returns false'. Refute it at one input. -/
def fnExactIsRedexWrong : ChangeSpec := { name := "fnExactIsRedex", vars := ["loop.example/g03111/impl.termForms", "loop.example/g03111/impl.typeForms"], fn := fun _ => fun
  | [d, g1, g2] => { results := [.lit (.bool false)], args := [d], vars := [g1, g2] }
  | _ => none }
def FnExactIsRedexWrongFalsely : Prop := fnExactIsRedexRow.holds Tryd.pinned (OpenSpec.ofChange fnExactIsRedexWrong)

/-- 'laws.FnExactContract': WHATEVER THE INPUT: true; the input reads as it did. -/
def fnExactContractSpec : ChangeSpec := { name := "fnExactContract", vars := ["loop.example/g03111/impl.termForms", "loop.example/g03111/impl.typeForms"], fn := fun _ => fun
  | [d, g1, g2] => { results := [.lit (.bool true)], args := [d], vars := [g1, g2] }
  | _ => none }
def fnExactContractRow : OpenClaim := { program := "ytcjmkimegmpnbaadoor", sum := "868d404368fea366d1e5e11d149c39521a94b935208387a8eca2e1a64fe47224", func := "loop.example/g03111/laws.FnExactContract", spec := "fnExactContract", unfollowed := true, recurses := true, named := ["loop.example/g03111/impl.termForms", "loop.example/g03111/impl.typeForms"], loops := true, apart := false, laid := [("loop.example/g03111/impl.typeForms", laid_loop_example_g03111_impl_typeForms), ("loop.example/g03111/impl.termForms", laid_loop_example_g03111_impl_termForms)] }
def FnExactContractSaid : Prop := fnExactContractRow.holds Tryd.pinned (OpenSpec.ofChange fnExactContractSpec)

/-- ITS FALSE NEIGHBOUR: 'it returns false'. Refute it at one input. -/
def fnExactContractWrong : ChangeSpec := { name := "fnExactContract", vars := ["loop.example/g03111/impl.termForms", "loop.example/g03111/impl.typeForms"], fn := fun _ => fun
  | [d, g1, g2] => { results := [.lit (.bool false)], args := [d], vars := [g1, g2] }
  | _ => none }
def FnExactContractWrongFalsely : Prop := fnExactContractRow.holds Tryd.pinned (OpenSpec.ofChange fnExactContractWrong)

/-- 'laws.FnExactRedexesOf': WHATEVER THE INPUT: true; the input reads as it did. -/
def fnExactRedexesOfSpec : ChangeSpec := { name := "fnExactRedexesOf", vars := ["loop.example/g03111/impl.termForms", "loop.example/g03111/impl.typeForms"], fn := fun _ => fun
  | [d, g1, g2] => { results := [.lit (.bool true)], args := [d], vars := [g1, g2] }
  | _ => none }
def fnExactRedexesOfRow : OpenClaim := { program := "ytcjmkimegmpnbaadoor", sum := "868d404368fea366d1e5e11d149c39521a94b935208387a8eca2e1a64fe47224", func := "loop.example/g03111/laws.FnExactRedexesOf", spec := "fnExactRedexesOf", recurses := true, named := ["loop.example/g03111/impl.termForms", "loop.example/g03111/impl.typeForms"], loops := true, apart := false, laid := [("loop.example/g03111/impl.typeForms", laid_loop_example_g03111_impl_typeForms), ("loop.example/g03111/impl.termForms", laid_loop_example_g03111_impl_termForms)] }
def FnExactRedexesOfSaid : Prop := fnExactRedexesOfRow.holds Tryd.pinned (OpenSpec.ofChange fnExactRedexesOfSpec)

/-- ITS FALSE NEIGHBOUR: 'it returns false'. Refute it at one input. -/
def fnExactRedexesOfWrong : ChangeSpec := { name := "fnExactRedexesOf", vars := ["loop.example/g03111/impl.termForms", "loop.example/g03111/impl.typeForms"], fn := fun _ => fun
  | [d, g1, g2] => { results := [.lit (.bool false)], args := [d], vars := [g1, g2] }
  | _ => none }
def FnExactRedexesOfWrongFalsely : Prop := fnExactRedexesOfRow.holds Tryd.pinned (OpenSpec.ofChange fnExactRedexesOfWrong)

/-- 'laws.FnExactTermAt': WHATEVER THE INPUT: true; the input reads as it did. -/
def fnExactTermAtSpec : ChangeSpec := { name := "fnExactTermAt", vars := ["loop.example/g03111/impl.termForms", "loop.example/g03111/impl.typeForms"], fn := fun _ => fun
  | [d1, d2, g1, g2] => { results := [.lit (.bool true)], args := [d1, d2], vars := [g1, g2] }
  | _ => none }
def fnExactTermAtRow : OpenClaim := { program := "ytcjmkimegmpnbaadoor", sum := "868d404368fea366d1e5e11d149c39521a94b935208387a8eca2e1a64fe47224", func := "loop.example/g03111/laws.FnExactTermAt", spec := "fnExactTermAt", unfollowed := true, recurses := true, named := ["loop.example/g03111/impl.termForms", "loop.example/g03111/impl.typeForms"], loops := true, apart := false, laid := [("loop.example/g03111/impl.typeForms", laid_loop_example_g03111_impl_typeForms), ("loop.example/g03111/impl.termForms", laid_loop_example_g03111_impl_termForms)] }
def FnExactTermAtSaid : Prop := fnExactTermAtRow.holds Tryd.pinned (OpenSpec.ofChange fnExactTermAtSpec)

/-- ITS FALSE NEIGHBOUR: 'it returns false'. Refute it at one input. -/
def fnExactTermAtWrong : ChangeSpec := { name := "fnExactTermAt", vars := ["loop.example/g03111/impl.termForms", "loop.example/g03111/impl.typeForms"], fn := fun _ => fun
  | [d1, d2, g1, g2] => { results := [.lit (.bool false)], args := [d1, d2], vars := [g1, g2] }
  | _ => none }
def FnExactTermAtWrongFalsely : Prop := fnExactTermAtRow.holds Tryd.pinned (OpenSpec.ofChange fnExactTermAtWrong)

/-- 'laws.FnExactReplaceAt': WHATEVER THE INPUT: true; the input reads as it did. -/
def fnExactReplaceAtSpec : ChangeSpec := { name := "fnExactReplaceAt", vars := ["loop.example/g03111/impl.termForms", "loop.example/g03111/impl.typeForms"], fn := fun _ => fun
  | [d1, d2, d3, g1, g2] => { results := [.lit (.bool true)], args := [d1, d2, d3], vars := [g1, g2] }
  | _ => none }
def fnExactReplaceAtRow : OpenClaim := { program := "ytcjmkimegmpnbaadoor", sum := "868d404368fea366d1e5e11d149c39521a94b935208387a8eca2e1a64fe47224", func := "loop.example/g03111/laws.FnExactReplaceAt", spec := "fnExactReplaceAt", unfollowed := true, recurses := true, named := ["loop.example/g03111/impl.termForms", "loop.example/g03111/impl.typeForms"], loops := true, apart := false, laid := [("loop.example/g03111/impl.typeForms", laid_loop_example_g03111_impl_typeForms), ("loop.example/g03111/impl.termForms", laid_loop_example_g03111_impl_termForms)] }
def FnExactReplaceAtSaid : Prop := fnExactReplaceAtRow.holds Tryd.pinned (OpenSpec.ofChange fnExactReplaceAtSpec)

/-- ITS FALSE NEIGHBOUR: 'it returns false'. Refute it at one input. -/
def fnExactReplaceAtWrong : ChangeSpec := { name := "fnExactReplaceAt", vars := ["loop.example/g03111/impl.termForms", "loop.example/g03111/impl.typeForms"], fn := fun _ => fun
  | [d1, d2, d3, g1, g2] => { results := [.lit (.bool false)], args := [d1, d2, d3], vars := [g1, g2] }
  | _ => none }
def FnExactReplaceAtWrongFalsely : Prop := fnExactReplaceAtRow.holds Tryd.pinned (OpenSpec.ofChange fnExactReplaceAtWrong)

/-- 'laws.FnExactContractAt': WHATEVER THE INPUT: true; the input reads as it did. -/
def fnExactContractAtSpec : ChangeSpec := { name := "fnExactContractAt", vars := ["loop.example/g03111/impl.termForms", "loop.example/g03111/impl.typeForms"], fn := fun _ => fun
  | [d1, d2, g1, g2] => { results := [.lit (.bool true)], args := [d1, d2], vars := [g1, g2] }
  | _ => none }
def fnExactContractAtRow : OpenClaim := { program := "ytcjmkimegmpnbaadoor", sum := "868d404368fea366d1e5e11d149c39521a94b935208387a8eca2e1a64fe47224", func := "loop.example/g03111/laws.FnExactContractAt", spec := "fnExactContractAt", unfollowed := true, recurses := true, named := ["loop.example/g03111/impl.termForms", "loop.example/g03111/impl.typeForms"], loops := true, apart := false, laid := [("loop.example/g03111/impl.typeForms", laid_loop_example_g03111_impl_typeForms), ("loop.example/g03111/impl.termForms", laid_loop_example_g03111_impl_termForms)] }
def FnExactContractAtSaid : Prop := fnExactContractAtRow.holds Tryd.pinned (OpenSpec.ofChange fnExactContractAtSpec)

/-- ITS FALSE NEIGHBOUR: 'it returns false'. Refute it at one input. -/
def fnExactContractAtWrong : ChangeSpec := { name := "fnExactContractAt", vars := ["loop.example/g03111/impl.termForms", "loop.example/g03111/impl.typeForms"], fn := fun _ => fun
  | [d1, d2, g1, g2] => { results := [.lit (.bool false)], args := [d1, d2], vars := [g1, g2] }
  | _ => none }
def FnExactContractAtWrongFalsely : Prop := fnExactContractAtRow.holds Tryd.pinned (OpenSpec.ofChange fnExactContractAtWrong)

/-- 'laws.FnExactIsNormal': WHATEVER THE INPUT: true; the input reads as it did. -/
def fnExactIsNormalSpec : ChangeSpec := { name := "fnExactIsNormal", vars := ["loop.example/g03111/impl.termForms", "loop.example/g03111/impl.typeForms"], fn := fun _ => fun
  | [d, g1, g2] => { results := [.lit (.bool true)], args := [d], vars := [g1, g2] }
  | _ => none }
def fnExactIsNormalRow : OpenClaim := { program := "ytcjmkimegmpnbaadoor", sum := "868d404368fea366d1e5e11d149c39521a94b935208387a8eca2e1a64fe47224", func := "loop.example/g03111/laws.FnExactIsNormal", spec := "fnExactIsNormal", recurses := true, named := ["loop.example/g03111/impl.termForms", "loop.example/g03111/impl.typeForms"], loops := true, apart := false, laid := [("loop.example/g03111/impl.typeForms", laid_loop_example_g03111_impl_typeForms), ("loop.example/g03111/impl.termForms", laid_loop_example_g03111_impl_termForms)] }
def FnExactIsNormalSaid : Prop := fnExactIsNormalRow.holds Tryd.pinned (OpenSpec.ofChange fnExactIsNormalSpec)

/-- ITS FALSE NEIGHBOUR: 'it returns false'. Refute it at one input. -/
def fnExactIsNormalWrong : ChangeSpec := { name := "fnExactIsNormal", vars := ["loop.example/g03111/impl.termForms", "loop.example/g03111/impl.typeForms"], fn := fun _ => fun
  | [d, g1, g2] => { results := [.lit (.bool false)], args := [d], vars := [g1, g2] }
  | _ => none }
def FnExactIsNormalWrongFalsely : Prop := fnExactIsNormalRow.holds Tryd.pinned (OpenSpec.ofChange fnExactIsNormalWrong)

/-- 'laws.FnExactStepTerm': WHATEVER THE INPUT: true; the input reads as it did. -/
def fnExactStepTermSpec : ChangeSpec := { name := "fnExactStepTerm", vars := ["loop.example/g03111/impl.termForms", "loop.example/g03111/impl.typeForms"], fn := fun _ => fun
  | [d, g1, g2] => { results := [.lit (.bool true)], args := [d], vars := [g1, g2] }
  | _ => none }
def fnExactStepTermRow : OpenClaim := { program := "ytcjmkimegmpnbaadoor", sum := "868d404368fea366d1e5e11d149c39521a94b935208387a8eca2e1a64fe47224", func := "loop.example/g03111/laws.FnExactStepTerm", spec := "fnExactStepTerm", unfollowed := true, recurses := true, named := ["loop.example/g03111/impl.termForms", "loop.example/g03111/impl.typeForms"], loops := true, apart := false, laid := [("loop.example/g03111/impl.typeForms", laid_loop_example_g03111_impl_typeForms), ("loop.example/g03111/impl.termForms", laid_loop_example_g03111_impl_termForms)] }
def FnExactStepTermSaid : Prop := fnExactStepTermRow.holds Tryd.pinned (OpenSpec.ofChange fnExactStepTermSpec)

/-- ITS FALSE NEIGHBOUR: 'it returns false'. Refute it at one input. -/
def fnExactStepTermWrong : ChangeSpec := { name := "fnExactStepTerm", vars := ["loop.example/g03111/impl.termForms", "loop.example/g03111/impl.typeForms"], fn := fun _ => fun
  | [d, g1, g2] => { results := [.lit (.bool false)], args := [d], vars := [g1, g2] }
  | _ => none }
def FnExactStepTermWrongFalsely : Prop := fnExactStepTermRow.holds Tryd.pinned (OpenSpec.ofChange fnExactStepTermWrong)

/- THE SECOND FORM. 'bulk': how many values and letters a reading holds, each counted each time it is reached (what is shared counts as often as it is met; a slice's spare places count too). A statement '..UptoSaid' is the law's where the arguments, and the package variables that the reading takes, are together of bulk at most 1048576: NARROWER than '..Said'. Prove '..Said' where nothing that the law and all that it calls make is longer than what came in: it says more and counts as full. Else prove '..UptoSaid'. A law counts once. -/
mutual
def uptoBulk {H : Type} : DataW H → Nat
  | .lit (.string bytes) => bytes.length + 1
  | .lit _ => 1
  | .nil => 1
  | .ptr d => uptoBulk d + 1
  | .slice elems spare => uptoBulkAll elems + uptoBulkAll spare + 1
  | .agg parts => uptoBulkAll parts + 1
  | .iface _ d => uptoBulk d + 1
  | .map entries => uptoBulkEntries entries + 1
  | .held _ => 1
def uptoBulkAll {H : Type} : List (DataW H) → Nat
  | [] => 0
  | d :: r => uptoBulk d + uptoBulkAll r
def uptoBulkEntries {H : Type} : List (Lit × DataW H) → Nat
  | [] => 0
  | x :: r => uptoBulkEntry x + uptoBulkEntries r
def uptoBulkEntry {H : Type} : Lit × DataW H → Nat
  | (.string bytes, d) => bytes.length + uptoBulk d + 1
  | (_, d) => uptoBulk d + 1
 end
def uptoSmall : (H : Type) → List (DataW H) → Bool := fun _ ds => decide (uptoBulkAll ds ≤ 1048576)
def OpenSpec.upto (s : _root_.Go.ChangeSpec) : _root_.Go.OpenSpec := { _root_.Go.OpenSpec.ofChange s with cond := some uptoSmall }

/-- 'laws.FnExactPartsOfType', WHERE WHAT IT READS IS OF BULK AT MOST 1048576: true; the input reads as it did. -/
def fnExactPartsOfTypeUptoRow : OpenClaim := { program := "ytcjmkimegmpnbaadoor", sum := "868d404368fea366d1e5e11d149c39521a94b935208387a8eca2e1a64fe47224", func := "loop.example/g03111/laws.FnExactPartsOfType", spec := "fnExactPartsOfType", named := ["loop.example/g03111/impl.typeForms"], apart := false, laid := [("loop.example/g03111/impl.typeForms", laid_loop_example_g03111_impl_typeForms)], narrowed := true }
def FnExactPartsOfTypeUptoSaid : Prop := fnExactPartsOfTypeUptoRow.holds Tryd.pinned (OpenSpec.upto fnExactPartsOfTypeSpec)

/-- 'laws.FnExactShiftTerm', WHERE WHAT IT READS IS OF BULK AT MOST 1048576: true; the input reads as it did. -/
def fnExactShiftTermUptoRow : OpenClaim := { program := "ytcjmkimegmpnbaadoor", sum := "868d404368fea366d1e5e11d149c39521a94b935208387a8eca2e1a64fe47224", func := "loop.example/g03111/laws.FnExactShiftTerm", spec := "fnExactShiftTerm", unfollowed := true, recurses := true, named := ["loop.example/g03111/impl.termForms", "loop.example/g03111/impl.typeForms"], loops := true, apart := false, laid := [("loop.example/g03111/impl.typeForms", laid_loop_example_g03111_impl_typeForms), ("loop.example/g03111/impl.termForms", laid_loop_example_g03111_impl_termForms)], narrowed := true }
def FnExactShiftTermUptoSaid : Prop := fnExactShiftTermUptoRow.holds Tryd.pinned (OpenSpec.upto fnExactShiftTermSpec)

/-- 'laws.FnExactSubstituteTerm', WHERE WHAT IT READS IS OF BULK AT MOST 1048576: true; the input reads as it did. -/
def fnExactSubstituteTermUptoRow : OpenClaim := { program := "ytcjmkimegmpnbaadoor", sum := "868d404368fea366d1e5e11d149c39521a94b935208387a8eca2e1a64fe47224", func := "loop.example/g03111/laws.FnExactSubstituteTerm", spec := "fnExactSubstituteTerm", unfollowed := true, recurses := true, named := ["loop.example/g03111/impl.termForms", "loop.example/g03111/impl.typeForms"], loops := true, apart := false, laid := [("loop.example/g03111/impl.typeForms", laid_loop_example_g03111_impl_typeForms), ("loop.example/g03111/impl.termForms", laid_loop_example_g03111_impl_termForms)], narrowed := true }
def FnExactSubstituteTermUptoSaid : Prop := fnExactSubstituteTermUptoRow.holds Tryd.pinned (OpenSpec.upto fnExactSubstituteTermSpec)

/-- 'laws.FnExactMapTerm', WHERE WHAT IT READS IS OF BULK AT MOST 1048576: true; the input reads as it did. -/
def fnExactMapTermUptoRow : OpenClaim := { program := "ytcjmkimegmpnbaadoor", sum := "868d404368fea366d1e5e11d149c39521a94b935208387a8eca2e1a64fe47224", func := "loop.example/g03111/laws.FnExactMapTerm", spec := "fnExactMapTerm", recurses := true, named := ["loop.example/g03111/impl.termForms", "loop.example/g03111/impl.typeForms"], loops := true, apart := false, laid := [("loop.example/g03111/impl.typeForms", laid_loop_example_g03111_impl_typeForms), ("loop.example/g03111/impl.termForms", laid_loop_example_g03111_impl_termForms)], narrowed := true }
def FnExactMapTermUptoSaid : Prop := fnExactMapTermUptoRow.holds Tryd.pinned (OpenSpec.upto fnExactMapTermSpec)

/-- 'laws.FnExactIsRedex', WHERE WHAT IT READS IS OF BULK AT MOST 1048576: true; the input reads as it did. -/
def fnExactIsRedexUptoRow : OpenClaim := { program := "ytcjmkimegmpnbaadoor", sum := "868d404368fea366d1e5e11d149c39521a94b935208387a8eca2e1a64fe47224", func := "loop.example/g03111/laws.FnExactIsRedex", spec := "fnExactIsRedex", recurses := true, named := ["loop.example/g03111/impl.termForms", "loop.example/g03111/impl.typeForms"], loops := true, apart := false, laid := [("loop.example/g03111/impl.typeForms", laid_loop_example_g03111_impl_typeForms), ("loop.example/g03111/impl.termForms", laid_loop_example_g03111_impl_termForms)], narrowed := true }
def FnExactIsRedexUptoSaid : Prop := fnExactIsRedexUptoRow.holds Tryd.pinned (OpenSpec.upto fnExactIsRedexSpec)

/-- 'laws.FnExactContract', WHERE WHAT IT READS IS OF BULK AT MOST 1048576: true; the input reads as it did. -/
def fnExactContractUptoRow : OpenClaim := { program := "ytcjmkimegmpnbaadoor", sum := "868d404368fea366d1e5e11d149c39521a94b935208387a8eca2e1a64fe47224", func := "loop.example/g03111/laws.FnExactContract", spec := "fnExactContract", unfollowed := true, recurses := true, named := ["loop.example/g03111/impl.termForms", "loop.example/g03111/impl.typeForms"], loops := true, apart := false, laid := [("loop.example/g03111/impl.typeForms", laid_loop_example_g03111_impl_typeForms), ("loop.example/g03111/impl.termForms", laid_loop_example_g03111_impl_termForms)], narrowed := true }
def FnExactContractUptoSaid : Prop := fnExactContractUptoRow.holds Tryd.pinned (OpenSpec.upto fnExactContractSpec)

/-- 'laws.FnExactRedexesOf', WHERE WHAT IT READS IS OF BULK AT MOST 1048576: true; the input reads as it did. -/
def fnExactRedexesOfUptoRow : OpenClaim := { program := "ytcjmkimegmpnbaadoor", sum := "868d404368fea366d1e5e11d149c39521a94b935208387a8eca2e1a64fe47224", func := "loop.example/g03111/laws.FnExactRedexesOf", spec := "fnExactRedexesOf", recurses := true, named := ["loop.example/g03111/impl.termForms", "loop.example/g03111/impl.typeForms"], loops := true, apart := false, laid := [("loop.example/g03111/impl.typeForms", laid_loop_example_g03111_impl_typeForms), ("loop.example/g03111/impl.termForms", laid_loop_example_g03111_impl_termForms)], narrowed := true }
def FnExactRedexesOfUptoSaid : Prop := fnExactRedexesOfUptoRow.holds Tryd.pinned (OpenSpec.upto fnExactRedexesOfSpec)

/-- 'laws.FnExactTermAt', WHERE WHAT IT READS IS OF BULK AT MOST 1048576: true; the input reads as it did. -/
def fnExactTermAtUptoRow : OpenClaim := { program := "ytcjmkimegmpnbaadoor", sum := "868d404368fea366d1e5e11d149c39521a94b935208387a8eca2e1a64fe47224", func := "loop.example/g03111/laws.FnExactTermAt", spec := "fnExactTermAt", unfollowed := true, recurses := true, named := ["loop.example/g03111/impl.termForms", "loop.example/g03111/impl.typeForms"], loops := true, apart := false, laid := [("loop.example/g03111/impl.typeForms", laid_loop_example_g03111_impl_typeForms), ("loop.example/g03111/impl.termForms", laid_loop_example_g03111_impl_termForms)], narrowed := true }
def FnExactTermAtUptoSaid : Prop := fnExactTermAtUptoRow.holds Tryd.pinned (OpenSpec.upto fnExactTermAtSpec)

/-- 'laws.FnExactReplaceAt', WHERE WHAT IT READS IS OF BULK AT MOST 1048576: true; the input reads as it did. -/
def fnExactReplaceAtUptoRow : OpenClaim := { program := "ytcjmkimegmpnbaadoor", sum := "868d404368fea366d1e5e11d149c39521a94b935208387a8eca2e1a64fe47224", func := "loop.example/g03111/laws.FnExactReplaceAt", spec := "fnExactReplaceAt", unfollowed := true, recurses := true, named := ["loop.example/g03111/impl.termForms", "loop.example/g03111/impl.typeForms"], loops := true, apart := false, laid := [("loop.example/g03111/impl.typeForms", laid_loop_example_g03111_impl_typeForms), ("loop.example/g03111/impl.termForms", laid_loop_example_g03111_impl_termForms)], narrowed := true }
def FnExactReplaceAtUptoSaid : Prop := fnExactReplaceAtUptoRow.holds Tryd.pinned (OpenSpec.upto fnExactReplaceAtSpec)

/-- 'laws.FnExactContractAt', WHERE WHAT IT READS IS OF BULK AT MOST 1048576: true; the input reads as it did. -/
def fnExactContractAtUptoRow : OpenClaim := { program := "ytcjmkimegmpnbaadoor", sum := "868d404368fea366d1e5e11d149c39521a94b935208387a8eca2e1a64fe47224", func := "loop.example/g03111/laws.FnExactContractAt", spec := "fnExactContractAt", unfollowed := true, recurses := true, named := ["loop.example/g03111/impl.termForms", "loop.example/g03111/impl.typeForms"], loops := true, apart := false, laid := [("loop.example/g03111/impl.typeForms", laid_loop_example_g03111_impl_typeForms), ("loop.example/g03111/impl.termForms", laid_loop_example_g03111_impl_termForms)], narrowed := true }
def FnExactContractAtUptoSaid : Prop := fnExactContractAtUptoRow.holds Tryd.pinned (OpenSpec.upto fnExactContractAtSpec)

/-- 'laws.FnExactIsNormal', WHERE WHAT IT READS IS OF BULK AT MOST 1048576: true; the input reads as it did. -/
def fnExactIsNormalUptoRow : OpenClaim := { program := "ytcjmkimegmpnbaadoor", sum := "868d404368fea366d1e5e11d149c39521a94b935208387a8eca2e1a64fe47224", func := "loop.example/g03111/laws.FnExactIsNormal", spec := "fnExactIsNormal", recurses := true, named := ["loop.example/g03111/impl.termForms", "loop.example/g03111/impl.typeForms"], loops := true, apart := false, laid := [("loop.example/g03111/impl.typeForms", laid_loop_example_g03111_impl_typeForms), ("loop.example/g03111/impl.termForms", laid_loop_example_g03111_impl_termForms)], narrowed := true }
def FnExactIsNormalUptoSaid : Prop := fnExactIsNormalUptoRow.holds Tryd.pinned (OpenSpec.upto fnExactIsNormalSpec)

/-- 'laws.FnExactStepTerm', WHERE WHAT IT READS IS OF BULK AT MOST 1048576: true; the input reads as it did. -/
def fnExactStepTermUptoRow : OpenClaim := { program := "ytcjmkimegmpnbaadoor", sum := "868d404368fea366d1e5e11d149c39521a94b935208387a8eca2e1a64fe47224", func := "loop.example/g03111/laws.FnExactStepTerm", spec := "fnExactStepTerm", unfollowed := true, recurses := true, named := ["loop.example/g03111/impl.termForms", "loop.example/g03111/impl.typeForms"], loops := true, apart := false, laid := [("loop.example/g03111/impl.typeForms", laid_loop_example_g03111_impl_typeForms), ("loop.example/g03111/impl.termForms", laid_loop_example_g03111_impl_termForms)], narrowed := true }
def FnExactStepTermUptoSaid : Prop := fnExactStepTermUptoRow.holds Tryd.pinned (OpenSpec.upto fnExactStepTermSpec)

end Rows
end Go.Proofs.YtcjmkimegmpnbaaDoor
