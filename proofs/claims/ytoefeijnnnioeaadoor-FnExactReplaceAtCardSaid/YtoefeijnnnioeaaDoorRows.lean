/-
  NARROWER THAN 'FOR EVERY INPUT', by the rows' own cells (each row's printed sentence says how): FnExactMapType: laid · FnExactMapTerm: loops, laid · FnExactIsValue: loops, laid · FnExactContract: loops, laid · FnExactRedexesOf: loops, laid · FnExactReplaceAt: loops, laid · FnExactContractAt: loops, laid · FnExactIsNormal: loops, laid · FnExactStepTerm: loops, laid · FnExactValueAt: laid · FnExactPlaceOf: loops, laid · FnExactFillOpen: loops, laid.
  DERIVED. THE GIVEN ROWS OF THIS SEAT. 12 by the template 'for every input the law returns true; each argument reads behind the call as it read before'; 0 by the template 'total and deterministic' (their statements: YtoefeijnnnioeaaDoorTotals.lean).
  GIVEN WITH THE SEED: the statements are not yours to turn. If you find one false, say at which input.
  Laid BY PROGRAM, IN A SANDBOX (cutbox-rows.mjs): the forced cells as the released guide's own fill.sh prints them over the translation 2befcd8c80ee674d… (all of the seat's roots in one cut). By AI agents, Wed Nov 11 2026. No macro, syntax, notation, axiom, sorry.
-/
import Derived.Test.YtoefeijnnnioeaaDoorChecked
import GoSem.Claim
import GoSem.ClaimJoined
import GoSem.ClaimMapViews
import Derived.JoinedTies
import Derived.KernelRfl
namespace Go.Proofs.YtoefeijnnnioeaaDoor
/- THE CELL 'sum', in the pinned program and in every row, IS THE sha256 OF THE DUMP (.gsa) THAT YtoefeijnnnioeaaDoorProg.lean LOADS. Nothing in Lean hashes anything: it is a label: what it is worth is what the hold of that sum in a sandbox is worth. -/
noncomputable def Tryd.pinned : Pinned := { name := "ytoefeijnnnioeaadoor", sum := "2befcd8c80ee674d4e9ba151b48dca3a0328e4e1338c05f87fd21daaf931fa8a", checked := Tryd.checked }
namespace Rows
def none {H : Type} : Left H := { results := [], args := [] }

/- WHAT THE LISTED PACKAGE-LEVEL VARIABLES READ AS WHEN THE CALL BEGINS. Each datum BY PROGRAM (the guide's laid-datum.mjs) off the statement by which the dump's own 'gosem.cut.vars' lays the variable. In a bare row this is a premise. The card (YtoefeijnnnioeaaDoorCards.lean) ties it to the program's text. -/
def laid_loop_example_g03111_impl_typeForms {H : Type} : DataW H := .agg [.agg [.lit (.string [110]), .lit (.int .i64 0), .lit (.int .i64 0), .lit (.int .i64 0), .lit (.bool false)], .agg [.lit (.string [42]), .lit (.int .i64 1), .lit (.int .i64 0), .lit (.int .i64 2), .lit (.bool false)], .agg [.lit (.string [43]), .lit (.int .i64 2), .lit (.int .i64 0), .lit (.int .i64 2), .lit (.bool false)], .agg [.lit (.string [62]), .lit (.int .i64 3), .lit (.int .i64 35), .lit (.int .i64 2), .lit (.bool true)], .agg [.lit (.string [33]), .lit (.int .i64 19), .lit (.int .i64 36), .lit (.int .i64 1), .lit (.bool true)]]
def laid_loop_example_g03111_impl_termForms {H : Type} : DataW H := .agg [.agg [.lit (.string []), .lit (.int .i64 0), .agg [.lit (.int .i64 0), .lit (.int .i64 0), .lit (.int .i64 0)], .lit (.bool false), .lit (.bool false)], .agg [.lit (.string []), .lit (.int .i64 0), .agg [.lit (.int .i64 0), .lit (.int .i64 0), .lit (.int .i64 0)], .lit (.bool false), .lit (.bool false)], .agg [.lit (.string [97, 100, 100]), .lit (.int .i64 2), .agg [.lit (.int .i64 0), .lit (.int .i64 0), .lit (.int .i64 0)], .lit (.bool false), .lit (.bool false)], .agg [.lit (.string [105, 102]), .lit (.int .i64 3), .agg [.lit (.int .i64 0), .lit (.int .i64 0), .lit (.int .i64 0)], .lit (.bool false), .lit (.bool false)], .agg [.lit (.string [112, 97, 105, 114]), .lit (.int .i64 2), .agg [.lit (.int .i64 0), .lit (.int .i64 0), .lit (.int .i64 0)], .lit (.bool false), .lit (.bool false)], .agg [.lit (.string [115, 112, 108, 105, 116]), .lit (.int .i64 2), .agg [.lit (.int .i64 0), .lit (.int .i64 2), .lit (.int .i64 0)], .lit (.bool true), .lit (.bool false)], .agg [.lit (.string [108, 101, 102, 116]), .lit (.int .i64 1), .agg [.lit (.int .i64 0), .lit (.int .i64 0), .lit (.int .i64 0)], .lit (.bool false), .lit (.bool true)], .agg [.lit (.string [114, 105, 103, 104, 116]), .lit (.int .i64 1), .agg [.lit (.int .i64 0), .lit (.int .i64 0), .lit (.int .i64 0)], .lit (.bool false), .lit (.bool true)], .agg [.lit (.string [99, 97, 115, 101]), .lit (.int .i64 3), .agg [.lit (.int .i64 0), .lit (.int .i64 1), .lit (.int .i64 1)], .lit (.bool true), .lit (.bool false)], .agg [.lit (.string [102, 117, 110]), .lit (.int .i64 1), .agg [.lit (.int .i64 1), .lit (.int .i64 0), .lit (.int .i64 0)], .lit (.bool true), .lit (.bool true)], .agg [.lit (.string [97, 112, 112]), .lit (.int .i64 2), .agg [.lit (.int .i64 0), .lit (.int .i64 0), .lit (.int .i64 0)], .lit (.bool false), .lit (.bool false)], .agg [.lit (.string [98, 111, 120]), .lit (.int .i64 1), .agg [.lit (.int .i64 0), .lit (.int .i64 0), .lit (.int .i64 0)], .lit (.bool true), .lit (.bool false)], .agg [.lit (.string [111, 112, 101, 110]), .lit (.int .i64 2), .agg [.lit (.int .i64 0), .lit (.int .i64 1), .lit (.int .i64 0)], .lit (.bool true), .lit (.bool false)]]

/-- 'laws.FnExactMapType': WHATEVER THE INPUT: true; the input reads as it did. -/
def fnExactMapTypeSpec : ChangeSpec := { name := "fnExactMapType", vars := ["loop.example/g03111/impl.typeForms"], fn := fun _ => fun
  | [d1, d2, g1] => { results := [.lit (.bool true)], args := [d1, d2], vars := [g1] }
  | _ => none }
def fnExactMapTypeRow : OpenClaim := { program := "ytoefeijnnnioeaadoor", sum := "2befcd8c80ee674d4e9ba151b48dca3a0328e4e1338c05f87fd21daaf931fa8a", func := "loop.example/g03111/laws.FnExactMapType", spec := "fnExactMapType", unfollowed := true, recurses := true, named := ["loop.example/g03111/impl.typeForms"], apart := false, laid := [("loop.example/g03111/impl.typeForms", laid_loop_example_g03111_impl_typeForms)] }
def FnExactMapTypeSaid : Prop := fnExactMapTypeRow.holds Tryd.pinned (OpenSpec.ofChange fnExactMapTypeSpec)

/-- ITS FALSE NEIGHBOUR: 'it returns false'. Refute it at one input. -/
def fnExactMapTypeWrong : ChangeSpec := { name := "fnExactMapType", vars := ["loop.example/g03111/impl.typeForms"], fn := fun _ => fun
  | [d1, d2, g1] => { results := [.lit (.bool false)], args := [d1, d2], vars := [g1] }
  | _ => none }
def FnExactMapTypeWrongFalsely : Prop := fnExactMapTypeRow.holds Tryd.pinned (OpenSpec.ofChange fnExactMapTypeWrong)

/-- 'laws.FnExactMapTerm': WHATEVER THE INPUT: true; the input reads as it did. -/
def fnExactMapTermSpec : ChangeSpec := { name := "fnExactMapTerm", vars := ["loop.example/g03111/impl.termForms", "loop.example/g03111/impl.typeForms"], fn := fun _ => fun
  | [d1, d2, g1, g2] => { results := [.lit (.bool true)], args := [d1, d2], vars := [g1, g2] }
  | _ => none }
def fnExactMapTermRow : OpenClaim := { program := "ytoefeijnnnioeaadoor", sum := "2befcd8c80ee674d4e9ba151b48dca3a0328e4e1338c05f87fd21daaf931fa8a", func := "loop.example/g03111/laws.FnExactMapTerm", spec := "fnExactMapTerm", unfollowed := true, recurses := true, named := ["loop.example/g03111/impl.termForms", "loop.example/g03111/impl.typeForms"], loops := true, apart := false, laid := [("loop.example/g03111/impl.typeForms", laid_loop_example_g03111_impl_typeForms), ("loop.example/g03111/impl.termForms", laid_loop_example_g03111_impl_termForms)] }
def FnExactMapTermSaid : Prop := fnExactMapTermRow.holds Tryd.pinned (OpenSpec.ofChange fnExactMapTermSpec)

/-- ITS FALSE NEIGHBOUR: 'it returns false'. Refute it at one input. -/
def fnExactMapTermWrong : ChangeSpec := { name := "fnExactMapTerm", vars := ["loop.example/g03111/impl.termForms", "loop.example/g03111/impl.typeForms"], fn := fun _ => fun
  | [d1, d2, g1, g2] => { results := [.lit (.bool false)], args := [d1, d2], vars := [g1, g2] }
  | _ => none }
def FnExactMapTermWrongFalsely : Prop := fnExactMapTermRow.holds Tryd.pinned (OpenSpec.ofChange fnExactMapTermWrong)

/-- 'laws.FnExactIsValue': WHATEVER THE INPUT: true; the input reads as it did. -/
def fnExactIsValueSpec : ChangeSpec := { name := "fnExactIsValue", vars := ["loop.example/g03111/impl.typeForms", "loop.example/g03111/impl.termForms"], fn := fun _ => fun
  | [d1, d2, d3, g1, g2] => { results := [.lit (.bool true)], args := [d1, d2, d3], vars := [g1, g2] }
  | _ => none }
def fnExactIsValueRow : OpenClaim := { program := "ytoefeijnnnioeaadoor", sum := "2befcd8c80ee674d4e9ba151b48dca3a0328e4e1338c05f87fd21daaf931fa8a", func := "loop.example/g03111/laws.FnExactIsValue", spec := "fnExactIsValue", unfollowed := true, recurses := true, named := ["loop.example/g03111/impl.typeForms", "loop.example/g03111/impl.termForms"], loops := true, apart := false, laid := [("loop.example/g03111/impl.typeForms", laid_loop_example_g03111_impl_typeForms), ("loop.example/g03111/impl.termForms", laid_loop_example_g03111_impl_termForms)] }
def FnExactIsValueSaid : Prop := fnExactIsValueRow.holds Tryd.pinned (OpenSpec.ofChange fnExactIsValueSpec)

/-- ITS FALSE NEIGHBOUR: 'it returns false'. Refute it at one input. -/
def fnExactIsValueWrong : ChangeSpec := { name := "fnExactIsValue", vars := ["loop.example/g03111/impl.typeForms", "loop.example/g03111/impl.termForms"], fn := fun _ => fun
  | [d1, d2, d3, g1, g2] => { results := [.lit (.bool false)], args := [d1, d2, d3], vars := [g1, g2] }
  | _ => none }
def FnExactIsValueWrongFalsely : Prop := fnExactIsValueRow.holds Tryd.pinned (OpenSpec.ofChange fnExactIsValueWrong)

/-- 'laws.FnExactContract': WHATEVER THE INPUT: true; the input reads as it did. -/
def fnExactContractSpec : ChangeSpec := { name := "fnExactContract", vars := ["loop.example/g03111/impl.termForms", "loop.example/g03111/impl.typeForms"], fn := fun _ => fun
  | [d, g1, g2] => { results := [.lit (.bool true)], args := [d], vars := [g1, g2] }
  | _ => none }
def fnExactContractRow : OpenClaim := { program := "ytoefeijnnnioeaadoor", sum := "2befcd8c80ee674d4e9ba151b48dca3a0328e4e1338c05f87fd21daaf931fa8a", func := "loop.example/g03111/laws.FnExactContract", spec := "fnExactContract", unfollowed := true, recurses := true, named := ["loop.example/g03111/impl.termForms", "loop.example/g03111/impl.typeForms"], loops := true, apart := false, laid := [("loop.example/g03111/impl.typeForms", laid_loop_example_g03111_impl_typeForms), ("loop.example/g03111/impl.termForms", laid_loop_example_g03111_impl_termForms)] }
def FnExactContractSaid : Prop := fnExactContractRow.holds Tryd.pinned (OpenSpec.ofChange fnExactContractSpec)

/-- ITS FALSE NEIGHBOUR: 'it returns false'. Refute it at one input. -/
def fnExactContractWrong : ChangeSpec := { name := "fnExactContract", vars := ["loop.example/g03111/impl.termForms", "loop.example/g03111/impl.typeForms"], fn := fun _ => fun
  | [d, g1, g2] => { results := [.lit (.bool false)], args := [d], vars := [g1, g2] }
  | _ => none }
def FnExactContractWrongFalsely : Prop := fnExactContractRow.holds Tryd.pinned (OpenSpec.ofChange fnExactContractWrong)

/-- 'laws.FnExactRedexesOf': WHATEVER THE INPUT: true; the input reads as it did. -/
def fnExactRedexesOfSpec : ChangeSpec := { name := "fnExactRedexesOf", vars := ["loop.example/g03111/impl.termForms", "loop.example/g03111/impl.typeForms"], fn := fun _ => fun
  | [d, g1, g2] => { results := [.lit (.bool true)], args := [d], vars := [g1, g2] }
  | _ => none }
def fnExactRedexesOfRow : OpenClaim := { program := "ytoefeijnnnioeaadoor", sum := "2befcd8c80ee674d4e9ba151b48dca3a0328e4e1338c05f87fd21daaf931fa8a", func := "loop.example/g03111/laws.FnExactRedexesOf", spec := "fnExactRedexesOf", recurses := true, named := ["loop.example/g03111/impl.termForms", "loop.example/g03111/impl.typeForms"], loops := true, apart := false, laid := [("loop.example/g03111/impl.typeForms", laid_loop_example_g03111_impl_typeForms), ("loop.example/g03111/impl.termForms", laid_loop_example_g03111_impl_termForms)] }
def FnExactRedexesOfSaid : Prop := fnExactRedexesOfRow.holds Tryd.pinned (OpenSpec.ofChange fnExactRedexesOfSpec)

/-- ITS FALSE NEIGHBOUR: 'it returns false'. Refute it at one input. -/
def fnExactRedexesOfWrong : ChangeSpec := { name := "fnExactRedexesOf", vars := ["loop.example/g03111/impl.termForms", "loop.example/g03111/impl.typeForms"], fn := fun _ => fun
  | [d, g1, g2] => { results := [.lit (.bool false)], args := [d], vars := [g1, g2] }
  | _ => none }
def FnExactRedexesOfWrongFalsely : Prop := fnExactRedexesOfRow.holds Tryd.pinned (OpenSpec.ofChange fnExactRedexesOfWrong)

/-- 'laws.FnExactReplaceAt': WHATEVER THE INPUT: true; the input reads as it did. -/
def fnExactReplaceAtSpec : ChangeSpec := { name := "fnExactReplaceAt", vars := ["loop.example/g03111/impl.termForms", "loop.example/g03111/impl.typeForms"], fn := fun _ => fun
  | [d1, d2, d3, g1, g2] => { results := [.lit (.bool true)], args := [d1, d2, d3], vars := [g1, g2] }
  | _ => none }
def fnExactReplaceAtRow : OpenClaim := { program := "ytoefeijnnnioeaadoor", sum := "2befcd8c80ee674d4e9ba151b48dca3a0328e4e1338c05f87fd21daaf931fa8a", func := "loop.example/g03111/laws.FnExactReplaceAt", spec := "fnExactReplaceAt", unfollowed := true, recurses := true, named := ["loop.example/g03111/impl.termForms", "loop.example/g03111/impl.typeForms"], loops := true, apart := false, laid := [("loop.example/g03111/impl.typeForms", laid_loop_example_g03111_impl_typeForms), ("loop.example/g03111/impl.termForms", laid_loop_example_g03111_impl_termForms)] }
def FnExactReplaceAtSaid : Prop := fnExactReplaceAtRow.holds Tryd.pinned (OpenSpec.ofChange fnExactReplaceAtSpec)

/-- ITS FALSE NEIGHBOUR: 'it returns false'. Refute it at one input. -/
def fnExactReplaceAtWrong : ChangeSpec := { name := "fnExactReplaceAt", vars := ["loop.example/g03111/impl.termForms", "loop.example/g03111/impl.typeForms"], fn := fun _ => fun
  | [d1, d2, d3, g1, g2] => { results := [.lit (.bool false)], args := [d1, d2, d3], vars := [g1, g2] }
  | _ => none }
def FnExactReplaceAtWrongFalsely : Prop := fnExactReplaceAtRow.holds Tryd.pinned (OpenSpec.ofChange fnExactReplaceAtWrong)

/-- 'laws.FnExactContractAt': WHATEVER THE INPUT: true; the input reads as it did. -/
def fnExactContractAtSpec : ChangeSpec := { name := "fnExactContractAt", vars := ["loop.example/g03111/impl.termForms", "loop.example/g03111/impl.typeForms"], fn := fun _ => fun
  | [d1, d2, g1, g2] => { results := [.lit (.bool true)], args := [d1, d2], vars := [g1, g2] }
  | _ => none }
def fnExactContractAtRow : OpenClaim := { program := "ytoefeijnnnioeaadoor", sum := "2befcd8c80ee674d4e9ba151b48dca3a0328e4e1338c05f87fd21daaf931fa8a", func := "loop.example/g03111/laws.FnExactContractAt", spec := "fnExactContractAt", unfollowed := true, recurses := true, named := ["loop.example/g03111/impl.termForms", "loop.example/g03111/impl.typeForms"], loops := true, apart := false, laid := [("loop.example/g03111/impl.typeForms", laid_loop_example_g03111_impl_typeForms), ("loop.example/g03111/impl.termForms", laid_loop_example_g03111_impl_termForms)] }
def FnExactContractAtSaid : Prop := fnExactContractAtRow.holds Tryd.pinned (OpenSpec.ofChange fnExactContractAtSpec)

/-- ITS FALSE NEIGHBOUR: 'it returns false'. Refute it at one input. -/
def fnExactContractAtWrong : ChangeSpec := { name := "fnExactContractAt", vars := ["loop.example/g03111/impl.termForms", "loop.example/g03111/impl.typeForms"], fn := fun _ => fun
  | [d1, d2, g1, g2] => { results := [.lit (.bool false)], args := [d1, d2], vars := [g1, g2] }
  | _ => none }
def FnExactContractAtWrongFalsely : Prop := fnExactContractAtRow.holds Tryd.pinned (OpenSpec.ofChange fnExactContractAtWrong)

/-- 'laws.FnExactIsNormal': WHATEVER THE INPUT: true; the input reads as it did. -/
def fnExactIsNormalSpec : ChangeSpec := { name := "fnExactIsNormal", vars := ["loop.example/g03111/impl.termForms", "loop.example/g03111/impl.typeForms"], fn := fun _ => fun
  | [d, g1, g2] => { results := [.lit (.bool true)], args := [d], vars := [g1, g2] }
  | _ => none }
def fnExactIsNormalRow : OpenClaim := { program := "ytoefeijnnnioeaadoor", sum := "2befcd8c80ee674d4e9ba151b48dca3a0328e4e1338c05f87fd21daaf931fa8a", func := "loop.example/g03111/laws.FnExactIsNormal", spec := "fnExactIsNormal", recurses := true, named := ["loop.example/g03111/impl.termForms", "loop.example/g03111/impl.typeForms"], loops := true, apart := false, laid := [("loop.example/g03111/impl.typeForms", laid_loop_example_g03111_impl_typeForms), ("loop.example/g03111/impl.termForms", laid_loop_example_g03111_impl_termForms)] }
def FnExactIsNormalSaid : Prop := fnExactIsNormalRow.holds Tryd.pinned (OpenSpec.ofChange fnExactIsNormalSpec)

/-- ITS FALSE NEIGHBOUR: 'it returns false'. Refute it at one input. -/
def fnExactIsNormalWrong : ChangeSpec := { name := "fnExactIsNormal", vars := ["loop.example/g03111/impl.termForms", "loop.example/g03111/impl.typeForms"], fn := fun _ => fun
  | [d, g1, g2] => { results := [.lit (.bool false)], args := [d], vars := [g1, g2] }
  | _ => none }
def FnExactIsNormalWrongFalsely : Prop := fnExactIsNormalRow.holds Tryd.pinned (OpenSpec.ofChange fnExactIsNormalWrong)

/-- 'laws.FnExactStepTerm': WHATEVER THE INPUT: true; the input reads as it did. -/
def fnExactStepTermSpec : ChangeSpec := { name := "fnExactStepTerm", vars := ["loop.example/g03111/impl.termForms", "loop.example/g03111/impl.typeForms"], fn := fun _ => fun
  | [d, g1, g2] => { results := [.lit (.bool true)], args := [d], vars := [g1, g2] }
  | _ => none }
def fnExactStepTermRow : OpenClaim := { program := "ytoefeijnnnioeaadoor", sum := "2befcd8c80ee674d4e9ba151b48dca3a0328e4e1338c05f87fd21daaf931fa8a", func := "loop.example/g03111/laws.FnExactStepTerm", spec := "fnExactStepTerm", unfollowed := true, recurses := true, named := ["loop.example/g03111/impl.termForms", "loop.example/g03111/impl.typeForms"], loops := true, apart := false, laid := [("loop.example/g03111/impl.typeForms", laid_loop_example_g03111_impl_typeForms), ("loop.example/g03111/impl.termForms", laid_loop_example_g03111_impl_termForms)] }
def FnExactStepTermSaid : Prop := fnExactStepTermRow.holds Tryd.pinned (OpenSpec.ofChange fnExactStepTermSpec)

/-- ITS FALSE NEIGHBOUR: 'it returns false'. Refute it at one input. -/
def fnExactStepTermWrong : ChangeSpec := { name := "fnExactStepTerm", vars := ["loop.example/g03111/impl.termForms", "loop.example/g03111/impl.typeForms"], fn := fun _ => fun
  | [d, g1, g2] => { results := [.lit (.bool false)], args := [d], vars := [g1, g2] }
  | _ => none }
def FnExactStepTermWrongFalsely : Prop := fnExactStepTermRow.holds Tryd.pinned (OpenSpec.ofChange fnExactStepTermWrong)

/-- 'laws.FnExactValueAt': WHATEVER THE INPUT: true; the input reads as it did. -/
def fnExactValueAtSpec : ChangeSpec := { name := "fnExactValueAt", vars := ["loop.example/g03111/impl.typeForms"], fn := fun _ => fun
  | [d1, d2, d3, g1] => { results := [.lit (.bool true)], args := [d1, d2, d3], vars := [g1] }
  | _ => none }
def fnExactValueAtRow : OpenClaim := { program := "ytoefeijnnnioeaadoor", sum := "2befcd8c80ee674d4e9ba151b48dca3a0328e4e1338c05f87fd21daaf931fa8a", func := "loop.example/g03111/laws.FnExactValueAt", spec := "fnExactValueAt", unfollowed := true, recurses := true, named := ["loop.example/g03111/impl.typeForms"], apart := false, laid := [("loop.example/g03111/impl.typeForms", laid_loop_example_g03111_impl_typeForms)] }
def FnExactValueAtSaid : Prop := fnExactValueAtRow.holds Tryd.pinned (OpenSpec.ofChange fnExactValueAtSpec)

/-- ITS FALSE NEIGHBOUR: 'it returns false'. Refute it at one input. -/
def fnExactValueAtWrong : ChangeSpec := { name := "fnExactValueAt", vars := ["loop.example/g03111/impl.typeForms"], fn := fun _ => fun
  | [d1, d2, d3, g1] => { results := [.lit (.bool false)], args := [d1, d2, d3], vars := [g1] }
  | _ => none }
def FnExactValueAtWrongFalsely : Prop := fnExactValueAtRow.holds Tryd.pinned (OpenSpec.ofChange fnExactValueAtWrong)

/-- 'laws.FnExactPlaceOf': WHATEVER THE INPUT: true; the input reads as it did. -/
def fnExactPlaceOfSpec : ChangeSpec := { name := "fnExactPlaceOf", vars := ["loop.example/g03111/impl.typeForms", "loop.example/g03111/impl.termForms"], fn := fun _ => fun
  | [d1, d2, d3, g1, g2] => { results := [.lit (.bool true)], args := [d1, d2, d3], vars := [g1, g2] }
  | _ => none }
def fnExactPlaceOfRow : OpenClaim := { program := "ytoefeijnnnioeaadoor", sum := "2befcd8c80ee674d4e9ba151b48dca3a0328e4e1338c05f87fd21daaf931fa8a", func := "loop.example/g03111/laws.FnExactPlaceOf", spec := "fnExactPlaceOf", unfollowed := true, recurses := true, named := ["loop.example/g03111/impl.typeForms", "loop.example/g03111/impl.termForms"], loops := true, apart := false, laid := [("loop.example/g03111/impl.typeForms", laid_loop_example_g03111_impl_typeForms), ("loop.example/g03111/impl.termForms", laid_loop_example_g03111_impl_termForms)] }
def FnExactPlaceOfSaid : Prop := fnExactPlaceOfRow.holds Tryd.pinned (OpenSpec.ofChange fnExactPlaceOfSpec)

/-- ITS FALSE NEIGHBOUR: 'it returns false'. Refute it at one input. -/
def fnExactPlaceOfWrong : ChangeSpec := { name := "fnExactPlaceOf", vars := ["loop.example/g03111/impl.typeForms", "loop.example/g03111/impl.termForms"], fn := fun _ => fun
  | [d1, d2, d3, g1, g2] => { results := [.lit (.bool false)], args := [d1, d2, d3], vars := [g1, g2] }
  | _ => none }
def FnExactPlaceOfWrongFalsely : Prop := fnExactPlaceOfRow.holds Tryd.pinned (OpenSpec.ofChange fnExactPlaceOfWrong)

/-- 'laws.FnExactFillOpen': WHATEVER THE INPUT: true; the input reads as it did. -/
def fnExactFillOpenSpec : ChangeSpec := { name := "fnExactFillOpen", vars := ["loop.example/g03111/impl.termForms", "loop.example/g03111/impl.typeForms"], fn := fun _ => fun
  | [d1, d2, g1, g2] => { results := [.lit (.bool true)], args := [d1, d2], vars := [g1, g2] }
  | _ => none }
def fnExactFillOpenRow : OpenClaim := { program := "ytoefeijnnnioeaadoor", sum := "2befcd8c80ee674d4e9ba151b48dca3a0328e4e1338c05f87fd21daaf931fa8a", func := "loop.example/g03111/laws.FnExactFillOpen", spec := "fnExactFillOpen", unfollowed := true, recurses := true, named := ["loop.example/g03111/impl.termForms", "loop.example/g03111/impl.typeForms"], loops := true, apart := false, laid := [("loop.example/g03111/impl.typeForms", laid_loop_example_g03111_impl_typeForms), ("loop.example/g03111/impl.termForms", laid_loop_example_g03111_impl_termForms)] }
def FnExactFillOpenSaid : Prop := fnExactFillOpenRow.holds Tryd.pinned (OpenSpec.ofChange fnExactFillOpenSpec)

/-- ITS FALSE NEIGHBOUR: 'it returns false'. Refute it at one input. -/
def fnExactFillOpenWrong : ChangeSpec := { name := "fnExactFillOpen", vars := ["loop.example/g03111/impl.termForms", "loop.example/g03111/impl.typeForms"], fn := fun _ => fun
  | [d1, d2, g1, g2] => { results := [.lit (.bool false)], args := [d1, d2], vars := [g1, g2] }
  | _ => none }
def FnExactFillOpenWrongFalsely : Prop := fnExactFillOpenRow.holds Tryd.pinned (OpenSpec.ofChange fnExactFillOpenWrong)

/- THE SECOND FORM. 'bulk': how many values and letters a reading holds, each counted each time it is reached (what is shared counts as often as it is met; a slice's spare places count too). A statement '..UptoSaid' is the law's where the arguments, and the package variables that the reading takes, are together of bulk at most 1048576: NARROWER than '..Said'. Prove '..Said' where nothing that the law and all that it calls make is longer than what came in: it says more and counts as full. Else prove '..UptoSaid'. A law counts once. -/
mutual
def uptoBulk {H : Type} : DataW H → Nat
  | .lit (.string bytes) => bytes.length + 1
  | .lit _ => 1
  | .nil => 1
  | .ptr d => uptoBulk d + 1
  | .slice elems spare => uptoBulkAll elems + uptoBulkAll spare + 1
  | .agg parts => uptoBulkAll parts + 1
  | .iface _ d => uptoBulk d + 1
  | .map entries => uptoBulkEntries entries + 1
  | .held _ => 1
def uptoBulkAll {H : Type} : List (DataW H) → Nat
  | [] => 0
  | d :: r => uptoBulk d + uptoBulkAll r
def uptoBulkEntries {H : Type} : List (Lit × DataW H) → Nat
  | [] => 0
  | x :: r => uptoBulkEntry x + uptoBulkEntries r
def uptoBulkEntry {H : Type} : Lit × DataW H → Nat
  | (.string bytes, d) => bytes.length + uptoBulk d + 1
  | (_, d) => uptoBulk d + 1
 end
def uptoSmall : (H : Type) → List (DataW H) → Bool := fun _ ds => decide (uptoBulkAll ds ≤ 1048576)
def OpenSpec.upto (s : _root_.Go.ChangeSpec) : _root_.Go.OpenSpec := { _root_.Go.OpenSpec.ofChange s with cond := some uptoSmall }

/-- 'laws.FnExactMapType', WHERE WHAT IT READS IS OF BULK AT MOST 1048576: true; the input reads as it did. -/
def fnExactMapTypeUptoRow : OpenClaim := { program := "ytoefeijnnnioeaadoor", sum := "2befcd8c80ee674d4e9ba151b48dca3a0328e4e1338c05f87fd21daaf931fa8a", func := "loop.example/g03111/laws.FnExactMapType", spec := "fnExactMapType", unfollowed := true, recurses := true, named := ["loop.example/g03111/impl.typeForms"], apart := false, laid := [("loop.example/g03111/impl.typeForms", laid_loop_example_g03111_impl_typeForms)], narrowed := true }
def FnExactMapTypeUptoSaid : Prop := fnExactMapTypeUptoRow.holds Tryd.pinned (OpenSpec.upto fnExactMapTypeSpec)

/-- 'laws.FnExactMapTerm', WHERE WHAT IT READS IS OF BULK AT MOST 1048576: true; the input reads as it did. -/
def fnExactMapTermUptoRow : OpenClaim := { program := "ytoefeijnnnioeaadoor", sum := "2befcd8c80ee674d4e9ba151b48dca3a0328e4e1338c05f87fd21daaf931fa8a", func := "loop.example/g03111/laws.FnExactMapTerm", spec := "fnExactMapTerm", unfollowed := true, recurses := true, named := ["loop.example/g03111/impl.termForms", "loop.example/g03111/impl.typeForms"], loops := true, apart := false, laid := [("loop.example/g03111/impl.typeForms", laid_loop_example_g03111_impl_typeForms), ("loop.example/g03111/impl.termForms", laid_loop_example_g03111_impl_termForms)], narrowed := true }
def FnExactMapTermUptoSaid : Prop := fnExactMapTermUptoRow.holds Tryd.pinned (OpenSpec.upto fnExactMapTermSpec)

/-- 'laws.FnExactIsValue', WHERE WHAT IT READS IS OF BULK AT MOST 1048576: true; the input reads as it did. -/
def fnExactIsValueUptoRow : OpenClaim := { program := "ytoefeijnnnioeaadoor", sum := "2befcd8c80ee674d4e9ba151b48dca3a0328e4e1338c05f87fd21daaf931fa8a", func := "loop.example/g03111/laws.FnExactIsValue", spec := "fnExactIsValue", unfollowed := true, recurses := true, named := ["loop.example/g03111/impl.typeForms", "loop.example/g03111/impl.termForms"], loops := true, apart := false, laid := [("loop.example/g03111/impl.typeForms", laid_loop_example_g03111_impl_typeForms), ("loop.example/g03111/impl.termForms", laid_loop_example_g03111_impl_termForms)], narrowed := true }
def FnExactIsValueUptoSaid : Prop := fnExactIsValueUptoRow.holds Tryd.pinned (OpenSpec.upto fnExactIsValueSpec)

/-- 'laws.FnExactContract', WHERE WHAT IT READS IS OF BULK AT MOST 1048576: true; the input reads as it did. -/
def fnExactContractUptoRow : OpenClaim := { program := "ytoefeijnnnioeaadoor", sum := "2befcd8c80ee674d4e9ba151b48dca3a0328e4e1338c05f87fd21daaf931fa8a", func := "loop.example/g03111/laws.FnExactContract", spec := "fnExactContract", unfollowed := true, recurses := true, named := ["loop.example/g03111/impl.termForms", "loop.example/g03111/impl.typeForms"], loops := true, apart := false, laid := [("loop.example/g03111/impl.typeForms", laid_loop_example_g03111_impl_typeForms), ("loop.example/g03111/impl.termForms", laid_loop_example_g03111_impl_termForms)], narrowed := true }
def FnExactContractUptoSaid : Prop := fnExactContractUptoRow.holds Tryd.pinned (OpenSpec.upto fnExactContractSpec)

/-- 'laws.FnExactRedexesOf', WHERE WHAT IT READS IS OF BULK AT MOST 1048576: true; the input reads as it did. -/
def fnExactRedexesOfUptoRow : OpenClaim := { program := "ytoefeijnnnioeaadoor", sum := "2befcd8c80ee674d4e9ba151b48dca3a0328e4e1338c05f87fd21daaf931fa8a", func := "loop.example/g03111/laws.FnExactRedexesOf", spec := "fnExactRedexesOf", recurses := true, named := ["loop.example/g03111/impl.termForms", "loop.example/g03111/impl.typeForms"], loops := true, apart := false, laid := [("loop.example/g03111/impl.typeForms", laid_loop_example_g03111_impl_typeForms), ("loop.example/g03111/impl.termForms", laid_loop_example_g03111_impl_termForms)], narrowed := true }
def FnExactRedexesOfUptoSaid : Prop := fnExactRedexesOfUptoRow.holds Tryd.pinned (OpenSpec.upto fnExactRedexesOfSpec)

/-- 'laws.FnExactReplaceAt', WHERE WHAT IT READS IS OF BULK AT MOST 1048576: true; the input reads as it did. -/
def fnExactReplaceAtUptoRow : OpenClaim := { program := "ytoefeijnnnioeaadoor", sum := "2befcd8c80ee674d4e9ba151b48dca3a0328e4e1338c05f87fd21daaf931fa8a", func := "loop.example/g03111/laws.FnExactReplaceAt", spec := "fnExactReplaceAt", unfollowed := true, recurses := true, named := ["loop.example/g03111/impl.termForms", "loop.example/g03111/impl.typeForms"], loops := true, apart := false, laid := [("loop.example/g03111/impl.typeForms", laid_loop_example_g03111_impl_typeForms), ("loop.example/g03111/impl.termForms", laid_loop_example_g03111_impl_termForms)], narrowed := true }
def FnExactReplaceAtUptoSaid : Prop := fnExactReplaceAtUptoRow.holds Tryd.pinned (OpenSpec.upto fnExactReplaceAtSpec)

/-- 'laws.FnExactContractAt', WHERE WHAT IT READS IS OF BULK AT MOST 1048576: true; the input reads as it did. -/
def fnExactContractAtUptoRow : OpenClaim := { program := "ytoefeijnnnioeaadoor", sum := "2befcd8c80ee674d4e9ba151b48dca3a0328e4e1338c05f87fd21daaf931fa8a", func := "loop.example/g03111/laws.FnExactContractAt", spec := "fnExactContractAt", unfollowed := true, recurses := true, named := ["loop.example/g03111/impl.termForms", "loop.example/g03111/impl.typeForms"], loops := true, apart := false, laid := [("loop.example/g03111/impl.typeForms", laid_loop_example_g03111_impl_typeForms), ("loop.example/g03111/impl.termForms", laid_loop_example_g03111_impl_termForms)], narrowed := true }
def FnExactContractAtUptoSaid : Prop := fnExactContractAtUptoRow.holds Tryd.pinned (OpenSpec.upto fnExactContractAtSpec)

/-- 'laws.FnExactIsNormal', WHERE WHAT IT READS IS OF BULK AT MOST 1048576: true; the input reads as it did. -/
def fnExactIsNormalUptoRow : OpenClaim := { program := "ytoefeijnnnioeaadoor", sum := "2befcd8c80ee674d4e9ba151b48dca3a0328e4e1338c05f87fd21daaf931fa8a", func := "loop.example/g03111/laws.FnExactIsNormal", spec := "fnExactIsNormal", recurses := true, named := ["loop.example/g03111/impl.termForms", "loop.example/g03111/impl.typeForms"], loops := true, apart := false, laid := [("loop.example/g03111/impl.typeForms", laid_loop_example_g03111_impl_typeForms), ("loop.example/g03111/impl.termForms", laid_loop_example_g03111_impl_termForms)], narrowed := true }
def FnExactIsNormalUptoSaid : Prop := fnExactIsNormalUptoRow.holds Tryd.pinned (OpenSpec.upto fnExactIsNormalSpec)

/-- 'laws.FnExactStepTerm', WHERE WHAT IT READS IS OF BULK AT MOST 1048576: true; the input reads as it did. -/
def fnExactStepTermUptoRow : OpenClaim := { program := "ytoefeijnnnioeaadoor", sum := "2befcd8c80ee674d4e9ba151b48dca3a0328e4e1338c05f87fd21daaf931fa8a", func := "loop.example/g03111/laws.FnExactStepTerm", spec := "fnExactStepTerm", unfollowed := true, recurses := true, named := ["loop.example/g03111/impl.termForms", "loop.example/g03111/impl.typeForms"], loops := true, apart := false, laid := [("loop.example/g03111/impl.typeForms", laid_loop_example_g03111_impl_typeForms), ("loop.example/g03111/impl.termForms", laid_loop_example_g03111_impl_termForms)], narrowed := true }
def FnExactStepTermUptoSaid : Prop := fnExactStepTermUptoRow.holds Tryd.pinned (OpenSpec.upto fnExactStepTermSpec)

/-- 'laws.FnExactValueAt', WHERE WHAT IT READS IS OF BULK AT MOST 1048576: true; the input reads as it did. -/
def fnExactValueAtUptoRow : OpenClaim := { program := "ytoefeijnnnioeaadoor", sum := "2befcd8c80ee674d4e9ba151b48dca3a0328e4e1338c05f87fd21daaf931fa8a", func := "loop.example/g03111/laws.FnExactValueAt", spec := "fnExactValueAt", unfollowed := true, recurses := true, named := ["loop.example/g03111/impl.typeForms"], apart := false, laid := [("loop.example/g03111/impl.typeForms", laid_loop_example_g03111_impl_typeForms)], narrowed := true }
def FnExactValueAtUptoSaid : Prop := fnExactValueAtUptoRow.holds Tryd.pinned (OpenSpec.upto fnExactValueAtSpec)

/-- 'laws.FnExactPlaceOf', WHERE WHAT IT READS IS OF BULK AT MOST 1048576: true; the input reads as it did. -/
def fnExactPlaceOfUptoRow : OpenClaim := { program := "ytoefeijnnnioeaadoor", sum := "2befcd8c80ee674d4e9ba151b48dca3a0328e4e1338c05f87fd21daaf931fa8a", func := "loop.example/g03111/laws.FnExactPlaceOf", spec := "fnExactPlaceOf", unfollowed := true, recurses := true, named := ["loop.example/g03111/impl.typeForms", "loop.example/g03111/impl.termForms"], loops := true, apart := false, laid := [("loop.example/g03111/impl.typeForms", laid_loop_example_g03111_impl_typeForms), ("loop.example/g03111/impl.termForms", laid_loop_example_g03111_impl_termForms)], narrowed := true }
def FnExactPlaceOfUptoSaid : Prop := fnExactPlaceOfUptoRow.holds Tryd.pinned (OpenSpec.upto fnExactPlaceOfSpec)

/-- 'laws.FnExactFillOpen', WHERE WHAT IT READS IS OF BULK AT MOST 1048576: true; the input reads as it did. -/
def fnExactFillOpenUptoRow : OpenClaim := { program := "ytoefeijnnnioeaadoor", sum := "2befcd8c80ee674d4e9ba151b48dca3a0328e4e1338c05f87fd21daaf931fa8a", func := "loop.example/g03111/laws.FnExactFillOpen", spec := "fnExactFillOpen", unfollowed := true, recurses := true, named := ["loop.example/g03111/impl.termForms", "loop.example/g03111/impl.typeForms"], loops := true, apart := false, laid := [("loop.example/g03111/impl.typeForms", laid_loop_example_g03111_impl_typeForms), ("loop.example/g03111/impl.termForms", laid_loop_example_g03111_impl_termForms)], narrowed := true }
def FnExactFillOpenUptoSaid : Prop := fnExactFillOpenUptoRow.holds Tryd.pinned (OpenSpec.upto fnExactFillOpenSpec)

end Rows
end Go.Proofs.YtoefeijnnnioeaaDoor
