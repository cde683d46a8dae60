/-
  NARROWER THAN 'FOR EVERY INPUT', by the rows' own cells (each row's printed sentence says how): FnExactIsType: laid · FnExactIsData: laid · FnExactIsTerm: loops, laid · FnExactIsWritten: loops, laid · FnExactSizeOfTerm: loops, laid · FnExactSameTerms: loops, laid · FnExactUsesOf: loops, laid · FnExactShiftTerm: loops, laid · FnExactSubstituteTerm: loops, laid · FnExactTermAt: loops, laid · FnExactIsRedex: loops, laid · FnExactMapTerm: loops, laid.
  DERIVED. THE GIVEN ROWS OF THIS SEAT. 12 by the template 'for every input the law returns true; each argument reads behind the call as it read before'; 0 by the template 'total and deterministic' (their statements: YtlbpefmocodkfaaDoorTotals.lean).
  GIVEN WITH THE SEED: the statements are not yours to turn. If you find one false, say at which input.
  Laid BY PROGRAM, IN A SANDBOX (cutbox-rows.mjs): the forced cells as the released guide's own fill.sh prints them over the translation 894e1a0f99657117… (all of the seat's roots in one cut). By AI agents, Wed Nov 11 2026. No macro, syntax, notation, axiom, sorry.
-/
import Derived.Test.YtlbpefmocodkfaaDoorChecked
import GoSem.Claim
import GoSem.ClaimJoined
import GoSem.ClaimMapViews
import Derived.JoinedTies
import Derived.KernelRfl
namespace Go.Proofs.YtlbpefmocodkfaaDoor
/- THE CELL 'sum', in the pinned program and in every row, IS THE sha256 OF THE DUMP (.gsa) THAT YtlbpefmocodkfaaDoorProg.lean LOADS. Nothing in Lean hashes anything: it is a label: what it is worth is what the hold of that sum in a sandbox is worth. -/
noncomputable def Tryd.pinned : Pinned := { name := "ytlbpefmocodkfaadoor", sum := "894e1a0f996571177249fa0441e9e1d076dce6a3924a28e178f9e54d5ab72477", checked := Tryd.checked }
namespace Rows
def none {H : Type} : Left H := { results := [], args := [] }

/- WHAT THE LISTED PACKAGE-LEVEL VARIABLES READ AS WHEN THE CALL BEGINS. Each datum BY PROGRAM (the guide's laid-datum.mjs) off the statement by which the dump's own 'gosem.cut.vars' lays the variable. In a bare row this is a premise. The card (YtlbpefmocodkfaaDoorCards.lean) ties it to the program's text. -/
def laid_loop_example_g03111_impl_typeForms {H : Type} : DataW H := .agg [.agg [.lit (.string [110]), .lit (.int .i64 0), .lit (.int .i64 0), .lit (.int .i64 0), .lit (.bool false)], .agg [.lit (.string [42]), .lit (.int .i64 1), .lit (.int .i64 0), .lit (.int .i64 2), .lit (.bool false)], .agg [.lit (.string [43]), .lit (.int .i64 2), .lit (.int .i64 0), .lit (.int .i64 2), .lit (.bool false)], .agg [.lit (.string [62]), .lit (.int .i64 3), .lit (.int .i64 35), .lit (.int .i64 2), .lit (.bool true)], .agg [.lit (.string [33]), .lit (.int .i64 19), .lit (.int .i64 36), .lit (.int .i64 1), .lit (.bool true)]]
def laid_loop_example_g03111_impl_termForms {H : Type} : DataW H := .agg [.agg [.lit (.string []), .lit (.int .i64 0), .agg [.lit (.int .i64 0), .lit (.int .i64 0), .lit (.int .i64 0)], .lit (.bool false), .lit (.bool false)], .agg [.lit (.string []), .lit (.int .i64 0), .agg [.lit (.int .i64 0), .lit (.int .i64 0), .lit (.int .i64 0)], .lit (.bool false), .lit (.bool false)], .agg [.lit (.string [97, 100, 100]), .lit (.int .i64 2), .agg [.lit (.int .i64 0), .lit (.int .i64 0), .lit (.int .i64 0)], .lit (.bool false), .lit (.bool false)], .agg [.lit (.string [105, 102]), .lit (.int .i64 3), .agg [.lit (.int .i64 0), .lit (.int .i64 0), .lit (.int .i64 0)], .lit (.bool false), .lit (.bool false)], .agg [.lit (.string [112, 97, 105, 114]), .lit (.int .i64 2), .agg [.lit (.int .i64 0), .lit (.int .i64 0), .lit (.int .i64 0)], .lit (.bool false), .lit (.bool false)], .agg [.lit (.string [115, 112, 108, 105, 116]), .lit (.int .i64 2), .agg [.lit (.int .i64 0), .lit (.int .i64 2), .lit (.int .i64 0)], .lit (.bool true), .lit (.bool false)], .agg [.lit (.string [108, 101, 102, 116]), .lit (.int .i64 1), .agg [.lit (.int .i64 0), .lit (.int .i64 0), .lit (.int .i64 0)], .lit (.bool false), .lit (.bool true)], .agg [.lit (.string [114, 105, 103, 104, 116]), .lit (.int .i64 1), .agg [.lit (.int .i64 0), .lit (.int .i64 0), .lit (.int .i64 0)], .lit (.bool false), .lit (.bool true)], .agg [.lit (.string [99, 97, 115, 101]), .lit (.int .i64 3), .agg [.lit (.int .i64 0), .lit (.int .i64 1), .lit (.int .i64 1)], .lit (.bool true), .lit (.bool false)], .agg [.lit (.string [102, 117, 110]), .lit (.int .i64 1), .agg [.lit (.int .i64 1), .lit (.int .i64 0), .lit (.int .i64 0)], .lit (.bool true), .lit (.bool true)], .agg [.lit (.string [97, 112, 112]), .lit (.int .i64 2), .agg [.lit (.int .i64 0), .lit (.int .i64 0), .lit (.int .i64 0)], .lit (.bool false), .lit (.bool false)], .agg [.lit (.string [98, 111, 120]), .lit (.int .i64 1), .agg [.lit (.int .i64 0), .lit (.int .i64 0), .lit (.int .i64 0)], .lit (.bool true), .lit (.bool false)], .agg [.lit (.string [111, 112, 101, 110]), .lit (.int .i64 2), .agg [.lit (.int .i64 0), .lit (.int .i64 1), .lit (.int .i64 0)], .lit (.bool true), .lit (.bool false)]]

/-- 'laws.FnExactIsType': WHATEVER THE INPUT: true; the input reads as it did. -/
def fnExactIsTypeSpec : ChangeSpec := { name := "fnExactIsType", vars := ["loop.example/g03111/impl.typeForms"], fn := fun _ => fun
  | [d1, d2, g1] => { results := [.lit (.bool true)], args := [d1, d2], vars := [g1] }
  | _ => none }
def fnExactIsTypeRow : OpenClaim := { program := "ytlbpefmocodkfaadoor", sum := "894e1a0f996571177249fa0441e9e1d076dce6a3924a28e178f9e54d5ab72477", func := "loop.example/g03111/laws.FnExactIsType", spec := "fnExactIsType", named := ["loop.example/g03111/impl.typeForms"], apart := false, laid := [("loop.example/g03111/impl.typeForms", laid_loop_example_g03111_impl_typeForms)] }
def FnExactIsTypeSaid : Prop := fnExactIsTypeRow.holds Tryd.pinned (OpenSpec.ofChange fnExactIsTypeSpec)

/-- ITS FALSE NEIGHBOUR: 'it returns false'. Refute it at one input. -/
def fnExactIsTypeWrong : ChangeSpec := { name := "fnExactIsType", vars := ["loop.example/g03111/impl.typeForms"], fn := fun _ => fun
  | [d1, d2, g1] => { results := [.lit (.bool false)], args := [d1, d2], vars := [g1] }
  | _ => none }
def FnExactIsTypeWrongFalsely : Prop := fnExactIsTypeRow.holds Tryd.pinned (OpenSpec.ofChange fnExactIsTypeWrong)

/-- 'laws.FnExactIsData': WHATEVER THE INPUT: true; the input reads as it did. -/
def fnExactIsDataSpec : ChangeSpec := { name := "fnExactIsData", vars := ["loop.example/g03111/impl.typeForms"], fn := fun _ => fun
  | [d1, d2, g1] => { results := [.lit (.bool true)], args := [d1, d2], vars := [g1] }
  | _ => none }
def fnExactIsDataRow : OpenClaim := { program := "ytlbpefmocodkfaadoor", sum := "894e1a0f996571177249fa0441e9e1d076dce6a3924a28e178f9e54d5ab72477", func := "loop.example/g03111/laws.FnExactIsData", spec := "fnExactIsData", unfollowed := true, recurses := true, named := ["loop.example/g03111/impl.typeForms"], apart := false, laid := [("loop.example/g03111/impl.typeForms", laid_loop_example_g03111_impl_typeForms)] }
def FnExactIsDataSaid : Prop := fnExactIsDataRow.holds Tryd.pinned (OpenSpec.ofChange fnExactIsDataSpec)

/-- ITS FALSE NEIGHBOUR: 'it returns false'. Refute it at one input. -/
def fnExactIsDataWrong : ChangeSpec := { name := "fnExactIsData", vars := ["loop.example/g03111/impl.typeForms"], fn := fun _ => fun
  | [d1, d2, g1] => { results := [.lit (.bool false)], args := [d1, d2], vars := [g1] }
  | _ => none }
def FnExactIsDataWrongFalsely : Prop := fnExactIsDataRow.holds Tryd.pinned (OpenSpec.ofChange fnExactIsDataWrong)

/-- 'laws.FnExactIsTerm': WHATEVER THE INPUT: true; the input reads as it did. -/
def fnExactIsTermSpec : ChangeSpec := { name := "fnExactIsTerm", vars := ["loop.example/g03111/impl.termForms", "loop.example/g03111/impl.typeForms"], fn := fun _ => fun
  | [d1, d2, d3, g1, g2] => { results := [.lit (.bool true)], args := [d1, d2, d3], vars := [g1, g2] }
  | _ => none }
def fnExactIsTermRow : OpenClaim := { program := "ytlbpefmocodkfaadoor", sum := "894e1a0f996571177249fa0441e9e1d076dce6a3924a28e178f9e54d5ab72477", func := "loop.example/g03111/laws.FnExactIsTerm", spec := "fnExactIsTerm", recurses := true, named := ["loop.example/g03111/impl.termForms", "loop.example/g03111/impl.typeForms"], loops := true, apart := false, laid := [("loop.example/g03111/impl.typeForms", laid_loop_example_g03111_impl_typeForms), ("loop.example/g03111/impl.termForms", laid_loop_example_g03111_impl_termForms)] }
def FnExactIsTermSaid : Prop := fnExactIsTermRow.holds Tryd.pinned (OpenSpec.ofChange fnExactIsTermSpec)

/-- ITS FALSE NEIGHBOUR: 'it returns false'. Refute it at one input. -/
def fnExactIsTermWrong : ChangeSpec := { name := "fnExactIsTerm", vars := ["loop.example/g03111/impl.termForms", "loop.example/g03111/impl.typeForms"], fn := fun _ => fun
  | [d1, d2, d3, g1, g2] => { results := [.lit (.bool false)], args := [d1, d2, d3], vars := [g1, g2] }
  | _ => none }
def FnExactIsTermWrongFalsely : Prop := fnExactIsTermRow.holds Tryd.pinned (OpenSpec.ofChange fnExactIsTermWrong)

/-- 'laws.FnExactIsWritten': WHATEVER THE INPUT: true; the input reads as it did. -/
def fnExactIsWrittenSpec : ChangeSpec := { name := "fnExactIsWritten", vars := ["loop.example/g03111/impl.termForms", "loop.example/g03111/impl.typeForms"], fn := fun _ => fun
  | [d, g1, g2] => { results := [.lit (.bool true)], args := [d], vars := [g1, g2] }
  | _ => none }
def fnExactIsWrittenRow : OpenClaim := { program := "ytlbpefmocodkfaadoor", sum := "894e1a0f996571177249fa0441e9e1d076dce6a3924a28e178f9e54d5ab72477", func := "loop.example/g03111/laws.FnExactIsWritten", spec := "fnExactIsWritten", recurses := true, named := ["loop.example/g03111/impl.termForms", "loop.example/g03111/impl.typeForms"], loops := true, apart := false, laid := [("loop.example/g03111/impl.typeForms", laid_loop_example_g03111_impl_typeForms), ("loop.example/g03111/impl.termForms", laid_loop_example_g03111_impl_termForms)] }
def FnExactIsWrittenSaid : Prop := fnExactIsWrittenRow.holds Tryd.pinned (OpenSpec.ofChange fnExactIsWrittenSpec)

/-- ITS FALSE NEIGHBOUR: 'it returns false'. Refute it at one input. -/
def fnExactIsWrittenWrong : ChangeSpec := { name := "fnExactIsWritten", vars := ["loop.example/g03111/impl.termForms", "loop.example/g03111/impl.typeForms"], fn := fun _ => fun
  | [d, g1, g2] => { results := [.lit (.bool false)], args := [d], vars := [g1, g2] }
  | _ => none }
def FnExactIsWrittenWrongFalsely : Prop := fnExactIsWrittenRow.holds Tryd.pinned (OpenSpec.ofChange fnExactIsWrittenWrong)

/-- 'laws.FnExactSizeOfTerm': WHATEVER THE INPUT: true; the input reads as it did. -/
def fnExactSizeOfTermSpec : ChangeSpec := { name := "fnExactSizeOfTerm", vars := ["loop.example/g03111/impl.termForms", "loop.example/g03111/impl.typeForms"], fn := fun _ => fun
  | [d, g1, g2] => { results := [.lit (.bool true)], args := [d], vars := [g1, g2] }
  | _ => none }
def fnExactSizeOfTermRow : OpenClaim := { program := "ytlbpefmocodkfaadoor", sum := "894e1a0f996571177249fa0441e9e1d076dce6a3924a28e178f9e54d5ab72477", func := "loop.example/g03111/laws.FnExactSizeOfTerm", spec := "fnExactSizeOfTerm", recurses := true, named := ["loop.example/g03111/impl.termForms", "loop.example/g03111/impl.typeForms"], loops := true, apart := false, laid := [("loop.example/g03111/impl.typeForms", laid_loop_example_g03111_impl_typeForms), ("loop.example/g03111/impl.termForms", laid_loop_example_g03111_impl_termForms)] }
def FnExactSizeOfTermSaid : Prop := fnExactSizeOfTermRow.holds Tryd.pinned (OpenSpec.ofChange fnExactSizeOfTermSpec)

/-- ITS FALSE NEIGHBOUR: 'it returns false'. Refute it at one input. -/
def fnExactSizeOfTermWrong : ChangeSpec := { name := "fnExactSizeOfTerm", vars := ["loop.example/g03111/impl.termForms", "loop.example/g03111/impl.typeForms"], fn := fun _ => fun
  | [d, g1, g2] => { results := [.lit (.bool false)], args := [d], vars := [g1, g2] }
  | _ => none }
def FnExactSizeOfTermWrongFalsely : Prop := fnExactSizeOfTermRow.holds Tryd.pinned (OpenSpec.ofChange fnExactSizeOfTermWrong)

/-- 'laws.FnExactSameTerms': WHATEVER THE INPUT: true; the input reads as it did. -/
def fnExactSameTermsSpec : ChangeSpec := { name := "fnExactSameTerms", vars := ["loop.example/g03111/impl.termForms", "loop.example/g03111/impl.typeForms"], fn := fun _ => fun
  | [d1, d2, g1, g2] => { results := [.lit (.bool true)], args := [d1, d2], vars := [g1, g2] }
  | _ => none }
def fnExactSameTermsRow : OpenClaim := { program := "ytlbpefmocodkfaadoor", sum := "894e1a0f996571177249fa0441e9e1d076dce6a3924a28e178f9e54d5ab72477", func := "loop.example/g03111/laws.FnExactSameTerms", spec := "fnExactSameTerms", unfollowed := true, recurses := true, named := ["loop.example/g03111/impl.termForms", "loop.example/g03111/impl.typeForms"], loops := true, apart := false, laid := [("loop.example/g03111/impl.typeForms", laid_loop_example_g03111_impl_typeForms), ("loop.example/g03111/impl.termForms", laid_loop_example_g03111_impl_termForms)] }
def FnExactSameTermsSaid : Prop := fnExactSameTermsRow.holds Tryd.pinned (OpenSpec.ofChange fnExactSameTermsSpec)

/-- ITS FALSE NEIGHBOUR: 'it returns false'. Refute it at one input. -/
def fnExactSameTermsWrong : ChangeSpec := { name := "fnExactSameTerms", vars := ["loop.example/g03111/impl.termForms", "loop.example/g03111/impl.typeForms"], fn := fun _ => fun
  | [d1, d2, g1, g2] => { results := [.lit (.bool false)], args := [d1, d2], vars := [g1, g2] }
  | _ => none }
def FnExactSameTermsWrongFalsely : Prop := fnExactSameTermsRow.holds Tryd.pinned (OpenSpec.ofChange fnExactSameTermsWrong)

/-- 'laws.FnExactUsesOf': WHATEVER THE INPUT: true; the input reads as it did. -/
def fnExactUsesOfSpec : ChangeSpec := { name := "fnExactUsesOf", vars := ["loop.example/g03111/impl.termForms", "loop.example/g03111/impl.typeForms"], fn := fun _ => fun
  | [d1, d2, g1, g2] => { results := [.lit (.bool true)], args := [d1, d2], vars := [g1, g2] }
  | _ => none }
def fnExactUsesOfRow : OpenClaim := { program := "ytlbpefmocodkfaadoor", sum := "894e1a0f996571177249fa0441e9e1d076dce6a3924a28e178f9e54d5ab72477", func := "loop.example/g03111/laws.FnExactUsesOf", spec := "fnExactUsesOf", recurses := true, named := ["loop.example/g03111/impl.termForms", "loop.example/g03111/impl.typeForms"], loops := true, apart := false, laid := [("loop.example/g03111/impl.typeForms", laid_loop_example_g03111_impl_typeForms), ("loop.example/g03111/impl.termForms", laid_loop_example_g03111_impl_termForms)] }
def FnExactUsesOfSaid : Prop := fnExactUsesOfRow.holds Tryd.pinned (OpenSpec.ofChange fnExactUsesOfSpec)

/-- ITS FALSE NEIGHBOUR: 'it returns false'. Refute it at one input. -/
def fnExactUsesOfWrong : ChangeSpec := { name := "fnExactUsesOf", vars := ["loop.example/g03111/impl.termForms", "loop.example/g03111/impl.typeForms"], fn := fun _ => fun
  | [d1, d2, g1, g2] => { results := [.lit (.bool false)], args := [d1, d2], vars := [g1, g2] }
  | _ => none }
def FnExactUsesOfWrongFalsely : Prop := fnExactUsesOfRow.holds Tryd.pinned (OpenSpec.ofChange fnExactUsesOfWrong)

/-- 'laws.FnExactShiftTerm': WHATEVER THE INPUT: true; the input reads as it did. -/
def fnExactShiftTermSpec : ChangeSpec := { name := "fnExactShiftTerm", vars := ["loop.example/g03111/impl.termForms", "loop.example/g03111/impl.typeForms"], fn := fun _ => fun
  | [d1, d2, d3, g1, g2] => { results := [.lit (.bool true)], args := [d1, d2, d3], vars := [g1, g2] }
  | _ => none }
def fnExactShiftTermRow : OpenClaim := { program := "ytlbpefmocodkfaadoor", sum := "894e1a0f996571177249fa0441e9e1d076dce6a3924a28e178f9e54d5ab72477", func := "loop.example/g03111/laws.FnExactShiftTerm", spec := "fnExactShiftTerm", unfollowed := true, recurses := true, named := ["loop.example/g03111/impl.termForms", "loop.example/g03111/impl.typeForms"], loops := true, apart := false, laid := [("loop.example/g03111/impl.typeForms", laid_loop_example_g03111_impl_typeForms), ("loop.example/g03111/impl.termForms", laid_loop_example_g03111_impl_termForms)] }
def FnExactShiftTermSaid : Prop := fnExactShiftTermRow.holds Tryd.pinned (OpenSpec.ofChange fnExactShiftTermSpec)

/-- ITS FALSE NEIGHBOUR: 'it returns false'. Refute it at one input. -/
def fnExactShiftTermWrong : ChangeSpec := { name := "fnExactShiftTerm", vars := ["loop.example/g03111/impl.termForms", "loop.example/g03111/impl.typeForms"], fn := fun _ => fun
  | [d1, d2, d3, g1, g2] => { results := [.lit (.bool false)], args := [d1, d2, d3], vars := [g1, g2] }
  | _ => none }
def FnExactShiftTermWrongFalsely : Prop := fnExactShiftTermRow.holds Tryd.pinned (OpenSpec.ofChange fnExactShiftTermWrong)

/-- 'laws.FnExactSubstituteTerm': WHATEVER THE INPUT: true; the input reads as it did. -/
def fnExactSubstituteTermSpec : ChangeSpec := { name := "fnExactSubstituteTerm", vars := ["loop.example/g03111/impl.termForms", "loop.example/g03111/impl.typeForms"], fn := fun _ => fun
  | [d1, d2, d3, g1, g2] => { results := [.lit (.bool true)], args := [d1, d2, d3], vars := [g1, g2] }
  | _ => none }
def fnExactSubstituteTermRow : OpenClaim := { program := "ytlbpefmocodkfaadoor", sum := "894e1a0f996571177249fa0441e9e1d076dce6a3924a28e178f9e54d5ab72477", func := "loop.example/g03111/laws.FnExactSubstituteTerm", spec := "fnExactSubstituteTerm", unfollowed := true, recurses := true, named := ["loop.example/g03111/impl.termForms", "loop.example/g03111/impl.typeForms"], loops := true, apart := false, laid := [("loop.example/g03111/impl.typeForms", laid_loop_example_g03111_impl_typeForms), ("loop.example/g03111/impl.termForms", laid_loop_example_g03111_impl_termForms)] }
def FnExactSubstituteTermSaid : Prop := fnExactSubstituteTermRow.holds Tryd.pinned (OpenSpec.ofChange fnExactSubstituteTermSpec)

/-- ITS FALSE NEIGHBOUR: 'it returns false'. Refute it at one input. -/
def fnExactSubstituteTermWrong : ChangeSpec := { name := "fnExactSubstituteTerm", vars := ["loop.example/g03111/impl.termForms", "loop.example/g03111/impl.typeForms"], fn := fun _ => fun
  | [d1, d2, d3, g1, g2] => { results := [.lit (.bool false)], args := [d1, d2, d3], vars := [g1, g2] }
  | _ => none }
def FnExactSubstituteTermWrongFalsely : Prop := fnExactSubstituteTermRow.holds Tryd.pinned (OpenSpec.ofChange fnExactSubstituteTermWrong)

/-- 'laws.FnExactTermAt': WHATEVER THE INPUT: true; the input reads as it did. -/
def fnExactTermAtSpec : ChangeSpec := { name := "fnExactTermAt", vars := ["loop.example/g03111/impl.termForms", "loop.example/g03111/impl.typeForms"], fn := fun _ => fun
  | [d1, d2, g1, g2] => { results := [.lit (.bool true)], args := [d1, d2], vars := [g1, g2] }
  | _ => none }
def fnExactTermAtRow : OpenClaim := { program := "ytlbpefmocodkfaadoor", sum := "894e1a0f996571177249fa0441e9e1d076dce6a3924a28e178f9e54d5ab72477", func := "loop.example/g03111/laws.FnExactTermAt", spec := "fnExactTermAt", unfollowed := true, recurses := true, named := ["loop.example/g03111/impl.termForms", "loop.example/g03111/impl.typeForms"], loops := true, apart := false, laid := [("loop.example/g03111/impl.typeForms", laid_loop_example_g03111_impl_typeForms), ("loop.example/g03111/impl.termForms", laid_loop_example_g03111_impl_termForms)] }
def FnExactTermAtSaid : Prop := fnExactTermAtRow.holds Tryd.pinned (OpenSpec.ofChange fnExactTermAtSpec)

/-- ITS FALSE NEIGHBOUR: 'it returns false'. Refute it at one input. -/
def fnExactTermAtWrong : ChangeSpec := { name := "fnExactTermAt", vars := ["loop.example/g03111/impl.termForms", "loop.example/g03111/impl.typeForms"], fn := fun _ => fun
  | [d1, d2, g1, g2] => { results := [.lit (.bool false)], args := [d1, d2], vars := [g1, g2] }
  | _ => none }
def FnExactTermAtWrongFalsely : Prop := fnExactTermAtRow.holds Tryd.pinned (OpenSpec.ofChange fnExactTermAtWrong)

/-- 'laws.FnExactIsRedex': WHATEVER THE INPUT: true; the input reads as it did. -/
def fnExactIsRedexSpec : ChangeSpec := { name := "fnExactIsRedex", vars := ["loop.example/g03111/impl.termForms", "loop.example/g03111/impl.typeForms"], fn := fun _ => fun
  | [d, g1, g2] => { results := [.lit (.bool true)], args := [d], vars := [g1, g2] }
  | _ => none }
def fnExactIsRedexRow : OpenClaim := { program := "ytlbpefmocodkfaadoor", sum := "894e1a0f996571177249fa0441e9e1d076dce6a3924a28e178f9e54d5ab72477", func := "loop.example/g03111/laws.FnExactIsRedex", spec := "fnExactIsRedex", recurses := true, named := ["loop.example/g03111/impl.termForms", "loop.example/g03111/impl.typeForms"], loops := true, apart := false, laid := [("loop.example/g03111/impl.typeForms", laid_loop_example_g03111_impl_typeForms), ("loop.example/g03111/impl.termForms", laid_loop_example_g03111_impl_termForms)] }
def FnExactIsRedexSaid : Prop := fnExactIsRedexRow.holds Tryd.pinned (OpenSpec.ofChange fnExactIsRedexSpec)

/-- ITS FALSE NEIGHBOUR: 'it returns false'. Refute it at one input. -/
def fnExactIsRedexWrong : ChangeSpec := { name := "fnExactIsRedex", vars := ["loop.example/g03111/impl.termForms", "loop.example/g03111/impl.typeForms"], fn := fun _ => fun
  | [d, g1, g2] => { results := [.lit (.bool false)], args := [d], vars := [g1, g2] }
  | _ => none }
def FnExactIsRedexWrongFalsely : Prop := fnExactIsRedexRow.holds Tryd.pinned (OpenSpec.ofChange fnExactIsRedexWrong)

/-- 'laws.FnExactMapTerm': WHATEVER THE INPUT: true; the input reads as it did. -/
def fnExactMapTermSpec : ChangeSpec := { name := "fnExactMapTerm", vars := ["loop.example/g03111/impl.termForms", "loop.example/g03111/impl.typeForms"], fn := fun _ => fun
  | [d1, d2, g1, g2] => { results := [.lit (.bool true)], args := [d1, d2], vars := [g1, g2] }
  | _ => none }
def fnExactMapTermRow : OpenClaim := { program := "ytlbpefmocodkfaadoor", sum := "894e1a0f996571177249fa0441e9e1d076dce6a3924a28e178f9e54d5ab72477", func := "loop.example/g03111/laws.FnExactMapTerm", spec := "fnExactMapTerm", unfollowed := true, recurses := true, named := ["loop.example/g03111/impl.termForms", "loop.example/g03111/impl.typeForms"], loops := true, apart := false, laid := [("loop.example/g03111/impl.typeForms", laid_loop_example_g03111_impl_typeForms), ("loop.example/g03111/impl.termForms", laid_loop_example_g03111_impl_termForms)] }
def FnExactMapTermSaid : Prop := fnExactMapTermRow.holds Tryd.pinned (OpenSpec.ofChange fnExactMapTermSpec)

/-- ITS FALSE NEIGHBOUR: 'it returns false'. Refute it at one input. -/
def fnExactMapTermWrong : ChangeSpec := { name := "fnExactMapTerm", vars := ["loop.example/g03111/impl.termForms", "loop.example/g03111/impl.typeForms"], fn := fun _ => fun
  | [d1, d2, g1, g2] => { results := [.lit (.bool false)], args := [d1, d2], vars := [g1, g2] }
  | _ => none }
def FnExactMapTermWrongFalsely : Prop := fnExactMapTermRow.holds Tryd.pinned (OpenSpec.ofChange fnExactMapTermWrong)

/- THE SECOND FORM. 'bulk': how many values and letters a reading holds, each counted each time it is reached (what is shared counts as often as it is met; a slice's spare places count too). A statement '..UptoSaid' is the law's where the arguments, and the package variables that the reading takes, are together of bulk at most 1048576: NARROWER than '..Said'. Prove '..Said' where nothing that the law and all that it calls make is longer than what came in: it says more and counts as full. Else prove '..UptoSaid'. A law counts once. -/
mutual
def uptoBulk {H : Type} : DataW H → Nat
  | .lit (.string bytes) => bytes.length + 1
  | .lit _ => 1
  | .nil => 1
  | .ptr d => uptoBulk d + 1
  | .slice elems spare => uptoBulkAll elems + uptoBulkAll spare + 1
  | .agg parts => uptoBulkAll parts + 1
  | .iface _ d => uptoBulk d + 1
  | .map entries => uptoBulkEntries entries + 1
  | .held _ => 1
def uptoBulkAll {H : Type} : List (DataW H) → Nat
  | [] => 0
  | d :: r => uptoBulk d + uptoBulkAll r
def uptoBulkEntries {H : Type} : List (Lit × DataW H) → Nat
  | [] => 0
  | x :: r => uptoBulkEntry x + uptoBulkEntries r
def uptoBulkEntry {H : Type} : Lit × DataW H → Nat
  | (.string bytes, d) => bytes.length + uptoBulk d + 1
  | (_, d) => uptoBulk d + 1
 end
def uptoSmall : (H : Type) → List (DataW H) → Bool := fun _ ds => decide (uptoBulkAll ds ≤ 1048576)
def OpenSpec.upto (s : _root_.Go.ChangeSpec) : _root_.Go.OpenSpec := { _root_.Go.OpenSpec.ofChange s with cond := some uptoSmall }

/-- 'laws.FnExactIsType', WHERE WHAT IT READS IS OF BULK AT MOST 1048576: true; the input reads as it did. -/
def fnExactIsTypeUptoRow : OpenClaim := { program := "ytlbpefmocodkfaadoor", sum := "894e1a0f996571177249fa0441e9e1d076dce6a3924a28e178f9e54d5ab72477", func := "loop.example/g03111/laws.FnExactIsType", spec := "fnExactIsType", named := ["loop.example/g03111/impl.typeForms"], apart := false, laid := [("loop.example/g03111/impl.typeForms", laid_loop_example_g03111_impl_typeForms)], narrowed := true }
def FnExactIsTypeUptoSaid : Prop := fnExactIsTypeUptoRow.holds Tryd.pinned (OpenSpec.upto fnExactIsTypeSpec)

/-- 'laws.FnExactIsData', WHERE WHAT IT READS IS OF BULK AT MOST 1048576: true; the input reads as it did. -/
def fnExactIsDataUptoRow : OpenClaim := { program := "ytlbpefmocodkfaadoor", sum := "894e1a0f996571177249fa0441e9e1d076dce6a3924a28e178f9e54d5ab72477", func := "loop.example/g03111/laws.FnExactIsData", spec := "fnExactIsData", unfollowed := true, recurses := true, named := ["loop.example/g03111/impl.typeForms"], apart := false, laid := [("loop.example/g03111/impl.typeForms", laid_loop_example_g03111_impl_typeForms)], narrowed := true }
def FnExactIsDataUptoSaid : Prop := fnExactIsDataUptoRow.holds Tryd.pinned (OpenSpec.upto fnExactIsDataSpec)

/-- 'laws.FnExactIsTerm', WHERE WHAT IT READS IS OF BULK AT MOST 1048576: true; the input reads as it did. -/
def fnExactIsTermUptoRow : OpenClaim := { program := "ytlbpefmocodkfaadoor", sum := "894e1a0f996571177249fa0441e9e1d076dce6a3924a28e178f9e54d5ab72477", func := "loop.example/g03111/laws.FnExactIsTerm", spec := "fnExactIsTerm", recurses := true, named := ["loop.example/g03111/impl.termForms", "loop.example/g03111/impl.typeForms"], loops := true, apart := false, laid := [("loop.example/g03111/impl.typeForms", laid_loop_example_g03111_impl_typeForms), ("loop.example/g03111/impl.termForms", laid_loop_example_g03111_impl_termForms)], narrowed := true }
def FnExactIsTermUptoSaid : Prop := fnExactIsTermUptoRow.holds Tryd.pinned (OpenSpec.upto fnExactIsTermSpec)

/-- 'laws.FnExactIsWritten', WHERE WHAT IT READS IS OF BULK AT MOST 1048576: true; the input reads as it did. -/
def fnExactIsWrittenUptoRow : OpenClaim := { program := "ytlbpefmocodkfaadoor", sum := "894e1a0f996571177249fa0441e9e1d076dce6a3924a28e178f9e54d5ab72477", func := "loop.example/g03111/laws.FnExactIsWritten", spec := "fnExactIsWritten", recurses := true, named := ["loop.example/g03111/impl.termForms", "loop.example/g03111/impl.typeForms"], loops := true, apart := false, laid := [("loop.example/g03111/impl.typeForms", laid_loop_example_g03111_impl_typeForms), ("loop.example/g03111/impl.termForms", laid_loop_example_g03111_impl_termForms)], narrowed := true }
def FnExactIsWrittenUptoSaid : Prop := fnExactIsWrittenUptoRow.holds Tryd.pinned (OpenSpec.upto fnExactIsWrittenSpec)

/-- 'laws.FnExactSizeOfTerm', WHERE WHAT IT READS IS OF BULK AT MOST 1048576: true; the input reads as it did. -/
def fnExactSizeOfTermUptoRow : OpenClaim := { program := "ytlbpefmocodkfaadoor", sum := "894e1a0f996571177249fa0441e9e1d076dce6a3924a28e178f9e54d5ab72477", func := "loop.example/g03111/laws.FnExactSizeOfTerm", spec := "fnExactSizeOfTerm", recurses := true, named := ["loop.example/g03111/impl.termForms", "loop.example/g03111/impl.typeForms"], loops := true, apart := false, laid := [("loop.example/g03111/impl.typeForms", laid_loop_example_g03111_impl_typeForms), ("loop.example/g03111/impl.termForms", laid_loop_example_g03111_impl_termForms)], narrowed := true }
def FnExactSizeOfTermUptoSaid : Prop := fnExactSizeOfTermUptoRow.holds Tryd.pinned (OpenSpec.upto fnExactSizeOfTermSpec)

/-- 'laws.FnExactSameTerms', WHERE WHAT IT READS IS OF BULK AT MOST 1048576: true; the input reads as it did. -/
def fnExactSameTermsUptoRow : OpenClaim := { program := "ytlbpefmocodkfaadoor", sum := "894e1a0f996571177249fa0441e9e1d076dce6a3924a28e178f9e54d5ab72477", func := "loop.example/g03111/laws.FnExactSameTerms", spec := "fnExactSameTerms", unfollowed := true, recurses := true, named := ["loop.example/g03111/impl.termForms", "loop.example/g03111/impl.typeForms"], loops := true, apart := false, laid := [("loop.example/g03111/impl.typeForms", laid_loop_example_g03111_impl_typeForms), ("loop.example/g03111/impl.termForms", laid_loop_example_g03111_impl_termForms)], narrowed := true }
def FnExactSameTermsUptoSaid : Prop := fnExactSameTermsUptoRow.holds Tryd.pinned (OpenSpec.upto fnExactSameTermsSpec)

/-- 'laws.FnExactUsesOf', WHERE WHAT IT READS IS OF BULK AT MOST 1048576: true; the input reads as it did. -/
def fnExactUsesOfUptoRow : OpenClaim := { program := "ytlbpefmocodkfaadoor", sum := "894e1a0f996571177249fa0441e9e1d076dce6a3924a28e178f9e54d5ab72477", func := "loop.example/g03111/laws.FnExactUsesOf", spec := "fnExactUsesOf", recurses := true, named := ["loop.example/g03111/impl.termForms", "loop.example/g03111/impl.typeForms"], loops := true, apart := false, laid := [("loop.example/g03111/impl.typeForms", laid_loop_example_g03111_impl_typeForms), ("loop.example/g03111/impl.termForms", laid_loop_example_g03111_impl_termForms)], narrowed := true }
def FnExactUsesOfUptoSaid : Prop := fnExactUsesOfUptoRow.holds Tryd.pinned (OpenSpec.upto fnExactUsesOfSpec)

/-- 'laws.FnExactShiftTerm', WHERE WHAT IT READS IS OF BULK AT MOST 1048576: true; the input reads as it did. -/
def fnExactShiftTermUptoRow : OpenClaim := { program := "ytlbpefmocodkfaadoor", sum := "894e1a0f996571177249fa0441e9e1d076dce6a3924a28e178f9e54d5ab72477", func := "loop.example/g03111/laws.FnExactShiftTerm", spec := "fnExactShiftTerm", unfollowed := true, recurses := true, named := ["loop.example/g03111/impl.termForms", "loop.example/g03111/impl.typeForms"], loops := true, apart := false, laid := [("loop.example/g03111/impl.typeForms", laid_loop_example_g03111_impl_typeForms), ("loop.example/g03111/impl.termForms", laid_loop_example_g03111_impl_termForms)], narrowed := true }
def FnExactShiftTermUptoSaid : Prop := fnExactShiftTermUptoRow.holds Tryd.pinned (OpenSpec.upto fnExactShiftTermSpec)

/-- 'laws.FnExactSubstituteTerm', WHERE WHAT IT READS IS OF BULK AT MOST 1048576: true; the input reads as it did. -/
def fnExactSubstituteTermUptoRow : OpenClaim := { program := "ytlbpefmocodkfaadoor", sum := "894e1a0f996571177249fa0441e9e1d076dce6a3924a28e178f9e54d5ab72477", func := "loop.example/g03111/laws.FnExactSubstituteTerm", spec := "fnExactSubstituteTerm", unfollowed := true, recurses := true, named := ["loop.example/g03111/impl.termForms", "loop.example/g03111/impl.typeForms"], loops := true, apart := false, laid := [("loop.example/g03111/impl.typeForms", laid_loop_example_g03111_impl_typeForms), ("loop.example/g03111/impl.termForms", laid_loop_example_g03111_impl_termForms)], narrowed := true }
def FnExactSubstituteTermUptoSaid : Prop := fnExactSubstituteTermUptoRow.holds Tryd.pinned (OpenSpec.upto fnExactSubstituteTermSpec)

/-- 'laws.FnExactTermAt', WHERE WHAT IT READS IS OF BULK AT MOST 1048576: true; the input reads as it did. -/
def fnExactTermAtUptoRow : OpenClaim := { program := "ytlbpefmocodkfaadoor", sum := "894e1a0f996571177249fa0441e9e1d076dce6a3924a28e178f9e54d5ab72477", func := "loop.example/g03111/laws.FnExactTermAt", spec := "fnExactTermAt", unfollowed := true, recurses := true, named := ["loop.example/g03111/impl.termForms", "loop.example/g03111/impl.typeForms"], loops := true, apart := false, laid := [("loop.example/g03111/impl.typeForms", laid_loop_example_g03111_impl_typeForms), ("loop.example/g03111/impl.termForms", laid_loop_example_g03111_impl_termForms)], narrowed := true }
def FnExactTermAtUptoSaid : Prop := fnExactTermAtUptoRow.holds Tryd.pinned (OpenSpec.upto fnExactTermAtSpec)

/-- 'laws.FnExactIsRedex', WHERE WHAT IT READS IS OF BULK AT MOST 1048576: true; the input reads as it did. -/
def fnExactIsRedexUptoRow : OpenClaim := { program := "ytlbpefmocodkfaadoor", sum := "894e1a0f996571177249fa0441e9e1d076dce6a3924a28e178f9e54d5ab72477", func := "loop.example/g03111/laws.FnExactIsRedex", spec := "fnExactIsRedex", recurses := true, named := ["loop.example/g03111/impl.termForms", "loop.example/g03111/impl.typeForms"], loops := true, apart := false, laid := [("loop.example/g03111/impl.typeForms", laid_loop_example_g03111_impl_typeForms), ("loop.example/g03111/impl.termForms", laid_loop_example_g03111_impl_termForms)], narrowed := true }
def FnExactIsRedexUptoSaid : Prop := fnExactIsRedexUptoRow.holds Tryd.pinned (OpenSpec.upto fnExactIsRedexSpec)

/-- 'laws.FnExactMapTerm', WHERE WHAT IT READS IS OF BULK AT MOST 1048576: true; the input reads as it did. -/
def fnExactMapTermUptoRow : OpenClaim := { program := "ytlbpefmocodkfaadoor", sum := "894e1a0f996571177249fa0441e9e1d076dce6a3924a28e178f9e54d5ab72477", func := "loop.example/g03111/laws.FnExactMapTerm", spec := "fnExactMapTerm", unfollowed := true, recurses := true, named := ["loop.example/g03111/impl.termForms", "loop.example/g03111/impl.typeForms"], loops := true, apart := false, laid := [("loop.example/g03111/impl.typeForms", laid_loop_example_g03111_impl_typeForms), ("loop.example/g03111/impl.termForms", laid_loop_example_g03111_impl_termForms)], narrowed := true }
def FnExactMapTermUptoSaid : Prop := fnExactMapTermUptoRow.holds Tryd.pinned (OpenSpec.upto fnExactMapTermSpec)

end Rows
end Go.Proofs.YtlbpefmocodkfaaDoor
