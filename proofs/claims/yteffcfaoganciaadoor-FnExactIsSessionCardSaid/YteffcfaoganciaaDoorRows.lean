/-
  NARROWER THAN 'FOR EVERY INPUT', by the rows' own cells (each row's printed sentence says how): FnExactIsSession: loops, laid · FnExactCountOpen: loops, laid · FnExactOpenAll: loops, laid · FnExactFillOpen: loops, laid · FnExactCountSeen: laid · FnExactBoxType: laid · FnExactForgetType: laid · FnExactPlaceOf: loops, laid · FnExactFormatGrades: laid.
  DERIVED. THE GIVEN ROWS OF THIS SEAT. 9 by the template 'for every input the law returns true; each argument reads behind the call as it read before'; 0 by the template 'total and deterministic' (their statements: YteffcfaoganciaaDoorTotals.lean).
  GIVEN WITH THE SEED: the statements are not yours to turn. If you find one false, say at which input.
  Laid BY PROGRAM, IN A SANDBOX (cutbox-rows.mjs): the forced cells as the released guide's own fill.sh prints them over the translation e565711700ac3584… (all of the seat's roots in one cut). By AI agents, Wed Nov 11 2026. No macro, syntax, notation, axiom, sorry.
-/
import Derived.Test.YteffcfaoganciaaDoorChecked
import GoSem.Claim
import GoSem.ClaimJoined
import GoSem.ClaimMapViews
import Derived.JoinedTies
import Derived.KernelRfl
namespace Go.Proofs.YteffcfaoganciaaDoor
/- THE CELL 'sum', in the pinned program and in every row, IS THE sha256 OF THE DUMP (.gsa) THAT YteffcfaoganciaaDoorProg.lean LOADS. Nothing in Lean hashes anything: it is a label: what it is worth is what the hold of that sum in a sandbox is worth. -/
noncomputable def Tryd.pinned : Pinned := { name := "yteffcfaoganciaadoor", sum := "e565711700ac35847dfeb53974740b3cf103364f6734f5c97e7465b52fdeb0c9", checked := Tryd.checked }
namespace Rows
def none {H : Type} : Left H := { results := [], args := [] }

/- WHAT THE LISTED PACKAGE-LEVEL VARIABLES READ AS WHEN THE CALL BEGINS. Each datum BY PROGRAM (the guide's laid-datum.mjs) off the statement by which the dump's own 'gosem.cut.vars' lays the variable. In a bare row this is a premise. The card (YteffcfaoganciaaDoorCards.lean) ties it to the program's text. -/
def laid_loop_example_g03111_impl_typeForms {H : Type} : DataW H := .agg [.agg [.lit (.string [110]), .lit (.int .i64 0), .lit (.int .i64 0), .lit (.int .i64 0), .lit (.bool false)], .agg [.lit (.string [42]), .lit (.int .i64 1), .lit (.int .i64 0), .lit (.int .i64 2), .lit (.bool false)], .agg [.lit (.string [43]), .lit (.int .i64 2), .lit (.int .i64 0), .lit (.int .i64 2), .lit (.bool false)], .agg [.lit (.string [62]), .lit (.int .i64 3), .lit (.int .i64 35), .lit (.int .i64 2), .lit (.bool true)], .agg [.lit (.string [33]), .lit (.int .i64 19), .lit (.int .i64 36), .lit (.int .i64 1), .lit (.bool true)]]
def laid_loop_example_g03111_impl_termForms {H : Type} : DataW H := .agg [.agg [.lit (.string []), .lit (.int .i64 0), .agg [.lit (.int .i64 0), .lit (.int .i64 0), .lit (.int .i64 0)], .lit (.bool false), .lit (.bool false)], .agg [.lit (.string []), .lit (.int .i64 0), .agg [.lit (.int .i64 0), .lit (.int .i64 0), .lit (.int .i64 0)], .lit (.bool false), .lit (.bool false)], .agg [.lit (.string [97, 100, 100]), .lit (.int .i64 2), .agg [.lit (.int .i64 0), .lit (.int .i64 0), .lit (.int .i64 0)], .lit (.bool false), .lit (.bool false)], .agg [.lit (.string [105, 102]), .lit (.int .i64 3), .agg [.lit (.int .i64 0), .lit (.int .i64 0), .lit (.int .i64 0)], .lit (.bool false), .lit (.bool false)], .agg [.lit (.string [112, 97, 105, 114]), .lit (.int .i64 2), .agg [.lit (.int .i64 0), .lit (.int .i64 0), .lit (.int .i64 0)], .lit (.bool false), .lit (.bool false)], .agg [.lit (.string [115, 112, 108, 105, 116]), .lit (.int .i64 2), .agg [.lit (.int .i64 0), .lit (.int .i64 2), .lit (.int .i64 0)], .lit (.bool true), .lit (.bool false)], .agg [.lit (.string [108, 101, 102, 116]), .lit (.int .i64 1), .agg [.lit (.int .i64 0), .lit (.int .i64 0), .lit (.int .i64 0)], .lit (.bool false), .lit (.bool true)], .agg [.lit (.string [114, 105, 103, 104, 116]), .lit (.int .i64 1), .agg [.lit (.int .i64 0), .lit (.int .i64 0), .lit (.int .i64 0)], .lit (.bool false), .lit (.bool true)], .agg [.lit (.string [99, 97, 115, 101]), .lit (.int .i64 3), .agg [.lit (.int .i64 0), .lit (.int .i64 1), .lit (.int .i64 1)], .lit (.bool true), .lit (.bool false)], .agg [.lit (.string [102, 117, 110]), .lit (.int .i64 1), .agg [.lit (.int .i64 1), .lit (.int .i64 0), .lit (.int .i64 0)], .lit (.bool true), .lit (.bool true)], .agg [.lit (.string [97, 112, 112]), .lit (.int .i64 2), .agg [.lit (.int .i64 0), .lit (.int .i64 0), .lit (.int .i64 0)], .lit (.bool false), .lit (.bool false)], .agg [.lit (.string [98, 111, 120]), .lit (.int .i64 1), .agg [.lit (.int .i64 0), .lit (.int .i64 0), .lit (.int .i64 0)], .lit (.bool true), .lit (.bool false)], .agg [.lit (.string [111, 112, 101, 110]), .lit (.int .i64 2), .agg [.lit (.int .i64 0), .lit (.int .i64 1), .lit (.int .i64 0)], .lit (.bool true), .lit (.bool false)]]
def laid_math_bits_deBruijn32tab {H : Type} : DataW H := .agg [.lit (.int .u8 0), .lit (.int .u8 1), .lit (.int .u8 28), .lit (.int .u8 2), .lit (.int .u8 29), .lit (.int .u8 14), .lit (.int .u8 24), .lit (.int .u8 3), .lit (.int .u8 30), .lit (.int .u8 22), .lit (.int .u8 20), .lit (.int .u8 15), .lit (.int .u8 25), .lit (.int .u8 17), .lit (.int .u8 4), .lit (.int .u8 8), .lit (.int .u8 31), .lit (.int .u8 27), .lit (.int .u8 13), .lit (.int .u8 23), .lit (.int .u8 21), .lit (.int .u8 19), .lit (.int .u8 16), .lit (.int .u8 7), .lit (.int .u8 26), .lit (.int .u8 12), .lit (.int .u8 18), .lit (.int .u8 6), .lit (.int .u8 11), .lit (.int .u8 5), .lit (.int .u8 10), .lit (.int .u8 9)]
def laid_math_bits_deBruijn64tab {H : Type} : DataW H := .agg [.lit (.int .u8 0), .lit (.int .u8 1), .lit (.int .u8 56), .lit (.int .u8 2), .lit (.int .u8 57), .lit (.int .u8 49), .lit (.int .u8 28), .lit (.int .u8 3), .lit (.int .u8 61), .lit (.int .u8 58), .lit (.int .u8 42), .lit (.int .u8 50), .lit (.int .u8 38), .lit (.int .u8 29), .lit (.int .u8 17), .lit (.int .u8 4), .lit (.int .u8 62), .lit (.int .u8 47), .lit (.int .u8 59), .lit (.int .u8 36), .lit (.int .u8 45), .lit (.int .u8 43), .lit (.int .u8 51), .lit (.int .u8 22), .lit (.int .u8 53), .lit (.int .u8 39), .lit (.int .u8 33), .lit (.int .u8 30), .lit (.int .u8 24), .lit (.int .u8 18), .lit (.int .u8 12), .lit (.int .u8 5), .lit (.int .u8 63), .lit (.int .u8 55), .lit (.int .u8 48), .lit (.int .u8 27), .lit (.int .u8 60), .lit (.int .u8 41), .lit (.int .u8 37), .lit (.int .u8 16), .lit (.int .u8 46), .lit (.int .u8 35), .lit (.int .u8 44), .lit (.int .u8 21), .lit (.int .u8 52), .lit (.int .u8 32), .lit (.int .u8 23), .lit (.int .u8 11), .lit (.int .u8 54), .lit (.int .u8 26), .lit (.int .u8 40), .lit (.int .u8 15), .lit (.int .u8 34), .lit (.int .u8 20), .lit (.int .u8 31), .lit (.int .u8 10), .lit (.int .u8 25), .lit (.int .u8 14), .lit (.int .u8 19), .lit (.int .u8 9), .lit (.int .u8 13), .lit (.int .u8 8), .lit (.int .u8 7), .lit (.int .u8 6)]
def laid_internal_strconv_uint64pow10 {H : Type} : DataW H := .agg [.lit (.int .u64 1), .lit (.int .u64 10), .lit (.int .u64 100), .lit (.int .u64 1000), .lit (.int .u64 10000), .lit (.int .u64 100000), .lit (.int .u64 1000000), .lit (.int .u64 10000000), .lit (.int .u64 100000000), .lit (.int .u64 1000000000), .lit (.int .u64 10000000000), .lit (.int .u64 100000000000), .lit (.int .u64 1000000000000), .lit (.int .u64 10000000000000), .lit (.int .u64 100000000000000), .lit (.int .u64 1000000000000000), .lit (.int .u64 10000000000000000), .lit (.int .u64 100000000000000000), .lit (.int .u64 1000000000000000000), .lit (.int .u64 10000000000000000000)]

/-- 'laws.FnExactIsSession': WHATEVER THE INPUT: true; the input reads as it did. -/
def fnExactIsSessionSpec : ChangeSpec := { name := "fnExactIsSession", vars := ["loop.example/g03111/impl.typeForms", "loop.example/g03111/impl.termForms"], fn := fun _ => fun
  | [d, g1, g2] => { results := [.lit (.bool true)], args := [d], vars := [g1, g2] }
  | _ => none }
def fnExactIsSessionRow : OpenClaim := { program := "yteffcfaoganciaadoor", sum := "e565711700ac35847dfeb53974740b3cf103364f6734f5c97e7465b52fdeb0c9", func := "loop.example/g03111/laws.FnExactIsSession", spec := "fnExactIsSession", recurses := true, named := ["loop.example/g03111/impl.typeForms", "loop.example/g03111/impl.termForms"], loops := true, apart := false, laid := [("loop.example/g03111/impl.typeForms", laid_loop_example_g03111_impl_typeForms), ("loop.example/g03111/impl.termForms", laid_loop_example_g03111_impl_termForms)] }
def FnExactIsSessionSaid : Prop := fnExactIsSessionRow.holds Tryd.pinned (OpenSpec.ofChange fnExactIsSessionSpec)

/-- ITS FALSE NEIGHBOUR: 'it returns false'. Refute it at one input. -/
def fnExactIsSessionWrong : ChangeSpec := { name := "fnExactIsSession", vars := ["loop.example/g03111/impl.typeForms", "loop.example/g03111/impl.termForms"], fn := fun _ => fun
  | [d, g1, g2] => { results := [.lit (.bool false)], args := [d], vars := [g1, g2] }
  | _ => none }
def FnExactIsSessionWrongFalsely : Prop := fnExactIsSessionRow.holds Tryd.pinned (OpenSpec.ofChange fnExactIsSessionWrong)

/-- 'laws.FnExactCountOpen': WHATEVER THE INPUT: true; the input reads as it did. -/
def fnExactCountOpenSpec : ChangeSpec := { name := "fnExactCountOpen", vars := ["loop.example/g03111/impl.termForms", "loop.example/g03111/impl.typeForms"], fn := fun _ => fun
  | [d, g1, g2] => { results := [.lit (.bool true)], args := [d], vars := [g1, g2] }
  | _ => none }
def fnExactCountOpenRow : OpenClaim := { program := "yteffcfaoganciaadoor", sum := "e565711700ac35847dfeb53974740b3cf103364f6734f5c97e7465b52fdeb0c9", func := "loop.example/g03111/laws.FnExactCountOpen", spec := "fnExactCountOpen", unfollowed := true, recurses := true, named := ["loop.example/g03111/impl.termForms", "loop.example/g03111/impl.typeForms"], loops := true, apart := false, laid := [("loop.example/g03111/impl.typeForms", laid_loop_example_g03111_impl_typeForms), ("loop.example/g03111/impl.termForms", laid_loop_example_g03111_impl_termForms)] }
def FnExactCountOpenSaid : Prop := fnExactCountOpenRow.holds Tryd.pinned (OpenSpec.ofChange fnExactCountOpenSpec)

/-- ITS FALSE NEIGHBOUR: 'it returns false'. Refute it at one input. -/
def fnExactCountOpenWrong : ChangeSpec := { name := "fnExactCountOpen", vars := ["loop.example/g03111/impl.termForms", "loop.example/g03111/impl.typeForms"], fn := fun _ => fun
  | [d, g1, g2] => { results := [.lit (.bool false)], args := [d], vars := [g1, g2] }
  | _ => none }
def FnExactCountOpenWrongFalsely : Prop := fnExactCountOpenRow.holds Tryd.pinned (OpenSpec.ofChange fnExactCountOpenWrong)

/-- 'laws.FnExactOpenAll': WHATEVER THE INPUT: true; the input reads as it did. -/
def fnExactOpenAllSpec : ChangeSpec := { name := "fnExactOpenAll", vars := ["loop.example/g03111/impl.termForms", "loop.example/g03111/impl.typeForms"], fn := fun _ => fun
  | [d, g1, g2] => { results := [.lit (.bool true)], args := [d], vars := [g1, g2] }
  | _ => none }
def fnExactOpenAllRow : OpenClaim := { program := "yteffcfaoganciaadoor", sum := "e565711700ac35847dfeb53974740b3cf103364f6734f5c97e7465b52fdeb0c9", func := "loop.example/g03111/laws.FnExactOpenAll", spec := "fnExactOpenAll", unfollowed := true, recurses := true, named := ["loop.example/g03111/impl.termForms", "loop.example/g03111/impl.typeForms"], loops := true, apart := false, laid := [("loop.example/g03111/impl.typeForms", laid_loop_example_g03111_impl_typeForms), ("loop.example/g03111/impl.termForms", laid_loop_example_g03111_impl_termForms)] }
def FnExactOpenAllSaid : Prop := fnExactOpenAllRow.holds Tryd.pinned (OpenSpec.ofChange fnExactOpenAllSpec)

/-- ITS FALSE NEIGHBOUR: 'it returns false'. Refute it at one input. -/
def fnExactOpenAllWrong : ChangeSpec := { name := "fnExactOpenAll", vars := ["loop.example/g03111/impl.termForms", "loop.example/g03111/impl.typeForms"], fn := fun _ => fun
  | [d, g1, g2] => { results := [.lit (.bool false)], args := [d], vars := [g1, g2] }
  | _ => none }
def FnExactOpenAllWrongFalsely : Prop := fnExactOpenAllRow.holds Tryd.pinned (OpenSpec.ofChange fnExactOpenAllWrong)

/-- 'laws.FnExactFillOpen': WHATEVER THE INPUT: true; the input reads as it did. -/
def fnExactFillOpenSpec : ChangeSpec := { name := "fnExactFillOpen", vars := ["loop.example/g03111/impl.termForms", "loop.example/g03111/impl.typeForms"], fn := fun _ => fun
  | [d1, d2, g1, g2] => { results := [.lit (.bool true)], args := [d1, d2], vars := [g1, g2] }
  | _ => none }
def fnExactFillOpenRow : OpenClaim := { program := "yteffcfaoganciaadoor", sum := "e565711700ac35847dfeb53974740b3cf103364f6734f5c97e7465b52fdeb0c9", func := "loop.example/g03111/laws.FnExactFillOpen", spec := "fnExactFillOpen", unfollowed := true, recurses := true, named := ["loop.example/g03111/impl.termForms", "loop.example/g03111/impl.typeForms"], loops := true, apart := false, laid := [("loop.example/g03111/impl.typeForms", laid_loop_example_g03111_impl_typeForms), ("loop.example/g03111/impl.termForms", laid_loop_example_g03111_impl_termForms)] }
def FnExactFillOpenSaid : Prop := fnExactFillOpenRow.holds Tryd.pinned (OpenSpec.ofChange fnExactFillOpenSpec)

/-- ITS FALSE NEIGHBOUR: 'it returns false'. Refute it at one input. -/
def fnExactFillOpenWrong : ChangeSpec := { name := "fnExactFillOpen", vars := ["loop.example/g03111/impl.termForms", "loop.example/g03111/impl.typeForms"], fn := fun _ => fun
  | [d1, d2, g1, g2] => { results := [.lit (.bool false)], args := [d1, d2], vars := [g1, g2] }
  | _ => none }
def FnExactFillOpenWrongFalsely : Prop := fnExactFillOpenRow.holds Tryd.pinned (OpenSpec.ofChange fnExactFillOpenWrong)

/-- 'laws.FnExactCountSeen': WHATEVER THE INPUT: true; the input reads as it did. -/
def fnExactCountSeenSpec : ChangeSpec := { name := "fnExactCountSeen", vars := ["loop.example/g03111/impl.typeForms"], fn := fun _ => fun
  | [d1, d2, d3, g1] => { results := [.lit (.bool true)], args := [d1, d2, d3], vars := [g1] }
  | _ => none }
def fnExactCountSeenRow : OpenClaim := { program := "yteffcfaoganciaadoor", sum := "e565711700ac35847dfeb53974740b3cf103364f6734f5c97e7465b52fdeb0c9", func := "loop.example/g03111/laws.FnExactCountSeen", spec := "fnExactCountSeen", unfollowed := true, recurses := true, named := ["loop.example/g03111/impl.typeForms"], apart := false, laid := [("loop.example/g03111/impl.typeForms", laid_loop_example_g03111_impl_typeForms)] }
def FnExactCountSeenSaid : Prop := fnExactCountSeenRow.holds Tryd.pinned (OpenSpec.ofChange fnExactCountSeenSpec)

/-- ITS FALSE NEIGHBOUR: 'it returns false'. Refute it at one input. -/
def fnExactCountSeenWrong : ChangeSpec := { name := "fnExactCountSeen", vars := ["loop.example/g03111/impl.typeForms"], fn := fun _ => fun
  | [d1, d2, d3, g1] => { results := [.lit (.bool false)], args := [d1, d2, d3], vars := [g1] }
  | _ => none }
def FnExactCountSeenWrongFalsely : Prop := fnExactCountSeenRow.holds Tryd.pinned (OpenSpec.ofChange fnExactCountSeenWrong)

/-- 'laws.FnExactBoxType': WHATEVER THE INPUT: true; the input reads as it did. -/
def fnExactBoxTypeSpec : ChangeSpec := { name := "fnExactBoxType", vars := ["loop.example/g03111/impl.typeForms", "loop.example/g03111/impl.termForms"], fn := fun _ => fun
  | [d, g1, g2] => { results := [.lit (.bool true)], args := [d], vars := [g1, g2] }
  | _ => none }
def fnExactBoxTypeRow : OpenClaim := { program := "yteffcfaoganciaadoor", sum := "e565711700ac35847dfeb53974740b3cf103364f6734f5c97e7465b52fdeb0c9", func := "loop.example/g03111/laws.FnExactBoxType", spec := "fnExactBoxType", unfollowed := true, recurses := true, named := ["loop.example/g03111/impl.typeForms", "loop.example/g03111/impl.termForms"], apart := false, laid := [("loop.example/g03111/impl.typeForms", laid_loop_example_g03111_impl_typeForms), ("loop.example/g03111/impl.termForms", laid_loop_example_g03111_impl_termForms)] }
def FnExactBoxTypeSaid : Prop := fnExactBoxTypeRow.holds Tryd.pinned (OpenSpec.ofChange fnExactBoxTypeSpec)

/-- ITS FALSE NEIGHBOUR: 'it returns false'. Refute it at one input. -/
def fnExactBoxTypeWrong : ChangeSpec := { name := "fnExactBoxType", vars := ["loop.example/g03111/impl.typeForms", "loop.example/g03111/impl.termForms"], fn := fun _ => fun
  | [d, g1, g2] => { results := [.lit (.bool false)], args := [d], vars := [g1, g2] }
  | _ => none }
def FnExactBoxTypeWrongFalsely : Prop := fnExactBoxTypeRow.holds Tryd.pinned (OpenSpec.ofChange fnExactBoxTypeWrong)

/-- 'laws.FnExactForgetType': WHATEVER THE INPUT: true; the input reads as it did. -/
def fnExactForgetTypeSpec : ChangeSpec := { name := "fnExactForgetType", vars := ["loop.example/g03111/impl.typeForms"], fn := fun _ => fun
  | [d, g1] => { results := [.lit (.bool true)], args := [d], vars := [g1] }
  | _ => none }
def fnExactForgetTypeRow : OpenClaim := { program := "yteffcfaoganciaadoor", sum := "e565711700ac35847dfeb53974740b3cf103364f6734f5c97e7465b52fdeb0c9", func := "loop.example/g03111/laws.FnExactForgetType", spec := "fnExactForgetType", unfollowed := true, recurses := true, named := ["loop.example/g03111/impl.typeForms"], apart := false, laid := [("loop.example/g03111/impl.typeForms", laid_loop_example_g03111_impl_typeForms)] }
def FnExactForgetTypeSaid : Prop := fnExactForgetTypeRow.holds Tryd.pinned (OpenSpec.ofChange fnExactForgetTypeSpec)

/-- ITS FALSE NEIGHBOUR: 'it returns false'. Refute it at one input. -/
def fnExactForgetTypeWrong : ChangeSpec := { name := "fnExactForgetType", vars := ["loop.example/g03111/impl.typeForms"], fn := fun _ => fun
  | [d, g1] => { results := [.lit (.bool false)], args := [d], vars := [g1] }
  | _ => none }
def FnExactForgetTypeWrongFalsely : Prop := fnExactForgetTypeRow.holds Tryd.pinned (OpenSpec.ofChange fnExactForgetTypeWrong)

/-- 'laws.FnExactPlaceOf': WHATEVER THE INPUT: true; the input reads as it did. -/
def fnExactPlaceOfSpec : ChangeSpec := { name := "fnExactPlaceOf", vars := ["loop.example/g03111/impl.typeForms", "loop.example/g03111/impl.termForms"], fn := fun _ => fun
  | [d1, d2, d3, g1, g2] => { results := [.lit (.bool true)], args := [d1, d2, d3], vars := [g1, g2] }
  | _ => none }
def fnExactPlaceOfRow : OpenClaim := { program := "yteffcfaoganciaadoor", sum := "e565711700ac35847dfeb53974740b3cf103364f6734f5c97e7465b52fdeb0c9", func := "loop.example/g03111/laws.FnExactPlaceOf", spec := "fnExactPlaceOf", unfollowed := true, recurses := true, named := ["loop.example/g03111/impl.typeForms", "loop.example/g03111/impl.termForms"], loops := true, apart := false, laid := [("loop.example/g03111/impl.typeForms", laid_loop_example_g03111_impl_typeForms), ("loop.example/g03111/impl.termForms", laid_loop_example_g03111_impl_termForms)] }
def FnExactPlaceOfSaid : Prop := fnExactPlaceOfRow.holds Tryd.pinned (OpenSpec.ofChange fnExactPlaceOfSpec)

/-- ITS FALSE NEIGHBOUR: 'it returns false'. Refute it at one input. -/
def fnExactPlaceOfWrong : ChangeSpec := { name := "fnExactPlaceOf", vars := ["loop.example/g03111/impl.typeForms", "loop.example/g03111/impl.termForms"], fn := fun _ => fun
  | [d1, d2, d3, g1, g2] => { results := [.lit (.bool false)], args := [d1, d2, d3], vars := [g1, g2] }
  | _ => none }
def FnExactPlaceOfWrongFalsely : Prop := fnExactPlaceOfRow.holds Tryd.pinned (OpenSpec.ofChange fnExactPlaceOfWrong)

/-- 'laws.FnExactFormatGrades': WHATEVER THE INPUT: true; the input reads as it did. -/
def fnExactFormatGradesSpec : ChangeSpec := { name := "fnExactFormatGrades", fn := fun _ => fun
  | [d] => { results := [.lit (.bool true)], args := [d] }
  | _ => none }
def fnExactFormatGradesRow : OpenClaim := { program := "yteffcfaoganciaadoor", sum := "e565711700ac35847dfeb53974740b3cf103364f6734f5c97e7465b52fdeb0c9", func := "loop.example/g03111/laws.FnExactFormatGrades", spec := "fnExactFormatGrades", inPlace := ["internal/abi.NoEscape", "internal/bytealg.MakeNoZero"], recurses := true, named := ["internal/strconv.uint64pow10", "math/bits.deBruijn32tab", "math/bits.deBruijn64tab"], apart := false, laid := [("math/bits.deBruijn32tab", laid_math_bits_deBruijn32tab), ("math/bits.deBruijn64tab", laid_math_bits_deBruijn64tab), ("internal/strconv.uint64pow10", laid_internal_strconv_uint64pow10)] }
def FnExactFormatGradesSaid : Prop := fnExactFormatGradesRow.holds Tryd.pinned (OpenSpec.ofChange fnExactFormatGradesSpec)

/-- ITS FALSE NEIGHBOUR: 'it returns false'. Refute it at one input. -/
def fnExactFormatGradesWrong : ChangeSpec := { name := "fnExactFormatGrades", fn := fun _ => fun
  | [d] => { results := [.lit (.bool false)], args := [d] }
  | _ => none }
def FnExactFormatGradesWrongFalsely : Prop := fnExactFormatGradesRow.holds Tryd.pinned (OpenSpec.ofChange fnExactFormatGradesWrong)

/- THE SECOND FORM. 'bulk': how many values and letters a reading holds, each counted each time it is reached (what is shared counts as often as it is met; a slice's spare places count too). A statement '..UptoSaid' is the law's where the arguments, and the package variables that the reading takes, are together of bulk at most 1048576: NARROWER than '..Said'. Prove '..Said' where nothing that the law and all that it calls make is longer than what came in: it says more and counts as full. Else prove '..UptoSaid'. A law counts once. -/
mutual
def uptoBulk {H : Type} : DataW H → Nat
  | .lit (.string bytes) => bytes.length + 1
  | .lit _ => 1
  | .nil => 1
  | .ptr d => uptoBulk d + 1
  | .slice elems spare => uptoBulkAll elems + uptoBulkAll spare + 1
  | .agg parts => uptoBulkAll parts + 1
  | .iface _ d => uptoBulk d + 1
  | .map entries => uptoBulkEntries entries + 1
  | .held _ => 1
def uptoBulkAll {H : Type} : List (DataW H) → Nat
  | [] => 0
  | d :: r => uptoBulk d + uptoBulkAll r
def uptoBulkEntries {H : Type} : List (Lit × DataW H) → Nat
  | [] => 0
  | x :: r => uptoBulkEntry x + uptoBulkEntries r
def uptoBulkEntry {H : Type} : Lit × DataW H → Nat
  | (.string bytes, d) => bytes.length + uptoBulk d + 1
  | (_, d) => uptoBulk d + 1
 end
def uptoSmall : (H : Type) → List (DataW H) → Bool := fun _ ds => decide (uptoBulkAll ds ≤ 1048576)
def OpenSpec.upto (s : _root_.Go.ChangeSpec) : _root_.Go.OpenSpec := { _root_.Go.OpenSpec.ofChange s with cond := some uptoSmall }

/-- 'laws.FnExactIsSession', WHERE WHAT IT READS IS OF BULK AT MOST 1048576: true; the input reads as it did. -/
def fnExactIsSessionUptoRow : OpenClaim := { program := "yteffcfaoganciaadoor", sum := "e565711700ac35847dfeb53974740b3cf103364f6734f5c97e7465b52fdeb0c9", func := "loop.example/g03111/laws.FnExactIsSession", spec := "fnExactIsSession", recurses := true, named := ["loop.example/g03111/impl.typeForms", "loop.example/g03111/impl.termForms"], loops := true, apart := false, laid := [("loop.example/g03111/impl.typeForms", laid_loop_example_g03111_impl_typeForms), ("loop.example/g03111/impl.termForms", laid_loop_example_g03111_impl_termForms)], narrowed := true }
def FnExactIsSessionUptoSaid : Prop := fnExactIsSessionUptoRow.holds Tryd.pinned (OpenSpec.upto fnExactIsSessionSpec)

/-- 'laws.FnExactCountOpen', WHERE WHAT IT READS IS OF BULK AT MOST 1048576: true; the input reads as it did. -/
def fnExactCountOpenUptoRow : OpenClaim := { program := "yteffcfaoganciaadoor", sum := "e565711700ac35847dfeb53974740b3cf103364f6734f5c97e7465b52fdeb0c9", func := "loop.example/g03111/laws.FnExactCountOpen", spec := "fnExactCountOpen", unfollowed := true, recurses := true, named := ["loop.example/g03111/impl.termForms", "loop.example/g03111/impl.typeForms"], loops := true, apart := false, laid := [("loop.example/g03111/impl.typeForms", laid_loop_example_g03111_impl_typeForms), ("loop.example/g03111/impl.termForms", laid_loop_example_g03111_impl_termForms)], narrowed := true }
def FnExactCountOpenUptoSaid : Prop := fnExactCountOpenUptoRow.holds Tryd.pinned (OpenSpec.upto fnExactCountOpenSpec)

/-- 'laws.FnExactOpenAll', WHERE WHAT IT READS IS OF BULK AT MOST 1048576: true; the input reads as it did. -/
def fnExactOpenAllUptoRow : OpenClaim := { program := "yteffcfaoganciaadoor", sum := "e565711700ac35847dfeb53974740b3cf103364f6734f5c97e7465b52fdeb0c9", func := "loop.example/g03111/laws.FnExactOpenAll", spec := "fnExactOpenAll", unfollowed := true, recurses := true, named := ["loop.example/g03111/impl.termForms", "loop.example/g03111/impl.typeForms"], loops := true, apart := false, laid := [("loop.example/g03111/impl.typeForms", laid_loop_example_g03111_impl_typeForms), ("loop.example/g03111/impl.termForms", laid_loop_example_g03111_impl_termForms)], narrowed := true }
def FnExactOpenAllUptoSaid : Prop := fnExactOpenAllUptoRow.holds Tryd.pinned (OpenSpec.upto fnExactOpenAllSpec)

/-- 'laws.FnExactFillOpen', WHERE WHAT IT READS IS OF BULK AT MOST 1048576: true; the input reads as it did. -/
def fnExactFillOpenUptoRow : OpenClaim := { program := "yteffcfaoganciaadoor", sum := "e565711700ac35847dfeb53974740b3cf103364f6734f5c97e7465b52fdeb0c9", func := "loop.example/g03111/laws.FnExactFillOpen", spec := "fnExactFillOpen", unfollowed := true, recurses := true, named := ["loop.example/g03111/impl.termForms", "loop.example/g03111/impl.typeForms"], loops := true, apart := false, laid := [("loop.example/g03111/impl.typeForms", laid_loop_example_g03111_impl_typeForms), ("loop.example/g03111/impl.termForms", laid_loop_example_g03111_impl_termForms)], narrowed := true }
def FnExactFillOpenUptoSaid : Prop := fnExactFillOpenUptoRow.holds Tryd.pinned (OpenSpec.upto fnExactFillOpenSpec)

/-- 'laws.FnExactCountSeen', WHERE WHAT IT READS IS OF BULK AT MOST 1048576: true; the input reads as it did. -/
def fnExactCountSeenUptoRow : OpenClaim := { program := "yteffcfaoganciaadoor", sum := "e565711700ac35847dfeb53974740b3cf103364f6734f5c97e7465b52fdeb0c9", func := "loop.example/g03111/laws.FnExactCountSeen", spec := "fnExactCountSeen", unfollowed := true, recurses := true, named := ["loop.example/g03111/impl.typeForms"], apart := false, laid := [("loop.example/g03111/impl.typeForms", laid_loop_example_g03111_impl_typeForms)], narrowed := true }
def FnExactCountSeenUptoSaid : Prop := fnExactCountSeenUptoRow.holds Tryd.pinned (OpenSpec.upto fnExactCountSeenSpec)

/-- 'laws.FnExactBoxType', WHERE WHAT IT READS IS OF BULK AT MOST 1048576: true; the input reads as it did. -/
def fnExactBoxTypeUptoRow : OpenClaim := { program := "yteffcfaoganciaadoor", sum := "e565711700ac35847dfeb53974740b3cf103364f6734f5c97e7465b52fdeb0c9", func := "loop.example/g03111/laws.FnExactBoxType", spec := "fnExactBoxType", unfollowed := true, recurses := true, named := ["loop.example/g03111/impl.typeForms", "loop.example/g03111/impl.termForms"], apart := false, laid := [("loop.example/g03111/impl.typeForms", laid_loop_example_g03111_impl_typeForms), ("loop.example/g03111/impl.termForms", laid_loop_example_g03111_impl_termForms)], narrowed := true }
def FnExactBoxTypeUptoSaid : Prop := fnExactBoxTypeUptoRow.holds Tryd.pinned (OpenSpec.upto fnExactBoxTypeSpec)

/-- 'laws.FnExactForgetType', WHERE WHAT IT READS IS OF BULK AT MOST 1048576: true; the input reads as it did. -/
def fnExactForgetTypeUptoRow : OpenClaim := { program := "yteffcfaoganciaadoor", sum := "e565711700ac35847dfeb53974740b3cf103364f6734f5c97e7465b52fdeb0c9", func := "loop.example/g03111/laws.FnExactForgetType", spec := "fnExactForgetType", unfollowed := true, recurses := true, named := ["loop.example/g03111/impl.typeForms"], apart := false, laid := [("loop.example/g03111/impl.typeForms", laid_loop_example_g03111_impl_typeForms)], narrowed := true }
def FnExactForgetTypeUptoSaid : Prop := fnExactForgetTypeUptoRow.holds Tryd.pinned (OpenSpec.upto fnExactForgetTypeSpec)

/-- 'laws.FnExactPlaceOf', WHERE WHAT IT READS IS OF BULK AT MOST 1048576: true; the input reads as it did. -/
def fnExactPlaceOfUptoRow : OpenClaim := { program := "yteffcfaoganciaadoor", sum := "e565711700ac35847dfeb53974740b3cf103364f6734f5c97e7465b52fdeb0c9", func := "loop.example/g03111/laws.FnExactPlaceOf", spec := "fnExactPlaceOf", unfollowed := true, recurses := true, named := ["loop.example/g03111/impl.typeForms", "loop.example/g03111/impl.termForms"], loops := true, apart := false, laid := [("loop.example/g03111/impl.typeForms", laid_loop_example_g03111_impl_typeForms), ("loop.example/g03111/impl.termForms", laid_loop_example_g03111_impl_termForms)], narrowed := true }
def FnExactPlaceOfUptoSaid : Prop := fnExactPlaceOfUptoRow.holds Tryd.pinned (OpenSpec.upto fnExactPlaceOfSpec)

/-- 'laws.FnExactFormatGrades', WHERE WHAT IT READS IS OF BULK AT MOST 1048576: true; the input reads as it did. -/
def fnExactFormatGradesUptoRow : OpenClaim := { program := "yteffcfaoganciaadoor", sum := "e565711700ac35847dfeb53974740b3cf103364f6734f5c97e7465b52fdeb0c9", func := "loop.example/g03111/laws.FnExactFormatGrades", spec := "fnExactFormatGrades", inPlace := ["internal/abi.NoEscape", "internal/bytealg.MakeNoZero"], recurses := true, named := ["internal/strconv.uint64pow10", "math/bits.deBruijn32tab", "math/bits.deBruijn64tab"], apart := false, laid := [("math/bits.deBruijn32tab", laid_math_bits_deBruijn32tab), ("math/bits.deBruijn64tab", laid_math_bits_deBruijn64tab), ("internal/strconv.uint64pow10", laid_internal_strconv_uint64pow10)], narrowed := true }
def FnExactFormatGradesUptoSaid : Prop := fnExactFormatGradesUptoRow.holds Tryd.pinned (OpenSpec.upto fnExactFormatGradesSpec)

end Rows
end Go.Proofs.YteffcfaoganciaaDoor
