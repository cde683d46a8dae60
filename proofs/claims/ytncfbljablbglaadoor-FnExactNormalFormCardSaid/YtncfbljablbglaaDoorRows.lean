/-
  NARROWER THAN 'FOR EVERY INPUT', by the rows' own cells (each row's printed sentence says how): FnExactNormalForm: loops, laid · FnExactMapType: laid · FnExactMapTerm: loops, laid · FnExactOpenAll: loops, laid · FnExactFillOpen: loops, laid.
  DERIVED. THE GIVEN ROWS OF THIS SEAT. 5 by the template 'for every input the law returns true; each argument reads behind the call as it read before'; 0 by the template 'total and deterministic' (their statements: YtncfbljablbglaaDoorTotals.lean).
  GIVEN WITH THE SEED: the statements are not yours to turn. If you find one false, say at which input.
  Laid BY PROGRAM, IN A SANDBOX (cutbox-rows.mjs): the forced cells as the released guide's own fill.sh prints them over the translation bbc00128509e1ee3… (all of the seat's roots in one cut). By AI agents, Wed Nov 11 2026. No macro, syntax, notation, axiom, sorry.
-/
import Derived.Test.YtncfbljablbglaaDoorChecked
import GoSem.Claim
import GoSem.ClaimJoined
import GoSem.ClaimMapViews
import Derived.JoinedTies
import Derived.KernelRfl
namespace Go.Proofs.YtncfbljablbglaaDoor
/- THE CELL 'sum', in the pinned program and in every row, IS THE sha256 OF THE DUMP (.gsa) THAT YtncfbljablbglaaDoorProg.lean LOADS. Nothing in Lean hashes anything: it is a label: what it is worth is what the hold of that sum in a sandbox is worth. -/
noncomputable def Tryd.pinned : Pinned := { name := "ytncfbljablbglaadoor", sum := "bbc00128509e1ee3b7cba1fce9646518530f2f3d4ba25615460142a2be24d3b5", checked := Tryd.checked }
namespace Rows
def none {H : Type} : Left H := { results := [], args := [] }

/- WHAT THE LISTED PACKAGE-LEVEL VARIABLES READ AS WHEN THE CALL BEGINS. Each datum BY PROGRAM (the guide's laid-datum.mjs) off the statement by which the dump's own 'gosem.cut.vars' lays the variable. In a bare row this is a premise. The card (YtncfbljablbglaaDoorCards.lean) ties it to the program's text. -/
def laid_loop_example_g03111_impl_typeForms {H : Type} : DataW H := .agg [.agg [.lit (.string [110]), .lit (.int .i64 0), .lit (.int .i64 0), .lit (.int .i64 0), .lit (.bool false)], .agg [.lit (.string [42]), .lit (.int .i64 1), .lit (.int .i64 0), .lit (.int .i64 2), .lit (.bool false)], .agg [.lit (.string [43]), .lit (.int .i64 2), .lit (.int .i64 0), .lit (.int .i64 2), .lit (.bool false)], .agg [.lit (.string [62]), .lit (.int .i64 3), .lit (.int .i64 35), .lit (.int .i64 2), .lit (.bool true)], .agg [.lit (.string [33]), .lit (.int .i64 19), .lit (.int .i64 36), .lit (.int .i64 1), .lit (.bool true)]]
def laid_loop_example_g03111_impl_termForms {H : Type} : DataW H := .agg [.agg [.lit (.string []), .lit (.int .i64 0), .agg [.lit (.int .i64 0), .lit (.int .i64 0), .lit (.int .i64 0)], .lit (.bool false), .lit (.bool false)], .agg [.lit (.string []), .lit (.int .i64 0), .agg [.lit (.int .i64 0), .lit (.int .i64 0), .lit (.int .i64 0)], .lit (.bool false), .lit (.bool false)], .agg [.lit (.string [97, 100, 100]), .lit (.int .i64 2), .agg [.lit (.int .i64 0), .lit (.int .i64 0), .lit (.int .i64 0)], .lit (.bool false), .lit (.bool false)], .agg [.lit (.string [105, 102]), .lit (.int .i64 3), .agg [.lit (.int .i64 0), .lit (.int .i64 0), .lit (.int .i64 0)], .lit (.bool false), .lit (.bool false)], .agg [.lit (.string [112, 97, 105, 114]), .lit (.int .i64 2), .agg [.lit (.int .i64 0), .lit (.int .i64 0), .lit (.int .i64 0)], .lit (.bool false), .lit (.bool false)], .agg [.lit (.string [115, 112, 108, 105, 116]), .lit (.int .i64 2), .agg [.lit (.int .i64 0), .lit (.int .i64 2), .lit (.int .i64 0)], .lit (.bool true), .lit (.bool false)], .agg [.lit (.string [108, 101, 102, 116]), .lit (.int .i64 1), .agg [.lit (.int .i64 0), .lit (.int .i64 0), .lit (.int .i64 0)], .lit (.bool false), .lit (.bool true)], .agg [.lit (.string [114, 105, 103, 104, 116]), .lit (.int .i64 1), .agg [.lit (.int .i64 0), .lit (.int .i64 0), .lit (.int .i64 0)], .lit (.bool false), .lit (.bool true)], .agg [.lit (.string [99, 97, 115, 101]), .lit (.int .i64 3), .agg [.lit (.int .i64 0), .lit (.int .i64 1), .lit (.int .i64 1)], .lit (.bool true), .lit (.bool false)], .agg [.lit (.string [102, 117, 110]), .lit (.int .i64 1), .agg [.lit (.int .i64 1), .lit (.int .i64 0), .lit (.int .i64 0)], .lit (.bool true), .lit (.bool true)], .agg [.lit (.string [97, 112, 112]), .lit (.int .i64 2), .agg [.lit (.int .i64 0), .lit (.int .i64 0), .lit (.int .i64 0)], .lit (.bool false), .lit (.bool false)], .agg [.lit (.string [98, 111, 120]), .lit (.int .i64 1), .agg [.lit (.int .i64 0), .lit (.int .i64 0), .lit (.int .i64 0)], .lit (.bool true), .lit (.bool false)], .agg [.lit (.string [111, 112, 101, 110]), .lit (.int .i64 2), .agg [.lit (.int .i64 0), .lit (.int .i64 1), .lit (.int .i64 0)], .lit (.bool true), .lit (.bool false)]]

/-- 'laws.FnExactNormalForm': WHATEVER THE INPUT: true; the input reads as it did. -/
def fnExactNormalFormSpec : ChangeSpec := { name := "fnExactNormalForm", vars := ["loop.example/g03111/impl.termForms", "loop.example/g03111/impl.typeForms"], fn := fun _ => fun
  | [d1, d2, g1, g2] => { results := [.lit (.bool true)], args := [d1, d2], vars := [g1, g2] }
  | _ => none }
def fnExactNormalFormRow : OpenClaim := { program := "ytncfbljablbglaadoor", sum := "bbc00128509e1ee3b7cba1fce9646518530f2f3d4ba25615460142a2be24d3b5", func := "loop.example/g03111/laws.FnExactNormalForm", spec := "fnExactNormalForm", unfollowed := true, recurses := true, named := ["loop.example/g03111/impl.termForms", "loop.example/g03111/impl.typeForms"], loops := true, apart := false, laid := [("loop.example/g03111/impl.typeForms", laid_loop_example_g03111_impl_typeForms), ("loop.example/g03111/impl.termForms", laid_loop_example_g03111_impl_termForms)] }
def FnExactNormalFormSaid : Prop := fnExactNormalFormRow.holds Tryd.pinned (OpenSpec.ofChange fnExactNormalFormSpec)

/-- ITS FALSE NEIGHBOUR: 'it returns false'. Refute it at one input. -/
def fnExactNormalFormWrong : ChangeSpec := { name := "fnExactNormalForm", vars := ["loop.example/g03111/impl.termForms", "loop.example/g03111/impl.typeForms"], fn := fun _ => fun
  | [d1, d2, g1, g2] => { results := [.lit (.bool false)], args := [d1, d2], vars := [g1, g2] }
  | _ => none }
def FnExactNormalFormWrongFalsely : Prop := fnExactNormalFormRow.holds Tryd.pinned (OpenSpec.ofChange fnExactNormalFormWrong)

/-- 'laws.FnExactMapType': WHATEVER THE INPUT: true; the input reads as it did. -/
def fnExactMapTypeSpec : ChangeSpec := { name := "fnExactMapType", vars := ["loop.example/g03111/impl.typeForms"], fn := fun _ => fun
  | [d1, d2, g1] => { results := [.lit (.bool true)], args := [d1, d2], vars := [g1] }
  | _ => none }
def fnExactMapTypeRow : OpenClaim := { program := "ytncfbljablbglaadoor", sum := "bbc00128509e1ee3b7cba1fce9646518530f2f3d4ba25615460142a2be24d3b5", func := "loop.example/g03111/laws.FnExactMapType", spec := "fnExactMapType", unfollowed := true, recurses := true, named := ["loop.example/g03111/impl.typeForms"], apart := false, laid := [("loop.example/g03111/impl.typeForms", laid_loop_example_g03111_impl_typeForms)] }
def FnExactMapTypeSaid : Prop := fnExactMapTypeRow.holds Tryd.pinned (OpenSpec.ofChange fnExactMapTypeSpec)

/-- ITS FALSE NEIGHBOUR: 'it returns false'. Refute it at one input. -/
def fnExactMapTypeWrong : ChangeSpec := { name := "fnExactMapType", vars := ["loop.example/g03111/impl.typeForms"], fn := fun _ => fun
  | [d1, d2, g1] => { results := [.lit (.bool false)], args := [d1, d2], vars := [g1] }
  | _ => none }
def FnExactMapTypeWrongFalsely : Prop := fnExactMapTypeRow.holds Tryd.pinned (OpenSpec.ofChange fnExactMapTypeWrong)

/-- 'laws.FnExactMapTerm': WHATEVER THE INPUT: true; the input reads as it did. -/
def fnExactMapTermSpec : ChangeSpec := { name := "fnExactMapTerm", vars := ["loop.example/g03111/impl.termForms", "loop.example/g03111/impl.typeForms"], fn := fun _ => fun
  | [d1, d2, g1, g2] => { results := [.lit (.bool true)], args := [d1, d2], vars := [g1, g2] }
  | _ => none }
def fnExactMapTermRow : OpenClaim := { program := "ytncfbljablbglaadoor", sum := "bbc00128509e1ee3b7cba1fce9646518530f2f3d4ba25615460142a2be24d3b5", func := "loop.example/g03111/laws.FnExactMapTerm", spec := "fnExactMapTerm", unfollowed := true, recurses := true, named := ["loop.example/g03111/impl.termForms", "loop.example/g03111/impl.typeForms"], loops := true, apart := false, laid := [("loop.example/g03111/impl.typeForms", laid_loop_example_g03111_impl_typeForms), ("loop.example/g03111/impl.termForms", laid_loop_example_g03111_impl_termForms)] }
def FnExactMapTermSaid : Prop := fnExactMapTermRow.holds Tryd.pinned (OpenSpec.ofChange fnExactMapTermSpec)

/-- ITS FALSE NEIGHBOUR: 'it returns false'. Refute it at one input. -/
def fnExactMapTermWrong : ChangeSpec := { name := "fnExactMapTerm", vars := ["loop.example/g03111/impl.termForms", "loop.example/g03111/impl.typeForms"], fn := fun _ => fun
  | [d1, d2, g1, g2] => { results := [.lit (.bool false)], args := [d1, d2], vars := [g1, g2] }
  | _ => none }
def FnExactMapTermWrongFalsely : Prop := fnExactMapTermRow.holds Tryd.pinned (OpenSpec.ofChange fnExactMapTermWrong)

/-- 'laws.FnExactOpenAll': WHATEVER THE INPUT: true; the input reads as it did. -/
def fnExactOpenAllSpec : ChangeSpec := { name := "fnExactOpenAll", vars := ["loop.example/g03111/impl.termForms", "loop.example/g03111/impl.typeForms"], fn := fun _ => fun
  | [d, g1, g2] => { results := [.lit (.bool true)], args := [d], vars := [g1, g2] }
  | _ => none }
def fnExactOpenAllRow : OpenClaim := { program := "ytncfbljablbglaadoor", sum := "bbc00128509e1ee3b7cba1fce9646518530f2f3d4ba25615460142a2be24d3b5", func := "loop.example/g03111/laws.FnExactOpenAll", spec := "fnExactOpenAll", unfollowed := true, recurses := true, named := ["loop.example/g03111/impl.termForms", "loop.example/g03111/impl.typeForms"], loops := true, apart := false, laid := [("loop.example/g03111/impl.typeForms", laid_loop_example_g03111_impl_typeForms), ("loop.example/g03111/impl.termForms", laid_loop_example_g03111_impl_termForms)] }
def FnExactOpenAllSaid : Prop := fnExactOpenAllRow.holds Tryd.pinned (OpenSpec.ofChange fnExactOpenAllSpec)

/-- ITS FALSE NEIGHBOUR: 'it returns false'. Refute it at one input. -/
def fnExactOpenAllWrong : ChangeSpec := { name := "fnExactOpenAll", vars := ["loop.example/g03111/impl.termForms", "loop.example/g03111/impl.typeForms"], fn := fun _ => fun
  | [d, g1, g2] => { results := [.lit (.bool false)], args := [d], vars := [g1, g2] }
  | _ => none }
def FnExactOpenAllWrongFalsely : Prop := fnExactOpenAllRow.holds Tryd.pinned (OpenSpec.ofChange fnExactOpenAllWrong)

/-- 'laws.FnExactFillOpen': WHATEVER THE INPUT: true; the input reads as it did. -/
def fnExactFillOpenSpec : ChangeSpec := { name := "fnExactFillOpen", vars := ["loop.example/g03111/impl.termForms", "loop.example/g03111/impl.typeForms"], fn := fun _ => fun
  | [d1, d2, g1, g2] => { results := [.lit (.bool true)], args := [d1, d2], vars := [g1, g2] }
  | _ => none }
def fnExactFillOpenRow : OpenClaim := { program := "ytncfbljablbglaadoor", sum := "bbc00128509e1ee3b7cba1fce9646518530f2f3d4ba25615460142a2be24d3b5", func := "loop.example/g03111/laws.FnExactFillOpen", spec := "fnExactFillOpen", unfollowed := true, recurses := true, named := ["loop.example/g03111/impl.termForms", "loop.example/g03111/impl.typeForms"], loops := true, apart := false, laid := [("loop.example/g03111/impl.typeForms", laid_loop_example_g03111_impl_typeForms), ("loop.example/g03111/impl.termForms", laid_loop_example_g03111_impl_termForms)] }
def FnExactFillOpenSaid : Prop := fnExactFillOpenRow.holds Tryd.pinned (OpenSpec.ofChange fnExactFillOpenSpec)

/-- ITS FALSE NEIGHBOUR: 'it returns false'. Refute it at one input. -/
def fnExactFillOpenWrong : ChangeSpec := { name := "fnExactFillOpen", vars := ["loop.example/g03111/impl.termForms", "loop.example/g03111/impl.typeForms"], fn := fun _ => fun
  | [d1, d2, g1, g2] => { results := [.lit (.bool false)], args := [d1, d2], vars := [g1, g2] }
  | _ => none }
def FnExactFillOpenWrongFalsely : Prop := fnExactFillOpenRow.holds Tryd.pinned (OpenSpec.ofChange fnExactFillOpenWrong)

/- THE SECOND FORM. 'bulk': how many values and letters a reading holds, each counted each time it is reached (what is shared counts as often as it is met; a slice's spare places count too). A statement '..UptoSaid' is the law's where the arguments, and the package variables that the reading takes, are together of bulk at most 1048576: NARROWER than '..Said'. Prove '..Said' where nothing that the law and all that it calls make is longer than what came in: it says more and counts as full. Else prove '..UptoSaid'. A law counts once. -/
mutual
def uptoBulk {H : Type} : DataW H → Nat
  | .lit (.string bytes) => bytes.length + 1
  | .lit _ => 1
  | .nil => 1
  | .ptr d => uptoBulk d + 1
  | .slice elems spare => uptoBulkAll elems + uptoBulkAll spare + 1
  | .agg parts => uptoBulkAll parts + 1
  | .iface _ d => uptoBulk d + 1
  | .map entries => uptoBulkEntries entries + 1
  | .held _ => 1
def uptoBulkAll {H : Type} : List (DataW H) → Nat
  | [] => 0
  | d :: r => uptoBulk d + uptoBulkAll r
def uptoBulkEntries {H : Type} : List (Lit × DataW H) → Nat
  | [] => 0
  | x :: r => uptoBulkEntry x + uptoBulkEntries r
def uptoBulkEntry {H : Type} : Lit × DataW H → Nat
  | (.string bytes, d) => bytes.length + uptoBulk d + 1
  | (_, d) => uptoBulk d + 1
 end
def uptoSmall : (H : Type) → List (DataW H) → Bool := fun _ ds => decide (uptoBulkAll ds ≤ 1048576)
def OpenSpec.upto (s : _root_.Go.ChangeSpec) : _root_.Go.OpenSpec := { _root_.Go.OpenSpec.ofChange s with cond := some uptoSmall }

/-- 'laws.FnExactNormalForm', WHERE WHAT IT READS IS OF BULK AT MOST 1048576: true; the input reads as it did. -/
def fnExactNormalFormUptoRow : OpenClaim := { program := "ytncfbljablbglaadoor", sum := "bbc00128509e1ee3b7cba1fce9646518530f2f3d4ba25615460142a2be24d3b5", func := "loop.example/g03111/laws.FnExactNormalForm", spec := "fnExactNormalForm", unfollowed := true, recurses := true, named := ["loop.example/g03111/impl.termForms", "loop.example/g03111/impl.typeForms"], loops := true, apart := false, laid := [("loop.example/g03111/impl.typeForms", laid_loop_example_g03111_impl_typeForms), ("loop.example/g03111/impl.termForms", laid_loop_example_g03111_impl_termForms)], narrowed := true }
def FnExactNormalFormUptoSaid : Prop := fnExactNormalFormUptoRow.holds Tryd.pinned (OpenSpec.upto fnExactNormalFormSpec)

/-- 'laws.FnExactMapType', WHERE WHAT IT READS IS OF BULK AT MOST 1048576: true; the input reads as it did. -/
def fnExactMapTypeUptoRow : OpenClaim := { program := "ytncfbljablbglaadoor", sum := "bbc00128509e1ee3b7cba1fce9646518530f2f3d4ba25615460142a2be24d3b5", func := "loop.example/g03111/laws.FnExactMapType", spec := "fnExactMapType", unfollowed := true, recurses := true, named := ["loop.example/g03111/impl.typeForms"], apart := false, laid := [("loop.example/g03111/impl.typeForms", laid_loop_example_g03111_impl_typeForms)], narrowed := true }
def FnExactMapTypeUptoSaid : Prop := fnExactMapTypeUptoRow.holds Tryd.pinned (OpenSpec.upto fnExactMapTypeSpec)

/-- 'laws.FnExactMapTerm', WHERE WHAT IT READS IS OF BULK AT MOST 1048576: true; the input reads as it did. -/
def fnExactMapTermUptoRow : OpenClaim := { program := "ytncfbljablbglaadoor", sum := "bbc00128509e1ee3b7cba1fce9646518530f2f3d4ba25615460142a2be24d3b5", func := "loop.example/g03111/laws.FnExactMapTerm", spec := "fnExactMapTerm", unfollowed := true, recurses := true, named := ["loop.example/g03111/impl.termForms", "loop.example/g03111/impl.typeForms"], loops := true, apart := false, laid := [("loop.example/g03111/impl.typeForms", laid_loop_example_g03111_impl_typeForms), ("loop.example/g03111/impl.termForms", laid_loop_example_g03111_impl_termForms)], narrowed := true }
def FnExactMapTermUptoSaid : Prop := fnExactMapTermUptoRow.holds Tryd.pinned (OpenSpec.upto fnExactMapTermSpec)

/-- 'laws.FnExactOpenAll', WHERE WHAT IT READS IS OF BULK AT MOST 1048576: true; the input reads as it did. -/
def fnExactOpenAllUptoRow : OpenClaim := { program := "ytncfbljablbglaadoor", sum := "bbc00128509e1ee3b7cba1fce9646518530f2f3d4ba25615460142a2be24d3b5", func := "loop.example/g03111/laws.FnExactOpenAll", spec := "fnExactOpenAll", unfollowed := true, recurses := true, named := ["loop.example/g03111/impl.termForms", "loop.example/g03111/impl.typeForms"], loops := true, apart := false, laid := [("loop.example/g03111/impl.typeForms", laid_loop_example_g03111_impl_typeForms), ("loop.example/g03111/impl.termForms", laid_loop_example_g03111_impl_termForms)], narrowed := true }
def FnExactOpenAllUptoSaid : Prop := fnExactOpenAllUptoRow.holds Tryd.pinned (OpenSpec.upto fnExactOpenAllSpec)

/-- 'laws.FnExactFillOpen', WHERE WHAT IT READS IS OF BULK AT MOST 1048576: true; the input reads as it did. -/
def fnExactFillOpenUptoRow : OpenClaim := { program := "ytncfbljablbglaadoor", sum := "bbc00128509e1ee3b7cba1fce9646518530f2f3d4ba25615460142a2be24d3b5", func := "loop.example/g03111/laws.FnExactFillOpen", spec := "fnExactFillOpen", unfollowed := true, recurses := true, named := ["loop.example/g03111/impl.termForms", "loop.example/g03111/impl.typeForms"], loops := true, apart := false, laid := [("loop.example/g03111/impl.typeForms", laid_loop_example_g03111_impl_typeForms), ("loop.example/g03111/impl.termForms", laid_loop_example_g03111_impl_termForms)], narrowed := true }
def FnExactFillOpenUptoSaid : Prop := fnExactFillOpenUptoRow.holds Tryd.pinned (OpenSpec.upto fnExactFillOpenSpec)

end Rows
end Go.Proofs.YtncfbljablbglaaDoor
