/-
  No cell of these rows narrows 'for every input' (looked for: loops, veiled, ifaces, maps, wideKeys, modest, calm, conditions, laid).
  DERIVED. THE GIVEN ROWS OF THIS SEAT. 8 by the template 'for every input the law returns true; each argument reads behind the call as it read before'; 0 by the template 'total and deterministic' (their statements: YtkokmpdmmfghhaaTotals.lean).
  GIVEN WITH THE SEED: the statements are not yours to turn. If you find one false, say at which input.
  Laid BY PROGRAM, IN A SANDBOX (cutbox-rows.mjs): the forced cells as the released guide's own fill.sh prints them over the translation 051813995ca18a9b… (all of the seat's roots in one cut). By AI agents, Wed Nov 11 2026. No macro, syntax, notation, axiom, sorry.
-/
import Derived.Test.YtkokmpdmmfghhaaChecked
import GoSem.Claim
import GoSem.ClaimJoined
import GoSem.ClaimMapViews
import Derived.JoinedTies
import Derived.KernelRfl
namespace Go.Proofs.Ytkokmpdmmfghhaa
/- THE CELL 'sum', in the pinned program and in every row, IS THE sha256 OF THE DUMP (.gsa) THAT YtkokmpdmmfghhaaProg.lean LOADS. Nothing in Lean hashes anything: it is a label: what it is worth is what the hold of that sum in a sandbox is worth. -/
noncomputable def Try.pinned : Pinned := { name := "ytkokmpdmmfghhaa", sum := "051813995ca18a9b8cb2494c610d9a2a890c8a12194faf29ac12250a021389c5", checked := Try.checked }
namespace Rows
def none {H : Type} : Left H := { results := [], args := [] }

/-- 'laws.FnGradesReckoned': WHATEVER THE INPUT: true; the input reads as it did. -/
def fnGradesReckonedSpec : ChangeSpec := { name := "fnGradesReckoned", fn := fun _ => fun
  | [d] => { results := [.lit (.bool true)], args := [d] }
  | _ => none }
def fnGradesReckonedRow : OpenClaim := { program := "ytkokmpdmmfghhaa", sum := "051813995ca18a9b8cb2494c610d9a2a890c8a12194faf29ac12250a021389c5", func := "loop.example/g03111/laws.FnGradesReckoned", spec := "fnGradesReckoned", apart := false }
def FnGradesReckonedSaid : Prop := fnGradesReckonedRow.holds Try.pinned (OpenSpec.ofChange fnGradesReckonedSpec)

/-- ITS FALSE NEIGHBOUR: 'it returns false'. Refute it at one input. -/
def fnGradesReckonedWrong : ChangeSpec := { name := "fnGradesReckoned", fn := fun _ => fun
  | [d] => { results := [.lit (.bool false)], args := [d] }
  | _ => none }
def FnGradesReckonedWrongFalsely : Prop := fnGradesReckonedRow.holds Try.pinned (OpenSpec.ofChange fnGradesReckonedWrong)

/-- 'laws.FnViewMaps': WHATEVER THE INPUT: true; the input reads as it did. -/
def fnViewMapsSpec : ChangeSpec := { name := "fnViewMaps", fn := fun _ => fun
  | [d] => { results := [.lit (.bool true)], args := [d] }
  | _ => none }
def fnViewMapsRow : OpenClaim := { program := "ytkokmpdmmfghhaa", sum := "051813995ca18a9b8cb2494c610d9a2a890c8a12194faf29ac12250a021389c5", func := "loop.example/g03111/laws.FnViewMaps", spec := "fnViewMaps", unfollowed := true, recurses := true, apart := false }
def FnViewMapsSaid : Prop := fnViewMapsRow.holds Try.pinned (OpenSpec.ofChange fnViewMapsSpec)

/-- ITS FALSE NEIGHBOUR: 'it returns false'. Refute it at one input. -/
def fnViewMapsWrong : ChangeSpec := { name := "fnViewMaps", fn := fun _ => fun
  | [d] => { results := [.lit (.bool false)], args := [d] }
  | _ => none }
def FnViewMapsWrongFalsely : Prop := fnViewMapsRow.holds Try.pinned (OpenSpec.ofChange fnViewMapsWrong)

/-- 'laws.FnReliable': WHATEVER THE INPUT: true; the input reads as it did. -/
def fnReliableSpec : ChangeSpec := { name := "fnReliable", fn := fun _ => fun
  | [d] => { results := [.lit (.bool true)], args := [d] }
  | _ => none }
def fnReliableRow : OpenClaim := { program := "ytkokmpdmmfghhaa", sum := "051813995ca18a9b8cb2494c610d9a2a890c8a12194faf29ac12250a021389c5", func := "loop.example/g03111/laws.FnReliable", spec := "fnReliable", unfollowed := true, recurses := true, apart := false }
def FnReliableSaid : Prop := fnReliableRow.holds Try.pinned (OpenSpec.ofChange fnReliableSpec)

/-- ITS FALSE NEIGHBOUR: 'it returns false'. Refute it at one input. -/
def fnReliableWrong : ChangeSpec := { name := "fnReliable", fn := fun _ => fun
  | [d] => { results := [.lit (.bool false)], args := [d] }
  | _ => none }
def FnReliableWrongFalsely : Prop := fnReliableRow.holds Try.pinned (OpenSpec.ofChange fnReliableWrong)

/-- 'laws.FnMapsGoOn': WHATEVER THE INPUT: true; the input reads as it did. -/
def fnMapsGoOnSpec : ChangeSpec := { name := "fnMapsGoOn", fn := fun _ => fun
  | [d] => { results := [.lit (.bool true)], args := [d] }
  | _ => none }
def fnMapsGoOnRow : OpenClaim := { program := "ytkokmpdmmfghhaa", sum := "051813995ca18a9b8cb2494c610d9a2a890c8a12194faf29ac12250a021389c5", func := "loop.example/g03111/laws.FnMapsGoOn", spec := "fnMapsGoOn", unfollowed := true, recurses := true, apart := false }
def FnMapsGoOnSaid : Prop := fnMapsGoOnRow.holds Try.pinned (OpenSpec.ofChange fnMapsGoOnSpec)

/-- ITS FALSE NEIGHBOUR: 'it returns false'. Refute it at one input. -/
def fnMapsGoOnWrong : ChangeSpec := { name := "fnMapsGoOn", fn := fun _ => fun
  | [d] => { results := [.lit (.bool false)], args := [d] }
  | _ => none }
def FnMapsGoOnWrongFalsely : Prop := fnMapsGoOnRow.holds Try.pinned (OpenSpec.ofChange fnMapsGoOnWrong)

/-- 'laws.FnProductParts': WHATEVER THE INPUT: true; the input reads as it did. -/
def fnProductPartsSpec : ChangeSpec := { name := "fnProductParts", fn := fun _ => fun
  | [d] => { results := [.lit (.bool true)], args := [d] }
  | _ => none }
def fnProductPartsRow : OpenClaim := { program := "ytkokmpdmmfghhaa", sum := "051813995ca18a9b8cb2494c610d9a2a890c8a12194faf29ac12250a021389c5", func := "loop.example/g03111/laws.FnProductParts", spec := "fnProductParts", unfollowed := true, recurses := true, apart := false }
def FnProductPartsSaid : Prop := fnProductPartsRow.holds Try.pinned (OpenSpec.ofChange fnProductPartsSpec)

/-- ITS FALSE NEIGHBOUR: 'it returns false'. Refute it at one input. -/
def fnProductPartsWrong : ChangeSpec := { name := "fnProductParts", fn := fun _ => fun
  | [d] => { results := [.lit (.bool false)], args := [d] }
  | _ => none }
def FnProductPartsWrongFalsely : Prop := fnProductPartsRow.holds Try.pinned (OpenSpec.ofChange fnProductPartsWrong)

/-- 'laws.FnLeastGrades': WHATEVER THE INPUT: true; the input reads as it did. -/
def fnLeastGradesSpec : ChangeSpec := { name := "fnLeastGrades", fn := fun _ => fun
  | [d] => { results := [.lit (.bool true)], args := [d] }
  | _ => none }
def fnLeastGradesRow : OpenClaim := { program := "ytkokmpdmmfghhaa", sum := "051813995ca18a9b8cb2494c610d9a2a890c8a12194faf29ac12250a021389c5", func := "loop.example/g03111/laws.FnLeastGrades", spec := "fnLeastGrades", unfollowed := true, recurses := true, apart := false }
def FnLeastGradesSaid : Prop := fnLeastGradesRow.holds Try.pinned (OpenSpec.ofChange fnLeastGradesSpec)

/-- ITS FALSE NEIGHBOUR: 'it returns false'. Refute it at one input. -/
def fnLeastGradesWrong : ChangeSpec := { name := "fnLeastGrades", fn := fun _ => fun
  | [d] => { results := [.lit (.bool false)], args := [d] }
  | _ => none }
def FnLeastGradesWrongFalsely : Prop := fnLeastGradesRow.holds Try.pinned (OpenSpec.ofChange fnLeastGradesWrong)

/-- 'laws.FnExactProductSystem': WHATEVER THE INPUT: true; the input reads as it did. -/
def fnExactProductSystemSpec : ChangeSpec := { name := "fnExactProductSystem", fn := fun _ => fun
  | [d1, d2] => { results := [.lit (.bool true)], args := [d1, d2] }
  | _ => none }
def fnExactProductSystemRow : OpenClaim := { program := "ytkokmpdmmfghhaa", sum := "051813995ca18a9b8cb2494c610d9a2a890c8a12194faf29ac12250a021389c5", func := "loop.example/g03111/laws.FnExactProductSystem", spec := "fnExactProductSystem", unfollowed := true, recurses := true, apart := false }
def FnExactProductSystemSaid : Prop := fnExactProductSystemRow.holds Try.pinned (OpenSpec.ofChange fnExactProductSystemSpec)

/-- ITS FALSE NEIGHBOUR: 'it returns false'. Refute it at one input. -/
def fnExactProductSystemWrong : ChangeSpec := { name := "fnExactProductSystem", fn := fun _ => fun
  | [d1, d2] => { results := [.lit (.bool false)], args := [d1, d2] }
  | _ => none }
def FnExactProductSystemWrongFalsely : Prop := fnExactProductSystemRow.holds Try.pinned (OpenSpec.ofChange fnExactProductSystemWrong)

/-- 'laws.FnExactViewsOf': WHATEVER THE INPUT: true; the input reads as it did. -/
def fnExactViewsOfSpec : ChangeSpec := { name := "fnExactViewsOf", fn := fun _ => fun
  | [d] => { results := [.lit (.bool true)], args := [d] }
  | _ => none }
def fnExactViewsOfRow : OpenClaim := { program := "ytkokmpdmmfghhaa", sum := "051813995ca18a9b8cb2494c610d9a2a890c8a12194faf29ac12250a021389c5", func := "loop.example/g03111/laws.FnExactViewsOf", spec := "fnExactViewsOf", recurses := true, apart := false }
def FnExactViewsOfSaid : Prop := fnExactViewsOfRow.holds Try.pinned (OpenSpec.ofChange fnExactViewsOfSpec)

/-- ITS FALSE NEIGHBOUR: 'it returns false'. Refute it at one input. -/
def fnExactViewsOfWrong : ChangeSpec := { name := "fnExactViewsOf", fn := fun _ => fun
  | [d] => { results := [.lit (.bool false)], args := [d] }
  | _ => none }
def FnExactViewsOfWrongFalsely : Prop := fnExactViewsOfRow.holds Try.pinned (OpenSpec.ofChange fnExactViewsOfWrong)

/- THE SECOND FORM. 'bulk': how many values and letters a reading holds, each counted each time it is reached (what is shared counts as often as it is met; a slice's spare places count too). A statement '..UptoSaid' is the law's where the arguments, and the package variables that the reading takes, are together of bulk at most 1048576: NARROWER than '..Said'. Prove '..Said' where nothing that the law and all that it calls make is longer than what came in: it says more and counts as full. Else prove '..UptoSaid'. A law counts once. -/
mutual
def uptoBulk {H : Type} : DataW H → Nat
  | .lit (.string bytes) => bytes.length + 1
  | .lit _ => 1
  | .nil => 1
  | .ptr d => uptoBulk d + 1
  | .slice elems spare => uptoBulkAll elems + uptoBulkAll spare + 1
  | .agg parts => uptoBulkAll parts + 1
  | .iface _ d => uptoBulk d + 1
  | .map entries => uptoBulkEntries entries + 1
  | .held _ => 1
def uptoBulkAll {H : Type} : List (DataW H) → Nat
  | [] => 0
  | d :: r => uptoBulk d + uptoBulkAll r
def uptoBulkEntries {H : Type} : List (Lit × DataW H) → Nat
  | [] => 0
  | x :: r => uptoBulkEntry x + uptoBulkEntries r
def uptoBulkEntry {H : Type} : Lit × DataW H → Nat
  | (.string bytes, d) => bytes.length + uptoBulk d + 1
  | (_, d) => uptoBulk d + 1
 end
def uptoSmall : (H : Type) → List (DataW H) → Bool := fun _ ds => decide (uptoBulkAll ds ≤ 1048576)
def OpenSpec.upto (s : _root_.Go.ChangeSpec) : _root_.Go.OpenSpec := { _root_.Go.OpenSpec.ofChange s with cond := some uptoSmall }

/-- 'laws.FnGradesReckoned', WHERE WHAT IT READS IS OF BULK AT MOST 1048576: true; the input reads as it did. -/
def fnGradesReckonedUptoRow : OpenClaim := { program := "ytkokmpdmmfghhaa", sum := "051813995ca18a9b8cb2494c610d9a2a890c8a12194faf29ac12250a021389c5", func := "loop.example/g03111/laws.FnGradesReckoned", spec := "fnGradesReckoned", apart := false, narrowed := true }
def FnGradesReckonedUptoSaid : Prop := fnGradesReckonedUptoRow.holds Try.pinned (OpenSpec.upto fnGradesReckonedSpec)

/-- 'laws.FnViewMaps', WHERE WHAT IT READS IS OF BULK AT MOST 1048576: true; the input reads as it did. -/
def fnViewMapsUptoRow : OpenClaim := { program := "ytkokmpdmmfghhaa", sum := "051813995ca18a9b8cb2494c610d9a2a890c8a12194faf29ac12250a021389c5", func := "loop.example/g03111/laws.FnViewMaps", spec := "fnViewMaps", unfollowed := true, recurses := true, apart := false, narrowed := true }
def FnViewMapsUptoSaid : Prop := fnViewMapsUptoRow.holds Try.pinned (OpenSpec.upto fnViewMapsSpec)

/-- 'laws.FnReliable', WHERE WHAT IT READS IS OF BULK AT MOST 1048576: true; the input reads as it did. -/
def fnReliableUptoRow : OpenClaim := { program := "ytkokmpdmmfghhaa", sum := "051813995ca18a9b8cb2494c610d9a2a890c8a12194faf29ac12250a021389c5", func := "loop.example/g03111/laws.FnReliable", spec := "fnReliable", unfollowed := true, recurses := true, apart := false, narrowed := true }
def FnReliableUptoSaid : Prop := fnReliableUptoRow.holds Try.pinned (OpenSpec.upto fnReliableSpec)

/-- 'laws.FnMapsGoOn', WHERE WHAT IT READS IS OF BULK AT MOST 1048576: true; the input reads as it did. -/
def fnMapsGoOnUptoRow : OpenClaim := { program := "ytkokmpdmmfghhaa", sum := "051813995ca18a9b8cb2494c610d9a2a890c8a12194faf29ac12250a021389c5", func := "loop.example/g03111/laws.FnMapsGoOn", spec := "fnMapsGoOn", unfollowed := true, recurses := true, apart := false, narrowed := true }
def FnMapsGoOnUptoSaid : Prop := fnMapsGoOnUptoRow.holds Try.pinned (OpenSpec.upto fnMapsGoOnSpec)

/-- 'laws.FnProductParts', WHERE WHAT IT READS IS OF BULK AT MOST 1048576: true; the input reads as it did. -/
def fnProductPartsUptoRow : OpenClaim := { program := "ytkokmpdmmfghhaa", sum := "051813995ca18a9b8cb2494c610d9a2a890c8a12194faf29ac12250a021389c5", func := "loop.example/g03111/laws.FnProductParts", spec := "fnProductParts", unfollowed := true, recurses := true, apart := false, narrowed := true }
def FnProductPartsUptoSaid : Prop := fnProductPartsUptoRow.holds Try.pinned (OpenSpec.upto fnProductPartsSpec)

/-- 'laws.FnLeastGrades', WHERE WHAT IT READS IS OF BULK AT MOST 1048576: true; the input reads as it did. -/
def fnLeastGradesUptoRow : OpenClaim := { program := "ytkokmpdmmfghhaa", sum := "051813995ca18a9b8cb2494c610d9a2a890c8a12194faf29ac12250a021389c5", func := "loop.example/g03111/laws.FnLeastGrades", spec := "fnLeastGrades", unfollowed := true, recurses := true, apart := false, narrowed := true }
def FnLeastGradesUptoSaid : Prop := fnLeastGradesUptoRow.holds Try.pinned (OpenSpec.upto fnLeastGradesSpec)

/-- 'laws.FnExactProductSystem', WHERE WHAT IT READS IS OF BULK AT MOST 1048576: true; the input reads as it did. -/
def fnExactProductSystemUptoRow : OpenClaim := { program := "ytkokmpdmmfghhaa", sum := "051813995ca18a9b8cb2494c610d9a2a890c8a12194faf29ac12250a021389c5", func := "loop.example/g03111/laws.FnExactProductSystem", spec := "fnExactProductSystem", unfollowed := true, recurses := true, apart := false, narrowed := true }
def FnExactProductSystemUptoSaid : Prop := fnExactProductSystemUptoRow.holds Try.pinned (OpenSpec.upto fnExactProductSystemSpec)

/-- 'laws.FnExactViewsOf', WHERE WHAT IT READS IS OF BULK AT MOST 1048576: true; the input reads as it did. -/
def fnExactViewsOfUptoRow : OpenClaim := { program := "ytkokmpdmmfghhaa", sum := "051813995ca18a9b8cb2494c610d9a2a890c8a12194faf29ac12250a021389c5", func := "loop.example/g03111/laws.FnExactViewsOf", spec := "fnExactViewsOf", recurses := true, apart := false, narrowed := true }
def FnExactViewsOfUptoSaid : Prop := fnExactViewsOfUptoRow.holds Try.pinned (OpenSpec.upto fnExactViewsOfSpec)

end Rows
end Go.Proofs.Ytkokmpdmmfghhaa
