/-
  No cell of these rows narrows 'for every input' (looked for: loops, veiled, ifaces, maps, wideKeys, modest, calm, conditions, laid).
  DERIVED. THE GIVEN ROWS OF THIS SEAT. 5 by the template 'for every input the law returns true; each argument reads behind the call as it read before'; 0 by the template 'total and deterministic' (their statements: YtbfelekohdiddaaTotals.lean).
  GIVEN WITH THE SEED: the statements are not yours to turn. If you find one false, say at which input.
  Laid BY PROGRAM, IN A SANDBOX (cutbox-rows.mjs): the forced cells as the released guide's own fill.sh prints them over the translation ec75efd11bde5f0f… (all of the seat's roots in one cut). By AI agents, Wed Nov 11 2026. No macro, syntax, notation, axiom, sorry.
-/
import Derived.Test.YtbfelekohdiddaaChecked
import GoSem.Claim
import GoSem.ClaimJoined
import GoSem.ClaimMapViews
import Derived.JoinedTies
import Derived.KernelRfl
namespace Go.Proofs.Ytbfelekohdiddaa
/- THE CELL 'sum', in the pinned program and in every row, IS THE sha256 OF THE DUMP (.gsa) THAT YtbfelekohdiddaaProg.lean LOADS. Nothing in Lean hashes anything: it is a label: what it is worth is what the hold of that sum in a sandbox is worth. -/
noncomputable def Try.pinned : Pinned := { name := "ytbfelekohdiddaa", sum := "ec75efd11bde5f0f47ace47dcf338a2dbca961ec0b7d460fc49daaa4e0be6e8b", checked := Try.checked }
namespace Rows
def none {H : Type} : Left H := { results := [], args := [] }

/-- 'laws.FnExactCountSystem': WHATEVER THE INPUT: true; the input reads as it did. -/
def fnExactCountSystemSpec : ChangeSpec := { name := "fnExactCountSystem", fn := fun _ => fun
  | [d] => { results := [.lit (.bool true)], args := [d] }
  | _ => none }
def fnExactCountSystemRow : OpenClaim := { program := "ytbfelekohdiddaa", sum := "ec75efd11bde5f0f47ace47dcf338a2dbca961ec0b7d460fc49daaa4e0be6e8b", func := "loop.example/g03111/laws.FnExactCountSystem", spec := "fnExactCountSystem", unfollowed := true, recurses := true, apart := false }
def FnExactCountSystemSaid : Prop := fnExactCountSystemRow.holds Try.pinned (OpenSpec.ofChange fnExactCountSystemSpec)

/-- ITS FALSE NEIGHBOUR: 'it returns false'. Refute it at one input. -/
def fnExactCountSystemWrong : ChangeSpec := { name := "fnExactCountSystem", fn := fun _ => fun
  | [d] => { results := [.lit (.bool false)], args := [d] }
  | _ => none }
def FnExactCountSystemWrongFalsely : Prop := fnExactCountSystemRow.holds Try.pinned (OpenSpec.ofChange fnExactCountSystemWrong)

/-- 'laws.FnExactBoundSystem': WHATEVER THE INPUT: true; the input reads as it did. -/
def fnExactBoundSystemSpec : ChangeSpec := { name := "fnExactBoundSystem", fn := fun _ => fun
  | [d] => { results := [.lit (.bool true)], args := [d] }
  | _ => none }
def fnExactBoundSystemRow : OpenClaim := { program := "ytbfelekohdiddaa", sum := "ec75efd11bde5f0f47ace47dcf338a2dbca961ec0b7d460fc49daaa4e0be6e8b", func := "loop.example/g03111/laws.FnExactBoundSystem", spec := "fnExactBoundSystem", unfollowed := true, recurses := true, apart := false }
def FnExactBoundSystemSaid : Prop := fnExactBoundSystemRow.holds Try.pinned (OpenSpec.ofChange fnExactBoundSystemSpec)

/-- ITS FALSE NEIGHBOUR: 'it returns false'. Refute it at one input. -/
def fnExactBoundSystemWrong : ChangeSpec := { name := "fnExactBoundSystem", fn := fun _ => fun
  | [d] => { results := [.lit (.bool false)], args := [d] }
  | _ => none }
def FnExactBoundSystemWrongFalsely : Prop := fnExactBoundSystemRow.holds Try.pinned (OpenSpec.ofChange fnExactBoundSystemWrong)

/-- 'laws.FnExactLevelSystem': WHATEVER THE INPUT: true; the input reads as it did. -/
def fnExactLevelSystemSpec : ChangeSpec := { name := "fnExactLevelSystem", fn := fun _ => fun
  | [d] => { results := [.lit (.bool true)], args := [d] }
  | _ => none }
def fnExactLevelSystemRow : OpenClaim := { program := "ytbfelekohdiddaa", sum := "ec75efd11bde5f0f47ace47dcf338a2dbca961ec0b7d460fc49daaa4e0be6e8b", func := "loop.example/g03111/laws.FnExactLevelSystem", spec := "fnExactLevelSystem", unfollowed := true, recurses := true, apart := false }
def FnExactLevelSystemSaid : Prop := fnExactLevelSystemRow.holds Try.pinned (OpenSpec.ofChange fnExactLevelSystemSpec)

/-- ITS FALSE NEIGHBOUR: 'it returns false'. Refute it at one input. -/
def fnExactLevelSystemWrong : ChangeSpec := { name := "fnExactLevelSystem", fn := fun _ => fun
  | [d] => { results := [.lit (.bool false)], args := [d] }
  | _ => none }
def FnExactLevelSystemWrongFalsely : Prop := fnExactLevelSystemRow.holds Try.pinned (OpenSpec.ofChange fnExactLevelSystemWrong)

/-- 'laws.FnExactProductSystem': WHATEVER THE INPUT: true; the input reads as it did. -/
def fnExactProductSystemSpec : ChangeSpec := { name := "fnExactProductSystem", fn := fun _ => fun
  | [d1, d2] => { results := [.lit (.bool true)], args := [d1, d2] }
  | _ => none }
def fnExactProductSystemRow : OpenClaim := { program := "ytbfelekohdiddaa", sum := "ec75efd11bde5f0f47ace47dcf338a2dbca961ec0b7d460fc49daaa4e0be6e8b", func := "loop.example/g03111/laws.FnExactProductSystem", spec := "fnExactProductSystem", unfollowed := true, recurses := true, apart := false }
def FnExactProductSystemSaid : Prop := fnExactProductSystemRow.holds Try.pinned (OpenSpec.ofChange fnExactProductSystemSpec)

/-- ITS FALSE NEIGHBOUR: 'it returns false'. Refute it at one input. -/
def fnExactProductSystemWrong : ChangeSpec := { name := "fnExactProductSystem", fn := fun _ => fun
  | [d1, d2] => { results := [.lit (.bool false)], args := [d1, d2] }
  | _ => none }
def FnExactProductSystemWrongFalsely : Prop := fnExactProductSystemRow.holds Try.pinned (OpenSpec.ofChange fnExactProductSystemWrong)

/-- 'laws.FnExactViewsOf': WHATEVER THE INPUT: true; the input reads as it did. -/
def fnExactViewsOfSpec : ChangeSpec := { name := "fnExactViewsOf", fn := fun _ => fun
  | [d] => { results := [.lit (.bool true)], args := [d] }
  | _ => none }
def fnExactViewsOfRow : OpenClaim := { program := "ytbfelekohdiddaa", sum := "ec75efd11bde5f0f47ace47dcf338a2dbca961ec0b7d460fc49daaa4e0be6e8b", func := "loop.example/g03111/laws.FnExactViewsOf", spec := "fnExactViewsOf", recurses := true, apart := false }
def FnExactViewsOfSaid : Prop := fnExactViewsOfRow.holds Try.pinned (OpenSpec.ofChange fnExactViewsOfSpec)

/-- ITS FALSE NEIGHBOUR: 'it returns false'. Refute it at one input. -/
def fnExactViewsOfWrong : ChangeSpec := { name := "fnExactViewsOf", fn := fun _ => fun
  | [d] => { results := [.lit (.bool false)], args := [d] }
  | _ => none }
def FnExactViewsOfWrongFalsely : Prop := fnExactViewsOfRow.holds Try.pinned (OpenSpec.ofChange fnExactViewsOfWrong)

/- THE SECOND FORM. 'bulk': how many values and letters a reading holds, each counted each time it is reached (what is shared counts as often as it is met; a slice's spare places count too). A statement '..UptoSaid' is the law's where the arguments, and the package variables that the reading takes, are together of bulk at most 1048576: NARROWER than '..Said'. Prove '..Said' where nothing that the law and all that it calls make is longer than what came in: it says more and counts as full. Else prove '..UptoSaid'. A law counts once. -/
mutual
def uptoBulk {H : Type} : DataW H → Nat
  | .lit (.string bytes) => bytes.length + 1
  | .lit _ => 1
  | .nil => 1
  | .ptr d => uptoBulk d + 1
  | .slice elems spare => uptoBulkAll elems + uptoBulkAll spare + 1
  | .agg parts => uptoBulkAll parts + 1
  | .iface _ d => uptoBulk d + 1
  | .map entries => uptoBulkEntries entries + 1
  | .held _ => 1
def uptoBulkAll {H : Type} : List (DataW H) → Nat
  | [] => 0
  | d :: r => uptoBulk d + uptoBulkAll r
def uptoBulkEntries {H : Type} : List (Lit × DataW H) → Nat
  | [] => 0
  | x :: r => uptoBulkEntry x + uptoBulkEntries r
def uptoBulkEntry {H : Type} : Lit × DataW H → Nat
  | (.string bytes, d) => bytes.length + uptoBulk d + 1
  | (_, d) => uptoBulk d + 1
 end
def uptoSmall : (H : Type) → List (DataW H) → Bool := fun _ ds => decide (uptoBulkAll ds ≤ 1048576)
def OpenSpec.upto (s : _root_.Go.ChangeSpec) : _root_.Go.OpenSpec := { _root_.Go.OpenSpec.ofChange s with cond := some uptoSmall }

/-- 'laws.FnExactCountSystem', WHERE WHAT IT READS IS OF BULK AT MOST 1048576: true; the input reads as it did. -/
def fnExactCountSystemUptoRow : OpenClaim := { program := "ytbfelekohdiddaa", sum := "ec75efd11bde5f0f47ace47dcf338a2dbca961ec0b7d460fc49daaa4e0be6e8b", func := "loop.example/g03111/laws.FnExactCountSystem", spec := "fnExactCountSystem", unfollowed := true, recurses := true, apart := false, narrowed := true }
def FnExactCountSystemUptoSaid : Prop := fnExactCountSystemUptoRow.holds Try.pinned (OpenSpec.upto fnExactCountSystemSpec)

/-- 'laws.FnExactBoundSystem', WHERE WHAT IT READS IS OF BULK AT MOST 1048576: true; the input reads as it did. -/
def fnExactBoundSystemUptoRow : OpenClaim := { program := "ytbfelekohdiddaa", sum := "ec75efd11bde5f0f47ace47dcf338a2dbca961ec0b7d460fc49daaa4e0be6e8b", func := "loop.example/g03111/laws.FnExactBoundSystem", spec := "fnExactBoundSystem", unfollowed := true, recurses := true, apart := false, narrowed := true }
def FnExactBoundSystemUptoSaid : Prop := fnExactBoundSystemUptoRow.holds Try.pinned (OpenSpec.upto fnExactBoundSystemSpec)

/-- 'laws.FnExactLevelSystem', WHERE WHAT IT READS IS OF BULK AT MOST 1048576: true; the input reads as it did. -/
def fnExactLevelSystemUptoRow : OpenClaim := { program := "ytbfelekohdiddaa", sum := "ec75efd11bde5f0f47ace47dcf338a2dbca961ec0b7d460fc49daaa4e0be6e8b", func := "loop.example/g03111/laws.FnExactLevelSystem", spec := "fnExactLevelSystem", unfollowed := true, recurses := true, apart := false, narrowed := true }
def FnExactLevelSystemUptoSaid : Prop := fnExactLevelSystemUptoRow.holds Try.pinned (OpenSpec.upto fnExactLevelSystemSpec)

/-- 'laws.FnExactProductSystem', WHERE WHAT IT READS IS OF BULK AT MOST 1048576: true; the input reads as it did. -/
def fnExactProductSystemUptoRow : OpenClaim := { program := "ytbfelekohdiddaa", sum := "ec75efd11bde5f0f47ace47dcf338a2dbca961ec0b7d460fc49daaa4e0be6e8b", func := "loop.example/g03111/laws.FnExactProductSystem", spec := "fnExactProductSystem", unfollowed := true, recurses := true, apart := false, narrowed := true }
def FnExactProductSystemUptoSaid : Prop := fnExactProductSystemUptoRow.holds Try.pinned (OpenSpec.upto fnExactProductSystemSpec)

/-- 'laws.FnExactViewsOf', WHERE WHAT IT READS IS OF BULK AT MOST 1048576: true; the input reads as it did. -/
def fnExactViewsOfUptoRow : OpenClaim := { program := "ytbfelekohdiddaa", sum := "ec75efd11bde5f0f47ace47dcf338a2dbca961ec0b7d460fc49daaa4e0be6e8b", func := "loop.example/g03111/laws.FnExactViewsOf", spec := "fnExactViewsOf", recurses := true, apart := false, narrowed := true }
def FnExactViewsOfUptoSaid : Prop := fnExactViewsOfUptoRow.holds Try.pinned (OpenSpec.upto fnExactViewsOfSpec)

end Rows
end Go.Proofs.Ytbfelekohdiddaa
