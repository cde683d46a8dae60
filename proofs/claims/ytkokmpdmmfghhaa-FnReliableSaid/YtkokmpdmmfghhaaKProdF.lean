
/- The regions of the model's product of systems. -/
import Derived.Test.YtkokmpdmmfghhaaKProdSpec
import Derived.Test.YtkokmpdmmfghhaaHA
import Derived.Test.YtkokmpdmmfghhaaKPairS
import Derived.Test.YtkokmpdmmfghhaaKPartsS
namespace Go.Proofs.Ytkokmpdmmfghhaa
open Go.RowKit

/-- The region of a number. -/
def findR (n : Nat) : Code → Option Code
  | .region i l d => if i = n then some (.region i l d) else none
  | .seq a b => match findR n a with
    | some c => some c
    | none => findR n b
  | .cond _ a b => match findR n a with
    | some c => some c
    | none => findR n b
  | .block _ c => findR n c
  | .loop c => findR n c
  | .scope c => findR n c
  | _ => none
noncomputable def prodR (n : Nat) : Code := (Try.f41.body.bind (findR n)).getD .skip
theorem mid_blk {w w1 : World} {C : Nat} {o : Obj} {v : Value} (hb : w.heap[C]? = some o) (hg : w.grownBy w1 v.ownBlock) (hv : v.ownBlock ≠ some C) : w1.heap[C]? = some o :=
  (hg.block C (Array.getElem?_eq_some_iff.1 hb).1 (fun e => hv e.symm)).trans hb
theorem one_ints (v : Int) : ∀ u ∈ [Value.int .i64 v], u.oneCell' = true := by intro u hu; simp at hu; subst hu; rfl
theorem one_bools (v : Bool) : ∀ u ∈ [Value.bool v], u.oneCell' = true := by intro u hu; simp at hu; subst hu; rfl

end Go.Proofs.Ytkokmpdmmfghhaa
