
/- The model's test of a system. -/
import Derived.Test.YtiekppegfocejaaDoorSysA
import Derived.Test.YtiekppegfocejaaDoorModelB
namespace Go.Proofs.YtiekppegfocejaaDoor
open Go.RowKit

/-- What 'l1In' is asked, and its answer. -/
def InB (g lo hi : Int) (v : Bool) : Prop := v = true ↔ lo ≤ g ∧ g ≤ hi
def In0 (n g : Int) : Prop := 0 ≤ g ∧ g < n
theorem l1In_is {W : World} {g lo hi : Int} {p : Bool} (hp : InB g lo hi p) (x : Ext W) :
    Calls Tryd.prog 77 #[.int .i64 g, .int .i64 lo, .int .i64 hi] x.w (Ans W (.bool p)) := l1In_ans g lo hi p hp x

end Go.Proofs.YtiekppegfocejaaDoor
