
/- The model's checks of one grade; what is in range. -/
import Derived.Test.YtiekppegfocejaaDoorBits
namespace Go.Proofs.YtiekppegfocejaaDoor
open Go.RowKit

theorem l1In_ans {W : World} (g lo hi : Int) (p : Bool) (hp : p = true ↔ lo ≤ g ∧ g ≤ hi) (x : Ext W) :
    Calls Tryd.prog 77 #[.int .i64 g, .int .i64 lo, .int .i64 hi] x.w (Ans W (.bool p)) := by
  have HP := Lib.hid hp
  clear hp
  by_cases h0 : lo ≤ g
  · by_cases h1 : g ≤ hi
    · go_enter Tryd.func77, Tryd.ntmps77
      go_wp2
      go_ret
      exact fin_true HP ⟨h0, h1⟩ ⟨x, rfl⟩
    · go_enter Tryd.func77, Tryd.ntmps77
      go_wp2
      go_ret
      exact fin_false HP (by omega) ⟨x, rfl⟩
  · go_enter Tryd.func77, Tryd.ntmps77
    go_wp2
    go_ret
    exact fin_false HP (by omega) ⟨x, rfl⟩

end Go.Proofs.YtiekppegfocejaaDoor
