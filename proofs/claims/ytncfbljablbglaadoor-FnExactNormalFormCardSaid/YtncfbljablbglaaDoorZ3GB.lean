/- Texts of one claim, laid together: Sets, Bits, ModelA. -/
import Derived.Test.YtncfbljablbglaaDoorZ3GA
set_option linter.unusedVariables false
set_option linter.unusedSimpArgs false
/- Sets of small numbers as the bits of a number, plainly. -/
namespace Go.Proofs.YtncfbljablbglaaDoor

def setN (p : Nat → Bool) : Nat → Nat
  | 0 => 0
  | k + 1 => if p k then setN p k ||| 2 ^ k else setN p k

variable (s : Sys)

end Go.Proofs.YtncfbljablbglaaDoor
/- Sets of grades: the walks. -/
namespace Go.Proofs.YtncfbljablbglaaDoor
open Go.RowKit

theorem inRange_ans {W : World} (g n : Int) (p : Bool) (hp : p = true ↔ 0 ≤ g ∧ g < n) (x : Ext W) :
    Calls Tryd.prog 36 #[.int .i64 g, .int .i64 n] x.w (Ans W (.bool p)) := by
  have HP := Lib.hid hp
  clear hp
  by_cases h0 : 0 ≤ g
  · by_cases h1 : g < n
    · go_enter Tryd.func36, Tryd.ntmps36
      go_wp2
      go_ret
      exact fin_true HP ⟨h0, h1⟩ ⟨x, rfl⟩
    · go_enter Tryd.func36, Tryd.ntmps36
      go_wp2
      go_ret
      exact fin_false HP (by omega) ⟨x, rfl⟩
  · go_enter Tryd.func36, Tryd.ntmps36
    go_wp2
    go_ret
    exact fin_false HP (by omega) ⟨x, rfl⟩

end Go.Proofs.YtncfbljablbglaaDoor
/- The model's checks of one grade; what is in range. -/
namespace Go.Proofs.YtncfbljablbglaaDoor
open Go.RowKit

theorem l1In_ans {W : World} (g lo hi : Int) (p : Bool) (hp : p = true ↔ lo ≤ g ∧ g ≤ hi) (x : Ext W) :
    Calls Tryd.prog 30 #[.int .i64 g, .int .i64 lo, .int .i64 hi] x.w (Ans W (.bool p)) := by
  have HP := Lib.hid hp
  clear hp
  by_cases h0 : lo ≤ g
  · by_cases h1 : g ≤ hi
    · go_enter Tryd.func30, Tryd.ntmps30
      go_wp2
      go_ret
      exact fin_true HP ⟨h0, h1⟩ ⟨x, rfl⟩
    · go_enter Tryd.func30, Tryd.ntmps30
      go_wp2
      go_ret
      exact fin_false HP (by omega) ⟨x, rfl⟩
  · go_enter Tryd.func30, Tryd.ntmps30
    go_wp2
    go_ret
    exact fin_false HP (by omega) ⟨x, rfl⟩

end Go.Proofs.YtncfbljablbglaaDoor
