
/- The model's PartsOfType. -/
import Derived.Test.YtoefeijnnnioeaaDoorKKidsSpec
import Derived.Test.YtoefeijnnnioeaaDoorKGrowL
import Derived.Test.YtoefeijnnnioeaaDoorGS
import Derived.Test.YtoefeijnnnioeaaDoorGD
set_option linter.unusedVariables false
set_option linter.unusedSimpArgs false
namespace Go.Proofs.YtoefeijnnnioeaaDoor
open Go.RowKit

theorem cell_one_at (w : World) (x : Value) (t : TypeId) (n : Nat) (hn : n = w.heap.size) : ∀ j u, [x][j]? = some u → (w.alloc (.cells #[x] t)).cell? ((⟨n, 0, none⟩ : Addr).add j) = some u := by
  subst hn
  exact cell_one_new w x t
theorem l2PartK_ans {W : World} {b o c : Nat} {T p : Ty} (hok : T.Ok) (hr : Row W (Value.int .i64) (some ⟨b, o, none⟩) T.enc) (hl : T.enc.length ≤ 1000) (hc : T.enc.length ≤ c) {k : Nat} (hp : T.parts[k]? = some p) (x : Ext W) :
    Calls Tryd.prog 124 #[.slice (some ⟨b, o, none⟩) T.enc.length c, .int .i64 k] x.w (NewRow W 22 3 (Value.int .i64) p.enc) := by
  cases T with
  | leaf => simp [Ty.parts] at hp
  | two cc A B =>
    have hlen := Ty.len_two cc A B
    have hA := A.enc_pos
    have hB := B.enc_pos
    match k, hp with
    | 0, hp =>
      simp [Ty.parts] at hp
      subst hp
      exact l2Part0_ans hr hl hc (Ty.end_two hok) (by omega) (by omega) (by omega) (row_two1 hr) x
    | 1, hp =>
      simp [Ty.parts] at hp
      subst hp
      exact l2Part1_ans hr hl hc (Ty.end_two hok) (by omega) (by omega) (by omega) (row_two2 hr) x
    | k + 2, hp => simp [Ty.parts] at hp
  | one cc A =>
    have hlen := Ty.len_one cc A
    have hA := A.enc_pos
    match k, hp with
    | 0, hp =>
      simp [Ty.parts] at hp
      subst hp
      exact l2Part0_ans hr hl hc (Ty.end_one hok) (by omega) (by omega) (by omega) (row_one hr) x
    | k + 1, hp => simp [Ty.parts] at hp

end Go.Proofs.YtoefeijnnnioeaaDoor
