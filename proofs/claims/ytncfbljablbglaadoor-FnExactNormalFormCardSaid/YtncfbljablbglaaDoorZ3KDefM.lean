/- The model's default terms. -/
import Derived.Test.YtncfbljablbglaaDoorZ3KDefS
import Derived.Test.YtncfbljablbglaaDoorZ3KKidsM
import Derived.Test.YtncfbljablbglaaDoorZ3GD
import Derived.Deep.RegionHeld3
import Derived.RegionTactic
import Derived.Outline
import Derived.Deep.Cut
set_option linter.unusedVariables false
set_option linter.unusedSimpArgs false
namespace Go.Proofs.YtncfbljablbglaaDoor
open Go.RowKit

theorem bare_own (w : World) (op n : Int) : TmOwn w (.mk op n [] []) ⟨none, 0, none, 0⟩ (fun _ => False) :=
  .mk _ _ (fun _ => ⟨none, 0, none, 0⟩) [] (fun _ _ => False) _ (World.ownsRow_nil _ _ _ _) (World.ownsRow_nil _ _ _ _) (fun i k h => by simp [Tm.kids] at h) (fun i k h => by simp [Tm.kids] at h) (fun _ _ _ h => by simp [Tm.kids] at h) (fun _ _ h => by simp [Tm.kids] at h) (fun g h => by simp [ob] at h) (fun g => by simp [ob, Tm.kids])
/-- The result's box is filled. -/
theorem dft_end {W V Y : World} {BB : Nat} {T : TypeId} {z0 z1 z2 z3 : Value} {t : Tm} {r : TV} {NB : Nat → Prop} (bV : V.heap[BB]? = some (.cells #[z0, z1, z2, z3] T (0, 0))) (own : TmOwn V t r NB) (hlo : ∀ g, NB g → W.heap.size ≤ g ∧ g ≠ BB) (bel : Below W.heap.size W V) (hBB : W.heap.size ≤ BB)
    (hY : (((V.setCell ⟨BB, 0, none⟩ (.int .i64 t.op)).setCell ⟨BB, 1, none⟩ (.int .i64 t.n)).setCell ⟨BB, 2, none⟩ (.slice r.a t.ty.length r.c)).setCell ⟨BB, 3, none⟩ (.slice r.b t.kids.length r.d) = Y) :
    (∃ (NB : Nat → Prop) (y : Ext W), Y = y.w ∧ TmOwn y.w t r NB ∧ ∀ g, NB g → W.heap.size ≤ g) ∧ Y.cell? ⟨BB, 0, none⟩ = some (.int .i64 t.op) ∧ Y.cell? ⟨BB, 1, none⟩ = some (.int .i64 t.n) ∧ Y.cell? ⟨BB, 2, none⟩ = some (.slice r.a t.ty.length r.c) ∧ Y.cell? ⟨BB, 3, none⟩ = some (.slice r.b t.kids.length r.d) := by
  obtain ⟨b1, same, -, c0, c1, c2, c3⟩ := ret4 (W := W) bel hBB bV hY
  exact ⟨⟨NB, ⟨Y, b1⟩, rfl, own.keep fun g hg => same g (hlo g hg).2, fun g hg => (hlo g hg).1⟩, c0, c1, c2, c3⟩

end Go.Proofs.YtncfbljablbglaaDoor
