
/- The program's table of terms, looked up. -/
import Derived.Test.YtiekppegfocejaaDoorFormsT
import Derived.Test.YtiekppegfocejaaDoorTypeT
import Derived.Test.YtiekppegfocejaaDoorTermT
import Derived.Deep.Cut
import Derived.Test.YtiekppegfocejaaDoorLawHead
namespace Go.Proofs.YtiekppegfocejaaDoor
open Go.RowKit

/-- A rule and a term that a method has been handed. -/
theorem boxedRT {W W1 : World} {lo : Nat} {n : Int} {b : Bool} {t : Tm} {r : TV} (h : TmIn W lo t r) (x : Ext W) {T T' : TypeId} {B : Nat} (hB : x.w.heap.size = B)
    (hW : (x.w.alloc (.cells #[.int .i64 n, .bool b] T)).alloc (.cells #[.int .i64 t.op, .int .i64 t.n, .slice r.a t.ty.length r.c, .slice r.b t.kids.length r.d] T') = W1) :
    (∀ y : Ext W1, y.w.cell? ⟨B, 0, none⟩ = some (.int .i64 n)) ∧ (∀ y : Ext W1, y.w.cell? ⟨B, 1, none⟩ = some (.bool b)) ∧
    (∀ y : Ext W1, y.w.cell? ⟨B + 1, 0, none⟩ = some (.int .i64 t.op)) ∧ (∀ y : Ext W1, y.w.cell? ⟨B + 1, 1, none⟩ = some (.int .i64 t.n)) ∧
    (∀ y : Ext W1, y.w.cell? ⟨B + 1, 2, none⟩ = some (.slice r.a t.ty.length r.c)) ∧ (∀ y : Ext W1, y.w.cell? ⟨B + 1, 3, none⟩ = some (.slice r.b t.kids.length r.d)) ∧
    TmIn W1 lo t r ∧ (∀ y : Ext W1, ∃ z : Ext W, y.w = z.w) ∧ ∃ y0 : Ext W1, y0.w = W1 := by
  obtain ⟨a0, a1, gb, _, _⟩ := boxedRule x (W1 := x.w.alloc _) hB rfl
  obtain ⟨b0, b1, b2, b3, g2, gb2, y1, hy1⟩ := boxedT (h.ext (x.alloc _)) (Ext.self (x.w.alloc _)) (T := T') (B := B + 1) (by rw [← hB]; simp) hW
  have hf : ∀ y : Ext W1, ∃ z : Ext (x.w.alloc (.cells #[.int .i64 n, .bool b] T)), y.w = z.w := gb2
  refine ⟨?_, ?_, b0, b1, b2, b3, g2, ?_, y1, hy1⟩
  · intro y; obtain ⟨z, hz⟩ := hf y; rw [hz]; exact a0 z
  · intro y; obtain ⟨z, hz⟩ := hf y; rw [hz]; exact a1 z
  · intro y; obtain ⟨z, hz⟩ := hf y; obtain ⟨u, hu⟩ := gb z; exact ⟨u, by rw [hz, hu]⟩
theorem back_ext {W W1 : World} (hback : ∀ y : Ext W1, ∃ z : Ext W, y.w = z.w) : ∃ z : Ext W, z.w = W1 := by
  obtain ⟨z, hz⟩ := hback (Ext.self W1)
  exact ⟨z, hz.symm⟩
theorem Forms.on {W W1 : World} (F : Forms W) (hback : ∀ y : Ext W1, ∃ z : Ext W, y.w = z.w) : Forms W1 := by
  obtain ⟨z, hz⟩ := back_ext hback
  rw [← hz]; exact F.ext z
theorem TForms.on {W W1 : World} (F : TForms W) (hback : ∀ y : Ext W1, ∃ z : Ext W, y.w = z.w) : TForms W1 := by
  obtain ⟨z, hz⟩ := back_ext hback
  rw [← hz]; exact F.ext z

set_option maxHeartbeats 8000000 in
theorem addedFor_ans {W : World} (F : TForms W) (t : Tm) (r : TV) (h : 0 ≤ t.op ∧ t.op ≤ 12) (k : Nat) (hk : k < 3) (hk9 : t.op = 9 → k = 0) (x : Ext W) : Calls Tryd.prog 71 #[r.val t, .int .i64 k] x.w (Ans W (.int .i64 (addsO t.op k))) := by
  obtain ⟨ra, rc, rb, rd⟩ := r
  unfold TV.val
  generalize t.op = op at *
  generalize t.n = n at *
  generalize t.ty.length = l1 at *
  generalize t.kids.length = l2 at *
  have hk3 : k = 0 ∨ k = 1 ∨ k = 2 := by omega
  rcases ops13 h with rfl | rfl | rfl | rfl | rfl | rfl | rfl | rfl | rfl | rfl | rfl | rfl | rfl
  · rcases hk3 with rfl | rfl | rfl
    · have g : ∀ o, (x.w.alloc o).cell? ⟨0, 2, none⟩ = some (.int .i64 0) := fun o => (F.ext (x.alloc o)) 2 _ rfl
      have hv : addsO 0 0 = 0 := by decide
      rw [hv]
      go_enter Tryd.func71, Tryd.ntmps71
      go_wp2
      go_ret
      exact ⟨rfl, x.alloc _, rfl⟩
    · have g : ∀ o, (x.w.alloc o).cell? ⟨0, 3, none⟩ = some (.int .i64 0) := fun o => (F.ext (x.alloc o)) 3 _ rfl
      have hv : addsO 0 1 = 0 := by decide
      rw [hv]
      go_enter Tryd.func71, Tryd.ntmps71
      go_wp2
      go_ret
      exact ⟨rfl, x.alloc _, rfl⟩
    · have g : ∀ o, (x.w.alloc o).cell? ⟨0, 4, none⟩ = some (.int .i64 0) := fun o => (F.ext (x.alloc o)) 4 _ rfl
      have hv : addsO 0 2 = 0 := by decide
      rw [hv]
      go_enter Tryd.func71, Tryd.ntmps71
      go_wp2
      go_ret
      exact ⟨rfl, x.alloc _, rfl⟩
  · rcases hk3 with rfl | rfl | rfl
    · have g : ∀ o, (x.w.alloc o).cell? ⟨0, 9, none⟩ = some (.int .i64 0) := fun o => (F.ext (x.alloc o)) 9 _ rfl
      have hv : addsO 1 0 = 0 := by decide
      rw [hv]
      go_enter Tryd.func71, Tryd.ntmps71
      go_wp2
      go_ret
      exact ⟨rfl, x.alloc _, rfl⟩
    · have g : ∀ o, (x.w.alloc o).cell? ⟨0, 10, none⟩ = some (.int .i64 0) := fun o => (F.ext (x.alloc o)) 10 _ rfl
      have hv : addsO 1 1 = 0 := by decide
      rw [hv]
      go_enter Tryd.func71, Tryd.ntmps71
      go_wp2
      go_ret
      exact ⟨rfl, x.alloc _, rfl⟩
    · have g : ∀ o, (x.w.alloc o).cell? ⟨0, 11, none⟩ = some (.int .i64 0) := fun o => (F.ext (x.alloc o)) 11 _ rfl
      have hv : addsO 1 2 = 0 := by decide
      rw [hv]
      go_enter Tryd.func71, Tryd.ntmps71
      go_wp2
      go_ret
      exact ⟨rfl, x.alloc _, rfl⟩
  · rcases hk3 with rfl | rfl | rfl
    · have g : ∀ o, (x.w.alloc o).cell? ⟨0, 16, none⟩ = some (.int .i64 0) := fun o => (F.ext (x.alloc o)) 16 _ rfl
      have hv : addsO 2 0 = 0 := by decide
      rw [hv]
      go_enter Tryd.func71, Tryd.ntmps71
      go_wp2
      go_ret
      exact ⟨rfl, x.alloc _, rfl⟩
    · have g : ∀ o, (x.w.alloc o).cell? ⟨0, 17, none⟩ = some (.int .i64 0) := fun o => (F.ext (x.alloc o)) 17 _ rfl
      have hv : addsO 2 1 = 0 := by decide
      rw [hv]
      go_enter Tryd.func71, Tryd.ntmps71
      go_wp2
      go_ret
      exact ⟨rfl, x.alloc _, rfl⟩
    · have g : ∀ o, (x.w.alloc o).cell? ⟨0, 18, none⟩ = some (.int .i64 0) := fun o => (F.ext (x.alloc o)) 18 _ rfl
      have hv : addsO 2 2 = 0 := by decide
      rw [hv]
      go_enter Tryd.func71, Tryd.ntmps71
      go_wp2
      go_ret
      exact ⟨rfl, x.alloc _, rfl⟩
  · rcases hk3 with rfl | rfl | rfl
    · have g : ∀ o, (x.w.alloc o).cell? ⟨0, 23, none⟩ = some (.int .i64 0) := fun o => (F.ext (x.alloc o)) 23 _ rfl
      have hv : addsO 3 0 = 0 := by decide
      rw [hv]
      go_enter Tryd.func71, Tryd.ntmps71
      go_wp2
      go_ret
      exact ⟨rfl, x.alloc _, rfl⟩
    · have g : ∀ o, (x.w.alloc o).cell? ⟨0, 24, none⟩ = some (.int .i64 0) := fun o => (F.ext (x.alloc o)) 24 _ rfl
      have hv : addsO 3 1 = 0 := by decide
      rw [hv]
      go_enter Tryd.func71, Tryd.ntmps71
      go_wp2
      go_ret
      exact ⟨rfl, x.alloc _, rfl⟩
    · have g : ∀ o, (x.w.alloc o).cell? ⟨0, 25, none⟩ = some (.int .i64 0) := fun o => (F.ext (x.alloc o)) 25 _ rfl
      have hv : addsO 3 2 = 0 := by decide
      rw [hv]
      go_enter Tryd.func71, Tryd.ntmps71
      go_wp2
      go_ret
      exact ⟨rfl, x.alloc _, rfl⟩
  · rcases hk3 with rfl | rfl | rfl
    · have g : ∀ o, (x.w.alloc o).cell? ⟨0, 30, none⟩ = some (.int .i64 0) := fun o => (F.ext (x.alloc o)) 30 _ rfl
      have hv : addsO 4 0 = 0 := by decide
      rw [hv]
      go_enter Tryd.func71, Tryd.ntmps71
      go_wp2
      go_ret
      exact ⟨rfl, x.alloc _, rfl⟩
    · have g : ∀ o, (x.w.alloc o).cell? ⟨0, 31, none⟩ = some (.int .i64 0) := fun o => (F.ext (x.alloc o)) 31 _ rfl
      have hv : addsO 4 1 = 0 := by decide
      rw [hv]
      go_enter Tryd.func71, Tryd.ntmps71
      go_wp2
      go_ret
      exact ⟨rfl, x.alloc _, rfl⟩
    · have g : ∀ o, (x.w.alloc o).cell? ⟨0, 32, none⟩ = some (.int .i64 0) := fun o => (F.ext (x.alloc o)) 32 _ rfl
      have hv : addsO 4 2 = 0 := by decide
      rw [hv]
      go_enter Tryd.func71, Tryd.ntmps71
      go_wp2
      go_ret
      exact ⟨rfl, x.alloc _, rfl⟩
  · rcases hk3 with rfl | rfl | rfl
    · have g : ∀ o, (x.w.alloc o).cell? ⟨0, 37, none⟩ = some (.int .i64 0) := fun o => (F.ext (x.alloc o)) 37 _ rfl
      have hv : addsO 5 0 = 0 := by decide
      rw [hv]
      go_enter Tryd.func71, Tryd.ntmps71
      go_wp2
      go_ret
      exact ⟨rfl, x.alloc _, rfl⟩
    · have g : ∀ o, (x.w.alloc o).cell? ⟨0, 38, none⟩ = some (.int .i64 2) := fun o => (F.ext (x.alloc o)) 38 _ rfl
      have hv : addsO 5 1 = 2 := by decide
      rw [hv]
      go_enter Tryd.func71, Tryd.ntmps71
      go_wp2
      go_ret
      exact ⟨rfl, x.alloc _, rfl⟩
    · have g : ∀ o, (x.w.alloc o).cell? ⟨0, 39, none⟩ = some (.int .i64 0) := fun o => (F.ext (x.alloc o)) 39 _ rfl
      have hv : addsO 5 2 = 0 := by decide
      rw [hv]
      go_enter Tryd.func71, Tryd.ntmps71
      go_wp2
      go_ret
      exact ⟨rfl, x.alloc _, rfl⟩
  · rcases hk3 with rfl | rfl | rfl
    · have g : ∀ o, (x.w.alloc o).cell? ⟨0, 44, none⟩ = some (.int .i64 0) := fun o => (F.ext (x.alloc o)) 44 _ rfl
      have hv : addsO 6 0 = 0 := by decide
      rw [hv]
      go_enter Tryd.func71, Tryd.ntmps71
      go_wp2
      go_ret
      exact ⟨rfl, x.alloc _, rfl⟩
    · have g : ∀ o, (x.w.alloc o).cell? ⟨0, 45, none⟩ = some (.int .i64 0) := fun o => (F.ext (x.alloc o)) 45 _ rfl
      have hv : addsO 6 1 = 0 := by decide
      rw [hv]
      go_enter Tryd.func71, Tryd.ntmps71
      go_wp2
      go_ret
      exact ⟨rfl, x.alloc _, rfl⟩
    · have g : ∀ o, (x.w.alloc o).cell? ⟨0, 46, none⟩ = some (.int .i64 0) := fun o => (F.ext (x.alloc o)) 46 _ rfl
      have hv : addsO 6 2 = 0 := by decide
      rw [hv]
      go_enter Tryd.func71, Tryd.ntmps71
      go_wp2
      go_ret
      exact ⟨rfl, x.alloc _, rfl⟩
  · rcases hk3 with rfl | rfl | rfl
    · have g : ∀ o, (x.w.alloc o).cell? ⟨0, 51, none⟩ = some (.int .i64 0) := fun o => (F.ext (x.alloc o)) 51 _ rfl
      have hv : addsO 7 0 = 0 := by decide
      rw [hv]
      go_enter Tryd.func71, Tryd.ntmps71
      go_wp2
      go_ret
      exact ⟨rfl, x.alloc _, rfl⟩
    · have g : ∀ o, (x.w.alloc o).cell? ⟨0, 52, none⟩ = some (.int .i64 0) := fun o => (F.ext (x.alloc o)) 52 _ rfl
      have hv : addsO 7 1 = 0 := by decide
      rw [hv]
      go_enter Tryd.func71, Tryd.ntmps71
      go_wp2
      go_ret
      exact ⟨rfl, x.alloc _, rfl⟩
    · have g : ∀ o, (x.w.alloc o).cell? ⟨0, 53, none⟩ = some (.int .i64 0) := fun o => (F.ext (x.alloc o)) 53 _ rfl
      have hv : addsO 7 2 = 0 := by decide
      rw [hv]
      go_enter Tryd.func71, Tryd.ntmps71
      go_wp2
      go_ret
      exact ⟨rfl, x.alloc _, rfl⟩
  · rcases hk3 with rfl | rfl | rfl
    · have g : ∀ o, (x.w.alloc o).cell? ⟨0, 58, none⟩ = some (.int .i64 0) := fun o => (F.ext (x.alloc o)) 58 _ rfl
      have hv : addsO 8 0 = 0 := by decide
      rw [hv]
      go_enter Tryd.func71, Tryd.ntmps71
      go_wp2
      go_ret
      exact ⟨rfl, x.alloc _, rfl⟩
    · have g : ∀ o, (x.w.alloc o).cell? ⟨0, 59, none⟩ = some (.int .i64 1) := fun o => (F.ext (x.alloc o)) 59 _ rfl
      have hv : addsO 8 1 = 1 := by decide
      rw [hv]
      go_enter Tryd.func71, Tryd.ntmps71
      go_wp2
      go_ret
      exact ⟨rfl, x.alloc _, rfl⟩
    · have g : ∀ o, (x.w.alloc o).cell? ⟨0, 60, none⟩ = some (.int .i64 1) := fun o => (F.ext (x.alloc o)) 60 _ rfl
      have hv : addsO 8 2 = 1 := by decide
      rw [hv]
      go_enter Tryd.func71, Tryd.ntmps71
      go_wp2
      go_ret
      exact ⟨rfl, x.alloc _, rfl⟩
  · rcases hk3 with rfl | rfl | rfl
    · have g : ∀ o, (x.w.alloc o).cell? ⟨0, 65, none⟩ = some (.int .i64 1) := fun o => (F.ext (x.alloc o)) 65 _ rfl
      have hv : addsO 9 0 = 1 := by decide
      rw [hv]
      go_enter Tryd.func71, Tryd.ntmps71
      go_wp2
      go_ret
      exact ⟨rfl, x.alloc _, rfl⟩
    · exact absurd (hk9 rfl) (by omega)
    · exact absurd (hk9 rfl) (by omega)
  · rcases hk3 with rfl | rfl | rfl
    · have g : ∀ o, (x.w.alloc o).cell? ⟨0, 72, none⟩ = some (.int .i64 0) := fun o => (F.ext (x.alloc o)) 72 _ rfl
      have hv : addsO 10 0 = 0 := by decide
      rw [hv]
      go_enter Tryd.func71, Tryd.ntmps71
      go_wp2
      go_ret
      exact ⟨rfl, x.alloc _, rfl⟩
    · have g : ∀ o, (x.w.alloc o).cell? ⟨0, 73, none⟩ = some (.int .i64 0) := fun o => (F.ext (x.alloc o)) 73 _ rfl
      have hv : addsO 10 1 = 0 := by decide
      rw [hv]
      go_enter Tryd.func71, Tryd.ntmps71
      go_wp2
      go_ret
      exact ⟨rfl, x.alloc _, rfl⟩
    · have g : ∀ o, (x.w.alloc o).cell? ⟨0, 74, none⟩ = some (.int .i64 0) := fun o => (F.ext (x.alloc o)) 74 _ rfl
      have hv : addsO 10 2 = 0 := by decide
      rw [hv]
      go_enter Tryd.func71, Tryd.ntmps71
      go_wp2
      go_ret
      exact ⟨rfl, x.alloc _, rfl⟩
  · rcases hk3 with rfl | rfl | rfl
    · have g : ∀ o, (x.w.alloc o).cell? ⟨0, 79, none⟩ = some (.int .i64 0) := fun o => (F.ext (x.alloc o)) 79 _ rfl
      have hv : addsO 11 0 = 0 := by decide
      rw [hv]
      go_enter Tryd.func71, Tryd.ntmps71
      go_wp2
      go_ret
      exact ⟨rfl, x.alloc _, rfl⟩
    · have g : ∀ o, (x.w.alloc o).cell? ⟨0, 80, none⟩ = some (.int .i64 0) := fun o => (F.ext (x.alloc o)) 80 _ rfl
      have hv : addsO 11 1 = 0 := by decide
      rw [hv]
      go_enter Tryd.func71, Tryd.ntmps71
      go_wp2
      go_ret
      exact ⟨rfl, x.alloc _, rfl⟩
    · have g : ∀ o, (x.w.alloc o).cell? ⟨0, 81, none⟩ = some (.int .i64 0) := fun o => (F.ext (x.alloc o)) 81 _ rfl
      have hv : addsO 11 2 = 0 := by decide
      rw [hv]
      go_enter Tryd.func71, Tryd.ntmps71
      go_wp2
      go_ret
      exact ⟨rfl, x.alloc _, rfl⟩
  · rcases hk3 with rfl | rfl | rfl
    · have g : ∀ o, (x.w.alloc o).cell? ⟨0, 86, none⟩ = some (.int .i64 0) := fun o => (F.ext (x.alloc o)) 86 _ rfl
      have hv : addsO 12 0 = 0 := by decide
      rw [hv]
      go_enter Tryd.func71, Tryd.ntmps71
      go_wp2
      go_ret
      exact ⟨rfl, x.alloc _, rfl⟩
    · have g : ∀ o, (x.w.alloc o).cell? ⟨0, 87, none⟩ = some (.int .i64 1) := fun o => (F.ext (x.alloc o)) 87 _ rfl
      have hv : addsO 12 1 = 1 := by decide
      rw [hv]
      go_enter Tryd.func71, Tryd.ntmps71
      go_wp2
      go_ret
      exact ⟨rfl, x.alloc _, rfl⟩
    · have g : ∀ o, (x.w.alloc o).cell? ⟨0, 88, none⟩ = some (.int .i64 0) := fun o => (F.ext (x.alloc o)) 88 _ rfl
      have hv : addsO 12 2 = 0 := by decide
      rw [hv]
      go_enter Tryd.func71, Tryd.ntmps71
      go_wp2
      go_ret
      exact ⟨rfl, x.alloc _, rfl⟩

theorem boxed7 {W W1 : World} (x : Ext W) {T : TypeId} {B : Nat} {v0 v1 v2 v3 v4 v5 v6 : Value} (hB : x.w.heap.size = B) (hW : x.w.alloc (.cells #[v0, v1, v2, v3, v4, v5, v6] T) = W1) :
    (∀ y : Ext W1, y.w.cell? ⟨B, 0, none⟩ = some v0) ∧ (∀ y : Ext W1, y.w.cell? ⟨B, 1, none⟩ = some v1) ∧ (∀ y : Ext W1, y.w.cell? ⟨B, 2, none⟩ = some v2) ∧ (∀ y : Ext W1, y.w.cell? ⟨B, 3, none⟩ = some v3) ∧
    (∀ y : Ext W1, y.w.cell? ⟨B, 4, none⟩ = some v4) ∧ (∀ y : Ext W1, y.w.cell? ⟨B, 5, none⟩ = some v5) ∧ (∀ y : Ext W1, y.w.cell? ⟨B, 6, none⟩ = some v6) ∧ (∀ y : Ext W1, ∃ u : Ext x.w, y.w = u.w) ∧ ∃ y0 : Ext W1, y0.w = W1 := by
  subst hW; subst hB
  have f : ∀ (y : Ext (x.w.alloc (.cells #[v0, v1, v2, v3, v4, v5, v6] T))) (j : Nat) v, #[v0, v1, v2, v3, v4, v5, v6][j]? = some v → y.w.cell? ⟨x.w.heap.size, j, none⟩ = some v := fun y j v h => y.cell (by rw [World.cell?_alloc_at _ _ _ _ rfl]; exact h)
  exact ⟨fun y => f y 0 _ rfl, fun y => f y 1 _ rfl, fun y => f y 2 _ rfl, fun y => f y 3 _ rfl, fun y => f y 4 _ rfl, fun y => f y 5 _ rfl, fun y => f y 6 _ rfl, fun y => ⟨(Ext.self x.w).on (((Below.refl _ _).alloc (Nat.le_refl _) _).trans (y.below.mono (by simp))), rfl⟩, Ext.self _, rfl⟩

end Go.Proofs.YtiekppegfocejaaDoor
