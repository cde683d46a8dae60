/- Texts of one claim, laid together: TermI, TermJ, TermK. -/
import Derived.Test.YtncfbljablbglaaDoorZ3GC
import Derived.Test.YtncfbljablbglaaDoorZ3GD
import Derived.Test.YtncfbljablbglaaDoorZ3GG
import Derived.Deep.Cut
import Derived.Test.YtncfbljablbglaaDoorZ3GE
set_option linter.unusedVariables false
set_option linter.unusedSimpArgs false
/- The program's table of terms, looked up. -/
namespace Go.Proofs.YtncfbljablbglaaDoor
open Go.RowKit

/-- A rule and a term that a method has been handed. -/
theorem boxedRT {W W1 : World} {lo : Nat} {n : Int} {b : Bool} {t : Tm} {r : TV} (h : TmIn W lo t r) (x : Ext W) {T T' : TypeId} {B : Nat} (hB : x.w.heap.size = B)
    (hW : (x.w.alloc (.cells #[.int .i64 n, .bool b] T)).alloc (.cells #[.int .i64 t.op, .int .i64 t.n, .slice r.a t.ty.length r.c, .slice r.b t.kids.length r.d] T') = W1) :
    (∀ y : Ext W1, y.w.cell? ⟨B, 0, none⟩ = some (.int .i64 n)) ∧ (∀ y : Ext W1, y.w.cell? ⟨B, 1, none⟩ = some (.bool b)) ∧
    (∀ y : Ext W1, y.w.cell? ⟨B + 1, 0, none⟩ = some (.int .i64 t.op)) ∧ (∀ y : Ext W1, y.w.cell? ⟨B + 1, 1, none⟩ = some (.int .i64 t.n)) ∧
    (∀ y : Ext W1, y.w.cell? ⟨B + 1, 2, none⟩ = some (.slice r.a t.ty.length r.c)) ∧ (∀ y : Ext W1, y.w.cell? ⟨B + 1, 3, none⟩ = some (.slice r.b t.kids.length r.d)) ∧
    TmIn W1 lo t r ∧ (∀ y : Ext W1, ∃ z : Ext W, y.w = z.w) ∧ ∃ y0 : Ext W1, y0.w = W1 := by
  obtain ⟨a0, a1, gb, _, _⟩ := boxedRule x (W1 := x.w.alloc _) hB rfl
  obtain ⟨b0, b1, b2, b3, g2, gb2, y1, hy1⟩ := boxedT (h.ext (x.alloc _)) (Ext.self (x.w.alloc _)) (T := T') (B := B + 1) (by rw [← hB]; simp) hW
  have hf : ∀ y : Ext W1, ∃ z : Ext (x.w.alloc (.cells #[.int .i64 n, .bool b] T)), y.w = z.w := gb2
  refine ⟨?_, ?_, b0, b1, b2, b3, g2, ?_, y1, hy1⟩
  · intro y; obtain ⟨z, hz⟩ := hf y; rw [hz]; exact a0 z
  · intro y; obtain ⟨z, hz⟩ := hf y; rw [hz]; exact a1 z
  · intro y; obtain ⟨z, hz⟩ := hf y; obtain ⟨u, hu⟩ := gb z; exact ⟨u, by rw [hz, hu]⟩
theorem back_ext {W W1 : World} (hback : ∀ y : Ext W1, ∃ z : Ext W, y.w = z.w) : ∃ z : Ext W, z.w = W1 := by
  obtain ⟨z, hz⟩ := hback (Ext.self W1)
  exact ⟨z, hz.symm⟩
theorem Forms.on {W W1 : World} (F : Forms W) (hback : ∀ y : Ext W1, ∃ z : Ext W, y.w = z.w) : Forms W1 := by
  obtain ⟨z, hz⟩ := back_ext hback
  rw [← hz]; exact F.ext z
theorem TForms.on {W W1 : World} (F : TForms W) (hback : ∀ y : Ext W1, ∃ z : Ext W, y.w = z.w) : TForms W1 := by
  obtain ⟨z, hz⟩ := back_ext hback
  rw [← hz]; exact F.ext z

set_option maxHeartbeats 8000000 in
theorem addedFor_ans {W : World} (F : TForms W) (t : Tm) (r : TV) (h : 0 ≤ t.op ∧ t.op ≤ 12) (k : Nat) (hk : k < 3) (hk9 : t.op = 9 → k = 0) (x : Ext W) : Calls Tryd.prog 108 #[r.val t, .int .i64 k] x.w (Ans W (.int .i64 (addsO t.op k))) := by
  obtain ⟨ra, rc, rb, rd⟩ := r
  unfold TV.val
  generalize t.op = op at *
  generalize t.n = n at *
  generalize t.ty.length = l1 at *
  generalize t.kids.length = l2 at *
  have hk3 : k = 0 ∨ k = 1 ∨ k = 2 := by omega
  rcases ops13 h with rfl | rfl | rfl | rfl | rfl | rfl | rfl | rfl | rfl | rfl | rfl | rfl | rfl
  · rcases hk3 with rfl | rfl | rfl
    · have g : ∀ o, (x.w.alloc o).cell? ⟨0, 2, none⟩ = some (.int .i64 0) := fun o => (F.ext (x.alloc o)) 2 _ rfl
      have hv : addsO 0 0 = 0 := by decide
      rw [hv]
      go_enter Tryd.func108, Tryd.ntmps108
      go_wp2
      go_ret
      exact ⟨rfl, x.alloc _, rfl⟩
    · have g : ∀ o, (x.w.alloc o).cell? ⟨0, 3, none⟩ = some (.int .i64 0) := fun o => (F.ext (x.alloc o)) 3 _ rfl
      have hv : addsO 0 1 = 0 := by decide
      rw [hv]
      go_enter Tryd.func108, Tryd.ntmps108
      go_wp2
      go_ret
      exact ⟨rfl, x.alloc _, rfl⟩
    · have g : ∀ o, (x.w.alloc o).cell? ⟨0, 4, none⟩ = some (.int .i64 0) := fun o => (F.ext (x.alloc o)) 4 _ rfl
      have hv : addsO 0 2 = 0 := by decide
      rw [hv]
      go_enter Tryd.func108, Tryd.ntmps108
      go_wp2
      go_ret
      exact ⟨rfl, x.alloc _, rfl⟩
  · rcases hk3 with rfl | rfl | rfl
    · have g : ∀ o, (x.w.alloc o).cell? ⟨0, 9, none⟩ = some (.int .i64 0) := fun o => (F.ext (x.alloc o)) 9 _ rfl
      have hv : addsO 1 0 = 0 := by decide
      rw [hv]
      go_enter Tryd.func108, Tryd.ntmps108
      go_wp2
      go_ret
      exact ⟨rfl, x.alloc _, rfl⟩
    · have g : ∀ o, (x.w.alloc o).cell? ⟨0, 10, none⟩ = some (.int .i64 0) := fun o => (F.ext (x.alloc o)) 10 _ rfl
      have hv : addsO 1 1 = 0 := by decide
      rw [hv]
      go_enter Tryd.func108, Tryd.ntmps108
      go_wp2
      go_ret
      exact ⟨rfl, x.alloc _, rfl⟩
    · have g : ∀ o, (x.w.alloc o).cell? ⟨0, 11, none⟩ = some (.int .i64 0) := fun o => (F.ext (x.alloc o)) 11 _ rfl
      have hv : addsO 1 2 = 0 := by decide
      rw [hv]
      go_enter Tryd.func108, Tryd.ntmps108
      go_wp2
      go_ret
      exact ⟨rfl, x.alloc _, rfl⟩
  · rcases hk3 with rfl | rfl | rfl
    · have g : ∀ o, (x.w.alloc o).cell? ⟨0, 16, none⟩ = some (.int .i64 0) := fun o => (F.ext (x.alloc o)) 16 _ rfl
      have hv : addsO 2 0 = 0 := by decide
      rw [hv]
      go_enter Tryd.func108, Tryd.ntmps108
      go_wp2
      go_ret
      exact ⟨rfl, x.alloc _, rfl⟩
    · have g : ∀ o, (x.w.alloc o).cell? ⟨0, 17, none⟩ = some (.int .i64 0) := fun o => (F.ext (x.alloc o)) 17 _ rfl
      have hv : addsO 2 1 = 0 := by decide
      rw [hv]
      go_enter Tryd.func108, Tryd.ntmps108
      go_wp2
      go_ret
      exact ⟨rfl, x.alloc _, rfl⟩
    · have g : ∀ o, (x.w.alloc o).cell? ⟨0, 18, none⟩ = some (.int .i64 0) := fun o => (F.ext (x.alloc o)) 18 _ rfl
      have hv : addsO 2 2 = 0 := by decide
      rw [hv]
      go_enter Tryd.func108, Tryd.ntmps108
      go_wp2
      go_ret
      exact ⟨rfl, x.alloc _, rfl⟩
  · rcases hk3 with rfl | rfl | rfl
    · have g : ∀ o, (x.w.alloc o).cell? ⟨0, 23, none⟩ = some (.int .i64 0) := fun o => (F.ext (x.alloc o)) 23 _ rfl
      have hv : addsO 3 0 = 0 := by decide
      rw [hv]
      go_enter Tryd.func108, Tryd.ntmps108
      go_wp2
      go_ret
      exact ⟨rfl, x.alloc _, rfl⟩
    · have g : ∀ o, (x.w.alloc o).cell? ⟨0, 24, none⟩ = some (.int .i64 0) := fun o => (F.ext (x.alloc o)) 24 _ rfl
      have hv : addsO 3 1 = 0 := by decide
      rw [hv]
      go_enter Tryd.func108, Tryd.ntmps108
      go_wp2
      go_ret
      exact ⟨rfl, x.alloc _, rfl⟩
    · have g : ∀ o, (x.w.alloc o).cell? ⟨0, 25, none⟩ = some (.int .i64 0) := fun o => (F.ext (x.alloc o)) 25 _ rfl
      have hv : addsO 3 2 = 0 := by decide
      rw [hv]
      go_enter Tryd.func108, Tryd.ntmps108
      go_wp2
      go_ret
      exact ⟨rfl, x.alloc _, rfl⟩
  · rcases hk3 with rfl | rfl | rfl
    · have g : ∀ o, (x.w.alloc o).cell? ⟨0, 30, none⟩ = some (.int .i64 0) := fun o => (F.ext (x.alloc o)) 30 _ rfl
      have hv : addsO 4 0 = 0 := by decide
      rw [hv]
      go_enter Tryd.func108, Tryd.ntmps108
      go_wp2
      go_ret
      exact ⟨rfl, x.alloc _, rfl⟩
    · have g : ∀ o, (x.w.alloc o).cell? ⟨0, 31, none⟩ = some (.int .i64 0) := fun o => (F.ext (x.alloc o)) 31 _ rfl
      have hv : addsO 4 1 = 0 := by decide
      rw [hv]
      go_enter Tryd.func108, Tryd.ntmps108
      go_wp2
      go_ret
      exact ⟨rfl, x.alloc _, rfl⟩
    · have g : ∀ o, (x.w.alloc o).cell? ⟨0, 32, none⟩ = some (.int .i64 0) := fun o => (F.ext (x.alloc o)) 32 _ rfl
      have hv : addsO 4 2 = 0 := by decide
      rw [hv]
      go_enter Tryd.func108, Tryd.ntmps108
      go_wp2
      go_ret
      exact ⟨rfl, x.alloc _, rfl⟩
  · rcases hk3 with rfl | rfl | rfl
    · have g : ∀ o, (x.w.alloc o).cell? ⟨0, 37, none⟩ = some (.int .i64 0) := fun o => (F.ext (x.alloc o)) 37 _ rfl
      have hv : addsO 5 0 = 0 := by decide
      rw [hv]
      go_enter Tryd.func108, Tryd.ntmps108
      go_wp2
      go_ret
      exact ⟨rfl, x.alloc _, rfl⟩
    · have g : ∀ o, (x.w.alloc o).cell? ⟨0, 38, none⟩ = some (.int .i64 2) := fun o => (F.ext (x.alloc o)) 38 _ rfl
      have hv : addsO 5 1 = 2 := by decide
      rw [hv]
      go_enter Tryd.func108, Tryd.ntmps108
      go_wp2
      go_ret
      exact ⟨rfl, x.alloc _, rfl⟩
    · have g : ∀ o, (x.w.alloc o).cell? ⟨0, 39, none⟩ = some (.int .i64 0) := fun o => (F.ext (x.alloc o)) 39 _ rfl
      have hv : addsO 5 2 = 0 := by decide
      rw [hv]
      go_enter Tryd.func108, Tryd.ntmps108
      go_wp2
      go_ret
      exact ⟨rfl, x.alloc _, rfl⟩
  · rcases hk3 with rfl | rfl | rfl
    · have g : ∀ o, (x.w.alloc o).cell? ⟨0, 44, none⟩ = some (.int .i64 0) := fun o => (F.ext (x.alloc o)) 44 _ rfl
      have hv : addsO 6 0 = 0 := by decide
      rw [hv]
      go_enter Tryd.func108, Tryd.ntmps108
      go_wp2
      go_ret
      exact ⟨rfl, x.alloc _, rfl⟩
    · have g : ∀ o, (x.w.alloc o).cell? ⟨0, 45, none⟩ = some (.int .i64 0) := fun o => (F.ext (x.alloc o)) 45 _ rfl
      have hv : addsO 6 1 = 0 := by decide
      rw [hv]
      go_enter Tryd.func108, Tryd.ntmps108
      go_wp2
      go_ret
      exact ⟨rfl, x.alloc _, rfl⟩
    · have g : ∀ o, (x.w.alloc o).cell? ⟨0, 46, none⟩ = some (.int .i64 0) := fun o => (F.ext (x.alloc o)) 46 _ rfl
      have hv : addsO 6 2 = 0 := by decide
      rw [hv]
      go_enter Tryd.func108, Tryd.ntmps108
      go_wp2
      go_ret
      exact ⟨rfl, x.alloc _, rfl⟩
  · rcases hk3 with rfl | rfl | rfl
    · have g : ∀ o, (x.w.alloc o).cell? ⟨0, 51, none⟩ = some (.int .i64 0) := fun o => (F.ext (x.alloc o)) 51 _ rfl
      have hv : addsO 7 0 = 0 := by decide
      rw [hv]
      go_enter Tryd.func108, Tryd.ntmps108
      go_wp2
      go_ret
      exact ⟨rfl, x.alloc _, rfl⟩
    · have g : ∀ o, (x.w.alloc o).cell? ⟨0, 52, none⟩ = some (.int .i64 0) := fun o => (F.ext (x.alloc o)) 52 _ rfl
      have hv : addsO 7 1 = 0 := by decide
      rw [hv]
      go_enter Tryd.func108, Tryd.ntmps108
      go_wp2
      go_ret
      exact ⟨rfl, x.alloc _, rfl⟩
    · have g : ∀ o, (x.w.alloc o).cell? ⟨0, 53, none⟩ = some (.int .i64 0) := fun o => (F.ext (x.alloc o)) 53 _ rfl
      have hv : addsO 7 2 = 0 := by decide
      rw [hv]
      go_enter Tryd.func108, Tryd.ntmps108
      go_wp2
      go_ret
      exact ⟨rfl, x.alloc _, rfl⟩
  · rcases hk3 with rfl | rfl | rfl
    · have g : ∀ o, (x.w.alloc o).cell? ⟨0, 58, none⟩ = some (.int .i64 0) := fun o => (F.ext (x.alloc o)) 58 _ rfl
      have hv : addsO 8 0 = 0 := by decide
      rw [hv]
      go_enter Tryd.func108, Tryd.ntmps108
      go_wp2
      go_ret
      exact ⟨rfl, x.alloc _, rfl⟩
    · have g : ∀ o, (x.w.alloc o).cell? ⟨0, 59, none⟩ = some (.int .i64 1) := fun o => (F.ext (x.alloc o)) 59 _ rfl
      have hv : addsO 8 1 = 1 := by decide
      rw [hv]
      go_enter Tryd.func108, Tryd.ntmps108
      go_wp2
      go_ret
      exact ⟨rfl, x.alloc _, rfl⟩
    · have g : ∀ o, (x.w.alloc o).cell? ⟨0, 60, none⟩ = some (.int .i64 1) := fun o => (F.ext (x.alloc o)) 60 _ rfl
      have hv : addsO 8 2 = 1 := by decide
      rw [hv]
      go_enter Tryd.func108, Tryd.ntmps108
      go_wp2
      go_ret
      exact ⟨rfl, x.alloc _, rfl⟩
  · rcases hk3 with rfl | rfl | rfl
    · have g : ∀ o, (x.w.alloc o).cell? ⟨0, 65, none⟩ = some (.int .i64 1) := fun o => (F.ext (x.alloc o)) 65 _ rfl
      have hv : addsO 9 0 = 1 := by decide
      rw [hv]
      go_enter Tryd.func108, Tryd.ntmps108
      go_wp2
      go_ret
      exact ⟨rfl, x.alloc _, rfl⟩
    · exact absurd (hk9 rfl) (by omega)
    · exact absurd (hk9 rfl) (by omega)
  · rcases hk3 with rfl | rfl | rfl
    · have g : ∀ o, (x.w.alloc o).cell? ⟨0, 72, none⟩ = some (.int .i64 0) := fun o => (F.ext (x.alloc o)) 72 _ rfl
      have hv : addsO 10 0 = 0 := by decide
      rw [hv]
      go_enter Tryd.func108, Tryd.ntmps108
      go_wp2
      go_ret
      exact ⟨rfl, x.alloc _, rfl⟩
    · have g : ∀ o, (x.w.alloc o).cell? ⟨0, 73, none⟩ = some (.int .i64 0) := fun o => (F.ext (x.alloc o)) 73 _ rfl
      have hv : addsO 10 1 = 0 := by decide
      rw [hv]
      go_enter Tryd.func108, Tryd.ntmps108
      go_wp2
      go_ret
      exact ⟨rfl, x.alloc _, rfl⟩
    · have g : ∀ o, (x.w.alloc o).cell? ⟨0, 74, none⟩ = some (.int .i64 0) := fun o => (F.ext (x.alloc o)) 74 _ rfl
      have hv : addsO 10 2 = 0 := by decide
      rw [hv]
      go_enter Tryd.func108, Tryd.ntmps108
      go_wp2
      go_ret
      exact ⟨rfl, x.alloc _, rfl⟩
  · rcases hk3 with rfl | rfl | rfl
    · have g : ∀ o, (x.w.alloc o).cell? ⟨0, 79, none⟩ = some (.int .i64 0) := fun o => (F.ext (x.alloc o)) 79 _ rfl
      have hv : addsO 11 0 = 0 := by decide
      rw [hv]
      go_enter Tryd.func108, Tryd.ntmps108
      go_wp2
      go_ret
      exact ⟨rfl, x.alloc _, rfl⟩
    · have g : ∀ o, (x.w.alloc o).cell? ⟨0, 80, none⟩ = some (.int .i64 0) := fun o => (F.ext (x.alloc o)) 80 _ rfl
      have hv : addsO 11 1 = 0 := by decide
      rw [hv]
      go_enter Tryd.func108, Tryd.ntmps108
      go_wp2
      go_ret
      exact ⟨rfl, x.alloc _, rfl⟩
    · have g : ∀ o, (x.w.alloc o).cell? ⟨0, 81, none⟩ = some (.int .i64 0) := fun o => (F.ext (x.alloc o)) 81 _ rfl
      have hv : addsO 11 2 = 0 := by decide
      rw [hv]
      go_enter Tryd.func108, Tryd.ntmps108
      go_wp2
      go_ret
      exact ⟨rfl, x.alloc _, rfl⟩
  · rcases hk3 with rfl | rfl | rfl
    · have g : ∀ o, (x.w.alloc o).cell? ⟨0, 86, none⟩ = some (.int .i64 0) := fun o => (F.ext (x.alloc o)) 86 _ rfl
      have hv : addsO 12 0 = 0 := by decide
      rw [hv]
      go_enter Tryd.func108, Tryd.ntmps108
      go_wp2
      go_ret
      exact ⟨rfl, x.alloc _, rfl⟩
    · have g : ∀ o, (x.w.alloc o).cell? ⟨0, 87, none⟩ = some (.int .i64 1) := fun o => (F.ext (x.alloc o)) 87 _ rfl
      have hv : addsO 12 1 = 1 := by decide
      rw [hv]
      go_enter Tryd.func108, Tryd.ntmps108
      go_wp2
      go_ret
      exact ⟨rfl, x.alloc _, rfl⟩
    · have g : ∀ o, (x.w.alloc o).cell? ⟨0, 88, none⟩ = some (.int .i64 0) := fun o => (F.ext (x.alloc o)) 88 _ rfl
      have hv : addsO 12 2 = 0 := by decide
      rw [hv]
      go_enter Tryd.func108, Tryd.ntmps108
      go_wp2
      go_ret
      exact ⟨rfl, x.alloc _, rfl⟩

theorem boxed7 {W W1 : World} (x : Ext W) {T : TypeId} {B : Nat} {v0 v1 v2 v3 v4 v5 v6 : Value} (hB : x.w.heap.size = B) (hW : x.w.alloc (.cells #[v0, v1, v2, v3, v4, v5, v6] T) = W1) :
    (∀ y : Ext W1, y.w.cell? ⟨B, 0, none⟩ = some v0) ∧ (∀ y : Ext W1, y.w.cell? ⟨B, 1, none⟩ = some v1) ∧ (∀ y : Ext W1, y.w.cell? ⟨B, 2, none⟩ = some v2) ∧ (∀ y : Ext W1, y.w.cell? ⟨B, 3, none⟩ = some v3) ∧
    (∀ y : Ext W1, y.w.cell? ⟨B, 4, none⟩ = some v4) ∧ (∀ y : Ext W1, y.w.cell? ⟨B, 5, none⟩ = some v5) ∧ (∀ y : Ext W1, y.w.cell? ⟨B, 6, none⟩ = some v6) ∧ (∀ y : Ext W1, ∃ u : Ext x.w, y.w = u.w) ∧ ∃ y0 : Ext W1, y0.w = W1 := by
  subst hW; subst hB
  have f : ∀ (y : Ext (x.w.alloc (.cells #[v0, v1, v2, v3, v4, v5, v6] T))) (j : Nat) v, #[v0, v1, v2, v3, v4, v5, v6][j]? = some v → y.w.cell? ⟨x.w.heap.size, j, none⟩ = some v := fun y j v h => y.cell (by rw [World.cell?_alloc_at _ _ _ _ rfl]; exact h)
  exact ⟨fun y => f y 0 _ rfl, fun y => f y 1 _ rfl, fun y => f y 2 _ rfl, fun y => f y 3 _ rfl, fun y => f y 4 _ rfl, fun y => f y 5 _ rfl, fun y => f y 6 _ rfl, fun y => ⟨(Ext.self x.w).on (((Below.refl _ _).alloc (Nat.le_refl _) _).trans (y.below.mono (by simp))), rfl⟩, Ext.self _, rfl⟩

end Go.Proofs.YtncfbljablbglaaDoor
/- The program's nodes of terms. -/
namespace Go.Proofs.YtncfbljablbglaaDoor
open Go.RowKit

theorem allows_iff {size : Int} (hs : 0 ≤ size) (opn : Bool) (n : Int) : Allows size opn n ↔ (n < size ∧ -1 ≤ n ∧ ((!opn) = true → 0 ≤ n)) := by
  unfold Allows
  cases opn <;> simp <;> omega
set_option maxHeartbeats 8000000 in
theorem allowsNode_ans {W : World} (F : Forms W) (TF : TForms W) {lo : Nat} {t : Tm} {r : TV} (h : TmIn W lo t r) (hTB : TmB t) (size : Int) (hs : 0 ≤ size) (hs16 : size ≤ 16) (opn : Bool) (vars : Int) (p : Bool) (hp : p = true ↔ NodeOk size (!opn) vars t) (x : Ext W) :
    Calls Tryd.prog 107 #[.agg #[.int .i64 size, .bool opn], r.val t, .int .i64 vars] x.w (Ans W (.bool p)) := by
  have HP := Lib.hid hp
  clear hp
  obtain ⟨ra, rc, rb, rd⟩ := r
  unfold TV.val
  by_cases hop : 0 ≤ t.op ∧ t.op < 13
  · generalize hm : manyO t.op = m
    replace hm := Lib.hid hm
    obtain ⟨j, hj⟩ : ∃ j : Nat, t.op = (j : Int) := ⟨t.op.toNat, by omega⟩
    have hj12 : j ≤ 12 := by omega
    have hj12' : (j : Int) < 13 := by omega
    have HOP := Lib.hid hop
    clear hop
    replace hj := Lib.hid hj
    obtain ⟨gr, hgr⟩ : ∃ gr, decide (HasG j) = gr := ⟨_, rfl⟩
    obtain ⟨ty, hty⟩ : ∃ ty, decide (TypedO j) = ty := ⟨_, rfl⟩
    replace hgr := Lib.hid hgr
    replace hty := Lib.hid hty
    go_enter Tryd.func107, Tryd.ntmps107
    go_wp2_with fail
    generalize hW : (x.w.alloc _).alloc _ = W1
    generalize hB : x.w.heap.size = B
    obtain ⟨e0, e1, c0, c1, c2, c3, h1, hback, yy, hy0⟩ := boxedRT h x hB hW
    clear hW hB
    have FF := F.on hback
    have TT := TF.on hback
    rw [← hy0]
    clear hy0
    obtain ⟨kr, A⟩ := h1.out
    have hrow := A.row
    have hlt := A.lt
    have hlk := A.lk
    clear A
    obtain ⟨q0, q1, q2, q3, q4, q5, q6⟩ := TT.at hj12
    have t0 : ∀ y : Ext W1, y.w.cell? ⟨0, j * 7, none⟩ = some (.string (wordO j)) := fun y => y.cell q0
    have t1 : ∀ y : Ext W1, y.w.cell? ⟨0, j * 7 + 1, none⟩ = some (.int .i64 m) := fun y => by rw [← hm.out, hj.out]; exact y.cell q1
    have t2 := fun y : Ext W1 => y.cell q2
    have t3 := fun y : Ext W1 => y.cell q3
    have t4 := fun y : Ext W1 => y.cell q4
    have t5 : ∀ y : Ext W1, y.w.cell? ⟨0, j * 7 + 5, none⟩ = some (.bool gr) := fun y => by rw [← hgr.out]; exact y.cell q5
    have t6 : ∀ y : Ext W1, y.w.cell? ⟨0, j * 7 + 6, none⟩ = some (.bool ty) := fun y => by rw [← hty.out]; exact y.cell q6
    clear q0 q1 q2 q3 q4 q5 q6 TT
    generalize addsO _ 0 = ad0 at *
    generalize (if j = 9 then (0 : Int) else addsO _ 1) = ad1 at *
    generalize (if j = 9 then (0 : Int) else addsO _ 2) = ad2 at *
    generalize wordO j = wd at *
    replace c0 : ∀ y : Ext W1, y.w.cell? ⟨B + 1, 0, none⟩ = some (.int .i64 j) := fun y => by rw [← hj.out]; exact c0 y
    go_upto_region 4 with (go_at_call 36; with_reducible refine Calls.mono (inRange_ans t.op 13 true (by refine iff_tf ?_; dsimp only; have := HOP.out; omega) _) ?_; rintro e w' ⟨rfl, yy, rfl⟩)
    generalize hW2 : yy.w.alloc _ = W2
    generalize hB2 : yy.w.heap.size = B2
    obtain ⟨u0, u1, u2, u3, u4, u5, u6, hb2, zz, hz0⟩ := boxed7 yy hB2 hW2
    clear hW2 hB2
    have l0 := lift_fact yy hb2 e0
    have l1 := lift_fact yy hb2 e1
    have k0 := lift_fact yy hb2 c0
    have k1 := lift_fact yy hb2 c1
    have k2 := lift_fact yy hb2 c2
    have k3 := lift_fact yy hb2 c3
    have hbz : ∀ y : Ext W2, ∃ z : Ext W, y.w = z.w := lift_back yy hb2 hback
    have FZ := F.on hbz
    have hrowz : Row W2 (Value.int .i64) ra t.ty := by obtain ⟨z, hz⟩ := hb2 (Ext.self _); have hz : W2 = z.w := hz; rw [hz]; exact (hrow.ext yy).ext z
    rw [← hz0]
    clear hz0
    by_cases hm1 : (t.kids.length : Int) = m
    · have fm : ((t.kids.length : Int) != m) = false := by simpa using hm1
      have HM1 := Lib.hid hm1
      clear hm1
      have HM : Hid ((t.kids.length : Int) = manyO t.op) := by rw [hm.out]; exact HM1.out
      cases ty with
      | true =>
        have HTY : Hid (TypedO t.op) := by rw [hj.out]; exact (of_decide_eq_true hty.out : TypedO j)
        by_cases ht : RuleP size opn t.ty
        · have HT := Lib.hid ht
          clear ht
          have TOK : Hid (TyOk size (!opn) t.op t.ty) := by show TyOk _ _ _ _; unfold TyOk; rw [if_pos HTY.out]; exact ⟨HT.out.1, (ruleP_grs hs opn t.ty).1 HT.out.2⟩
          by_cases h0 : t.op = 0
          · have f0 : ((j : Int) == 0) = true := by rw [← hj.out]; simpa using h0
            have H0 := Lib.hid h0
            clear h0
            by_cases hn : 0 ≤ t.n ∧ t.n < vars
            · have HN := Lib.hid hn
              clear hn
              go_wp2_with (first | (fail) | (go_at_call 76; with_reducible refine Calls.mono (allowsType_ans FZ hrowz hTB.ty size hs16 opn true (by refine iff_tf ?_; dsimp only; exact HT.out) zz) ?_; rintro e w' ⟨rfl, zz, rfl⟩) | (go_at_call 36; with_reducible refine Calls.mono (inRange_ans t.n vars true (by refine iff_tf ?_; dsimp only; have := HN.out; omega) zz) ?_; rintro e w' ⟨rfl, zz, rfl⟩))
              go_ret
              refine fin_true HP ⟨HM.out, ?_, TOK.out⟩ (hbz zz)
              unfold NOk
              rw [if_pos H0.out]
              exact HN.out
            · have HN := Lib.hid hn
              clear hn
              go_wp2_with (first | (fail) | (go_at_call 76; with_reducible refine Calls.mono (allowsType_ans FZ hrowz hTB.ty size hs16 opn true (by refine iff_tf ?_; dsimp only; exact HT.out) zz) ?_; rintro e w' ⟨rfl, zz, rfl⟩) | (go_at_call 36; with_reducible refine Calls.mono (inRange_ans t.n vars false (by refine iff_tf ?_; dsimp only; have := HN.out; omega) zz) ?_; rintro e w' ⟨rfl, zz, rfl⟩))
              go_ret
              refine fin_false HP (fun q => ?_) (hbz zz)
              have := q.nok
              unfold NOk at this
              rw [if_pos H0.out] at this
              exact HN.out this
          · have f0 : ((j : Int) == 0) = false := by rw [← hj.out]; simpa using h0
            have H0 := Lib.hid h0
            clear h0
            by_cases h1 : t.op = 1
            · have f1 : ((j : Int) == 1) = true := by rw [← hj.out]; simpa using h1
              have H1 := Lib.hid h1
              clear h1
              by_cases hn : 0 ≤ t.n ∧ t.n < 3
              · have HN := Lib.hid hn
                clear hn
                go_wp2_with (first | (fail) | (go_at_call 76; with_reducible refine Calls.mono (allowsType_ans FZ hrowz hTB.ty size hs16 opn true (by refine iff_tf ?_; dsimp only; exact HT.out) zz) ?_; rintro e w' ⟨rfl, zz, rfl⟩) | (go_at_call 36; with_reducible refine Calls.mono (inRange_ans t.n 3 true (by refine iff_tf ?_; dsimp only; have := HN.out; omega) zz) ?_; rintro e w' ⟨rfl, zz, rfl⟩))
                go_ret
                refine fin_true HP ⟨HM.out, ?_, TOK.out⟩ (hbz zz)
                unfold NOk
                rw [if_neg H0.out, if_pos H1.out]
                exact HN.out
              · have HN := Lib.hid hn
                clear hn
                go_wp2_with (first | (fail) | (go_at_call 76; with_reducible refine Calls.mono (allowsType_ans FZ hrowz hTB.ty size hs16 opn true (by refine iff_tf ?_; dsimp only; exact HT.out) zz) ?_; rintro e w' ⟨rfl, zz, rfl⟩) | (go_at_call 36; with_reducible refine Calls.mono (inRange_ans t.n 3 false (by refine iff_tf ?_; dsimp only; have := HN.out; omega) zz) ?_; rintro e w' ⟨rfl, zz, rfl⟩))
                go_ret
                refine fin_false HP (fun q => ?_) (hbz zz)
                have := q.nok
                unfold NOk at this
                rw [if_neg H0.out, if_pos H1.out] at this
                exact HN.out this
            · have f1 : ((j : Int) == 1) = false := by rw [← hj.out]; simpa using h1
              have H1 := Lib.hid h1
              clear h1
              cases gr with
              | true =>
                have HGR : Hid (HasG t.op) := by rw [hj.out]; exact (of_decide_eq_true hgr.out : HasG j)
                by_cases hn : Allows size opn t.n
                · have HN := Lib.hid hn
                  clear hn
                  go_wp2_with (first | (fail) | (go_at_call 76; with_reducible refine Calls.mono (allowsType_ans FZ hrowz hTB.ty size hs16 opn true (by refine iff_tf ?_; dsimp only; exact HT.out) zz) ?_; rintro e w' ⟨rfl, zz, rfl⟩) | (go_at_call 99; with_reducible refine Calls.mono (allows_ans size opn t.n true (by refine iff_tf ?_; dsimp only; exact HN.out) zz) ?_; rintro e w' ⟨rfl, zz, rfl⟩))
                  go_ret
                  refine fin_true HP ⟨HM.out, ?_, TOK.out⟩ (hbz zz)
                  unfold NOk
                  rw [if_neg H0.out, if_neg H1.out, if_pos HGR.out]
                  exact (allows_iff hs opn t.n).1 HN.out
                · have HN := Lib.hid hn
                  clear hn
                  go_wp2_with (first | (fail) | (go_at_call 76; with_reducible refine Calls.mono (allowsType_ans FZ hrowz hTB.ty size hs16 opn true (by refine iff_tf ?_; dsimp only; exact HT.out) zz) ?_; rintro e w' ⟨rfl, zz, rfl⟩) | (go_at_call 99; with_reducible refine Calls.mono (allows_ans size opn t.n false (by refine iff_tf ?_; dsimp only; exact HN.out) zz) ?_; rintro e w' ⟨rfl, zz, rfl⟩))
                  go_ret
                  refine fin_false HP (fun q => ?_) (hbz zz)
                  have := q.nok
                  unfold NOk at this
                  rw [if_neg H0.out, if_neg H1.out, if_pos HGR.out] at this
                  exact HN.out ((allows_iff hs opn t.n).2 this)
              | false =>
                have HGR : Hid (¬ HasG t.op) := by rw [hj.out]; exact (of_decide_eq_false hgr.out : ¬ HasG j)
                by_cases hn : t.n = 0
                · have fn : (t.n == 0) = true := by simpa using hn
                  have HN := Lib.hid hn
                  clear hn
                  go_wp2_with (first | (fail) | (go_at_call 76; with_reducible refine Calls.mono (allowsType_ans FZ hrowz hTB.ty size hs16 opn true (by refine iff_tf ?_; dsimp only; exact HT.out) zz) ?_; rintro e w' ⟨rfl, zz, rfl⟩))
                  go_ret
                  refine fin_true HP ⟨HM.out, ?_, TOK.out⟩ (hbz zz)
                  unfold NOk
                  rw [if_neg H0.out, if_neg H1.out, if_neg HGR.out]
                  exact HN.out
                · have fn : (t.n == 0) = false := by simpa using hn
                  have HN := Lib.hid hn
                  clear hn
                  go_wp2_with (first | (fail) | (go_at_call 76; with_reducible refine Calls.mono (allowsType_ans FZ hrowz hTB.ty size hs16 opn true (by refine iff_tf ?_; dsimp only; exact HT.out) zz) ?_; rintro e w' ⟨rfl, zz, rfl⟩))
                  go_ret
                  refine fin_false HP (fun q => ?_) (hbz zz)
                  have := q.nok
                  unfold NOk at this
                  rw [if_neg H0.out, if_neg H1.out, if_neg HGR.out] at this
                  exact HN.out this
        · have HT := Lib.hid ht
          clear ht
          go_wp2_with (first | (fail) | (go_at_call 76; with_reducible refine Calls.mono (allowsType_ans FZ hrowz hTB.ty size hs16 opn false (by refine iff_tf ?_; dsimp only; exact HT.out) zz) ?_; rintro e w' ⟨rfl, zz, rfl⟩))
          go_ret
          exact fin_false HP (fun q => HT.out (by have := q.tok; unfold TyOk at this; rw [if_pos HTY.out] at this; exact ⟨this.1, (ruleP_grs hs opn t.ty).2 this.2⟩)) (hbz zz)
      | false =>
        have HTY : Hid (¬ TypedO t.op) := by rw [hj.out]; exact (of_decide_eq_false hty.out : ¬ TypedO j)
        by_cases he : t.ty.length = 0
        · have fe : ¬ (0 : Int) < (t.ty.length : Int) := by omega
          have HE := Lib.hid he
          clear he
          have TOK : Hid (TyOk size (!opn) t.op t.ty) := by show TyOk _ _ _ _; unfold TyOk; rw [if_neg HTY.out]; exact List.eq_nil_of_length_eq_zero HE.out
          by_cases h0 : t.op = 0
          · have f0 : ((j : Int) == 0) = true := by rw [← hj.out]; simpa using h0
            have H0 := Lib.hid h0
            clear h0
            by_cases hn : 0 ≤ t.n ∧ t.n < vars
            · have HN := Lib.hid hn
              clear hn
              go_wp2_with (first | (fail) | (go_at_call 36; with_reducible refine Calls.mono (inRange_ans t.n vars true (by refine iff_tf ?_; dsimp only; have := HN.out; omega) zz) ?_; rintro e w' ⟨rfl, zz, rfl⟩))
              go_ret
              refine fin_true HP ⟨HM.out, ?_, TOK.out⟩ (hbz zz)
              unfold NOk
              rw [if_pos H0.out]
              exact HN.out
            · have HN := Lib.hid hn
              clear hn
              go_wp2_with (first | (fail) | (go_at_call 36; with_reducible refine Calls.mono (inRange_ans t.n vars false (by refine iff_tf ?_; dsimp only; have := HN.out; omega) zz) ?_; rintro e w' ⟨rfl, zz, rfl⟩))
              go_ret
              refine fin_false HP (fun q => ?_) (hbz zz)
              have := q.nok
              unfold NOk at this
              rw [if_pos H0.out] at this
              exact HN.out this
          · have f0 : ((j : Int) == 0) = false := by rw [← hj.out]; simpa using h0
            have H0 := Lib.hid h0
            clear h0
            by_cases h1 : t.op = 1
            · have f1 : ((j : Int) == 1) = true := by rw [← hj.out]; simpa using h1
              have H1 := Lib.hid h1
              clear h1
              by_cases hn : 0 ≤ t.n ∧ t.n < 3
              · have HN := Lib.hid hn
                clear hn
                go_wp2_with (first | (fail) | (go_at_call 36; with_reducible refine Calls.mono (inRange_ans t.n 3 true (by refine iff_tf ?_; dsimp only; have := HN.out; omega) zz) ?_; rintro e w' ⟨rfl, zz, rfl⟩))
                go_ret
                refine fin_true HP ⟨HM.out, ?_, TOK.out⟩ (hbz zz)
                unfold NOk
                rw [if_neg H0.out, if_pos H1.out]
                exact HN.out
              · have HN := Lib.hid hn
                clear hn
                go_wp2_with (first | (fail) | (go_at_call 36; with_reducible refine Calls.mono (inRange_ans t.n 3 false (by refine iff_tf ?_; dsimp only; have := HN.out; omega) zz) ?_; rintro e w' ⟨rfl, zz, rfl⟩))
                go_ret
                refine fin_false HP (fun q => ?_) (hbz zz)
                have := q.nok
                unfold NOk at this
                rw [if_neg H0.out, if_pos H1.out] at this
                exact HN.out this
            · have f1 : ((j : Int) == 1) = false := by rw [← hj.out]; simpa using h1
              have H1 := Lib.hid h1
              clear h1
              cases gr with
              | true =>
                have HGR : Hid (HasG t.op) := by rw [hj.out]; exact (of_decide_eq_true hgr.out : HasG j)
                by_cases hn : Allows size opn t.n
                · have HN := Lib.hid hn
                  clear hn
                  go_wp2_with (first | (fail) | (go_at_call 99; with_reducible refine Calls.mono (allows_ans size opn t.n true (by refine iff_tf ?_; dsimp only; exact HN.out) zz) ?_; rintro e w' ⟨rfl, zz, rfl⟩))
                  go_ret
                  refine fin_true HP ⟨HM.out, ?_, TOK.out⟩ (hbz zz)
                  unfold NOk
                  rw [if_neg H0.out, if_neg H1.out, if_pos HGR.out]
                  exact (allows_iff hs opn t.n).1 HN.out
                · have HN := Lib.hid hn
                  clear hn
                  go_wp2_with (first | (fail) | (go_at_call 99; with_reducible refine Calls.mono (allows_ans size opn t.n false (by refine iff_tf ?_; dsimp only; exact HN.out) zz) ?_; rintro e w' ⟨rfl, zz, rfl⟩))
                  go_ret
                  refine fin_false HP (fun q => ?_) (hbz zz)
                  have := q.nok
                  unfold NOk at this
                  rw [if_neg H0.out, if_neg H1.out, if_pos HGR.out] at this
                  exact HN.out ((allows_iff hs opn t.n).2 this)
              | false =>
                have HGR : Hid (¬ HasG t.op) := by rw [hj.out]; exact (of_decide_eq_false hgr.out : ¬ HasG j)
                by_cases hn : t.n = 0
                · have fn : (t.n == 0) = true := by simpa using hn
                  have HN := Lib.hid hn
                  clear hn
                  go_wp2_with (first | (fail))
                  go_ret
                  refine fin_true HP ⟨HM.out, ?_, TOK.out⟩ (hbz zz)
                  unfold NOk
                  rw [if_neg H0.out, if_neg H1.out, if_neg HGR.out]
                  exact HN.out
                · have fn : (t.n == 0) = false := by simpa using hn
                  have HN := Lib.hid hn
                  clear hn
                  go_wp2_with (first | (fail))
                  go_ret
                  refine fin_false HP (fun q => ?_) (hbz zz)
                  have := q.nok
                  unfold NOk at this
                  rw [if_neg H0.out, if_neg H1.out, if_neg HGR.out] at this
                  exact HN.out this
        · have fe : (0 : Int) < (t.ty.length : Int) := by omega
          have HE := Lib.hid he
          clear he
          go_wp2_with fail
          go_ret
          exact fin_false HP (fun q => HE.out (by have := q.tok; unfold TyOk at this; rw [if_neg HTY.out] at this; rw [this]; rfl)) (hbz zz)
    · have fm : ((t.kids.length : Int) != m) = true := by simpa using hm1
      have HM1 := Lib.hid hm1
      clear hm1
      go_wp2_with fail
      go_ret
      exact fin_false HP (fun q => HM1.out (by rw [← hm.out]; exact q.many)) (hbz zz)
  · have HOP := Lib.hid hop
    clear hop
    go_enter Tryd.func107, Tryd.ntmps107
    go_wp2_with fail
    generalize hW : (x.w.alloc _).alloc _ = W1
    generalize hB : x.w.heap.size = B
    obtain ⟨e0, e1, c0, c1, c2, c3, h1, hback, yy, hy0⟩ := boxedRT h x hB hW
    clear hW hB
    have FF := F.on hback
    have TT := TF.on hback
    rw [← hy0]
    clear hy0
    obtain ⟨kr, A⟩ := h1.out
    have hrow := A.row
    have hlt := A.lt
    have hlk := A.lk
    clear A
    go_wp2_with (go_at_call 36; with_reducible refine Calls.mono (inRange_ans t.op 13 false (by refine iff_tf ?_; dsimp only; have := HOP.out; omega) _) ?_; rintro e w' ⟨rfl, yy, rfl⟩)
    go_ret
    exact fin_false HP (fun q => by have := q.many; have := manyO_in (op := t.op) (by omega); have := HOP.out; omega) (hback yy)

end Go.Proofs.YtncfbljablbglaaDoor
/- The program's terms: measure, IsWritten, SizeOfTerm. -/
namespace Go.Proofs.YtncfbljablbglaaDoor
open Go.RowKit

/-- What the program measures: the number of nodes, or -1. -/
def MeasV (size : Int) (opn : Bool) (t : Tm) (vars most m : Int) : Prop := ((OkT size (!opn) vars t ∧ (t.sz : Int) ≤ most) ∧ m = t.sz) ∨ (¬ (OkT size (!opn) vars t ∧ (t.sz : Int) ≤ most) ∧ m = -1)
theorem measV_ex (size : Int) (opn : Bool) (t : Tm) (vars most : Int) : ∃ m, MeasV size opn t vars most m := by
  by_cases h : OkT size (!opn) vars t ∧ (t.sz : Int) ≤ most
  · exact ⟨_, .inl ⟨h, rfl⟩⟩
  · exact ⟨_, .inr ⟨h, rfl⟩⟩
set_option maxHeartbeats 8000000 in
theorem measure_ans (size : Int) (hs : 0 ≤ size) (hs16 : size ≤ 16) (opn : Bool) (t : Tm) : ∀ {W : World} (_ : Forms W) (_ : TForms W) {lo : Nat} {r : TV} (_ : TmIn W lo t r) (_ : TmB t) (vars most : Int) (_ : 0 ≤ vars) (_ : most ≤ 1000) (_ : vars + 2 * most ≤ 100000) (m : Int) (_ : MeasV size opn t vars most m) (x : Ext W),
    Calls Tryd.prog 91 #[.agg #[.int .i64 size, .bool opn], r.val t, .int .i64 vars, .int .i64 most] x.w (Ans W (.int .i64 m)) := by
  induction t using Tm.ind with
  | h t ih =>
    intro W F TF lo r h hTB vars most hv0 hm1 hv1 v hv x
    have HV := Lib.hid hv
    have HI := Lib.hid ih
    clear hv ih
    have hsz := t.sz_pos
    obtain ⟨ra, rc, rb, rd⟩ := r
    unfold TV.val
    by_cases hmost : most < 1
    · skip
      go_enter Tryd.func91, Tryd.ntmps91
      go_wp2_with fail
      generalize hW : (x.w.alloc _).alloc _ = W1
      generalize hB : x.w.heap.size = B
      obtain ⟨e0, e1, c0, c1, c2, c3, h1, hback, yy, hy0⟩ := boxedRT h x hB hW
      clear hW hB
      have FF := F.on hback
      have TG := TF.on hback
      rw [← hy0]
      clear hy0
      obtain ⟨kr, A⟩ := h1.out
      have hlk := A.lk
      go_wp2
      go_ret
      refine fin_int ?_ (hback yy)
      rcases HV.out with ⟨⟨_, b1⟩, b2⟩ | ⟨b1, b2⟩ <;> omega
    by_cases hn : NodeOk size (!opn) vars t
    · have h13 : 0 ≤ t.op ∧ t.op ≤ 12 := manyO_in (by rw [← hn.many]; omega)
      have hk3 : t.kids.length ≤ 3 := by have := hn.many; have := manyO_le t.op; omega
      have h9 : t.op = 9 → t.kids.length = 1 := fun e => by have := hn.many; rw [e] at this; have e2 : manyO 9 = 1 := (by decide); omega
      have HN := Lib.hid hn
      have H13 := Lib.hid h13
      clear hn h13
      go_enter Tryd.func91, Tryd.ntmps91
      go_wp2_with fail
      generalize hW : (x.w.alloc _).alloc _ = W1
      generalize hB : x.w.heap.size = B
      obtain ⟨e0, e1, c0, c1, c2, c3, h1, hback, yy, hy0⟩ := boxedRT h x hB hW
      clear hW hB
      have FF := F.on hback
      have TG := TF.on hback
      rw [← hy0]
      clear hy0
      obtain ⟨kr, A⟩ := h1.out
      have hlk := A.lk
      have NODE : ∀ y : Ext W1, Calls Tryd.prog 107 #[.agg #[.int .i64 size, .bool opn], (TV.mk ra rc rb rd).val t, .int .i64 vars] y.w (Ans W1 (.bool true)) := fun y => allowsNode_ans FF TG h1 hTB size hs hs16 opn vars true (by refine iff_tf ?_; dsimp only; exact HN.out) y
      unfold TV.val at NODE
      go_wp2_with (go_at_call 107; with_reducible refine Calls.mono (NODE _) ?_; rintro e w' ⟨rfl, yy, rfl⟩)
      go_loopw [25, 9] (fun i u wr => ∃ k : Nat, ∃ s : Int, i = .int .i64 k ∧ u = .int .i64 s ∧ k ≤ t.kids.length ∧ 1 ≤ s ∧ s ≤ most ∧ (∃ y : Ext W1, wr = y.w) ∧ Hid (s = 1 + Tm.szL (t.kids.take k)) ∧ Hid (∀ (j : Nat) u, j < k → t.kids[j]? = some u → OkT size (!opn) (vars + addsO t.op j) u)) (fun i _ _ => t.kids.length - (intOf i).toNat)
      case atStart => exact ⟨0, 1, rfl, rfl, by omega, by omega, by omega, ⟨yy, rfl⟩, by show _ = _; simp [Tm.szL], fun j u hj => by omega⟩
      case round =>
        obtain ⟨k, s, rfl, rfl, hk, hs1, hs2, ⟨yy, rfl⟩, HS, HU⟩ := hrel
        by_cases hlt : k < t.kids.length
        · have hlt' : (k : Int) < (t.kids.length : Int) := by omega
          have H9 : Hid (t.op = 9 → k = 0) := fun e => by have := h9 e; omega
          obtain ⟨kid, hkid⟩ : ∃ kid, t.kids[k]? = some kid := ⟨_, List.getElem?_eq_getElem hlt⟩
          have hmem : kid ∈ t.kids := List.mem_of_getElem? hkid
          have HKID := Lib.hid hkid
          obtain ⟨b0, o0, hrb, K⟩ := A.kid k kid hkid
          have hsub := A.sub k kid hkid
          dsimp only at hrb
          subst hrb
          have d0 : ∀ y : Ext W1, y.w.cell? ⟨b0, o0 + k * 4, none⟩ = some (.int .i64 kid.op) := fun y => y.cell K.c0
          have d1 : ∀ y : Ext W1, y.w.cell? ⟨b0, o0 + k * 4 + 1, none⟩ = some (.int .i64 kid.n) := fun y => y.cell K.c1
          have d2 : ∀ y : Ext W1, y.w.cell? ⟨b0, o0 + k * 4 + 2, none⟩ = some (.slice (kr k).a kid.ty.length (kr k).c) := fun y => y.cell K.c2
          have d3 : ∀ y : Ext W1, y.w.cell? ⟨b0, o0 + k * 4 + 3, none⟩ = some (.slice (kr k).b kid.kids.length (kr k).d) := fun y => y.cell K.c3
          clear K hkid
          obtain ⟨m, hm⟩ := measV_ex size opn kid (vars + addsO t.op k) (most - s)
          have HM := Lib.hid hm
          clear hm
          have ha1 := addsO_ge t.op k
          have ha2 := addsO_le t.op k
          have hkp := kid.sz_pos
          go_upto_region 7 with fail
          generalize hW2 : yy.w.alloc _ = W2
          generalize hB2 : yy.w.heap.size = B2
          obtain ⟨g0, g1, g2, g3, k1, hb2, zz, hz0⟩ := boxedT (hsub.ext yy) (Ext.self yy.w) hB2 hW2
          clear hW2 hB2
          have l0 := lift_fact yy hb2 e0
          have l1 := lift_fact yy hb2 e1
          have s0 := lift_fact yy hb2 c0
          have s1 := lift_fact yy hb2 c1
          have s2 := lift_fact yy hb2 c2
          have s3 := lift_fact yy hb2 c3
          have hbz : ∀ y : Ext W2, ∃ z : Ext W1, y.w = z.w := fun y => by obtain ⟨u, hu⟩ := hb2 y; exact ⟨yy.trans u, hu⟩
          have FZ := FF.on hbz
          have TZ := TG.on hbz
          have ADDS : ∀ y : Ext W2, Calls Tryd.prog 108 #[(TV.mk ra rc (some ⟨b0, o0, none⟩) rd).val t, .int .i64 k] y.w (Ans W2 (.int .i64 (addsO t.op k))) := fun y => addedFor_ans TZ t _ H13.out k (by omega) H9.out y
          unfold TV.val at ADDS
          generalize hadd : addsO t.op k = ad at *
          have C : ∀ y : Ext W2, Calls Tryd.prog 91 #[.agg #[.int .i64 size, .bool opn], (kr k).val kid, .int .i64 (vars + ad), .int .i64 (most - s)] y.w (Ans W2 (.int .i64 m)) := fun y => HI.out kid hmem FZ TZ k1 (hTB.kid hmem) (vars + ad) (most - s) (by omega) (by omega) (by omega) m HM.out y
          unfold TV.val at C
          have HADD := Lib.hid hadd
          clear hadd
          have hw1 : vars + ad ≤ 1000000 := by omega
          rw [← hz0]
          clear hz0 hb2 k1
          clear hsub NODE
          by_cases hm0 : m < 0
          · skip
            refine region_ext zz (by kernel_rfl) (by kernel_rfl) ?_
            repeat (go_big_quiet_step (first | (go_at_call 108; with_reducible exact ADDS _) | (go_at_call 91; with_reducible exact C _)))
            refine wpQuiet_nil ?_
            rintro _ ⟨zz, rfl⟩
            go_wp2
            go_ret
            refine fin_int ?_ (by obtain ⟨z, hz⟩ := hbz zz; rw [hz]; exact hback z)
            rcases HM.out with ⟨_, a2⟩ | ⟨a1, a2⟩
            · omega
            · rcases HV.out with ⟨⟨b1, b3⟩, b2⟩ | ⟨b1, b2⟩
              · exact absurd ⟨HADD.out ▸ b1.kid HKID.out, by
                  have := Tm.szL_take_succ HKID.out
                  have := Tm.szL_take_le t.kids (k + 1)
                  have := t.sz_eq
                  have := HS.out
                  omega⟩ a1
              · exact b2.symm
          · have hm2 : m ≤ most - s := by rcases HM.out with ⟨a1, a2⟩ | ⟨a1, a2⟩ <;> omega
            refine region_ext zz (by kernel_rfl) (by kernel_rfl) ?_
            repeat (go_big_quiet_step (first | (go_at_call 108; with_reducible exact ADDS _) | (go_at_call 91; with_reducible exact C _)))
            refine wpQuiet_nil ?_
            rintro _ ⟨zz, rfl⟩
            go_wp2
            go_roundw
            case rel =>
              have hm3 : (kid.sz : Int) = m ∧ OkT size (!opn) (vars + ad) kid := by rcases HM.out with ⟨a1, a2⟩ | ⟨a1, a2⟩; exact ⟨a2.symm, a1.1⟩; omega
              refine ⟨k + 1, s + m, by go_num, by go_num, by omega, by omega, by omega, hbz zz, ?_, fun j u hj hu => ?_⟩
              · have := Tm.szL_take_succ HKID.out
                have := HS.out
                show _ = _
                omega
              · by_cases e : j = k
                · subst e
                  obtain rfl := Option.some.inj (hu.symm.trans HKID.out)
                  rw [HADD.out]
                  exact hm3.2
                · exact HU.out j u (by omega) hu
            case measure => simp [intOf]; omega
        · go_wp2
          go_ret
          refine fin_int ?_ (hback yy)
          have hok : OkT size (!opn) vars t := .mk _ _ HN.out (fun i u hu => HU.out i u (by have := (List.getElem?_eq_some_iff.1 hu).1; omega) hu)
          have h4 : t.kids.take k = t.kids := List.take_of_length_le (by omega)
          have h3 := HS.out
          rw [h4] at h3
          have h5 := t.sz_eq
          rcases HV.out with ⟨b1, b2⟩ | ⟨b1, b2⟩
          · omega
          · exact absurd ⟨hok, by omega⟩ b1
    · have HN := Lib.hid hn
      clear hn
      go_enter Tryd.func91, Tryd.ntmps91
      go_wp2_with fail
      generalize hW : (x.w.alloc _).alloc _ = W1
      generalize hB : x.w.heap.size = B
      obtain ⟨e0, e1, c0, c1, c2, c3, h1, hback, yy, hy0⟩ := boxedRT h x hB hW
      clear hW hB
      have FF := F.on hback
      have TG := TF.on hback
      rw [← hy0]
      clear hy0
      obtain ⟨kr, A⟩ := h1.out
      have hlk := A.lk
      have NODE : ∀ y : Ext W1, Calls Tryd.prog 107 #[.agg #[.int .i64 size, .bool opn], (TV.mk ra rc rb rd).val t, .int .i64 vars] y.w (Ans W1 (.bool false)) := fun y => allowsNode_ans FF TG h1 hTB size hs hs16 opn vars false (by refine iff_tf ?_; dsimp only; exact HN.out) y
      unfold TV.val at NODE
      go_wp2_with (go_at_call 107; with_reducible refine Calls.mono (NODE _) ?_; rintro e w' ⟨rfl, yy, rfl⟩)
      go_ret
      refine fin_int ?_ (hback yy)
      rcases HV.out with ⟨⟨b1, _⟩, b2⟩ | ⟨b1, b2⟩
      · exact absurd b1.node HN.out
      · exact b2.symm

set_option maxHeartbeats 1600000 in
theorem allowsTerm_ans {W : World} (F : Forms W) (TF : TForms W) {lo : Nat} {t : Tm} {r : TV} (h : TmIn W lo t r) (hTB : TmB t) (size : Int) (hs : 0 ≤ size) (hs16 : size ≤ 16) (opn : Bool) (vars : Int) (hv0 : 0 ≤ vars) (hv1 : vars ≤ 1000) (p : Bool) (hp : p = true ↔ (OkT size (!opn) vars t ∧ t.sz ≤ 400)) (x : Ext W) :
    Calls Tryd.prog 70 #[.agg #[.int .i64 size, .bool opn], r.val t, .int .i64 vars] x.w (Ans W (.bool p)) := by
  have HP := Lib.hid hp
  clear hp
  obtain ⟨ra, rc, rb, rd⟩ := r
  unfold TV.val
  obtain ⟨m, hm⟩ := measV_ex size opn t vars 400
  have HM := Lib.hid hm
  clear hm
  by_cases hm0 : 0 ≤ m
  · skip
    go_enter Tryd.func70, Tryd.ntmps70
    go_wp2_with fail
    generalize hW : (x.w.alloc _).alloc _ = W1
    generalize hB : x.w.heap.size = B
    obtain ⟨e0, e1, c0, c1, c2, c3, h1, hback, yy, hy0⟩ := boxedRT h x hB hW
    clear hW hB
    have FF := F.on hback
    have TG := TF.on hback
    rw [← hy0]
    clear hy0
    obtain ⟨kr, A⟩ := h1.out
    have hlk := A.lk
    have M : ∀ y : Ext W1, Calls Tryd.prog 91 #[.agg #[.int .i64 size, .bool opn], (TV.mk ra rc rb rd).val t, .int .i64 vars, .int .i64 400] y.w (Ans W1 (.int .i64 m)) := fun y => measure_ans size hs hs16 opn t FF TG h1 hTB vars 400 hv0 (by omega) (by omega) m HM.out y
    unfold TV.val at M
    go_wp2_with (go_at_call 91; with_reducible refine Calls.mono (M _) ?_; rintro e w' ⟨rfl, yy, rfl⟩)
    go_ret
    refine fin_true HP ?_ (hback yy)
    rcases HM.out with ⟨⟨a1, a3⟩, a2⟩ | ⟨a1, a2⟩
    · exact ⟨a1, by omega⟩
    · omega
  · have hmd : decide (0 ≤ m) = false := decide_eq_false hm0
    go_enter Tryd.func70, Tryd.ntmps70
    go_wp2_with fail
    generalize hW : (x.w.alloc _).alloc _ = W1
    generalize hB : x.w.heap.size = B
    obtain ⟨e0, e1, c0, c1, c2, c3, h1, hback, yy, hy0⟩ := boxedRT h x hB hW
    clear hW hB
    have FF := F.on hback
    have TG := TF.on hback
    rw [← hy0]
    clear hy0
    obtain ⟨kr, A⟩ := h1.out
    have hlk := A.lk
    have M : ∀ y : Ext W1, Calls Tryd.prog 91 #[.agg #[.int .i64 size, .bool opn], (TV.mk ra rc rb rd).val t, .int .i64 vars, .int .i64 400] y.w (Ans W1 (.int .i64 m)) := fun y => measure_ans size hs hs16 opn t FF TG h1 hTB vars 400 hv0 (by omega) (by omega) m HM.out y
    unfold TV.val at M
    go_wp2_with (go_at_call 91; with_reducible refine Calls.mono (M _) ?_; rintro e w' ⟨rfl, yy, rfl⟩)
    go_ret
    refine fin_false HP (fun q => ?_) (hback yy)
    rcases HM.out with ⟨⟨a1, a3⟩, a2⟩ | ⟨a1, a2⟩
    · omega
    · exact a1 ⟨q.1, by have := q.2; omega⟩

theorem writtenRule_ans {W : World} (x : Ext W) : Calls Tryd.prog 69 #[] x.w (Ans W (.agg #[.int .i64 16, .bool true])) := by
  go_enter Tryd.func69, Tryd.ntmps69
  go_wp2
  generalize hY : x.w.alloc _ = Y
  have q2 : Y.heap[x.w.heap.size]? = some (.cells #[.int .i64 16, .bool true] 76 (0, 0)) := by
    subst hY
    show (x.w.heap.push _)[x.w.heap.size]? = _
    rw [Array.getElem?_push, if_pos rfl]
  have r0 := blk_cell q2 0
  have r1 := blk_cell q2 1
  simp at r0 r1
  refine bodyPost_ret (v := .agg #[.int .i64 16, .bool true]) (by simp [results, Tryd.results69, go_sem, r0, r1]) rfl ?_
  exact ⟨rfl, x.alloc _, by rw [← hY]⟩

set_option maxHeartbeats 1600000 in
theorem isWritten_ans {W : World} (F : Forms W) (TF : TForms W) {lo : Nat} {t : Tm} {r : TV} (h : TmIn W lo t r) (hTB : TmB t) (p : Bool) (hp : p = true ↔ Written t) (x : Ext W) :
    Calls Tryd.prog 35 #[r.val t] x.w (Ans W (.bool p)) := by
  have HP := Lib.hid hp
  clear hp
  obtain ⟨ra, rc, rb, rd⟩ := r
  unfold TV.val
  by_cases ho : OkT 16 (!true) 8 t ∧ t.sz ≤ 400
  · have HO := Lib.hid ho
    clear ho
    go_enter Tryd.func35, Tryd.ntmps35
    go_wp2_with fail
    generalize hW : x.w.alloc _ = W1
    generalize hB : x.w.heap.size = B
    obtain ⟨c0, c1, c2, c3, h1, hback, yy, hy0⟩ := boxedT h x hB hW
    have FF := F.ext (x.alloc (.cells #[.int .i64 t.op, .int .i64 t.n, .slice ra t.ty.length rc, .slice rb t.kids.length rd] 29))
    have TG := TF.ext (x.alloc (.cells #[.int .i64 t.op, .int .i64 t.n, .slice ra t.ty.length rc, .slice rb t.kids.length rd] 29))
    rw [show (x.alloc _).w = W1 from hW] at FF TG
    clear hW hB
    rw [← hy0]
    clear hy0
    obtain ⟨kr, A⟩ := h1.out
    have AT : ∀ y : Ext W1, Calls Tryd.prog 70 #[.agg #[.int .i64 16, .bool true], (TV.mk ra rc rb rd).val t, .int .i64 8] y.w (Ans W1 (.bool true)) := fun y => allowsTerm_ans FF TG h1 hTB 16 (by omega) (by omega) true 8 (by omega) (by omega) true (by refine iff_tf ?_; dsimp only; exact HO.out) y
    unfold TV.val at AT
    refine region_ext yy (by kernel_rfl) (by kernel_rfl) ?_
    repeat (go_big_quiet_step (first | (go_at_call 69; with_reducible exact writtenRule_ans _) | (go_at_call 70; with_reducible exact AT _)))
    refine wpQuiet_nil ?_
    rintro _ ⟨yy, rfl⟩
    go_wp2
    go_ret
    exact fin_true HP (⟨HO.out.2, HO.out.1⟩) (hback yy)
  · have HO := Lib.hid ho
    clear ho
    go_enter Tryd.func35, Tryd.ntmps35
    go_wp2_with fail
    generalize hW : x.w.alloc _ = W1
    generalize hB : x.w.heap.size = B
    obtain ⟨c0, c1, c2, c3, h1, hback, yy, hy0⟩ := boxedT h x hB hW
    have FF := F.ext (x.alloc (.cells #[.int .i64 t.op, .int .i64 t.n, .slice ra t.ty.length rc, .slice rb t.kids.length rd] 29))
    have TG := TF.ext (x.alloc (.cells #[.int .i64 t.op, .int .i64 t.n, .slice ra t.ty.length rc, .slice rb t.kids.length rd] 29))
    rw [show (x.alloc _).w = W1 from hW] at FF TG
    clear hW hB
    rw [← hy0]
    clear hy0
    obtain ⟨kr, A⟩ := h1.out
    have AT : ∀ y : Ext W1, Calls Tryd.prog 70 #[.agg #[.int .i64 16, .bool true], (TV.mk ra rc rb rd).val t, .int .i64 8] y.w (Ans W1 (.bool false)) := fun y => allowsTerm_ans FF TG h1 hTB 16 (by omega) (by omega) true 8 (by omega) (by omega) false (by refine iff_tf ?_; dsimp only; exact HO.out) y
    unfold TV.val at AT
    refine region_ext yy (by kernel_rfl) (by kernel_rfl) ?_
    repeat (go_big_quiet_step (first | (go_at_call 69; with_reducible exact writtenRule_ans _) | (go_at_call 70; with_reducible exact AT _)))
    refine wpQuiet_nil ?_
    rintro _ ⟨yy, rfl⟩
    go_wp2
    go_ret
    exact fin_false HP (fun q => HO.out ⟨q.2, q.1⟩) (hback yy)
end Go.Proofs.YtncfbljablbglaaDoor
