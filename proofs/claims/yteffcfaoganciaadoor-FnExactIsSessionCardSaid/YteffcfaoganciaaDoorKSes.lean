
/- Sessions as arguments: how they lie, the laws' comparison and size of them; IsSession. -/
import Derived.Test.YteffcfaoganciaaDoorKToLs
import Derived.Test.YteffcfaoganciaaDoorKCtx
import Derived.Test.YteffcfaoganciaaDoorGI
import Derived.Test.YteffcfaoganciaaDoorGH
set_option linter.unusedVariables false
set_option linter.unusedSimpArgs false
namespace Go.Proofs.YteffcfaoganciaaDoor
open Go.RowKit

def sesV (s : Sys) (r : Ref) (a : Option Addr) (c : Nat) (ls : List (List Int)) (t : Tm) (q : TV) : Value := .agg #[.int .i64 s.n, .slice r.pa s.plus.length r.pc, .slice r.ta s.times.length r.tc, .slice r.ba s.below.length r.bc, .slice a ls.length c, .int .i64 t.op, .int .i64 t.n, .slice q.a t.ty.length q.c, .slice q.b t.kids.length q.d]
/-- A session lies. -/
structure SesIn (W : World) (lo : Nat) (s : Sys) (r : Ref) (a : Option Addr) (ls : List (List Int)) (hd : Nat → Option Addr × Nat) (t : Tm) (q : TV) : Prop where
  sys : SysIn W r s
  ctx : LsAr W a ls hd
  tm : TmIn W lo t q
theorem SesIn.ext {W : World} {lo : Nat} {s : Sys} {r : Ref} {a : Option Addr} {ls : List (List Int)} {hd : Nat → Option Addr × Nat} {t : Tm} {q : TV} (h : SesIn W lo s r a ls hd t q) (y : Ext W) : SesIn y.w lo s r a ls hd t q := ⟨h.sys.ext y, h.ctx.ext y, h.tm.ext y⟩
/-- How much a session is. -/
def sesWt (s : Sys) (ls : List (List Int)) (t : Tm) : Nat := s.wt + lsWt ls + t.wt
theorem lsIn_ar {W : World} {a : Option Addr} {ls : List (List Int)} {hd : Nat → Option Addr × Nat} (h : LsIn W a ls hd) : LsAr W a ls hd := ⟨h.row, h.sub, fun i l hi => by have := h.len i l hi; omega, by have := h.all; omega⟩

set_option maxHeartbeats 4000000 in
theorem eqSes_ans {W : World} {lo : Nat} {s : Sys} {r : Ref} {a : Option Addr} {c : Nat} {ls : List (List Int)} {hd : Nat → Option Addr × Nat} {t : Tm} {q : TV} (h : SesIn W lo s r a ls hd t q) {lo2 : Nat} {r2 : Ref} {a2 : Option Addr} {c2 : Nat} {hd2 : Nat → Option Addr × Nat} {q2 : TV} (k : SesIn W lo2 s r2 a2 ls hd2 t q2) (sm : sesWt s ls t ≤ 1048576) (x : Ext W) :
    Calls Tryd.prog 16 #[sesV s r a c ls t q, sesV s r2 a2 c2 ls t q2] x.w (Ans W (.bool true)) := by
  unfold sesV
  unfold sesWt at sm
  go_enter Tryd.func16, Tryd.ntmps16
  go_wp2_with fail
  have hxW := x.size
  generalize hWb : (x.w.alloc _).alloc _ = Wb
  generalize hB : x.w.heap.size = B at *
  obtain ⟨b0, b1, sB, bel⟩ := blocks2 hB hWb
  have belW : Below W.heap.size W Wb := x.below.trans (bel.mono (by omega))
  clear hWb bel
  have h1 := h.ext ⟨Wb, belW⟩
  have k1 := k.ext ⟨Wb, belW⟩
  have fa0 : ∀ y : Ext Wb, y.w.cell? ⟨B, 0, none⟩ = some (.int .i64 s.n) := fun y => blk_cell (y.blk b0) 0
  have fa1 : ∀ y : Ext Wb, y.w.cell? ⟨B, 1, none⟩ = some (.slice r.pa s.plus.length r.pc) := fun y => blk_cell (y.blk b0) 1
  have fa2 : ∀ y : Ext Wb, y.w.cell? ⟨B, 2, none⟩ = some (.slice r.ta s.times.length r.tc) := fun y => blk_cell (y.blk b0) 2
  have fa3 : ∀ y : Ext Wb, y.w.cell? ⟨B, 3, none⟩ = some (.slice r.ba s.below.length r.bc) := fun y => blk_cell (y.blk b0) 3
  have fa4 : ∀ y : Ext Wb, y.w.cell? ⟨B, 4, none⟩ = some (.slice a ls.length c) := fun y => blk_cell (y.blk b0) 4
  have fa5 : ∀ y : Ext Wb, y.w.cell? ⟨B, 5, none⟩ = some (.int .i64 t.op) := fun y => blk_cell (y.blk b0) 5
  have fa6 : ∀ y : Ext Wb, y.w.cell? ⟨B, 6, none⟩ = some (.int .i64 t.n) := fun y => blk_cell (y.blk b0) 6
  have fa7 : ∀ y : Ext Wb, y.w.cell? ⟨B, 7, none⟩ = some (.slice q.a t.ty.length q.c) := fun y => blk_cell (y.blk b0) 7
  have fa8 : ∀ y : Ext Wb, y.w.cell? ⟨B, 8, none⟩ = some (.slice q.b t.kids.length q.d) := fun y => blk_cell (y.blk b0) 8
  have fb0 : ∀ y : Ext Wb, y.w.cell? ⟨B + 1, 0, none⟩ = some (.int .i64 s.n) := fun y => blk_cell (y.blk b1) 0
  have fb1 : ∀ y : Ext Wb, y.w.cell? ⟨B + 1, 1, none⟩ = some (.slice r2.pa s.plus.length r2.pc) := fun y => blk_cell (y.blk b1) 1
  have fb2 : ∀ y : Ext Wb, y.w.cell? ⟨B + 1, 2, none⟩ = some (.slice r2.ta s.times.length r2.tc) := fun y => blk_cell (y.blk b1) 2
  have fb3 : ∀ y : Ext Wb, y.w.cell? ⟨B + 1, 3, none⟩ = some (.slice r2.ba s.below.length r2.bc) := fun y => blk_cell (y.blk b1) 3
  have fb4 : ∀ y : Ext Wb, y.w.cell? ⟨B + 1, 4, none⟩ = some (.slice a2 ls.length c2) := fun y => blk_cell (y.blk b1) 4
  have fb5 : ∀ y : Ext Wb, y.w.cell? ⟨B + 1, 5, none⟩ = some (.int .i64 t.op) := fun y => blk_cell (y.blk b1) 5
  have fb6 : ∀ y : Ext Wb, y.w.cell? ⟨B + 1, 6, none⟩ = some (.int .i64 t.n) := fun y => blk_cell (y.blk b1) 6
  have fb7 : ∀ y : Ext Wb, y.w.cell? ⟨B + 1, 7, none⟩ = some (.slice q2.a t.ty.length q2.c) := fun y => blk_cell (y.blk b1) 7
  have fb8 : ∀ y : Ext Wb, y.w.cell? ⟨B + 1, 8, none⟩ = some (.slice q2.b t.kids.length q2.d) := fun y => blk_cell (y.blk b1) 8
  have E1 : ∀ y : Ext Wb, Calls Tryd.prog 35 #[.agg #[.int .i64 s.n, .slice r.pa s.plus.length r.pc, .slice r.ta s.times.length r.tc, .slice r.ba s.below.length r.bc], .agg #[.int .i64 s.n, .slice r2.pa s.plus.length r2.pc, .slice r2.ta s.times.length r2.tc, .slice r2.ba s.below.length r2.bc]] y.w (Ans Wb (.bool true)) := fun y => eqSys_ans s h1.sys k1.sys (by omega) true (by simp) y
  have E2 : ∀ y : Ext Wb, Calls Tryd.prog 52 #[.slice a ls.length c, .slice a2 ls.length c2] y.w (Ans Wb (.bool true)) := fun y => eqIntSS_ans (h1.ctx.ins (by omega)) (k1.ctx.ins (by omega)) true (by simp) y
  have E3 : ∀ y : Ext Wb, Calls Tryd.prog 21 #[.agg #[.int .i64 t.op, .int .i64 t.n, .slice q.a t.ty.length q.c, .slice q.b t.kids.length q.d], .agg #[.int .i64 t.op, .int .i64 t.n, .slice q2.a t.ty.length q2.c, .slice q2.b t.kids.length q2.d]] y.w (Ans Wb (.bool true)) := fun y => eqTerm_ans t h1.tm k1.tm (by omega) true (by simp) y
  obtain ⟨yy, hy0⟩ : ∃ y : Ext Wb, y.w = Wb := ⟨Ext.self Wb, rfl⟩
  rw [← hy0]
  clear hy0
  go_wp2_with (first | (go_at_call 35; (with_reducible refine Calls.mono (E1 _) ?_); rintro e w' ⟨rfl, yy, rfl⟩) | (go_at_call 52; (with_reducible refine Calls.mono (E2 _) ?_); rintro e w' ⟨rfl, yy, rfl⟩) | (go_at_call 21; (with_reducible refine Calls.mono (E3 _) ?_); rintro e w' ⟨rfl, yy, rfl⟩))
  go_ret
  exact ⟨rfl, ⟨yy.w, belW.trans (yy.below.mono belW.size)⟩, rfl⟩

set_option maxHeartbeats 4000000 in
theorem szSes_ans {W : World} {lo : Nat} {s : Sys} {r : Ref} {a : Option Addr} {c : Nat} {ls : List (List Int)} {hd : Nat → Option Addr × Nat} {t : Tm} {q : TV} (h : SesIn W lo s r a ls hd t q) (v : Int) (hv : SzV (sesWt s ls t) 1048576 v) (x : Ext W) :
    Calls Tryd.prog 12 #[sesV s r a c ls t q, .int .i64 1048576] x.w (Ans W (.int .i64 v)) := by
  unfold sesV
  have HV := Lib.hid hv
  clear hv
  by_cases e1 : (1048576 : Int) < s.wt
  · go_enter Tryd.func12, Tryd.ntmps12
    go_wp2_with fail
    have hxW := x.size
    generalize hWb : x.w.alloc _ = Wb
    generalize hB : x.w.heap.size = B at *
    obtain ⟨b0, sB, bel⟩ := blocks1 hB hWb
    have belW : Below W.heap.size W Wb := x.below.trans (bel.mono (by omega))
    clear hWb bel
    have h1 := h.ext ⟨Wb, belW⟩
    have hback : ∀ y : Ext Wb, ∃ z : Ext W, y.w = z.w := fun y => ⟨⟨y.w, belW.trans (y.below.mono belW.size)⟩, rfl⟩
    have fa0 : ∀ y : Ext Wb, y.w.cell? ⟨B, 0, none⟩ = some (.int .i64 s.n) := fun y => blk_cell (y.blk b0) 0
    have fa1 : ∀ y : Ext Wb, y.w.cell? ⟨B, 1, none⟩ = some (.slice r.pa s.plus.length r.pc) := fun y => blk_cell (y.blk b0) 1
    have fa2 : ∀ y : Ext Wb, y.w.cell? ⟨B, 2, none⟩ = some (.slice r.ta s.times.length r.tc) := fun y => blk_cell (y.blk b0) 2
    have fa3 : ∀ y : Ext Wb, y.w.cell? ⟨B, 3, none⟩ = some (.slice r.ba s.below.length r.bc) := fun y => blk_cell (y.blk b0) 3
    have fa4 : ∀ y : Ext Wb, y.w.cell? ⟨B, 4, none⟩ = some (.slice a ls.length c) := fun y => blk_cell (y.blk b0) 4
    have fa5 : ∀ y : Ext Wb, y.w.cell? ⟨B, 5, none⟩ = some (.int .i64 t.op) := fun y => blk_cell (y.blk b0) 5
    have fa6 : ∀ y : Ext Wb, y.w.cell? ⟨B, 6, none⟩ = some (.int .i64 t.n) := fun y => blk_cell (y.blk b0) 6
    have fa7 : ∀ y : Ext Wb, y.w.cell? ⟨B, 7, none⟩ = some (.slice q.a t.ty.length q.c) := fun y => blk_cell (y.blk b0) 7
    have fa8 : ∀ y : Ext Wb, y.w.cell? ⟨B, 8, none⟩ = some (.slice q.b t.kids.length q.d) := fun y => blk_cell (y.blk b0) 8
    have S1 : ∀ y : Ext Wb, Calls Tryd.prog 31 #[.agg #[.int .i64 s.n, .slice r.pa s.plus.length r.pc, .slice r.ta s.times.length r.tc, .slice r.ba s.below.length r.bc], .int .i64 1048576] y.w (Ans Wb (.int .i64 (-1))) := fun y => szSys_ans s h1.sys 1048576 (by omega) (by omega) (-1) (.inr ⟨e1, rfl⟩) y
    obtain ⟨yy, hy0⟩ : ∃ y : Ext Wb, y.w = Wb := ⟨Ext.self Wb, rfl⟩
    rw [← hy0]
    clear hy0
    go_wp2_with (go_at_call 31; (with_reducible refine Calls.mono (S1 _) ?_); rintro e w' ⟨rfl, yy, rfl⟩)
    go_ret
    refine fin_int ?_ (hback yy)
    have hw : sesWt s ls t = s.wt + lsWt ls + t.wt := rfl
    rcases HV.out with ⟨b1, b2⟩ | ⟨b1, b2⟩ <;> omega
  obtain ⟨m1, hm⟩ : ∃ m1 : Int, m1 = 1048576 - s.wt := ⟨_, rfl⟩
  have hm1 : 0 ≤ m1 := by omega
  have hm1' : ¬ m1 < 0 := by omega
  by_cases e2 : m1 < lsWt ls
  · go_enter Tryd.func12, Tryd.ntmps12
    go_wp2_with fail
    have hxW := x.size
    generalize hWb : x.w.alloc _ = Wb
    generalize hB : x.w.heap.size = B at *
    obtain ⟨b0, sB, bel⟩ := blocks1 hB hWb
    have belW : Below W.heap.size W Wb := x.below.trans (bel.mono (by omega))
    clear hWb bel
    have h1 := h.ext ⟨Wb, belW⟩
    have hback : ∀ y : Ext Wb, ∃ z : Ext W, y.w = z.w := fun y => ⟨⟨y.w, belW.trans (y.below.mono belW.size)⟩, rfl⟩
    have fa0 : ∀ y : Ext Wb, y.w.cell? ⟨B, 0, none⟩ = some (.int .i64 s.n) := fun y => blk_cell (y.blk b0) 0
    have fa1 : ∀ y : Ext Wb, y.w.cell? ⟨B, 1, none⟩ = some (.slice r.pa s.plus.length r.pc) := fun y => blk_cell (y.blk b0) 1
    have fa2 : ∀ y : Ext Wb, y.w.cell? ⟨B, 2, none⟩ = some (.slice r.ta s.times.length r.tc) := fun y => blk_cell (y.blk b0) 2
    have fa3 : ∀ y : Ext Wb, y.w.cell? ⟨B, 3, none⟩ = some (.slice r.ba s.below.length r.bc) := fun y => blk_cell (y.blk b0) 3
    have fa4 : ∀ y : Ext Wb, y.w.cell? ⟨B, 4, none⟩ = some (.slice a ls.length c) := fun y => blk_cell (y.blk b0) 4
    have fa5 : ∀ y : Ext Wb, y.w.cell? ⟨B, 5, none⟩ = some (.int .i64 t.op) := fun y => blk_cell (y.blk b0) 5
    have fa6 : ∀ y : Ext Wb, y.w.cell? ⟨B, 6, none⟩ = some (.int .i64 t.n) := fun y => blk_cell (y.blk b0) 6
    have fa7 : ∀ y : Ext Wb, y.w.cell? ⟨B, 7, none⟩ = some (.slice q.a t.ty.length q.c) := fun y => blk_cell (y.blk b0) 7
    have fa8 : ∀ y : Ext Wb, y.w.cell? ⟨B, 8, none⟩ = some (.slice q.b t.kids.length q.d) := fun y => blk_cell (y.blk b0) 8
    have S1 : ∀ y : Ext Wb, Calls Tryd.prog 31 #[.agg #[.int .i64 s.n, .slice r.pa s.plus.length r.pc, .slice r.ta s.times.length r.tc, .slice r.ba s.below.length r.bc], .int .i64 1048576] y.w (Ans Wb (.int .i64 m1)) := fun y => szSys_ans s h1.sys 1048576 (by omega) (by omega) m1 (.inl ⟨by omega, hm⟩) y
    have S2 : ∀ y : Ext Wb, Calls Tryd.prog 45 #[.slice a ls.length c, .int .i64 m1] y.w (Ans Wb (.int .i64 (-1))) := fun y => szIntSS_ans h1.ctx m1 hm1 (by omega) (-1) (.inr ⟨e2, rfl⟩) y
    have HM1 := Lib.hid hm
    clear hm
    obtain ⟨yy, hy0⟩ : ∃ y : Ext Wb, y.w = Wb := ⟨Ext.self Wb, rfl⟩
    rw [← hy0]
    clear hy0
    go_wp2_with (first | (go_at_call 31; (with_reducible refine Calls.mono (S1 _) ?_); rintro e w' ⟨rfl, yy, rfl⟩) | (go_at_call 45; (with_reducible refine Calls.mono (S2 _) ?_); rintro e w' ⟨rfl, yy, rfl⟩))
    go_ret
    refine fin_int ?_ (hback yy)
    have q1 := HM1.out
    have hw : sesWt s ls t = s.wt + lsWt ls + t.wt := rfl
    rcases HV.out with ⟨b1, b2⟩ | ⟨b1, b2⟩ <;> omega
  obtain ⟨m2, hm'⟩ : ∃ m2 : Int, m2 = m1 - lsWt ls := ⟨_, rfl⟩
  have hm2 : 0 ≤ m2 := by omega
  have hm2' : ¬ m2 < 0 := by omega
  by_cases e3 : m2 < t.wt
  · go_enter Tryd.func12, Tryd.ntmps12
    go_wp2_with fail
    have hxW := x.size
    generalize hWb : x.w.alloc _ = Wb
    generalize hB : x.w.heap.size = B at *
    obtain ⟨b0, sB, bel⟩ := blocks1 hB hWb
    have belW : Below W.heap.size W Wb := x.below.trans (bel.mono (by omega))
    clear hWb bel
    have h1 := h.ext ⟨Wb, belW⟩
    have hback : ∀ y : Ext Wb, ∃ z : Ext W, y.w = z.w := fun y => ⟨⟨y.w, belW.trans (y.below.mono belW.size)⟩, rfl⟩
    have fa0 : ∀ y : Ext Wb, y.w.cell? ⟨B, 0, none⟩ = some (.int .i64 s.n) := fun y => blk_cell (y.blk b0) 0
    have fa1 : ∀ y : Ext Wb, y.w.cell? ⟨B, 1, none⟩ = some (.slice r.pa s.plus.length r.pc) := fun y => blk_cell (y.blk b0) 1
    have fa2 : ∀ y : Ext Wb, y.w.cell? ⟨B, 2, none⟩ = some (.slice r.ta s.times.length r.tc) := fun y => blk_cell (y.blk b0) 2
    have fa3 : ∀ y : Ext Wb, y.w.cell? ⟨B, 3, none⟩ = some (.slice r.ba s.below.length r.bc) := fun y => blk_cell (y.blk b0) 3
    have fa4 : ∀ y : Ext Wb, y.w.cell? ⟨B, 4, none⟩ = some (.slice a ls.length c) := fun y => blk_cell (y.blk b0) 4
    have fa5 : ∀ y : Ext Wb, y.w.cell? ⟨B, 5, none⟩ = some (.int .i64 t.op) := fun y => blk_cell (y.blk b0) 5
    have fa6 : ∀ y : Ext Wb, y.w.cell? ⟨B, 6, none⟩ = some (.int .i64 t.n) := fun y => blk_cell (y.blk b0) 6
    have fa7 : ∀ y : Ext Wb, y.w.cell? ⟨B, 7, none⟩ = some (.slice q.a t.ty.length q.c) := fun y => blk_cell (y.blk b0) 7
    have fa8 : ∀ y : Ext Wb, y.w.cell? ⟨B, 8, none⟩ = some (.slice q.b t.kids.length q.d) := fun y => blk_cell (y.blk b0) 8
    have S1 : ∀ y : Ext Wb, Calls Tryd.prog 31 #[.agg #[.int .i64 s.n, .slice r.pa s.plus.length r.pc, .slice r.ta s.times.length r.tc, .slice r.ba s.below.length r.bc], .int .i64 1048576] y.w (Ans Wb (.int .i64 m1)) := fun y => szSys_ans s h1.sys 1048576 (by omega) (by omega) m1 (.inl ⟨by omega, hm⟩) y
    have S2 : ∀ y : Ext Wb, Calls Tryd.prog 45 #[.slice a ls.length c, .int .i64 m1] y.w (Ans Wb (.int .i64 m2)) := fun y => szIntSS_ans h1.ctx m1 hm1 (by omega) m2 (.inl ⟨by omega, hm'⟩) y
    have S3 : ∀ y : Ext Wb, Calls Tryd.prog 17 #[.agg #[.int .i64 t.op, .int .i64 t.n, .slice q.a t.ty.length q.c, .slice q.b t.kids.length q.d], .int .i64 m2] y.w (Ans Wb (.int .i64 (-1))) := fun y => szTerm_ans t h1.tm m2 hm2 (by omega) (-1) (.inr ⟨e3, rfl⟩) y
    have HM1 := Lib.hid hm
    have HM2 := Lib.hid hm'
    clear hm hm'
    obtain ⟨yy, hy0⟩ : ∃ y : Ext Wb, y.w = Wb := ⟨Ext.self Wb, rfl⟩
    rw [← hy0]
    clear hy0
    go_wp2_with (first | (go_at_call 31; (with_reducible refine Calls.mono (S1 _) ?_); rintro e w' ⟨rfl, yy, rfl⟩) | (go_at_call 45; (with_reducible refine Calls.mono (S2 _) ?_); rintro e w' ⟨rfl, yy, rfl⟩) | (go_at_call 17; (with_reducible refine Calls.mono (S3 _) ?_); rintro e w' ⟨rfl, yy, rfl⟩))
    go_ret
    refine fin_int ?_ (hback yy)
    have q1 := HM1.out
    have q2 := HM2.out
    have hw : sesWt s ls t = s.wt + lsWt ls + t.wt := rfl
    rcases HV.out with ⟨b1, b2⟩ | ⟨b1, b2⟩ <;> omega
  obtain ⟨m3, hm''⟩ : ∃ m3 : Int, m3 = m2 - t.wt := ⟨_, rfl⟩
  have hm3' : ¬ m3 < 0 := by omega
  go_enter Tryd.func12, Tryd.ntmps12
  go_wp2_with fail
  have hxW := x.size
  generalize hWb : x.w.alloc _ = Wb
  generalize hB : x.w.heap.size = B at *
  obtain ⟨b0, sB, bel⟩ := blocks1 hB hWb
  have belW : Below W.heap.size W Wb := x.below.trans (bel.mono (by omega))
  clear hWb bel
  have h1 := h.ext ⟨Wb, belW⟩
  have hback : ∀ y : Ext Wb, ∃ z : Ext W, y.w = z.w := fun y => ⟨⟨y.w, belW.trans (y.below.mono belW.size)⟩, rfl⟩
  have fa0 : ∀ y : Ext Wb, y.w.cell? ⟨B, 0, none⟩ = some (.int .i64 s.n) := fun y => blk_cell (y.blk b0) 0
  have fa1 : ∀ y : Ext Wb, y.w.cell? ⟨B, 1, none⟩ = some (.slice r.pa s.plus.length r.pc) := fun y => blk_cell (y.blk b0) 1
  have fa2 : ∀ y : Ext Wb, y.w.cell? ⟨B, 2, none⟩ = some (.slice r.ta s.times.length r.tc) := fun y => blk_cell (y.blk b0) 2
  have fa3 : ∀ y : Ext Wb, y.w.cell? ⟨B, 3, none⟩ = some (.slice r.ba s.below.length r.bc) := fun y => blk_cell (y.blk b0) 3
  have fa4 : ∀ y : Ext Wb, y.w.cell? ⟨B, 4, none⟩ = some (.slice a ls.length c) := fun y => blk_cell (y.blk b0) 4
  have fa5 : ∀ y : Ext Wb, y.w.cell? ⟨B, 5, none⟩ = some (.int .i64 t.op) := fun y => blk_cell (y.blk b0) 5
  have fa6 : ∀ y : Ext Wb, y.w.cell? ⟨B, 6, none⟩ = some (.int .i64 t.n) := fun y => blk_cell (y.blk b0) 6
  have fa7 : ∀ y : Ext Wb, y.w.cell? ⟨B, 7, none⟩ = some (.slice q.a t.ty.length q.c) := fun y => blk_cell (y.blk b0) 7
  have fa8 : ∀ y : Ext Wb, y.w.cell? ⟨B, 8, none⟩ = some (.slice q.b t.kids.length q.d) := fun y => blk_cell (y.blk b0) 8
  have S1 : ∀ y : Ext Wb, Calls Tryd.prog 31 #[.agg #[.int .i64 s.n, .slice r.pa s.plus.length r.pc, .slice r.ta s.times.length r.tc, .slice r.ba s.below.length r.bc], .int .i64 1048576] y.w (Ans Wb (.int .i64 m1)) := fun y => szSys_ans s h1.sys 1048576 (by omega) (by omega) m1 (.inl ⟨by omega, hm⟩) y
  have S2 : ∀ y : Ext Wb, Calls Tryd.prog 45 #[.slice a ls.length c, .int .i64 m1] y.w (Ans Wb (.int .i64 m2)) := fun y => szIntSS_ans h1.ctx m1 hm1 (by omega) m2 (.inl ⟨by omega, hm'⟩) y
  have S3 : ∀ y : Ext Wb, Calls Tryd.prog 17 #[.agg #[.int .i64 t.op, .int .i64 t.n, .slice q.a t.ty.length q.c, .slice q.b t.kids.length q.d], .int .i64 m2] y.w (Ans Wb (.int .i64 m3)) := fun y => szTerm_ans t h1.tm m2 hm2 (by omega) m3 (.inl ⟨by omega, hm''⟩) y
  have HM1 := Lib.hid hm
  have HM2 := Lib.hid hm'
  have HM3 := Lib.hid hm''
  clear hm hm' hm''
  obtain ⟨yy, hy0⟩ : ∃ y : Ext Wb, y.w = Wb := ⟨Ext.self Wb, rfl⟩
  rw [← hy0]
  clear hy0
  go_wp2_with (first | (go_at_call 31; (with_reducible refine Calls.mono (S1 _) ?_); rintro e w' ⟨rfl, yy, rfl⟩) | (go_at_call 45; (with_reducible refine Calls.mono (S2 _) ?_); rintro e w' ⟨rfl, yy, rfl⟩) | (go_at_call 17; (with_reducible refine Calls.mono (S3 _) ?_); rintro e w' ⟨rfl, yy, rfl⟩))
  go_ret
  refine fin_int ?_ (hback yy)
  have q1 := HM1.out
  have q2 := HM2.out
  have q3 := HM3.out
  have hw : sesWt s ls t = s.wt + lsWt ls + t.wt := rfl
  rcases HV.out with ⟨b1, b2⟩ | ⟨b1, b2⟩ <;> omega

def IsSesP (s : Sys) (ls : List (List Int)) (t : Tm) : Prop := IsCtxP s ls ∧ Written t
set_option maxHeartbeats 4000000 in
theorem isSession_ans {W : World} {lo : Nat} {s : Sys} {r : Ref} {a : Option Addr} {c : Nat} {ls : List (List Int)} {hd : Nat → Option Addr × Nat} {t : Tm} {q : TV} (h : SesIn W lo s r a ls hd t q) (F : Forms W) (TF : TForms W) (hw : ∀ l ∈ ls, CodesB l) (hTB : TmB t) (sm : sesWt s ls t ≤ 1048576) (p : Bool) (hp : p = true ↔ IsSesP s ls t) (x : Ext W) :
    Calls Tryd.prog 15 #[sesV s r a c ls t q] x.w (Ans W (.bool p)) := by
  unfold sesV
  unfold sesWt at sm
  have HP := Lib.hid hp
  clear hp
  by_cases ic : IsCtxP s ls
  · have HC := Lib.hid ic
    clear ic
    by_cases it : Written t
    · have HT := Lib.hid it
      clear it
      go_enter Tryd.func15, Tryd.ntmps15
      go_wp2_with fail
      have hxW := x.size
      generalize hWb : x.w.alloc _ = Wb
      generalize hB : x.w.heap.size = B at *
      obtain ⟨b0, sB, bel⟩ := blocks1 hB hWb
      have belW : Below W.heap.size W Wb := x.below.trans (bel.mono (by omega))
      clear hWb bel
      have h1 := h.ext ⟨Wb, belW⟩
      have hback : ∀ y : Ext Wb, ∃ z : Ext W, y.w = z.w := fun y => ⟨⟨y.w, belW.trans (y.below.mono belW.size)⟩, rfl⟩
      have fa0 : ∀ y : Ext Wb, y.w.cell? ⟨B, 0, none⟩ = some (.int .i64 s.n) := fun y => blk_cell (y.blk b0) 0
      have fa1 : ∀ y : Ext Wb, y.w.cell? ⟨B, 1, none⟩ = some (.slice r.pa s.plus.length r.pc) := fun y => blk_cell (y.blk b0) 1
      have fa2 : ∀ y : Ext Wb, y.w.cell? ⟨B, 2, none⟩ = some (.slice r.ta s.times.length r.tc) := fun y => blk_cell (y.blk b0) 2
      have fa3 : ∀ y : Ext Wb, y.w.cell? ⟨B, 3, none⟩ = some (.slice r.ba s.below.length r.bc) := fun y => blk_cell (y.blk b0) 3
      have fa4 : ∀ y : Ext Wb, y.w.cell? ⟨B, 4, none⟩ = some (.slice a ls.length c) := fun y => blk_cell (y.blk b0) 4
      have fa5 : ∀ y : Ext Wb, y.w.cell? ⟨B, 5, none⟩ = some (.int .i64 t.op) := fun y => blk_cell (y.blk b0) 5
      have fa6 : ∀ y : Ext Wb, y.w.cell? ⟨B, 6, none⟩ = some (.int .i64 t.n) := fun y => blk_cell (y.blk b0) 6
      have fa7 : ∀ y : Ext Wb, y.w.cell? ⟨B, 7, none⟩ = some (.slice q.a t.ty.length q.c) := fun y => blk_cell (y.blk b0) 7
      have fa8 : ∀ y : Ext Wb, y.w.cell? ⟨B, 8, none⟩ = some (.slice q.b t.kids.length q.d) := fun y => blk_cell (y.blk b0) 8
      have E1 : ∀ y : Ext Wb, Calls Tryd.prog 50 #[.agg #[.int .i64 s.n, .slice r.pa s.plus.length r.pc, .slice r.ta s.times.length r.tc, .slice r.ba s.below.length r.bc], .slice a ls.length c] y.w (Ans Wb (.bool true)) := fun y => isContext_ans h1.sys (F.ext ⟨Wb, belW⟩) (h1.ctx.ins (by omega)) hw true (by simpa using HC.out) y
      have E2 : ∀ y : Ext Wb, Calls Tryd.prog 51 #[.agg #[.int .i64 t.op, .int .i64 t.n, .slice q.a t.ty.length q.c, .slice q.b t.kids.length q.d]] y.w (Ans Wb (.bool true)) := fun y => isWritten_ans (F.ext ⟨Wb, belW⟩) (TF.ext ⟨Wb, belW⟩) h1.tm hTB true (by simpa using HT.out) y
      obtain ⟨yy, hy0⟩ : ∃ y : Ext Wb, y.w = Wb := ⟨Ext.self Wb, rfl⟩
      rw [← hy0]
      clear hy0
      go_wp2_with (first | (go_at_call 50; (with_reducible refine Calls.mono (E1 _) ?_); rintro e w' ⟨rfl, yy, rfl⟩) | (go_at_call 51; (with_reducible refine Calls.mono (E2 _) ?_); rintro e w' ⟨rfl, yy, rfl⟩))
      go_ret
      exact fin_true HP ⟨HC.out, HT.out⟩ (hback yy)
    · have HT := Lib.hid it
      clear it
      go_enter Tryd.func15, Tryd.ntmps15
      go_wp2_with fail
      have hxW := x.size
      generalize hWb : x.w.alloc _ = Wb
      generalize hB : x.w.heap.size = B at *
      obtain ⟨b0, sB, bel⟩ := blocks1 hB hWb
      have belW : Below W.heap.size W Wb := x.below.trans (bel.mono (by omega))
      clear hWb bel
      have h1 := h.ext ⟨Wb, belW⟩
      have hback : ∀ y : Ext Wb, ∃ z : Ext W, y.w = z.w := fun y => ⟨⟨y.w, belW.trans (y.below.mono belW.size)⟩, rfl⟩
      have fa0 : ∀ y : Ext Wb, y.w.cell? ⟨B, 0, none⟩ = some (.int .i64 s.n) := fun y => blk_cell (y.blk b0) 0
      have fa1 : ∀ y : Ext Wb, y.w.cell? ⟨B, 1, none⟩ = some (.slice r.pa s.plus.length r.pc) := fun y => blk_cell (y.blk b0) 1
      have fa2 : ∀ y : Ext Wb, y.w.cell? ⟨B, 2, none⟩ = some (.slice r.ta s.times.length r.tc) := fun y => blk_cell (y.blk b0) 2
      have fa3 : ∀ y : Ext Wb, y.w.cell? ⟨B, 3, none⟩ = some (.slice r.ba s.below.length r.bc) := fun y => blk_cell (y.blk b0) 3
      have fa4 : ∀ y : Ext Wb, y.w.cell? ⟨B, 4, none⟩ = some (.slice a ls.length c) := fun y => blk_cell (y.blk b0) 4
      have fa5 : ∀ y : Ext Wb, y.w.cell? ⟨B, 5, none⟩ = some (.int .i64 t.op) := fun y => blk_cell (y.blk b0) 5
      have fa6 : ∀ y : Ext Wb, y.w.cell? ⟨B, 6, none⟩ = some (.int .i64 t.n) := fun y => blk_cell (y.blk b0) 6
      have fa7 : ∀ y : Ext Wb, y.w.cell? ⟨B, 7, none⟩ = some (.slice q.a t.ty.length q.c) := fun y => blk_cell (y.blk b0) 7
      have fa8 : ∀ y : Ext Wb, y.w.cell? ⟨B, 8, none⟩ = some (.slice q.b t.kids.length q.d) := fun y => blk_cell (y.blk b0) 8
      have E1 : ∀ y : Ext Wb, Calls Tryd.prog 50 #[.agg #[.int .i64 s.n, .slice r.pa s.plus.length r.pc, .slice r.ta s.times.length r.tc, .slice r.ba s.below.length r.bc], .slice a ls.length c] y.w (Ans Wb (.bool true)) := fun y => isContext_ans h1.sys (F.ext ⟨Wb, belW⟩) (h1.ctx.ins (by omega)) hw true (by simpa using HC.out) y
      have E2 : ∀ y : Ext Wb, Calls Tryd.prog 51 #[.agg #[.int .i64 t.op, .int .i64 t.n, .slice q.a t.ty.length q.c, .slice q.b t.kids.length q.d]] y.w (Ans Wb (.bool false)) := fun y => isWritten_ans (F.ext ⟨Wb, belW⟩) (TF.ext ⟨Wb, belW⟩) h1.tm hTB false (by simpa using HT.out) y
      obtain ⟨yy, hy0⟩ : ∃ y : Ext Wb, y.w = Wb := ⟨Ext.self Wb, rfl⟩
      rw [← hy0]
      clear hy0
      go_wp2_with (first | (go_at_call 50; (with_reducible refine Calls.mono (E1 _) ?_); rintro e w' ⟨rfl, yy, rfl⟩) | (go_at_call 51; (with_reducible refine Calls.mono (E2 _) ?_); rintro e w' ⟨rfl, yy, rfl⟩))
      go_ret
      exact fin_false HP (fun z => HT.out z.2) (hback yy)
  · have HC := Lib.hid ic
    clear ic
    go_enter Tryd.func15, Tryd.ntmps15
    go_wp2_with fail
    have hxW := x.size
    generalize hWb : x.w.alloc _ = Wb
    generalize hB : x.w.heap.size = B at *
    obtain ⟨b0, sB, bel⟩ := blocks1 hB hWb
    have belW : Below W.heap.size W Wb := x.below.trans (bel.mono (by omega))
    clear hWb bel
    have h1 := h.ext ⟨Wb, belW⟩
    have hback : ∀ y : Ext Wb, ∃ z : Ext W, y.w = z.w := fun y => ⟨⟨y.w, belW.trans (y.below.mono belW.size)⟩, rfl⟩
    have fa0 : ∀ y : Ext Wb, y.w.cell? ⟨B, 0, none⟩ = some (.int .i64 s.n) := fun y => blk_cell (y.blk b0) 0
    have fa1 : ∀ y : Ext Wb, y.w.cell? ⟨B, 1, none⟩ = some (.slice r.pa s.plus.length r.pc) := fun y => blk_cell (y.blk b0) 1
    have fa2 : ∀ y : Ext Wb, y.w.cell? ⟨B, 2, none⟩ = some (.slice r.ta s.times.length r.tc) := fun y => blk_cell (y.blk b0) 2
    have fa3 : ∀ y : Ext Wb, y.w.cell? ⟨B, 3, none⟩ = some (.slice r.ba s.below.length r.bc) := fun y => blk_cell (y.blk b0) 3
    have fa4 : ∀ y : Ext Wb, y.w.cell? ⟨B, 4, none⟩ = some (.slice a ls.length c) := fun y => blk_cell (y.blk b0) 4
    have fa5 : ∀ y : Ext Wb, y.w.cell? ⟨B, 5, none⟩ = some (.int .i64 t.op) := fun y => blk_cell (y.blk b0) 5
    have fa6 : ∀ y : Ext Wb, y.w.cell? ⟨B, 6, none⟩ = some (.int .i64 t.n) := fun y => blk_cell (y.blk b0) 6
    have fa7 : ∀ y : Ext Wb, y.w.cell? ⟨B, 7, none⟩ = some (.slice q.a t.ty.length q.c) := fun y => blk_cell (y.blk b0) 7
    have fa8 : ∀ y : Ext Wb, y.w.cell? ⟨B, 8, none⟩ = some (.slice q.b t.kids.length q.d) := fun y => blk_cell (y.blk b0) 8
    have E1 : ∀ y : Ext Wb, Calls Tryd.prog 50 #[.agg #[.int .i64 s.n, .slice r.pa s.plus.length r.pc, .slice r.ta s.times.length r.tc, .slice r.ba s.below.length r.bc], .slice a ls.length c] y.w (Ans Wb (.bool false)) := fun y => isContext_ans h1.sys (F.ext ⟨Wb, belW⟩) (h1.ctx.ins (by omega)) hw false (by simpa using HC.out) y
    obtain ⟨yy, hy0⟩ : ∃ y : Ext Wb, y.w = Wb := ⟨Ext.self Wb, rfl⟩
    rw [← hy0]
    clear hy0
    go_wp2_with (go_at_call 50; (with_reducible refine Calls.mono (E1 _) ?_); rintro e w' ⟨rfl, yy, rfl⟩)
    go_ret
    exact fin_false HP (fun z => HC.out z.1) (hback yy)

set_option maxHeartbeats 4000000 in
theorem specIsSession_ans {W : World} {lo : Nat} {s : Sys} {r : Ref} {a : Option Addr} {c : Nat} {ls : List (List Int)} {hd : Nat → Option Addr × Nat} {t : Tm} {q : TV} (h : SesIn W lo s r a ls hd t q) (sm : sesWt s ls t ≤ 1048576) (p : Bool) (hp : p = true ↔ IsSesP s ls t) (x : Ext W) :
    Calls Tryd.prog 13 #[sesV s r a c ls t q] x.w (Ans W (.bool p)) := by
  unfold sesV
  unfold sesWt at sm
  have HP := Lib.hid hp
  clear hp
  by_cases is : IsSys s
  · have HS := Lib.hid is
    clear is
    by_cases ic : CtxL s.n ls
    · have HC := Lib.hid ic
      clear ic
      by_cases it : Written t
      · have HT := Lib.hid it
        clear it
        go_enter Tryd.func13, Tryd.ntmps13
        go_wp2_with fail
        have hxW := x.size
        generalize hWb : x.w.alloc _ = Wb
        generalize hB : x.w.heap.size = B at *
        obtain ⟨b0, sB, bel⟩ := blocks1 hB hWb
        have belW : Below W.heap.size W Wb := x.below.trans (bel.mono (by omega))
        clear hWb bel
        have h1 := h.ext ⟨Wb, belW⟩
        have hback : ∀ y : Ext Wb, ∃ z : Ext W, y.w = z.w := fun y => ⟨⟨y.w, belW.trans (y.below.mono belW.size)⟩, rfl⟩
        have fa0 : ∀ y : Ext Wb, y.w.cell? ⟨B, 0, none⟩ = some (.int .i64 s.n) := fun y => blk_cell (y.blk b0) 0
        have fa1 : ∀ y : Ext Wb, y.w.cell? ⟨B, 1, none⟩ = some (.slice r.pa s.plus.length r.pc) := fun y => blk_cell (y.blk b0) 1
        have fa2 : ∀ y : Ext Wb, y.w.cell? ⟨B, 2, none⟩ = some (.slice r.ta s.times.length r.tc) := fun y => blk_cell (y.blk b0) 2
        have fa3 : ∀ y : Ext Wb, y.w.cell? ⟨B, 3, none⟩ = some (.slice r.ba s.below.length r.bc) := fun y => blk_cell (y.blk b0) 3
        have fa4 : ∀ y : Ext Wb, y.w.cell? ⟨B, 4, none⟩ = some (.slice a ls.length c) := fun y => blk_cell (y.blk b0) 4
        have fa5 : ∀ y : Ext Wb, y.w.cell? ⟨B, 5, none⟩ = some (.int .i64 t.op) := fun y => blk_cell (y.blk b0) 5
        have fa6 : ∀ y : Ext Wb, y.w.cell? ⟨B, 6, none⟩ = some (.int .i64 t.n) := fun y => blk_cell (y.blk b0) 6
        have fa7 : ∀ y : Ext Wb, y.w.cell? ⟨B, 7, none⟩ = some (.slice q.a t.ty.length q.c) := fun y => blk_cell (y.blk b0) 7
        have fa8 : ∀ y : Ext Wb, y.w.cell? ⟨B, 8, none⟩ = some (.slice q.b t.kids.length q.d) := fun y => blk_cell (y.blk b0) 8
        have E0 : ∀ y : Ext Wb, Calls Tryd.prog 46 #[.agg #[.int .i64 s.n, .slice r.pa s.plus.length r.pc, .slice r.ta s.times.length r.tc, .slice r.ba s.below.length r.bc]] y.w (Ans Wb (.bool true)) := fun y => specIsSystem_ans h1.sys true (by simpa using HS.out) y
        have E1 : ∀ y : Ext Wb, Calls Tryd.prog 47 #[.agg #[.int .i64 s.n, .slice r.pa s.plus.length r.pc, .slice r.ta s.times.length r.tc, .slice r.ba s.below.length r.bc], .slice a ls.length c] y.w (Ans Wb (.bool true)) := fun y => l3Context_ans h1.sys (h1.ctx.ins (by omega)) true (by simpa using HC.out) y
        have E2 : ∀ y : Ext Wb, Calls Tryd.prog 48 #[.agg #[.int .i64 t.op, .int .i64 t.n, .slice q.a t.ty.length q.c, .slice q.b t.kids.length q.d]] y.w (Ans Wb (.bool true)) := fun y => specIsWritten_ans h1.tm (by omega) true (by simpa using HT.out) y
        obtain ⟨yy, hy0⟩ : ∃ y : Ext Wb, y.w = Wb := ⟨Ext.self Wb, rfl⟩
        rw [← hy0]
        clear hy0
        go_wp2_with (first | (go_at_call 46; (with_reducible refine Calls.mono (E0 _) ?_); rintro e w' ⟨rfl, yy, rfl⟩) | (go_at_call 47; (with_reducible refine Calls.mono (E1 _) ?_); rintro e w' ⟨rfl, yy, rfl⟩) | (go_at_call 48; (with_reducible refine Calls.mono (E2 _) ?_); rintro e w' ⟨rfl, yy, rfl⟩))
        go_ret
        exact fin_true HP ⟨⟨HS.out, HC.out⟩, HT.out⟩ (hback yy)
      · have HT := Lib.hid it
        clear it
        go_enter Tryd.func13, Tryd.ntmps13
        go_wp2_with fail
        have hxW := x.size
        generalize hWb : x.w.alloc _ = Wb
        generalize hB : x.w.heap.size = B at *
        obtain ⟨b0, sB, bel⟩ := blocks1 hB hWb
        have belW : Below W.heap.size W Wb := x.below.trans (bel.mono (by omega))
        clear hWb bel
        have h1 := h.ext ⟨Wb, belW⟩
        have hback : ∀ y : Ext Wb, ∃ z : Ext W, y.w = z.w := fun y => ⟨⟨y.w, belW.trans (y.below.mono belW.size)⟩, rfl⟩
        have fa0 : ∀ y : Ext Wb, y.w.cell? ⟨B, 0, none⟩ = some (.int .i64 s.n) := fun y => blk_cell (y.blk b0) 0
        have fa1 : ∀ y : Ext Wb, y.w.cell? ⟨B, 1, none⟩ = some (.slice r.pa s.plus.length r.pc) := fun y => blk_cell (y.blk b0) 1
        have fa2 : ∀ y : Ext Wb, y.w.cell? ⟨B, 2, none⟩ = some (.slice r.ta s.times.length r.tc) := fun y => blk_cell (y.blk b0) 2
        have fa3 : ∀ y : Ext Wb, y.w.cell? ⟨B, 3, none⟩ = some (.slice r.ba s.below.length r.bc) := fun y => blk_cell (y.blk b0) 3
        have fa4 : ∀ y : Ext Wb, y.w.cell? ⟨B, 4, none⟩ = some (.slice a ls.length c) := fun y => blk_cell (y.blk b0) 4
        have fa5 : ∀ y : Ext Wb, y.w.cell? ⟨B, 5, none⟩ = some (.int .i64 t.op) := fun y => blk_cell (y.blk b0) 5
        have fa6 : ∀ y : Ext Wb, y.w.cell? ⟨B, 6, none⟩ = some (.int .i64 t.n) := fun y => blk_cell (y.blk b0) 6
        have fa7 : ∀ y : Ext Wb, y.w.cell? ⟨B, 7, none⟩ = some (.slice q.a t.ty.length q.c) := fun y => blk_cell (y.blk b0) 7
        have fa8 : ∀ y : Ext Wb, y.w.cell? ⟨B, 8, none⟩ = some (.slice q.b t.kids.length q.d) := fun y => blk_cell (y.blk b0) 8
        have E0 : ∀ y : Ext Wb, Calls Tryd.prog 46 #[.agg #[.int .i64 s.n, .slice r.pa s.plus.length r.pc, .slice r.ta s.times.length r.tc, .slice r.ba s.below.length r.bc]] y.w (Ans Wb (.bool true)) := fun y => specIsSystem_ans h1.sys true (by simpa using HS.out) y
        have E1 : ∀ y : Ext Wb, Calls Tryd.prog 47 #[.agg #[.int .i64 s.n, .slice r.pa s.plus.length r.pc, .slice r.ta s.times.length r.tc, .slice r.ba s.below.length r.bc], .slice a ls.length c] y.w (Ans Wb (.bool true)) := fun y => l3Context_ans h1.sys (h1.ctx.ins (by omega)) true (by simpa using HC.out) y
        have E2 : ∀ y : Ext Wb, Calls Tryd.prog 48 #[.agg #[.int .i64 t.op, .int .i64 t.n, .slice q.a t.ty.length q.c, .slice q.b t.kids.length q.d]] y.w (Ans Wb (.bool false)) := fun y => specIsWritten_ans h1.tm (by omega) false (by simpa using HT.out) y
        obtain ⟨yy, hy0⟩ : ∃ y : Ext Wb, y.w = Wb := ⟨Ext.self Wb, rfl⟩
        rw [← hy0]
        clear hy0
        go_wp2_with (first | (go_at_call 46; (with_reducible refine Calls.mono (E0 _) ?_); rintro e w' ⟨rfl, yy, rfl⟩) | (go_at_call 47; (with_reducible refine Calls.mono (E1 _) ?_); rintro e w' ⟨rfl, yy, rfl⟩) | (go_at_call 48; (with_reducible refine Calls.mono (E2 _) ?_); rintro e w' ⟨rfl, yy, rfl⟩))
        go_ret
        exact fin_false HP (fun z => HT.out z.2) (hback yy)
    · have HC := Lib.hid ic
      clear ic
      go_enter Tryd.func13, Tryd.ntmps13
      go_wp2_with fail
      have hxW := x.size
      generalize hWb : x.w.alloc _ = Wb
      generalize hB : x.w.heap.size = B at *
      obtain ⟨b0, sB, bel⟩ := blocks1 hB hWb
      have belW : Below W.heap.size W Wb := x.below.trans (bel.mono (by omega))
      clear hWb bel
      have h1 := h.ext ⟨Wb, belW⟩
      have hback : ∀ y : Ext Wb, ∃ z : Ext W, y.w = z.w := fun y => ⟨⟨y.w, belW.trans (y.below.mono belW.size)⟩, rfl⟩
      have fa0 : ∀ y : Ext Wb, y.w.cell? ⟨B, 0, none⟩ = some (.int .i64 s.n) := fun y => blk_cell (y.blk b0) 0
      have fa1 : ∀ y : Ext Wb, y.w.cell? ⟨B, 1, none⟩ = some (.slice r.pa s.plus.length r.pc) := fun y => blk_cell (y.blk b0) 1
      have fa2 : ∀ y : Ext Wb, y.w.cell? ⟨B, 2, none⟩ = some (.slice r.ta s.times.length r.tc) := fun y => blk_cell (y.blk b0) 2
      have fa3 : ∀ y : Ext Wb, y.w.cell? ⟨B, 3, none⟩ = some (.slice r.ba s.below.length r.bc) := fun y => blk_cell (y.blk b0) 3
      have fa4 : ∀ y : Ext Wb, y.w.cell? ⟨B, 4, none⟩ = some (.slice a ls.length c) := fun y => blk_cell (y.blk b0) 4
      have fa5 : ∀ y : Ext Wb, y.w.cell? ⟨B, 5, none⟩ = some (.int .i64 t.op) := fun y => blk_cell (y.blk b0) 5
      have fa6 : ∀ y : Ext Wb, y.w.cell? ⟨B, 6, none⟩ = some (.int .i64 t.n) := fun y => blk_cell (y.blk b0) 6
      have fa7 : ∀ y : Ext Wb, y.w.cell? ⟨B, 7, none⟩ = some (.slice q.a t.ty.length q.c) := fun y => blk_cell (y.blk b0) 7
      have fa8 : ∀ y : Ext Wb, y.w.cell? ⟨B, 8, none⟩ = some (.slice q.b t.kids.length q.d) := fun y => blk_cell (y.blk b0) 8
      have E0 : ∀ y : Ext Wb, Calls Tryd.prog 46 #[.agg #[.int .i64 s.n, .slice r.pa s.plus.length r.pc, .slice r.ta s.times.length r.tc, .slice r.ba s.below.length r.bc]] y.w (Ans Wb (.bool true)) := fun y => specIsSystem_ans h1.sys true (by simpa using HS.out) y
      have E1 : ∀ y : Ext Wb, Calls Tryd.prog 47 #[.agg #[.int .i64 s.n, .slice r.pa s.plus.length r.pc, .slice r.ta s.times.length r.tc, .slice r.ba s.below.length r.bc], .slice a ls.length c] y.w (Ans Wb (.bool false)) := fun y => l3Context_ans h1.sys (h1.ctx.ins (by omega)) false (by simpa using HC.out) y
      obtain ⟨yy, hy0⟩ : ∃ y : Ext Wb, y.w = Wb := ⟨Ext.self Wb, rfl⟩
      rw [← hy0]
      clear hy0
      go_wp2_with (first | (go_at_call 46; (with_reducible refine Calls.mono (E0 _) ?_); rintro e w' ⟨rfl, yy, rfl⟩) | (go_at_call 47; (with_reducible refine Calls.mono (E1 _) ?_); rintro e w' ⟨rfl, yy, rfl⟩))
      go_ret
      exact fin_false HP (fun z => HC.out z.1.2) (hback yy)
  · have HS := Lib.hid is
    clear is
    go_enter Tryd.func13, Tryd.ntmps13
    go_wp2_with fail
    have hxW := x.size
    generalize hWb : x.w.alloc _ = Wb
    generalize hB : x.w.heap.size = B at *
    obtain ⟨b0, sB, bel⟩ := blocks1 hB hWb
    have belW : Below W.heap.size W Wb := x.below.trans (bel.mono (by omega))
    clear hWb bel
    have h1 := h.ext ⟨Wb, belW⟩
    have hback : ∀ y : Ext Wb, ∃ z : Ext W, y.w = z.w := fun y => ⟨⟨y.w, belW.trans (y.below.mono belW.size)⟩, rfl⟩
    have fa0 : ∀ y : Ext Wb, y.w.cell? ⟨B, 0, none⟩ = some (.int .i64 s.n) := fun y => blk_cell (y.blk b0) 0
    have fa1 : ∀ y : Ext Wb, y.w.cell? ⟨B, 1, none⟩ = some (.slice r.pa s.plus.length r.pc) := fun y => blk_cell (y.blk b0) 1
    have fa2 : ∀ y : Ext Wb, y.w.cell? ⟨B, 2, none⟩ = some (.slice r.ta s.times.length r.tc) := fun y => blk_cell (y.blk b0) 2
    have fa3 : ∀ y : Ext Wb, y.w.cell? ⟨B, 3, none⟩ = some (.slice r.ba s.below.length r.bc) := fun y => blk_cell (y.blk b0) 3
    have fa4 : ∀ y : Ext Wb, y.w.cell? ⟨B, 4, none⟩ = some (.slice a ls.length c) := fun y => blk_cell (y.blk b0) 4
    have fa5 : ∀ y : Ext Wb, y.w.cell? ⟨B, 5, none⟩ = some (.int .i64 t.op) := fun y => blk_cell (y.blk b0) 5
    have fa6 : ∀ y : Ext Wb, y.w.cell? ⟨B, 6, none⟩ = some (.int .i64 t.n) := fun y => blk_cell (y.blk b0) 6
    have fa7 : ∀ y : Ext Wb, y.w.cell? ⟨B, 7, none⟩ = some (.slice q.a t.ty.length q.c) := fun y => blk_cell (y.blk b0) 7
    have fa8 : ∀ y : Ext Wb, y.w.cell? ⟨B, 8, none⟩ = some (.slice q.b t.kids.length q.d) := fun y => blk_cell (y.blk b0) 8
    have E0 : ∀ y : Ext Wb, Calls Tryd.prog 46 #[.agg #[.int .i64 s.n, .slice r.pa s.plus.length r.pc, .slice r.ta s.times.length r.tc, .slice r.ba s.below.length r.bc]] y.w (Ans Wb (.bool false)) := fun y => specIsSystem_ans h1.sys false (by simpa using HS.out) y
    obtain ⟨yy, hy0⟩ : ∃ y : Ext Wb, y.w = Wb := ⟨Ext.self Wb, rfl⟩
    rw [← hy0]
    clear hy0
    go_wp2_with (go_at_call 46; (with_reducible refine Calls.mono (E0 _) ?_); rintro e w' ⟨rfl, yy, rfl⟩)
    go_ret
    exact fin_false HP (fun z => HS.out z.1.1) (hback yy)

end Go.Proofs.YteffcfaoganciaaDoor
