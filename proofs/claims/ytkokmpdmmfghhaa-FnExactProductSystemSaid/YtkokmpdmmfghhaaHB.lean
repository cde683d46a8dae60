/- Texts of one claim, laid together: ToSysOwn, OwnI, Steps, HoldR, HoldS. -/
import Derived.Test.YtkokmpdmmfghhaaHA

/- The laws' copy of a system: its tables lie in blocks of their own. -/
namespace Go.Proofs.Ytkokmpdmmfghhaa
open Go.RowKit

set_option maxHeartbeats 4000000 in
theorem toSystemOwn_ans {W : World} {r : Ref} {s : Sys} (h : SysIn W r s) (sm : Small s) (x : Ext W) :
    Calls Try.prog 42 #[r.val s] x.w (NewOwn W s) := by
  unfold Ref.val
  go_enter Try.func42, Try.ntmps42
  go_wp2_with fail
  have hxs := x.size
  generalize hWa : ((x.w.alloc _).alloc _).alloc _ = Wa
  generalize hB : x.w.heap.size = B at *
  obtain ⟨bA, bB, bC, sA, bel⟩ := blocks3 hB hWa
  have belA : Below W.heap.size W Wa := x.below.trans (bel.mono (by omega))
  clear bel hWa
  -- the first copy
  refine (toIntS_ans (W := Wa) ((h.ext ⟨Wa, belA⟩).plus) sm.p (Ext.self Wa)).mono ?_
  rintro e w' ⟨v1, y, rfl, rfl, own1⟩
  have k1 := blk_cell (y.blk bA) 2
  have k2 := blk_cell (y.blk bC) 1
  have k3 := blk_free (y.blk bC) 1
  simp at k1 k2
  obtain ⟨a1, c1, rfl, row1, pl1⟩ := owned_row own1
  go_wp2_with fail
  clear k1 k2 k3
  generalize hWb : y.w.setCell _ _ = Wb
  have bA' := (set_other hWb (k := B) (by omega)).trans (y.blk bA)
  have bB' := (set_other hWb (k := B + 1) (by omega)).trans (y.blk bB)
  have bC' := set_blk (y.blk bC) 1 _ hWb
  have sB : B + 3 ≤ Wb.heap.size := by rw [set_size hWb]; have := y.size; omega
  have belB : Below W.heap.size W Wb := by subst hWb; exact (belA.trans (y.below.mono (by omega))).setCell (by simp; omega) _
  have row1' : Row Wb (.int .i64) a1 s.plus := row_keep row1 (fun p hp => by have := (pl1 p hp).1; exact set_other hWb (by omega))
  have pl1' : ∀ p, a1 = some p → p.block < Wb.heap.size ∧ B + 3 ≤ p.block := fun p hp => by rw [set_size hWb]; have := pl1 p hp; omega
  simp at bC'
  have own1' : Wb.ownsRow W.heap.size 3 1 (.slice a1 s.plus.length c1) s.plus.length (s.plus.map (Value.int .i64)) := owns_lower (owns_of_block (w' := Wb) own1 (fun g hg => set_other hWb (by have := (own1.lt g hg).1; omega))) (by omega)
  have lw1 : ∀ g, (Value.slice a1 s.plus.length c1).ownBlock = some g → g < Wb.heap.size ∧ B + 3 ≤ g := fun g hg => by rw [set_size hWb]; have := own1.lt g hg; omega
  clear bA bB bC sA belA own1 row1 pl1 hWb y Wa
  -- the second copy
  refine (toIntS_ans (W := Wb) ((h.ext ⟨Wb, belB⟩).times) sm.t (Ext.self Wb)).mono ?_
  rintro e w' ⟨v2, y, rfl, rfl, own2⟩
  have k1 := blk_cell (y.blk bA') 3
  have k2 := blk_cell (y.blk bC') 2
  have k3 := blk_free (y.blk bC') 2
  simp at k1 k2
  obtain ⟨a2, c2, rfl, row2, pl2⟩ := owned_row own2
  go_wp2_with fail
  clear k1 k2 k3
  generalize hWc : y.w.setCell _ _ = Wc
  have bA'' := (set_other hWc (k := B) (by omega)).trans (y.blk bA')
  have bB'' := (set_other hWc (k := B + 1) (by omega)).trans (y.blk bB')
  have bC'' := set_blk (y.blk bC') 2 _ hWc
  have sC : B + 3 ≤ Wc.heap.size := by rw [set_size hWc]; have := y.size; omega
  have belC : Below W.heap.size W Wc := by subst hWc; exact (belB.trans (y.below.mono (by omega))).setCell (by simp; omega) _
  have row1'' : Row Wc (.int .i64) a1 s.plus := row_keep row1' (fun p hp => by have := (pl1' p hp); rw [set_other hWc (by omega)]; exact y.below.block _ this.1)
  have row2' : Row Wc (.int .i64) a2 s.times := row_keep row2 (fun p hp => by have := (pl2 p hp).1; exact set_other hWc (by omega))
  have pl1'' : ∀ p, a1 = some p → p.block < Wc.heap.size ∧ B + 3 ≤ p.block := fun p hp => by rw [set_size hWc]; have := pl1' p hp; have := y.size; omega
  have pl2' : ∀ p, a2 = some p → p.block < Wc.heap.size ∧ B + 3 ≤ p.block := fun p hp => by rw [set_size hWc]; have := pl2 p hp; omega
  simp at bC''
  have own1'' : Wc.ownsRow W.heap.size 3 1 (.slice a1 s.plus.length c1) s.plus.length (s.plus.map (Value.int .i64)) := owns_of_block (w' := Wc) (owns_ext own1' y) (fun g hg => set_other hWc (by have := lw1 g hg; omega))
  have own2' : Wc.ownsRow W.heap.size 3 1 (.slice a2 s.times.length c2) s.times.length (s.times.map (Value.int .i64)) := owns_lower (owns_of_block (w' := Wc) own2 (fun g hg => set_other hWc (by have := (own2.lt g hg).1; omega))) (by omega)
  have lw1' : ∀ g, (Value.slice a1 s.plus.length c1).ownBlock = some g → g < Wb.heap.size ∧ g < Wc.heap.size ∧ B + 3 ≤ g := fun g hg => by rw [set_size hWc]; have := lw1 g hg; have := y.size; omega
  have lw2 : ∀ g, (Value.slice a2 s.times.length c2).ownBlock = some g → g < Wc.heap.size ∧ Wb.heap.size ≤ g := fun g hg => by rw [set_size hWc]; have := own2.lt g hg; omega
  have ap12 : Apart (.slice a1 s.plus.length c1) (.slice a2 s.times.length c2) := by
    cases hv : (Value.slice a1 s.plus.length c1).ownBlock with
    | none => exact .inl hv
    | some g => refine .inr (fun e => ?_); have := lw1' g hv; rw [hv] at e; have := lw2 g e.symm; omega
  replace lw2 : ∀ g, (Value.slice a2 s.times.length c2).ownBlock = some g → g < Wc.heap.size ∧ B + 3 ≤ g := fun g hg => by have := lw2 g hg; omega
  replace lw1' : ∀ g, (Value.slice a1 s.plus.length c1).ownBlock = some g → g < Wc.heap.size ∧ B + 3 ≤ g := fun g hg => (lw1' g hg).2
  clear bA' bB' bC' sB belB own2 own1' lw1 row1' pl1' row2 pl2 hWc y Wb
  -- the third copy
  refine (toBoolS_ans (W := Wc) ((h.ext ⟨Wc, belC⟩).below) sm.b (Ext.self Wc)).mono ?_
  rintro e w' ⟨v3, y, rfl, rfl, own3⟩
  have k2 := blk_cell (y.blk bC'') 3
  have k3 := blk_free (y.blk bC'') 3
  have m0 := blk_cell (y.blk bC'') 0
  have m1 := blk_cell (y.blk bC'') 1
  have m2 := blk_cell (y.blk bC'') 2
  have n0 := blk_cell (y.blk bB'') 0
  have n1 := blk_cell (y.blk bB'') 1
  have n2 := blk_cell (y.blk bB'') 2
  have n3 := blk_cell (y.blk bB'') 3
  have p0 := blk_free (y.blk bB'') 0
  have p1 := blk_free (y.blk bB'') 1
  have p2 := blk_free (y.blk bB'') 2
  have p3 := blk_free (y.blk bB'') 3
  simp at k2 m0 m1 m2 n0 n1 n2 n3
  obtain ⟨a3, c3, rfl, row3, pl3⟩ := owned_row own3
  go_wp2
  clear k2 k3 m0 m1 m2 n0 n1 n2 n3 p0 p1 p2 p3
  generalize hY1 : y.w.setCell _ _ = Y1
  generalize hY2 : Y1.setCell _ _ = Y2
  generalize hY3 : Y2.setCell _ _ = Y3
  generalize hY4 : Y3.setCell _ _ = Y4
  generalize hY5 : Y4.setCell _ _ = Y5
  have q1 := (set_other hY1 (k := B + 1) (by omega)).trans (y.blk bB'')
  have q5 := set_blk (set_blk (set_blk (set_blk q1 0 _ hY2) 1 _ hY3) 2 _ hY4) 3 _ hY5
  simp at q5
  have r0 := blk_cell q5 0
  have r1 := blk_cell q5 1
  have r2 := blk_cell q5 2
  have r3 := blk_cell q5 3
  simp at r0 r1 r2 r3
  have hsame : ∀ k, B + 3 ≤ k → Y5.heap[k]? = y.w.heap[k]? := fun k hk => by
    rw [set_other hY5 (by omega), set_other hY4 (by omega), set_other hY3 (by omega), set_other hY2 (by omega), set_other hY1 (by omega)]
  have belD : Below W.heap.size W Y5 := by
    subst hY5; subst hY4; subst hY3; subst hY2; subst hY1
    exact (((((belC.trans (y.below.mono (by omega))).setCell (by simp; omega) _).setCell (by simp; omega) _).setCell (by simp; omega) _).setCell (by simp; omega) _).setCell (by simp; omega) _
  have hyc : Wc.heap.size ≤ y.w.heap.size := y.size
  have p1 : Y5.ownsRow W.heap.size 3 1 (.slice a1 s.plus.length c1) s.plus.length (s.plus.map (Value.int .i64)) := owns_of_block (w' := Y5) (owns_ext own1'' y) (fun g hg => hsame g (by have := lw1' g hg; omega))
  have p2 : Y5.ownsRow W.heap.size 3 1 (.slice a2 s.times.length c2) s.times.length (s.times.map (Value.int .i64)) := owns_of_block (w' := Y5) (owns_ext own2' y) (fun g hg => hsame g (by have := lw2 g hg; omega))
  have p3 : Y5.ownsRow W.heap.size 4 1 (.slice a3 s.below.length c3) s.below.length (s.below.map Value.bool) := owns_lower (owns_of_block (w' := Y5) own3 (fun g hg => hsame g (by have := (own3.lt g hg).1; omega))) (by omega)
  have lw3 : ∀ g, (Value.slice a3 s.below.length c3).ownBlock = some g → Wc.heap.size ≤ g := fun g hg => (own3.lt g hg).1
  refine bodyPost_ret (v := .agg #[.int .i64 s.n, .slice a1 s.plus.length c1, .slice a2 s.times.length c2, .slice a3 s.below.length c3]) (by simp [results, Try.results42, go_sem, r0, r1, r2, r3]) rfl ?_
  refine ⟨⟨a1, a2, a3, c1, c2, c3⟩, ⟨Y5, belD⟩, rfl, rfl, p1, p2, p3, ap12, ?_, ?_⟩
  · cases hv : (Value.slice a1 s.plus.length c1).ownBlock with
    | none => exact .inl hv
    | some g => refine .inr (fun e => ?_); have := lw1' g hv; rw [hv] at e; have := lw3 g e.symm; omega
  · cases hv : (Value.slice a2 s.times.length c2).ownBlock with
    | none => exact .inl hv
    | some g => refine .inr (fun e => ?_); have := lw2 g hv; rw [hv] at e; have := lw3 g e.symm; omega

end Go.Proofs.Ytkokmpdmmfghhaa

/- Lists of numbers in blocks of their own. -/
namespace Go.Proofs.Ytkokmpdmmfghhaa
open Go.RowKit

/-- What is owned is kept where nothing of it turns. -/
theorem own_only {w w' : World} {base : Nat} {e : TypeId} {size : Nat} {a : Option Addr} {n m c : Nat} {xs : List Value} {B : Nat → Prop} (h : w.ownsRow base e size (.slice a m c) n xs) (ho : Only w w' B) (hd : ∀ g, ob a = some g → ¬ B g) : w'.ownsRow base e size (.slice a m c) n xs :=
  owns_of_block h fun g hg => ho.block g (h.lt g hg).2 (hd g (by rw [← ob_eq]; exact hg))
theorem own_marked {w : World} {base : Nat} {a : Option Addr} {n c : Nat} {m : Int} (h : w.ownsRow base 3 1 (.slice a n c) n (marksI m n)) : Row w (Value.int .i64) a (uptoI m n) := by
  rw [marksI_eq] at h
  have e := uptoI_len m n
  exact own_row (E := 3) (base := base) (c := c) (l := uptoI m n) (by rw [e]; exact h)
theorem heldI_ans {W : World} {a : Option Addr} {n c : Nat} {m : Int} (h : Row W (Value.int .i64) a (uptoI m n)) (hn : n ≤ 1000000000) (h0 : 0 ≤ m) (h1 : m ≤ 1000000000) (x : Ext W) : Calls Try.prog 123 #[.slice a n c, .int .i64 m] x.w (Ans W (.int .i64 (m + n))) := by
  have := heldIntS_ans (c := c) h (by rw [uptoI_len]; exact hn) m h0 h1 (fun i u hu => uptoI_at hu) x
  rw [uptoI_len] at this
  exact this

end Go.Proofs.Ytkokmpdmmfghhaa

/- Small steps from world to world. Nothing is walked here. -/
namespace Go.Proofs.Ytkokmpdmmfghhaa
open Go.RowKit

theorem below_ext {W w' : World} (h : Below W.heap.size W w') (y : Ext w') : Below W.heap.size W y.w := h.trans (y.below.mono h.size)
theorem below_alloc {W w' : World} (h : Below W.heap.size W w') (o : Obj) : Below W.heap.size W (w'.alloc o) := h.alloc h.size o
theorem below_drew {W w' : World} (h : Below W.heap.size W w') : Below W.heap.size W w'.drew := h.drew
theorem below_set {W w w0 : World} {i : Nat} {v : Value} (h : Below W.heap.size W w) (h0 : Below W.heap.size W w0) : Below W.heap.size W (w.setCell ⟨w0.heap.size, i, none⟩ v) := h.setCell h0.size _
theorem blk_alloc {w : World} {g : Nat} {o : Obj} (h : w.heap[g]? = some o) (o' : Obj) : (w.alloc o').heap[g]? = some o := ((Ext.self w).alloc o').blk h
theorem blk_drew {w : World} {g : Nat} {o : Obj} (h : w.heap[g]? = some o) : w.drew.heap[g]? = some o := h
theorem new_blk_drew (w : World) (o : Obj) : (w.drew.alloc o).heap[w.heap.size]? = some o := new_blk (w := w.drew) rfl
theorem blk_then {w : World} {g : Nat} {o : Obj} {P : Prop} (h : w.heap[g]? = some o) (k : w.heap[g]? = some o → P) : P := k h
theorem new_blk_at (w : World) (o : Obj) : (w.alloc o).heap[w.heap.size]? = some o := new_blk rfl
theorem row_alloc {w : World} {a : Option Addr} {l : List Int} (h : Row w (Value.int .i64) a l) (o : Obj) : Row (w.alloc o) (Value.int .i64) a l := h.ext ((Ext.self w).alloc o)
theorem row_drew {w : World} {a : Option Addr} {l : List Int} (h : Row w (Value.int .i64) a l) : Row w.drew (Value.int .i64) a l := h.ext (Ext.self w).drew
theorem blocks1 {w w2 : World} {o1 : Obj} {B : Nat} (hB : w.heap.size = B) (h : w.alloc o1 = w2) :
    w2.heap[B]? = some o1 ∧ w2.heap.size = B + 1 ∧ Below w.heap.size w w2 := by
  subst h; subst hB
  exact ⟨new_blk rfl, by simp, (Below.refl _ _).alloc (Nat.le_refl _) _⟩
end Go.Proofs.Ytkokmpdmmfghhaa

/- Rows of numbers that are held beside what is walked, each in a stretch of blocks. Nothing is walked here but marks. -/
namespace Go.Proofs.Ytkokmpdmmfghhaa
open Go.RowKit

/-- A stretch of blocks. -/
def Str (lo hi g : Nat) : Prop := lo ≤ g ∧ g < hi
/-- A row in a block of its own within a stretch. -/
def HoldR (w : World) (lo hi : Nat) (a : Option Addr) (d : Nat) (l : List Int) : Prop :=
  (∃ base, w.ownsRow base 3 1 (.slice a l.length d) l.length (l.map (Value.int .i64))) ∧ ∀ g, ob a = some g → lo ≤ g ∧ g < hi
section
variable {w w' : World} {lo hi l2 h2 : Nat}
theorem HoldR.ext {a : Option Addr} {d : Nat} {l : List Int} (h : HoldR w lo hi a d l) (y : Ext w) : HoldR y.w lo hi a d l := by
  obtain ⟨⟨b, h1⟩, h2⟩ := h
  exact ⟨⟨b, owns_ext h1 y⟩, h2⟩
theorem HoldR.only {a : Option Addr} {d : Nat} {l : List Int} (h : HoldR w lo hi a d l) (ho : Only w w' (Str l2 h2)) (hd : hi ≤ l2 ∨ h2 ≤ lo) : HoldR w' lo hi a d l := by
  obtain ⟨⟨b, h1⟩, h3⟩ := h
  exact ⟨⟨b, own_only h1 ho (fun g hg e => by have := h3 g hg; have e1 := e.1; have e2 := e.2; omega)⟩, h3⟩
theorem HoldR.row {a : Option Addr} {d : Nat} {l : List Int} (h : HoldR w lo hi a d l) : Row w (Value.int .i64) a l := by
  obtain ⟨⟨b, h1⟩, h2⟩ := h
  exact own_row h1
theorem HoldR.new {a : Option Addr} {d : Nat} {l : List Int} {base : Nat} (h : w.ownsRow base 3 1 (.slice a l.length d) l.length (l.map (Value.int .i64))) (hl : ∀ p, a = some p → lo ≤ p.block ∧ p.block < hi) : HoldR w lo hi a d l :=
  ⟨⟨base, h⟩, fun g hg => by cases a <;> simp [ob] at hg; subst hg; exact hl _ rfl⟩
theorem Only.str_below {U : World} (h : Only w w' (Str lo hi)) (hu : Below U.heap.size U w) (hl : U.heap.size ≤ lo) : Below U.heap.size U w' :=
  hu.trans (h.below (fun _ e => Nat.le_trans hl e.1) hu.size)
theorem HoldR.mark {a : Option Addr} {d : Nat} {l : List Int} (h : HoldR w lo hi a d l) (hl : l.length ≤ 1048576) (m : Int) (h0 : 0 ≤ m) (h1 : m ≤ 100000000) :
    Calls Try.prog 121 #[.slice a l.length d, .int .i64 m] w (fun e w' => e = .returned (.int .i64 (m + l.length)) ∧ Only w w' (Str lo hi)) := by
  obtain ⟨⟨b, h3⟩, h4⟩ := h
  refine Calls.mono (markIntS_ans h3 (by omega) m h0 (by omega)) ?_
  rintro e w' ⟨rfl, -, g0⟩
  rw [ob_eq] at g0
  exact ⟨rfl, Only.grown g0 (fun g e => h4 g e)⟩
end
end Go.Proofs.Ytkokmpdmmfghhaa

/- What is held beside what is walked: systems, each in a stretch of blocks, with its box. Nothing is walked here but marks. -/
namespace Go.Proofs.Ytkokmpdmmfghhaa
open Go.RowKit

/-- How many entries the tables of a system have. -/
def Sys.wt (s : Sys) : Nat := s.plus.length + s.times.length + s.below.length
def Sys.cnt (s : Sys) : Nat := s.plus.length + s.times.length + s.below.length
theorem Sys.cnt_le (s : Sys) : s.cnt ≤ s.wt := Nat.le_refl _
def Sys.mkd (s : Sys) (m : Int) : Sys := mkdS s m
theorem Sys.small {s : Sys} (h : s.wt ≤ 1048576) : Small s := by unfold Sys.wt at h; exact ⟨by omega, by omega, by omega⟩

/-- A system whose tables lie in blocks of their own, no two in one; B: these blocks. -/
structure SysOwn (w : World) (s : Sys) (r : Ref) (B : Nat → Prop) : Prop where
  own : Own3 w 0 r s.plus.length s.times.length s.below.length (s.plus.map (Value.int .i64)) (s.times.map (Value.int .i64)) (s.below.map Value.bool)
  bl : ∀ g, B g ↔ (ob r.pa = some g ∨ ob r.ta = some g ∨ ob r.ba = some g)
/-- A system, and blocks in which its tables lie. -/
def SysLite (w : World) (s : Sys) (r : Ref) (B : Nat → Prop) : Prop := SysIn w r s ∧ ∀ g, (ob r.pa = some g ∨ ob r.ta = some g ∨ ob r.ba = some g) → B g
theorem ob_some {a : Option Addr} {g : Nat} (h : ob a = some g) : ∃ p : Addr, a = some p ∧ p.block = g := by
  cases a with
  | none => cases h
  | some p => exact ⟨p, rfl, by simpa [ob] using h⟩
section
variable {w w' : World} {s : Sys} {r : Ref} {B : Nat → Prop}
theorem SysOwn.tm (h : SysOwn w s r B) (_ : ∀ g, B g → 0 ≤ g) : SysIn w r s :=
  ⟨own_row h.own.o1, own_row h.own.o2, own_row h.own.o3, owns_len h.own.o1, owns_len h.own.o2, owns_len h.own.o3⟩
theorem SysOwn.lite (h : SysOwn w s r B) : SysLite w s r B := ⟨h.tm (fun g _ => Nat.zero_le g), fun g e => (h.bl g).2 e⟩
theorem SysOwn.lt (h : SysOwn w s r B) : ∀ g, B g → g < w.heap.size := fun g hg => by
  rcases (h.bl g).1 hg with e | e | e
  · exact (h.own.o1.lt g (by rw [ob_eq]; exact e)).2
  · exact (h.own.o2.lt g (by rw [ob_eq]; exact e)).2
  · exact (h.own.o3.lt g (by rw [ob_eq]; exact e)).2
theorem SysOwn.keep (h : SysOwn w s r B) (hk : ∀ g, B g → w'.heap[g]? = w.heap[g]?) : SysOwn w' s r B :=
  ⟨⟨owns_of_block h.own.o1 fun g hg => hk g ((h.bl g).2 (.inl (by rw [← ob_eq]; exact hg))), owns_of_block h.own.o2 fun g hg => hk g ((h.bl g).2 (.inr (.inl (by rw [← ob_eq]; exact hg)))),
    owns_of_block h.own.o3 fun g hg => hk g ((h.bl g).2 (.inr (.inr (by rw [← ob_eq]; exact hg)))), h.own.d12, h.own.d13, h.own.d23⟩, h.bl⟩
theorem SysOwn.ext (h : SysOwn w s r B) (y : Ext w) : SysOwn y.w s r B := h.keep fun g hg => y.below.block g (h.lt g hg)
theorem SysOwn.only {B' : Nat → Prop} (h : SysOwn w s r B) (ho : Only w w' B') (hd : ∀ g, B g → ¬ B' g) : SysOwn w' s r B := h.keep fun g hg => ho.block g (h.lt g hg) (hd g hg)
theorem SysLite.keep (h : SysLite w s r B) (hk : ∀ g, B g → w'.heap[g]? = w.heap[g]?) : SysLite w' s r B := by
  obtain ⟨⟨a, b, c, d, e, f⟩, g⟩ := h
  exact ⟨⟨row_keep a (fun p q => hk _ (g _ (.inl (by rw [q]; rfl)))), row_keep b (fun p q => hk _ (g _ (.inr (.inl (by rw [q]; rfl))))), row_keep c (fun p q => hk _ (g _ (.inr (.inr (by rw [q]; rfl))))), d, e, f⟩, g⟩
end
theorem sys_alloc {w : World} {r : Ref} {s : Sys} (h : SysIn w r s) (o : Obj) : SysIn (w.alloc o) r s := h.ext ((Ext.self w).alloc o)
theorem sys_drew {w : World} {r : Ref} {s : Sys} (h : SysIn w r s) : SysIn w.drew r s := h.ext (Ext.self w).drew
/-- A call hands back a new system, in blocks of its own. -/
def NewSysO (W : World) (s : Sys) : Ending → World → Prop := fun e w' => ∃ (r : Ref) (B : Nat → Prop) (y : Ext W), e = .returned (r.val s) ∧ w' = y.w ∧ SysOwn y.w s r B ∧ ∀ q, B q → W.heap.size ≤ q
/-- .. and a flag. -/
def NewSysOB (W : World) (s : Sys) (b : Bool) : Ending → World → Prop := fun e w' => ∃ (r : Ref) (B : Nat → Prop) (y : Ext W), e = .returned (.tuple #[r.val s, .bool b]) ∧ w' = y.w ∧ SysOwn y.w s r B ∧ ∀ q, B q → W.heap.size ≤ q
/-- A new system, and a flag. -/
def NewSysLB (W : World) (s : Sys) (b : Bool) : Ending → World → Prop := fun e w' => ∃ (r : Ref) (B : Nat → Prop) (y : Ext W), e = .returned (.tuple #[r.val s, .bool b]) ∧ w' = y.w ∧ SysLite y.w s r B ∧ ∀ q, B q → W.heap.size ≤ q
theorem sysOwn_of {w : World} {base : Nat} {s : Sys} {r : Ref} (h : Own3 w base r s.plus.length s.times.length s.below.length (s.plus.map (Value.int .i64)) (s.times.map (Value.int .i64)) (s.below.map Value.bool)) :
    ∃ B : Nat → Prop, SysOwn w s r B ∧ ∀ q, B q → base ≤ q := by
  refine ⟨_, ⟨h.lower (Nat.zero_le _), fun g => Iff.rfl⟩, fun q hq => ?_⟩
  rcases hq with e | e | e
  · exact (h.o1.lt q (by rw [ob_eq]; exact e)).1
  · exact (h.o2.lt q (by rw [ob_eq]; exact e)).1
  · exact (h.o3.lt q (by rw [ob_eq]; exact e)).1
theorem toSystemO_ans (s : Sys) {W : World} {r : Ref} (h : SysIn W r s) (hw : s.wt ≤ 1048576) (x : Ext W) : Calls Try.prog 42 #[r.val s] x.w (NewSysO W s) :=
  (toSystemOwn_ans h (Sys.small hw) x).mono fun _ _ ⟨r', y, e, hw, own⟩ => by
    obtain ⟨B, h1, h2⟩ := sysOwn_of own
    exact ⟨r', B, y, e, hw, h1, h2⟩
theorem eqSys_ans (s : Sys) {W : World} {r r' : Ref} {s' : Sys} (h : SysIn W r s) (k : SysIn W r' s') (hw : s.wt ≤ 1048576) (p : Bool) (hp : p = true ↔ s = s') (x : Ext W) : Calls Try.prog 43 #[r.val s, r'.val s'] x.w (Ans W (.bool p)) :=
  eqSystem_ans h k (Sys.small hw) p hp x
/-- What is left of a number when a system's entries are taken. -/
def SzV (n : Nat) (left v : Int) : Prop := ((n : Int) ≤ left ∧ v = left - n) ∨ (left < (n : Int) ∧ v = -1)
theorem szSys_ans (s : Sys) {W : World} {r : Ref} (h : SysIn W r s) (left : Int) (h0 : 0 ≤ left) (h1 : left ≤ 1048576) (v : Int) (hv : SzV s.wt left v) (x : Ext W) : Calls Try.prog 40 #[r.val s, .int .i64 left] x.w (Ans W (.int .i64 v)) :=
  szSystem_ans h left h0 h1 v (by
    unfold SzV Sys.wt at hv
    rcases hv with ⟨a, b⟩ | ⟨a, b⟩
    · rw [if_neg (by omega), b]; omega
    · rw [if_pos (by omega), b]) x

/-- The four cells of a box read as a system's. -/
def Box4S (w : World) (D : Nat) (o : Sys) (r : Ref) : Prop :=
  w.cell? ⟨D, 0, none⟩ = some (.int .i64 o.n) ∧ w.cell? ⟨D, 1, none⟩ = some (.slice r.pa o.plus.length r.pc) ∧ w.cell? ⟨D, 2, none⟩ = some (.slice r.ta o.times.length r.tc) ∧ w.cell? ⟨D, 3, none⟩ = some (.slice r.ba o.below.length r.bc)
abbrev boxS (o : Sys) (r : Ref) : Obj := .cells #[.int .i64 o.n, .slice r.pa o.plus.length r.pc, .slice r.ta o.times.length r.tc, .slice r.ba o.below.length r.bc] 27 (0, 0)
abbrev zboxS : Obj := .cells #[.int .i64 0, .slice none 0 0, .slice none 0 0, .slice none 0 0] 27 (0, 0)
theorem Box4S.ext {w : World} {D : Nat} {o : Sys} {r : Ref} (h : Box4S w D o r) (y : Ext w) : Box4S y.w D o r := ⟨y.cell h.1, y.cell h.2.1, y.cell h.2.2.1, y.cell h.2.2.2⟩
theorem Box4S.lt {w : World} {D : Nat} {o : Sys} {r : Ref} (h : Box4S w D o r) : D < w.heap.size := cell_lt h.1
theorem Box4S.only {w w' : World} {D : Nat} {o : Sys} {r : Ref} {B : Nat → Prop} (h : Box4S w D o r) (ho : Only w w' B) (hd : ¬ B D) : Box4S w' D o r := by
  have hk : w'.heap[D]? = w.heap[D]? := ho.block D h.lt hd
  obtain ⟨a, b, c, d⟩ := h
  refine ⟨?_, ?_, ?_, ?_⟩
  · rw [World.cell?_of_block (w := w) (a := ⟨D, 0, none⟩) hk]; exact a
  · rw [World.cell?_of_block (w := w) (a := ⟨D, 1, none⟩) hk]; exact b
  · rw [World.cell?_of_block (w := w) (a := ⟨D, 2, none⟩) hk]; exact c
  · rw [World.cell?_of_block (w := w) (a := ⟨D, 3, none⟩) hk]; exact d
theorem Box4S.new {w Y : World} {o : Sys} {r : Ref} (h : w.alloc (boxS o r) = Y) : Box4S Y w.heap.size o r := by
  have hb := new_blk h
  exact ⟨blk_cell hb 0, blk_cell hb 1, blk_cell hb 2, blk_cell hb 3⟩
/-- A system and a flag that have been got: the system lies in a box of its own. -/
def GotS (M : World) (o : Sys) (b : Bool) (s6 s7 : Value) (w : World) : Prop := ∃ (D : Nat) (r : Ref), s6 = .pointer (some ⟨D, 0, none⟩) ∧ s7 = .bool b ∧ Below M.heap.size M w ∧ M.heap.size ≤ D ∧ Box4S w D o r ∧ SysIn w r o
theorem zfactsS {w : World} {D : Nat} (h : w.heap[D]? = some zboxS) : w.cell? ⟨D, 0, none⟩ = some (.int .i64 0) ∧ w.cell? ⟨D, 1, none⟩ = some (.slice none 0 0) ∧ w.cell? ⟨D, 2, none⟩ = some (.slice none 0 0) ∧ w.cell? ⟨D, 3, none⟩ = some (.slice none 0 0) ∧
    w.frozen? ⟨D, 0, none⟩ = false ∧ w.frozen? ⟨D, 1, none⟩ = false ∧ w.frozen? ⟨D, 2, none⟩ = false ∧ w.frozen? ⟨D, 3, none⟩ = false :=
  ⟨blk_cell h 0, blk_cell h 1, blk_cell h 2, blk_cell h 3, blk_free h 0, blk_free h 1, blk_free h 2, blk_free h 3⟩
theorem gotS_set {M w Y : World} {D : Nat} {o : Sys} {r : Ref} {NB : Nat → Prop} {b : Bool} (bel : Below M.heap.size M w) (hD : M.heap.size ≤ D) (hb : w.heap[D]? = some zboxS) (hn : SysLite w o r NB) (hd : ∀ g, NB g → g ≠ D)
    (hY : (((w.setCell ⟨D, 0, none⟩ (.int .i64 o.n)).setCell ⟨D, 1, none⟩ (.slice r.pa o.plus.length r.pc)).setCell ⟨D, 2, none⟩ (.slice r.ta o.times.length r.tc)).setCell ⟨D, 3, none⟩ (.slice r.ba o.below.length r.bc) = Y) : GotS M o b (.pointer (some ⟨D, 0, none⟩)) (.bool b) Y := by
  obtain ⟨belD, hsame, hgr, r0, r1, r2, r3⟩ := ret4 (W := M) bel hD hb hY
  exact ⟨D, r, rfl, rfl, belD, hD, ⟨r0, r1, r2, r3⟩, (hn.keep (fun g hg => hsame g (hd g hg))).1⟩
theorem gotS_new {M w Y : World} {o : Sys} {r : Ref} {NB : Nat → Prop} {b : Bool} (bel : Below M.heap.size M w) (hn : SysLite w o r NB)
    (hY : w.alloc (boxS o r) = Y) : GotS M o b (.pointer (some ⟨w.heap.size, 0, none⟩)) (.bool b) Y := by
  refine ⟨_, r, rfl, rfl, ?_, bel.size, Box4S.new hY, ?_⟩
  · rw [← hY]; exact below_alloc bel _
  · rw [← hY]; exact sys_alloc hn.1 _

/-- A system in blocks of its own within a stretch, and its box. -/
def HoldS (w : World) (lo hi D : Nat) (o : Sys) (r : Ref) : Prop :=
  Box4S w D o r ∧ (lo ≤ D ∧ D < hi) ∧ ∃ B : Nat → Prop, SysOwn w o r B ∧ ∀ g, B g → lo ≤ g ∧ g < hi ∧ g ≠ D
section
variable {w w' : World} {lo hi l2 h2 D : Nat}
theorem HoldS.ext {o : Sys} {r : Ref} (h : HoldS w lo hi D o r) (y : Ext w) : HoldS y.w lo hi D o r := by
  obtain ⟨h1, h2, B, h3, h4⟩ := h
  exact ⟨h1.ext y, h2, B, h3.ext y, h4⟩
theorem HoldS.only {o : Sys} {r : Ref} (h : HoldS w lo hi D o r) (ho : Only w w' (Str l2 h2)) (hd : hi ≤ l2 ∨ h2 ≤ lo) : HoldS w' lo hi D o r := by
  obtain ⟨h1, h3, B, h4, h5⟩ := h
  refine ⟨h1.only ho (fun e => by have e1 := e.1; have e2 := e.2; omega), h3, B, h4.only ho (fun g hg e => by have := h5 g hg; have e1 := e.1; have e2 := e.2; omega), h5⟩
theorem HoldS.tm {o : Sys} {r : Ref} (h : HoldS w lo hi D o r) : SysIn w r o := by
  obtain ⟨h1, h3, B, h4, h5⟩ := h
  exact h4.tm (fun g _ => Nat.zero_le g)
theorem HoldS.box {o : Sys} {r : Ref} (h : HoldS w lo hi D o r) : Box4S w D o r := h.1
theorem HoldS.new {o : Sys} {r : Ref} {B : Nat → Prop} {V : World} (h : SysOwn w o r B) (hlo : ∀ g, B g → lo ≤ g) (hw : lo ≤ w.heap.size) (hV : w.alloc (boxS o r) = V) : HoldS V lo V.heap.size w.heap.size o r := by
  have hs : w.heap.size < V.heap.size := by rw [← hV]; simp
  refine ⟨Box4S.new hV, ⟨hw, hs⟩, B, ?_, fun g hg => ⟨hlo g hg, by have := h.lt g hg; omega, by have := h.lt g hg; omega⟩⟩
  rw [← hV]
  exact h.ext ((Ext.self w).alloc _)
theorem HoldS.mark {t : Sys} {r : Ref} (h : HoldS w lo hi D t r) (m : Int) (hm0 : 0 ≤ m) (hm1 : m + (t.cnt : Nat) ≤ 100000000) :
    Calls Try.prog 44 #[r.val t, .int .i64 m] w (fun e w' => e = .returned (.int .i64 (m + (t.cnt : Nat))) ∧ Only w w' (Str lo hi) ∧ HoldS w' lo hi D (t.mkd m) r) := by
  obtain ⟨h1, h3, B, h4, h5⟩ := h
  unfold Sys.cnt at hm1 ⊢
  refine Calls.mono (markSystem_ans (base := 0) h4.own (Nat.zero_le _) t.n (by omega) (by omega) (by omega) m hm0 (by omega)) ?_
  rintro e w' ⟨rfl, own, -, ho⟩
  have hin : ∀ g, (ob r.pa = some g ∨ ob r.ta = some g ∨ ob r.ba = some g) → B g := fun g e => (h4.bl g).2 e
  have hb := h1.only ho (fun e => (h5 D (hin D e)).2.2 rfl)
  refine ⟨by congr 2; omega, ho.mono (fun g _ e => ⟨(h5 g (hin g e)).1, (h5 g (hin g e)).2.1⟩), ?_, h3, B, ⟨?_, h4.bl⟩, h5⟩
  · obtain ⟨b0, b1, b2, b3⟩ := hb
    refine ⟨b0, ?_, ?_, ?_⟩
    · show _ = some (Value.slice r.pa (uptoI m t.plus.length).length r.pc)
      rw [uptoI_len]; exact b1
    · show _ = some (Value.slice r.ta (uptoI _ t.times.length).length r.tc)
      rw [uptoI_len]; exact b2
    · show _ = some (Value.slice r.ba (bitsB _ t.below.length).length r.bc)
      rw [bitsB_len]; exact b3
  · rw [marksI_eq, marksI_eq, marksB_eq] at own
    have e1 : (t.mkd m).plus.length = t.plus.length := uptoI_len _ _
    have e2 : (t.mkd m).times.length = t.times.length := uptoI_len _ _
    have e3 : (t.mkd m).below.length = t.below.length := bitsB_len _ _
    rw [e1, e2, e3]
    exact own
theorem HoldS.held {t : Sys} {r : Ref} {m : Int} (h : HoldS w lo hi D (t.mkd m) r) (hm0 : 0 ≤ m) (hm1 : m + (t.cnt : Nat) ≤ 100000000) :
    Calls Try.prog 45 #[r.val (t.mkd m), .int .i64 m] w (Ans w (.int .i64 (m + (t.cnt : Nat)))) := by
  unfold Sys.cnt at hm1 ⊢
  have hm : r.val (t.mkd m) = r.val t := mkdS_val r t m
  rw [hm]
  have e : m + ((t.plus.length + t.times.length + t.below.length : Nat) : Int) = m + t.plus.length + t.times.length + t.below.length := by omega
  rw [e]
  exact heldMarked_ans h.tm (by omega) (by omega) (by omega) hm0 (by omega) (Ext.self w)
end

end Go.Proofs.Ytkokmpdmmfghhaa
