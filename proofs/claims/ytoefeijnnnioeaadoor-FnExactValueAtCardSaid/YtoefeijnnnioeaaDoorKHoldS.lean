
/- What is held beside what is walked: systems, each in a stretch of blocks, with its box. Nothing is walked here but marks. -/
import Derived.Test.YtoefeijnnnioeaaDoorKToSysOwn
import Derived.Test.YtoefeijnnnioeaaDoorGE
import Derived.Test.YtoefeijnnnioeaaDoorGA
set_option linter.unusedVariables false
set_option linter.unusedSimpArgs false
namespace Go.Proofs.YtoefeijnnnioeaaDoor
open Go.RowKit

/-- How many entries the tables of a system have. -/
def Sys.wt (s : Sys) : Nat := s.plus.length + s.times.length + s.below.length
def Sys.cnt (s : Sys) : Nat := s.plus.length + s.times.length + s.below.length
theorem Sys.cnt_le (s : Sys) : s.cnt ≤ s.wt := Nat.le_refl _
def Sys.mkd (s : Sys) (m : Int) : Sys := mkdS s m
theorem Sys.small {s : Sys} (h : s.wt ≤ 1048576) : Small s := by unfold Sys.wt at h; exact ⟨by omega, by omega, by omega⟩

/-- A system whose tables lie in blocks of their own, no two in one; B: these blocks. -/
structure SysOwn (w : World) (s : Sys) (r : Ref) (B : Nat → Prop) : Prop where
  own : Own3 w 0 r s.plus.length s.times.length s.below.length (s.plus.map (Value.int .i64)) (s.times.map (Value.int .i64)) (s.below.map Value.bool)
  bl : ∀ g, B g ↔ (ob r.pa = some g ∨ ob r.ta = some g ∨ ob r.ba = some g)
/-- A system, and blocks in which its tables lie. -/
def SysLite (w : World) (s : Sys) (r : Ref) (B : Nat → Prop) : Prop := SysIn w r s ∧ ∀ g, (ob r.pa = some g ∨ ob r.ta = some g ∨ ob r.ba = some g) → B g
theorem ob_some {a : Option Addr} {g : Nat} (h : ob a = some g) : ∃ p : Addr, a = some p ∧ p.block = g := by
  cases a with
  | none => cases h
  | some p => exact ⟨p, rfl, by simpa [ob] using h⟩
section
variable {w w' : World} {s : Sys} {r : Ref} {B : Nat → Prop}
theorem SysOwn.tm (h : SysOwn w s r B) (_ : ∀ g, B g → 0 ≤ g) : SysIn w r s :=
  ⟨own_row h.own.o1, own_row h.own.o2, own_row h.own.o3, owns_len h.own.o1, owns_len h.own.o2, owns_len h.own.o3⟩
theorem SysOwn.lite (h : SysOwn w s r B) : SysLite w s r B := ⟨h.tm (fun g _ => Nat.zero_le g), fun g e => (h.bl g).2 e⟩
theorem SysOwn.lt (h : SysOwn w s r B) : ∀ g, B g → g < w.heap.size := fun g hg => by
  rcases (h.bl g).1 hg with e | e | e
  · exact (h.own.o1.lt g (by rw [ob_eq]; exact e)).2
  · exact (h.own.o2.lt g (by rw [ob_eq]; exact e)).2
  · exact (h.own.o3.lt g (by rw [ob_eq]; exact e)).2
theorem SysOwn.keep (h : SysOwn w s r B) (hk : ∀ g, B g → w'.heap[g]? = w.heap[g]?) : SysOwn w' s r B :=
  ⟨⟨owns_of_block h.own.o1 fun g hg => hk g ((h.bl g).2 (.inl (by rw [← ob_eq]; exact hg))), owns_of_block h.own.o2 fun g hg => hk g ((h.bl g).2 (.inr (.inl (by rw [← ob_eq]; exact hg)))),
    owns_of_block h.own.o3 fun g hg => hk g ((h.bl g).2 (.inr (.inr (by rw [← ob_eq]; exact hg)))), h.own.d12, h.own.d13, h.own.d23⟩, h.bl⟩
theorem SysOwn.ext (h : SysOwn w s r B) (y : Ext w) : SysOwn y.w s r B := h.keep fun g hg => y.below.block g (h.lt g hg)
theorem SysOwn.only {B' : Nat → Prop} (h : SysOwn w s r B) (ho : Only w w' B') (hd : ∀ g, B g → ¬ B' g) : SysOwn w' s r B := h.keep fun g hg => ho.block g (h.lt g hg) (hd g hg)
theorem SysLite.keep (h : SysLite w s r B) (hk : ∀ g, B g → w'.heap[g]? = w.heap[g]?) : SysLite w' s r B := by
  obtain ⟨⟨a, b, c, d, e, f⟩, g⟩ := h
  exact ⟨⟨row_keep a (fun p q => hk _ (g _ (.inl (by rw [q]; rfl)))), row_keep b (fun p q => hk _ (g _ (.inr (.inl (by rw [q]; rfl))))), row_keep c (fun p q => hk _ (g _ (.inr (.inr (by rw [q]; rfl))))), d, e, f⟩, g⟩
end
theorem sys_alloc {w : World} {r : Ref} {s : Sys} (h : SysIn w r s) (o : Obj) : SysIn (w.alloc o) r s := h.ext ((Ext.self w).alloc o)
theorem sys_drew {w : World} {r : Ref} {s : Sys} (h : SysIn w r s) : SysIn w.drew r s := h.ext (Ext.self w).drew
/-- A call hands back a new system, in blocks of its own. -/
def NewSysO (W : World) (s : Sys) : Ending → World → Prop := fun e w' => ∃ (r : Ref) (B : Nat → Prop) (y : Ext W), e = .returned (r.val s) ∧ w' = y.w ∧ SysOwn y.w s r B ∧ ∀ q, B q → W.heap.size ≤ q
/-- .. and a flag. -/
def NewSysOB (W : World) (s : Sys) (b : Bool) : Ending → World → Prop := fun e w' => ∃ (r : Ref) (B : Nat → Prop) (y : Ext W), e = .returned (.tuple #[r.val s, .bool b]) ∧ w' = y.w ∧ SysOwn y.w s r B ∧ ∀ q, B q → W.heap.size ≤ q
/-- A new system, and a flag. -/
def NewSysLB (W : World) (s : Sys) (b : Bool) : Ending → World → Prop := fun e w' => ∃ (r : Ref) (B : Nat → Prop) (y : Ext W), e = .returned (.tuple #[r.val s, .bool b]) ∧ w' = y.w ∧ SysLite y.w s r B ∧ ∀ q, B q → W.heap.size ≤ q
theorem sysOwn_of {w : World} {base : Nat} {s : Sys} {r : Ref} (h : Own3 w base r s.plus.length s.times.length s.below.length (s.plus.map (Value.int .i64)) (s.times.map (Value.int .i64)) (s.below.map Value.bool)) :
    ∃ B : Nat → Prop, SysOwn w s r B ∧ ∀ q, B q → base ≤ q := by
  refine ⟨_, ⟨h.lower (Nat.zero_le _), fun g => Iff.rfl⟩, fun q hq => ?_⟩
  rcases hq with e | e | e
  · exact (h.o1.lt q (by rw [ob_eq]; exact e)).1
  · exact (h.o2.lt q (by rw [ob_eq]; exact e)).1
  · exact (h.o3.lt q (by rw [ob_eq]; exact e)).1
theorem toSystemO_ans (s : Sys) {W : World} {r : Ref} (h : SysIn W r s) (hw : s.wt ≤ 1048576) (x : Ext W) : Calls Tryd.prog 30 #[r.val s] x.w (NewSysO W s) :=
  (toSystemOwn_ans h (Sys.small hw) x).mono fun _ _ ⟨r', y, e, hw, own⟩ => by
    obtain ⟨B, h1, h2⟩ := sysOwn_of own
    exact ⟨r', B, y, e, hw, h1, h2⟩
theorem eqSys_ans (s : Sys) {W : World} {r r' : Ref} {s' : Sys} (h : SysIn W r s) (k : SysIn W r' s') (hw : s.wt ≤ 1048576) (p : Bool) (hp : p = true ↔ s = s') (x : Ext W) : Calls Tryd.prog 32 #[r.val s, r'.val s'] x.w (Ans W (.bool p)) :=
  eqSystem_ans h k (Sys.small hw) p hp x
/-- What is left of a number when a system's entries are taken. -/
def SzV (n : Nat) (left v : Int) : Prop := ((n : Int) ≤ left ∧ v = left - n) ∨ (left < (n : Int) ∧ v = -1)
theorem szSys_ans (s : Sys) {W : World} {r : Ref} (h : SysIn W r s) (left : Int) (h0 : 0 ≤ left) (h1 : left ≤ 1048576) (v : Int) (hv : SzV s.wt left v) (x : Ext W) : Calls Tryd.prog 28 #[r.val s, .int .i64 left] x.w (Ans W (.int .i64 v)) :=
  szSystem_ans h left h0 h1 v (by
    unfold SzV Sys.wt at hv
    rcases hv with ⟨a, b⟩ | ⟨a, b⟩
    · rw [if_neg (by omega), b]; omega
    · rw [if_pos (by omega), b]) x

/-- The four cells of a box read as a system's. -/
def Box4S (w : World) (D : Nat) (o : Sys) (r : Ref) : Prop :=
  w.cell? ⟨D, 0, none⟩ = some (.int .i64 o.n) ∧ w.cell? ⟨D, 1, none⟩ = some (.slice r.pa o.plus.length r.pc) ∧ w.cell? ⟨D, 2, none⟩ = some (.slice r.ta o.times.length r.tc) ∧ w.cell? ⟨D, 3, none⟩ = some (.slice r.ba o.below.length r.bc)
abbrev boxS (o : Sys) (r : Ref) : Obj := .cells #[.int .i64 o.n, .slice r.pa o.plus.length r.pc, .slice r.ta o.times.length r.tc, .slice r.ba o.below.length r.bc] 45 (0, 0)
abbrev zboxS : Obj := .cells #[.int .i64 0, .slice none 0 0, .slice none 0 0, .slice none 0 0] 45 (0, 0)
theorem Box4S.ext {w : World} {D : Nat} {o : Sys} {r : Ref} (h : Box4S w D o r) (y : Ext w) : Box4S y.w D o r := ⟨y.cell h.1, y.cell h.2.1, y.cell h.2.2.1, y.cell h.2.2.2⟩
theorem Box4S.lt {w : World} {D : Nat} {o : Sys} {r : Ref} (h : Box4S w D o r) : D < w.heap.size := cell_lt h.1
theorem Box4S.only {w w' : World} {D : Nat} {o : Sys} {r : Ref} {B : Nat → Prop} (h : Box4S w D o r) (ho : Only w w' B) (hd : ¬ B D) : Box4S w' D o r := by
  have hk : w'.heap[D]? = w.heap[D]? := ho.block D h.lt hd
  obtain ⟨a, b, c, d⟩ := h
  refine ⟨?_, ?_, ?_, ?_⟩
  · rw [World.cell?_of_block (w := w) (a := ⟨D, 0, none⟩) hk]; exact a
  · rw [World.cell?_of_block (w := w) (a := ⟨D, 1, none⟩) hk]; exact b
  · rw [World.cell?_of_block (w := w) (a := ⟨D, 2, none⟩) hk]; exact c
  · rw [World.cell?_of_block (w := w) (a := ⟨D, 3, none⟩) hk]; exact d
theorem Box4S.new {w Y : World} {o : Sys} {r : Ref} (h : w.alloc (boxS o r) = Y) : Box4S Y w.heap.size o r := by
  have hb := new_blk h
  exact ⟨blk_cell hb 0, blk_cell hb 1, blk_cell hb 2, blk_cell hb 3⟩
/-- A system and a flag that have been got: the system lies in a box of its own. -/
def GotS (M : World) (o : Sys) (b : Bool) (s6 s7 : Value) (w : World) : Prop := ∃ (D : Nat) (r : Ref), s6 = .pointer (some ⟨D, 0, none⟩) ∧ s7 = .bool b ∧ Below M.heap.size M w ∧ M.heap.size ≤ D ∧ Box4S w D o r ∧ SysIn w r o
theorem zfactsS {w : World} {D : Nat} (h : w.heap[D]? = some zboxS) : w.cell? ⟨D, 0, none⟩ = some (.int .i64 0) ∧ w.cell? ⟨D, 1, none⟩ = some (.slice none 0 0) ∧ w.cell? ⟨D, 2, none⟩ = some (.slice none 0 0) ∧ w.cell? ⟨D, 3, none⟩ = some (.slice none 0 0) ∧
    w.frozen? ⟨D, 0, none⟩ = false ∧ w.frozen? ⟨D, 1, none⟩ = false ∧ w.frozen? ⟨D, 2, none⟩ = false ∧ w.frozen? ⟨D, 3, none⟩ = false :=
  ⟨blk_cell h 0, blk_cell h 1, blk_cell h 2, blk_cell h 3, blk_free h 0, blk_free h 1, blk_free h 2, blk_free h 3⟩
theorem gotS_set {M w Y : World} {D : Nat} {o : Sys} {r : Ref} {NB : Nat → Prop} {b : Bool} (bel : Below M.heap.size M w) (hD : M.heap.size ≤ D) (hb : w.heap[D]? = some zboxS) (hn : SysLite w o r NB) (hd : ∀ g, NB g → g ≠ D)
    (hY : (((w.setCell ⟨D, 0, none⟩ (.int .i64 o.n)).setCell ⟨D, 1, none⟩ (.slice r.pa o.plus.length r.pc)).setCell ⟨D, 2, none⟩ (.slice r.ta o.times.length r.tc)).setCell ⟨D, 3, none⟩ (.slice r.ba o.below.length r.bc) = Y) : GotS M o b (.pointer (some ⟨D, 0, none⟩)) (.bool b) Y := by
  obtain ⟨belD, hsame, hgr, r0, r1, r2, r3⟩ := ret4 (W := M) bel hD hb hY
  exact ⟨D, r, rfl, rfl, belD, hD, ⟨r0, r1, r2, r3⟩, (hn.keep (fun g hg => hsame g (hd g hg))).1⟩
theorem gotS_new {M w Y : World} {o : Sys} {r : Ref} {NB : Nat → Prop} {b : Bool} (bel : Below M.heap.size M w) (hn : SysLite w o r NB)
    (hY : w.alloc (boxS o r) = Y) : GotS M o b (.pointer (some ⟨w.heap.size, 0, none⟩)) (.bool b) Y := by
  refine ⟨_, r, rfl, rfl, ?_, bel.size, Box4S.new hY, ?_⟩
  · rw [← hY]; exact below_alloc bel _
  · rw [← hY]; exact sys_alloc hn.1 _

/-- A system in blocks of its own within a stretch, and its box. -/
def HoldS (w : World) (lo hi D : Nat) (o : Sys) (r : Ref) : Prop :=
  Box4S w D o r ∧ (lo ≤ D ∧ D < hi) ∧ ∃ B : Nat → Prop, SysOwn w o r B ∧ ∀ g, B g → lo ≤ g ∧ g < hi ∧ g ≠ D
section
variable {w w' : World} {lo hi l2 h2 D : Nat}
theorem HoldS.ext {o : Sys} {r : Ref} (h : HoldS w lo hi D o r) (y : Ext w) : HoldS y.w lo hi D o r := by
  obtain ⟨h1, h2, B, h3, h4⟩ := h
  exact ⟨h1.ext y, h2, B, h3.ext y, h4⟩
theorem HoldS.only {o : Sys} {r : Ref} (h : HoldS w lo hi D o r) (ho : Only w w' (Str l2 h2)) (hd : hi ≤ l2 ∨ h2 ≤ lo) : HoldS w' lo hi D o r := by
  obtain ⟨h1, h3, B, h4, h5⟩ := h
  refine ⟨h1.only ho (fun e => by have e1 := e.1; have e2 := e.2; omega), h3, B, h4.only ho (fun g hg e => by have := h5 g hg; have e1 := e.1; have e2 := e.2; omega), h5⟩
theorem HoldS.tm {o : Sys} {r : Ref} (h : HoldS w lo hi D o r) : SysIn w r o := by
  obtain ⟨h1, h3, B, h4, h5⟩ := h
  exact h4.tm (fun g _ => Nat.zero_le g)
theorem HoldS.box {o : Sys} {r : Ref} (h : HoldS w lo hi D o r) : Box4S w D o r := h.1
theorem HoldS.new {o : Sys} {r : Ref} {B : Nat → Prop} {V : World} (h : SysOwn w o r B) (hlo : ∀ g, B g → lo ≤ g) (hw : lo ≤ w.heap.size) (hV : w.alloc (boxS o r) = V) : HoldS V lo V.heap.size w.heap.size o r := by
  have hs : w.heap.size < V.heap.size := by rw [← hV]; simp
  refine ⟨Box4S.new hV, ⟨hw, hs⟩, B, ?_, fun g hg => ⟨hlo g hg, by have := h.lt g hg; omega, by have := h.lt g hg; omega⟩⟩
  rw [← hV]
  exact h.ext ((Ext.self w).alloc _)
theorem HoldS.mark {t : Sys} {r : Ref} (h : HoldS w lo hi D t r) (m : Int) (hm0 : 0 ≤ m) (hm1 : m + (t.cnt : Nat) ≤ 100000000) :
    Calls Tryd.prog 50 #[r.val t, .int .i64 m] w (fun e w' => e = .returned (.int .i64 (m + (t.cnt : Nat))) ∧ Only w w' (Str lo hi) ∧ HoldS w' lo hi D (t.mkd m) r) := by
  obtain ⟨h1, h3, B, h4, h5⟩ := h
  unfold Sys.cnt at hm1 ⊢
  refine Calls.mono (markSystem_ans (base := 0) h4.own (Nat.zero_le _) t.n (by omega) (by omega) (by omega) m hm0 (by omega)) ?_
  rintro e w' ⟨rfl, own, -, ho⟩
  have hin : ∀ g, (ob r.pa = some g ∨ ob r.ta = some g ∨ ob r.ba = some g) → B g := fun g e => (h4.bl g).2 e
  have hb := h1.only ho (fun e => (h5 D (hin D e)).2.2 rfl)
  refine ⟨by congr 2; omega, ho.mono (fun g _ e => ⟨(h5 g (hin g e)).1, (h5 g (hin g e)).2.1⟩), ?_, h3, B, ⟨?_, h4.bl⟩, h5⟩
  · obtain ⟨b0, b1, b2, b3⟩ := hb
    refine ⟨b0, ?_, ?_, ?_⟩
    · show _ = some (Value.slice r.pa (uptoI m t.plus.length).length r.pc)
      rw [uptoI_len]; exact b1
    · show _ = some (Value.slice r.ta (uptoI _ t.times.length).length r.tc)
      rw [uptoI_len]; exact b2
    · show _ = some (Value.slice r.ba (bitsB _ t.below.length).length r.bc)
      rw [bitsB_len]; exact b3
  · rw [marksI_eq, marksI_eq, marksB_eq] at own
    have e1 : (t.mkd m).plus.length = t.plus.length := uptoI_len _ _
    have e2 : (t.mkd m).times.length = t.times.length := uptoI_len _ _
    have e3 : (t.mkd m).below.length = t.below.length := bitsB_len _ _
    rw [e1, e2, e3]
    exact own
end

end Go.Proofs.YtoefeijnnnioeaaDoor
