/- Lists of lists that are held beside what is walked. Nothing is walked here but marks. -/
import Derived.Test.YtoefeijnnnioeaaDoorZ1KLists
import Derived.Test.YtoefeijnnnioeaaDoorZ1GE
set_option linter.unusedVariables false
set_option linter.unusedSimpArgs false
namespace Go.Proofs.YtoefeijnnnioeaaDoor
open Go.RowKit

/-- Lists in blocks of their own within a stretch. -/
def HoldL (w : World) (lo hi : Nat) (a : Option Addr) (c : Nat) (ls : List (List Int)) (hd : Nat → Option Addr × Nat) : Prop :=
  ∃ B : Nat → Prop, LsOwn w a c ls hd B ∧ ∀ g, B g → lo ≤ g ∧ g < hi
/-- How many numbers, and lists. -/
def lsWt (ls : List (List Int)) : Nat := ls.length + cntLs ls
section
variable {w w' : World} {lo hi l2 h2 : Nat} {a : Option Addr} {c : Nat} {ls : List (List Int)} {hd : Nat → Option Addr × Nat}
theorem HoldL.ext (h : HoldL w lo hi a c ls hd) (y : Ext w) : HoldL y.w lo hi a c ls hd := by
  obtain ⟨B, h1, h2⟩ := h
  exact ⟨B, h1.ext y, h2⟩
theorem HoldL.only (h : HoldL w lo hi a c ls hd) (ho : Only w w' (Str l2 h2)) (hd' : hi ≤ l2 ∨ h2 ≤ lo) : HoldL w' lo hi a c ls hd := by
  obtain ⟨B, h1, h3⟩ := h
  exact ⟨B, h1.only ho (fun g hg e => by have := h3 g hg; have e1 := e.1; have e2 := e.2; omega), h3⟩
theorem ls_small {ls : List (List Int)} (h : lsWt ls ≤ 1048576) : ls.length ≤ 1048576 ∧ ∀ (i : Nat) (l : List Int), ls[i]? = some l → l.length ≤ 1048576 := by
  unfold lsWt at h
  exact ⟨by omega, fun i l hi => by have := len_le_cntLs hi; omega⟩
theorem HoldL.ins (h : HoldL w lo hi a c ls hd) (hs : lsWt ls ≤ 1048576) : LsIn w a ls hd := by
  obtain ⟨B, h1, h2⟩ := h
  exact h1.ins (ls_small hs).1 (ls_small hs).2
theorem HoldL.new {B : Nat → Prop} (h : LsOwn w a c ls hd B) (hlo : ∀ g, B g → lo ≤ g) : HoldL w lo w.heap.size a c ls hd := ⟨B, h, fun g hg => ⟨hlo g hg, h.lt g hg⟩⟩
theorem cntLs_mkd (ls : List (List Int)) (m : Int) : cntLs (mkdLs ls m) = cntLs ls := by
  induction ls generalizing m with
  | nil => rfl
  | cons l ls ih => simp [mkdLs, cntLs, uptoI_len, ih]
theorem HoldL.mark (h : HoldL w lo hi a c ls hd) (m : Int) (h0 : 0 ≤ m) (h1 : m + (cntLs ls : Nat) ≤ 100000000) :
    Calls Tryd.prog 38 #[.slice a ls.length c, .int .i64 m] w (fun e w' => e = .returned (.int .i64 (m + (cntLs ls : Nat))) ∧ Only w w' (Str lo hi) ∧ HoldL w' lo hi a c (mkdLs ls m) hd) := by
  obtain ⟨B, h3, h4⟩ := h
  refine Calls.mono (markIntSS_ans h3 m h0 h1) ?_
  rintro e w' ⟨rfl, on, own⟩
  exact ⟨rfl, on.mono (fun g _ e => h4 g e), B, own, h4⟩
theorem HoldL.held {m : Int} (h : HoldL w lo hi a c (mkdLs ls m) hd) (hs : lsWt ls ≤ 1048576) (h0 : 0 ≤ m) (h1 : m + (cntLs ls : Nat) ≤ 100000000) :
    Calls Tryd.prog 39 #[.slice a ls.length c, .int .i64 m] w (Ans w (.int .i64 (m + (cntLs ls : Nat)))) :=
  heldIntSS_ans m (h.ins (by unfold lsWt at *; rw [mkdLs_len, cntLs_mkd]; exact hs)) h0 h1 (Ext.self w)
end
/-- New lists, in blocks of their own. -/
def NewLs (W : World) (ls : List (List Int)) : Ending → World → Prop := fun e w' => ∃ (a : Option Addr) (c : Nat) (hd : Nat → Option Addr × Nat) (B : Nat → Prop) (y : Ext W), e = .returned (.slice a ls.length c) ∧ w' = y.w ∧ LsOwn y.w a c ls hd B ∧ ∀ q, B q → W.heap.size ≤ q
theorem HoldR.held {w : World} {lo hi : Nat} {a : Option Addr} {d n : Nat} {m : Int} (h : HoldR w lo hi a d (uptoI m n)) (hl : n ≤ 1048576) (h0 : 0 ≤ m) (h1 : m ≤ 100000000) :
    Calls Tryd.prog 20 #[.slice a n d, .int .i64 m] w (Ans w (.int .i64 (m + n))) := heldI_ans h.row (by omega) h0 (by omega) (Ext.self w)

end Go.Proofs.YtoefeijnnnioeaaDoor
