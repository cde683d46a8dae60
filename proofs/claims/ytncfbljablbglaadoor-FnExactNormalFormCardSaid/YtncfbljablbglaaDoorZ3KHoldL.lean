/- Lists of lists that are held beside what is walked. Nothing is walked here but marks. -/
import Derived.Test.YtncfbljablbglaaDoorZ3KLists
import Derived.Test.YtncfbljablbglaaDoorZ3GE
set_option linter.unusedVariables false
set_option linter.unusedSimpArgs false
namespace Go.Proofs.YtncfbljablbglaaDoor
open Go.RowKit

/-- Lists in blocks of their own within a stretch. -/
def HoldL (w : World) (lo hi : Nat) (a : Option Addr) (c : Nat) (ls : List (List Int)) (hd : Nat → Option Addr × Nat) : Prop :=
  ∃ B : Nat → Prop, LsOwn w a c ls hd B ∧ ∀ g, B g → lo ≤ g ∧ g < hi
/-- How many numbers, and lists. -/
def lsWt (ls : List (List Int)) : Nat := ls.length + cntLs ls
section
variable {w w' : World} {lo hi l2 h2 : Nat} {a : Option Addr} {c : Nat} {ls : List (List Int)} {hd : Nat → Option Addr × Nat}
theorem HoldL.ext (h : HoldL w lo hi a c ls hd) (y : Ext w) : HoldL y.w lo hi a c ls hd := by
  obtain ⟨B, h1, h2⟩ := h
  exact ⟨B, h1.ext y, h2⟩
theorem HoldL.only (h : HoldL w lo hi a c ls hd) (ho : Only w w' (Str l2 h2)) (hd' : hi ≤ l2 ∨ h2 ≤ lo) : HoldL w' lo hi a c ls hd := by
  obtain ⟨B, h1, h3⟩ := h
  exact ⟨B, h1.only ho (fun g hg e => by have := h3 g hg; have e1 := e.1; have e2 := e.2; omega), h3⟩
theorem HoldL.new {B : Nat → Prop} (h : LsOwn w a c ls hd B) (hlo : ∀ g, B g → lo ≤ g) : HoldL w lo w.heap.size a c ls hd := ⟨B, h, fun g hg => ⟨hlo g hg, h.lt g hg⟩⟩
end
/-- New lists, in blocks of their own. -/
def NewLs (W : World) (ls : List (List Int)) : Ending → World → Prop := fun e w' => ∃ (a : Option Addr) (c : Nat) (hd : Nat → Option Addr × Nat) (B : Nat → Prop) (y : Ext W), e = .returned (.slice a ls.length c) ∧ w' = y.w ∧ LsOwn y.w a c ls hd B ∧ ∀ q, B q → W.heap.size ≤ q
theorem HoldR.held {w : World} {lo hi : Nat} {a : Option Addr} {d n : Nat} {m : Int} (h : HoldR w lo hi a d (uptoI m n)) (hl : n ≤ 1048576) (h0 : 0 ≤ m) (h1 : m ≤ 100000000) :
    Calls Tryd.prog 20 #[.slice a n d, .int .i64 m] w (Ans w (.int .i64 (m + n))) := heldI_ans h.row (by omega) h0 (by omega) (Ext.self w)

end Go.Proofs.YtncfbljablbglaaDoor
