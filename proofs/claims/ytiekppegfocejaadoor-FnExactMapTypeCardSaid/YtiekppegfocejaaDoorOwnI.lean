
/- Lists of numbers in blocks of their own. -/
import Derived.Test.YtiekppegfocejaaDoorLawHead
import Derived.Test.YtiekppegfocejaaDoorMarks
namespace Go.Proofs.YtiekppegfocejaaDoor
open Go.RowKit

/-- What is owned is kept where nothing of it turns. -/
theorem own_only {w w' : World} {base : Nat} {e : TypeId} {size : Nat} {a : Option Addr} {n m c : Nat} {xs : List Value} {B : Nat → Prop} (h : w.ownsRow base e size (.slice a m c) n xs) (ho : Only w w' B) (hd : ∀ g, ob a = some g → ¬ B g) : w'.ownsRow base e size (.slice a m c) n xs :=
  owns_of_block h fun g hg => ho.block g (h.lt g hg).2 (hd g (by rw [← ob_eq]; exact hg))
theorem own_marked {w : World} {base : Nat} {a : Option Addr} {n c : Nat} {m : Int} (h : w.ownsRow base 3 1 (.slice a n c) n (marksI m n)) : Row w (Value.int .i64) a (uptoI m n) := by
  rw [marksI_eq] at h
  have e := uptoI_len m n
  exact own_row (E := 3) (base := base) (c := c) (l := uptoI m n) (by rw [e]; exact h)
theorem heldI_ans {W : World} {a : Option Addr} {n c : Nat} {m : Int} (h : Row W (Value.int .i64) a (uptoI m n)) (hn : n ≤ 1000000000) (h0 : 0 ≤ m) (h1 : m ≤ 1000000000) (x : Ext W) : Calls Tryd.prog 27 #[.slice a n c, .int .i64 m] x.w (Ans W (.int .i64 (m + n))) := by
  have := heldIntS_ans (c := c) h (by rw [uptoI_len]; exact hn) m h0 h1 (fun i u hu => uptoI_at hu) x
  rw [uptoI_len] at this
  exact this

end Go.Proofs.YtiekppegfocejaaDoor
