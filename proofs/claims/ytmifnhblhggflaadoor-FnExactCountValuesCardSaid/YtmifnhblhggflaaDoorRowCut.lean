
/- Parts of rows, plainly. Nothing of a program stands here. -/
import Derived.Test.YtmifnhblhggflaaDoorTree
namespace Go.Proofs.YtmifnhblhggflaaDoor
open Go.RowKit

theorem Row.place {α : Type} {w : World} {mk : α → Value} {a : Option Addr} {l : List α} (h : Row w mk a l) (hl : l ≠ []) : ∃ b o, a = some ⟨b, o, none⟩ := by
  rcases h with h | ⟨b, o, e, _⟩
  · exact absurd h hl
  · exact ⟨b, o, e⟩
theorem Row.cut {α : Type} {w : World} {mk : α → Value} {b o : Nat} {pre l post : List α} (h : Row w mk (some ⟨b, o, none⟩) (pre ++ (l ++ post))) {o' : Nat} (ho : o' = o + pre.length) : Row w mk (some ⟨b, o', none⟩) l := by
  subst ho
  refine .inr ⟨b, _, rfl, fun i x hx => ?_⟩
  have hi := (List.getElem?_eq_some_iff.1 hx).1
  have hx' : (pre ++ (l ++ post))[pre.length + i]? = some x := by
    rw [List.getElem?_append_right (by omega), show pre.length + i - pre.length = i by omega, List.getElem?_append_left hi]
    exact hx
  rcases h with h | ⟨b', o', e, hc⟩
  · rw [h] at hx'; simp at hx'
  · cases e
    have := hc _ x hx'
    rwa [show o + pre.length + i = o + (pre.length + i) by omega]
section
variable {w : World} {b o : Nat} {c : Int} {A B : Ty}
theorem row_head {l : List Int} (h : Row w (Value.int .i64) (some ⟨b, o, none⟩) l) {c : Int} {l' : List Int} (hl : l = c :: l') : w.cell? ⟨b, o, none⟩ = some (.int .i64 c) := by
  subst hl
  rcases h with h | ⟨b', o', e, hc⟩
  · cases h
  · cases e
    have := hc 0 c rfl
    simpa using this
theorem row_two1 (h : Row w (Value.int .i64) (some ⟨b, o, none⟩) (Ty.two c A B).enc) : Row w (Value.int .i64) (some ⟨b, o + 1, none⟩) A.enc :=
  Row.cut (pre := [c]) (post := B.enc) h rfl
theorem row_two2 (h : Row w (Value.int .i64) (some ⟨b, o, none⟩) (Ty.two c A B).enc) : Row w (Value.int .i64) (some ⟨b, o + (1 + A.enc.length), none⟩) B.enc :=
  Row.cut (pre := c :: A.enc) (post := []) (by simpa [Ty.enc] using h) (by simp; omega)
theorem row_one (h : Row w (Value.int .i64) (some ⟨b, o, none⟩) (Ty.one c A).enc) : Row w (Value.int .i64) (some ⟨b, o + 1, none⟩) A.enc :=
  Row.cut (pre := [c]) (post := []) (by simpa [Ty.enc] using h) rfl
end
theorem Ty.len_two (c : Int) (A B : Ty) : (Ty.two c A B).enc.length = 1 + A.enc.length + B.enc.length := by simp [Ty.enc]; omega
theorem Ty.len_one (c : Int) (A : Ty) : (Ty.one c A).enc.length = 1 + A.enc.length := by simp [Ty.enc]; omega
theorem Ty.len_leaf : Ty.leaf.enc.length = 1 := rfl
theorem Ty.end_two {c : Int} {A B : Ty} (h : (Ty.two c A B).Ok) : endOf (Ty.two c A B).enc 1 1 = (1 + A.enc.length : Nat) := by
  rw [Ty.endOf_enc (t := A) h.2.1 (post := B.enc) (by simp [Ty.enc])]
  omega
theorem Ty.end_two2 {c : Int} {A B : Ty} (h : (Ty.two c A B).Ok) : endOf (Ty.two c A B).enc (1 + A.enc.length) 1 = (1 + A.enc.length + B.enc.length : Nat) := by
  rw [Ty.endOf_enc (t := B) h.2.2 (post := []) (by rw [Nat.add_comm]; simp [Ty.enc])]
  omega
theorem Ty.end_one {c : Int} {A : Ty} (h : (Ty.one c A).Ok) : endOf (Ty.one c A).enc 1 1 = (1 + A.enc.length : Nat) := by
  rw [Ty.endOf_enc (t := A) h.2 (post := []) (by simp [Ty.enc])]
  omega
end Go.Proofs.YtmifnhblhggflaaDoor
