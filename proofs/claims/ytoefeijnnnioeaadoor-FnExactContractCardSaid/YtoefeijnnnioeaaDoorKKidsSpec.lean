
/- The types behind the first code of a type, plainly. -/
import Derived.Test.YtoefeijnnnioeaaDoorKFlatSpec
import Derived.Test.YtoefeijnnnioeaaDoorGR
import Derived.Test.YtoefeijnnnioeaaDoorKHoldL
set_option linter.unusedVariables false
set_option linter.unusedSimpArgs false
namespace Go.Proofs.YtoefeijnnnioeaaDoor
open Go.RowKit

def PartsV (l : List Int) (o : List (List Int)) : Prop := (WT l ∧ ∃ T : Ty, T.Ok ∧ l = T.enc ∧ o = T.parts.map Ty.enc) ∨ (¬ WT l ∧ o = [])
theorem partsV_ex (l : List Int) : ∃ o, PartsV l o := by
  by_cases h : WT l
  · obtain ⟨T, h1, h2⟩ := h.tree
    exact ⟨_, .inl ⟨h, T, h1, h2, rfl⟩⟩
  · exact ⟨_, .inr ⟨h, rfl⟩⟩
theorem Ty.parts_le (T : Ty) : T.parts.length ≤ 2 := by cases T <;> simp [Ty.parts]
theorem Ty.encs_cnt (ps : List Ty) : cntLs (ps.map Ty.enc) = (Ty.encs ps).length := by
  induction ps with
  | nil => rfl
  | cons p ps ih => simp [cntLs, Ty.encs, ih]
theorem PartsV.wt {l : List Int} {o : List (List Int)} (h : PartsV l o) : lsWt o ≤ 100 := by
  rcases h with ⟨w, T, _, e, rfl⟩ | ⟨_, rfl⟩
  · have h1 := w.1
    have h2 := T.parts_le
    have h3 := congrArg List.length T.enc_parts
    unfold lsWt
    rw [Ty.encs_cnt, List.length_map]
    rw [e] at h1
    simp at h3
    omega
  · simp [lsWt, cntLs]
/-- A part of a type that lies in a row is a row. -/
theorem row_part {w : World} {b o : Nat} {T p : Ty} {k : Nat} (h : Row w (Value.int .i64) (some ⟨b, o, none⟩) T.enc) (hp : T.parts[k]? = some p) : Row w (Value.int .i64) (some ⟨b, o + (1 + posP T.parts k), none⟩) p.enc := by
  obtain ⟨post, hs⟩ := Ty.encs_split hp
  have h2 : Row w (Value.int .i64) (some ⟨b, o, none⟩) ((T.code :: Ty.encs (T.parts.take k)) ++ (p.enc ++ post)) := by
    rw [T.enc_parts, hs] at h
    simpa using h
  exact Row.cut h2 (by simp [posP]; omega)
theorem parts_take_succ {ps : List Ty} {k : Nat} {p : Ty} (h : ps[k]? = some p) : (ps.map Ty.enc).take (k + 1) = (ps.map Ty.enc).take k ++ [p.enc] := by
  rw [List.take_add_one, List.getElem?_map, h]
  rfl
end Go.Proofs.YtoefeijnnnioeaaDoor
