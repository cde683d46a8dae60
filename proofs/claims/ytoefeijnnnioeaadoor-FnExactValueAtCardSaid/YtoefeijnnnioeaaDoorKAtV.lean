
/- What ValueAt answers. -/
import Derived.Test.YtoefeijnnnioeaaDoorKPlcS
import Derived.Test.YtoefeijnnnioeaaDoorGW
set_option linter.unusedVariables false
set_option linter.unusedSimpArgs false
namespace Go.Proofs.YtoefeijnnnioeaaDoor
open Go.RowKit

def AtV (s : Sys) (l : List Int) (k : Int) (o : Tm) (b : Bool) : Prop :=
  ∃ v, CntV s l v ∧ (((0 ≤ k ∧ k < v) ∧ (∃ (T : Ty) (kn : Nat), T.Ok ∧ T.Data ∧ T.Cl ∧ l = T.enc ∧ T.enc.length ≤ 40 ∧ k = kn ∧ kn < T.cnt ∧ T.cnt ≤ 301 ∧ o = T.at_ kn) ∧ b = true) ∨ (¬ (0 ≤ k ∧ k < v) ∧ o = zeroT ∧ b = false))
theorem CntV.bounds {s : Sys} {l : List Int} {v : Int} (h : CntV s l v) : -1 ≤ v ∧ v ≤ 300 := by
  rcases h with ⟨_, T, _, _, _, ⟨h1, rfl⟩ | ⟨_, rfl⟩⟩ | ⟨_, rfl⟩ <;> omega
theorem atV_ex (s : Sys) (l : List Int) (k : Int) : ∃ o b, AtV s l k o b := by
  obtain ⟨v, hv⟩ := cntV_ex s l
  by_cases h : 0 ≤ k ∧ k < v
  · have hv' := hv
    rcases hv with ⟨hd, T, h1, h2, h3, ⟨h4, rfl⟩ | ⟨h4, rfl⟩⟩ | ⟨_, rfl⟩
    · exact ⟨_, _, T.cnt, hv', .inl ⟨h, ⟨T, k.toNat, h1, h2, Ty.cl_of (n := s.n) h1 (by rw [← h3]; exact hd.1.2.2), h3, by rw [← h3]; exact hd.1.2.1.1, by omega, by omega, by omega, rfl⟩, rfl⟩⟩
    · omega
    · omega
  · exact ⟨_, _, v, hv, .inr ⟨h, rfl, rfl⟩⟩
theorem AtV.wt {s : Sys} {l : List Int} {k : Int} {o : Tm} {b : Bool} (h : AtV s l k o b) : o.wt ≤ 2000 := by
  obtain ⟨v, _, h⟩ := h
  rcases h with ⟨_, ⟨T, kn, _, _, _, _, h40, _, _, _, rfl⟩, _⟩ | ⟨_, rfl, _⟩
  · have := T.at_wt kn h40
    omega
  · simp [zeroT, Tm.wt, Tm.wtL]
end Go.Proofs.YtoefeijnnnioeaaDoor
