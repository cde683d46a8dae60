
/- How many values a view tells apart, plainly; the model's search in a list. -/
import Derived.Test.YteffcfaoganciaaDoorGW
import Derived.Test.YteffcfaoganciaaDoorKViewSpec
set_option linter.unusedVariables false
set_option linter.unusedSimpArgs false
namespace Go.Proofs.YteffcfaoganciaaDoor
open Go.RowKit

/-- What a view sees. -/
def sees (q : List Int) : Int → Bool := fun g => decide (g ∈ q)
/-- What CountSeen answers. -/
def SeenV (s : Sys) (q l : List Int) (v : Int) : Prop := ∃ n, CntV s l n ∧ ((IsViewP s q ∧ 0 ≤ n ∧ ∃ T : Ty, T.Ok ∧ T.Data ∧ T.Cl ∧ l = T.enc ∧ T.enc.length ≤ 40 ∧ v = T.cntA (sees q)) ∨ (IsViewP s q ∧ n = -1 ∧ v = -1) ∨ (¬ IsViewP s q ∧ v = -1))
theorem seenV_ex (s : Sys) (q l : List Int) : ∃ v, SeenV s q l v := by
  obtain ⟨n, hn⟩ := cntV_ex s l
  by_cases h : IsViewP s q
  · have hn2 := hn
    rcases hn2 with ⟨hd, T, h1, h2, h3, hv⟩ | ⟨hd, hv⟩
    · rcases hv with ⟨hc, hv⟩ | ⟨hc, hv⟩
      · refine ⟨_, n, hn, .inl ⟨h, by omega, T, h1, h2, Ty.cl_of h1 (by rw [← h3]; exact hd.1.2.2), h3, by rw [← h3]; exact hd.1.2.1.1, rfl⟩⟩
      · exact ⟨-1, n, hn, .inr (.inl ⟨h, hv, rfl⟩)⟩
    · exact ⟨-1, n, hn, .inr (.inl ⟨h, hv, rfl⟩)⟩
  · exact ⟨-1, n, hn, .inr (.inr ⟨h, rfl⟩)⟩

set_option maxHeartbeats 1600000 in
theorem l1Has_ans {W : World} {a : Option Addr} {c : Nat} {q : List Int} (hr : Row W (Value.int .i64) a q) (hl : q.length ≤ 1099511627776) (g : Int) (p : Bool) (hp : p = true ↔ g ∈ q) (x : Ext W) :
    Calls Tryd.prog 118 #[.slice a q.length c, .int .i64 g] x.w (Ans W (.bool p)) := by
  have HP := Lib.hid hp
  clear hp
  obtain ⟨yy, hyy⟩ : ∃ y : Ext W, x = y := ⟨x, rfl⟩
  rw [hyy]
  clear hyy
  go_enter Tryd.func118, Tryd.ntmps118
  go_wp2
  go_loopw [5] (fun i wr => ∃ k : Nat, i = .int .i64 k ∧ k ≤ q.length ∧ (∃ y : Ext W, wr = y.w) ∧ Hid (g ∉ q.take k)) (fun i _ => q.length - (intOf i).toNat)
  case atStart => exact ⟨0, rfl, by omega, ⟨yy, rfl⟩, by simp [Hid]⟩
  case round =>
    obtain ⟨k, rfl, hk, ⟨yy, rfl⟩, HN⟩ := hrel
    by_cases hlt : k < q.length
    · have hlt' : (k : Int) < (q.length : Int) := by omega
      obtain ⟨b1, o1, rfl, hc⟩ := hr.at hlt
      have HC : Hid (q[k]? = some q[k]) := List.getElem?_eq_getElem hlt
      have d1 : ∀ y : Ext W, y.w.cell? ⟨b1, o1 + k, none⟩ = some (.int .i64 q[k]) := fun y => y.cell (hc k _ HC.out)
      clear hc
      generalize q[k] = u at *
      by_cases e : u = g
      · subst e
        go_wp2
        go_ret
        exact fin_true HP (List.mem_of_getElem? HC.out) ⟨yy, rfl⟩
      · have f : (u == g) = false := by simpa using e
        have HE := Lib.hid e
        clear e
        go_wp2
        go_roundw
        case rel =>
          refine ⟨k + 1, by go_num, by omega, ⟨yy, rfl⟩, ?_⟩
          show g ∉ _
          rw [List.take_add_one, HC.out]
          intro h
          simp at h
          rcases h with h | h
          · exact HN.out h
          · exact HE.out h.symm
        case measure => simp [intOf]; omega
    · have hke : k = q.length := by omega
      have HK := Lib.hid hke
      clear hke
      go_wp2
      go_ret
      refine fin_false HP (fun h => HN.out ?_) ⟨yy, rfl⟩
      rw [HK.out, List.take_length]
      exact h
end Go.Proofs.YteffcfaoganciaaDoor
