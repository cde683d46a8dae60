/- The laws' marks. -/
import Derived.Test.YtbfelekohdiddaaLawB
import Derived.Maps.AppendAt
namespace Go.Proofs.Ytbfelekohdiddaa
open Go.RowKit

def marksI (m : Int) (n : Nat) : List Value := (List.range n).map fun (i : Nat) => Value.int .i64 (m + (i : Int))
def bit3 (k : Int) : Bool := k % 3 == 0
def marksB (m : Int) (n : Nat) : List Value := (List.range n).map fun (i : Nat) => Value.bool (bit3 (m + (i : Int)))
theorem marksI_at (m : Int) {n j : Nat} (h : j < n) : (marksI m n)[j]? = some (.int .i64 (m + j)) := by simp [marksI, h]
theorem marksB_at (m : Int) {n j : Nat} (h : j < n) : (marksB m n)[j]? = some (.bool (bit3 (m + j))) := by simp [marksB, h]

set_option maxHeartbeats 4000000 in
theorem markIntS_ans {w : World} {base : Nat} {a : Option Addr} {n c : Nat} {xs : List Value} (h : w.ownsRow base 3 1 (.slice a n c) n xs) (hn : n ≤ 1000000000) (m : Int) (h0 : 0 ≤ m) (h1 : m ≤ 1000000000) :
    Calls Try.prog 31 #[.slice a n c, .int .i64 m] w (fun e w' => e = .returned (.int .i64 (m + n)) ∧ w'.ownsRow base 3 1 (.slice a n c) n (marksI m n) ∧ w.grownBy w' (Value.slice a n c).ownBlock) := by
  rcases h.2 with ⟨e, rfl⟩ | ⟨g, cap, cur, e, hb, hg, hcap, hmax, hsz, htk⟩
  · cases e
    go_enter Try.func31, Try.ntmps31
    go_wp2
    go_loopw [5, 1] (fun i k wr => i = .int .i64 0 ∧ k = .int .i64 m ∧ wr = w) (fun _ _ _ => 0)
    case atStart => exact ⟨rfl, rfl, rfl⟩
    case round =>
      obtain ⟨rfl, rfl, rfl⟩ := hrel
      go_wp2
      go_ret
      exact ⟨by simp, (World.ownsRow_nil _ _ _ _ : World.ownsRow _ _ _ _ _ _ []), World.grownBy.refl _ _⟩
  · cases e
    clear hsz htk hmax hcap hg cur
    go_enter Try.func31, Try.ntmps31
    go_wp2
    go_loopw [5, 1] (fun i k wr => ∃ (j : Nat) (ys : List Value), i = .int .i64 j ∧ k = .int .i64 (m + j) ∧ j ≤ n ∧ wr.ownsRow base 3 1 (.slice (some ⟨g, 0, none⟩) n c) n ys ∧ w.grownBy wr (some g) ∧ Hid (∀ i, i < j → ys[i]? = (marksI m n)[i]?)) (fun i _ _ => n - (intOf i).toNat)
    case atStart => exact ⟨0, xs, rfl, by simp, by omega, h, World.grownBy.refl _ _, fun i hi => by omega⟩
    case round =>
      obtain ⟨j, ys, rfl, rfl, hj, hown, hgr, hX⟩ := hrel
      by_cases hlt : j < n
      · have hlt' : (j : Int) < (n : Int) := by omega
        have hly : ys.length = n := by have := hown.1; omega
        obtain ⟨v0, hv0⟩ : ∃ v0, ys[j]? = some v0 := ⟨_, List.getElem?_eq_getElem (by omega)⟩
        have hold : wr.cell? ⟨g, j, none⟩ = some v0 := by rw [hown.cellAt j (by omega)]; exact hv0
        have hfz : wr.frozen? ⟨g, j, none⟩ = false := hown.frozenAt j
        obtain ⟨hst, hgs⟩ := hown.stored j (Value.int .i64 (m + (j : Int)))
        have HS := Lib.hid hst
        have HG := Lib.hid (hgr.trans hgs)
        have HL := Lib.hid hly
        skip
        clear hst hgs hv0 hly hown hgr
        go_wp2
        go_roundw
        case rel =>
          refine ⟨j + 1, _, by go_num, by go_num, by omega, HS.out, HG.out, fun i hi => ?_⟩
          have hly := HL.out
          rw [List.getElem?_set]
          by_cases e : j = i
          · subst e
            rw [marksI_at _ hlt, if_pos rfl, if_pos (by omega)] <;> rfl
          · rw [if_neg e]; exact hX.out i (by omega)
        case measure => simp [intOf]; omega
      · have hlt' : ¬ (j : Int) < (n : Int) := by omega
        have hke : j = n := by omega
        have HK := Lib.hid hke
        have HO := Lib.hid hown
        have HG := Lib.hid hgr
        clear hke hown hgr
        go_wp2
        go_ret
        refine ⟨by rw [HK.out] <;> rfl, ?_, HG.out⟩
        have e : ys = marksI m n := by
          apply List.ext_getElem?
          intro i
          by_cases hi : i < n
          · exact hX.out i (by rw [HK.out]; exact hi)
          · have := HO.out.1
            rw [List.getElem?_eq_none (by omega), List.getElem?_eq_none (by simp [marksI]; omega)]
        rw [← e]
        exact HO.out

set_option maxHeartbeats 4000000 in
theorem markBoolS_ans {w : World} {base : Nat} {a : Option Addr} {n c : Nat} {xs : List Value} (h : w.ownsRow base 4 1 (.slice a n c) n xs) (hn : n ≤ 1000000000) (m : Int) (h0 : 0 ≤ m) (h1 : m ≤ 1000000000) :
    Calls Try.prog 32 #[.slice a n c, .int .i64 m] w (fun e w' => e = .returned (.int .i64 (m + n)) ∧ w'.ownsRow base 4 1 (.slice a n c) n (marksB m n) ∧ w.grownBy w' (Value.slice a n c).ownBlock) := by
  rcases h.2 with ⟨e, rfl⟩ | ⟨g, cap, cur, e, hb, hg, hcap, hmax, hsz, htk⟩
  · cases e
    go_enter Try.func32, Try.ntmps32
    go_wp2
    go_loopw [5, 1] (fun i k wr => i = .int .i64 0 ∧ k = .int .i64 m ∧ wr = w) (fun _ _ _ => 0)
    case atStart => exact ⟨rfl, rfl, rfl⟩
    case round =>
      obtain ⟨rfl, rfl, rfl⟩ := hrel
      go_wp2
      go_ret
      exact ⟨by simp, (World.ownsRow_nil _ _ _ _ : World.ownsRow _ _ _ _ _ _ []), World.grownBy.refl _ _⟩
  · cases e
    clear hsz htk hmax hcap hg cur
    go_enter Try.func32, Try.ntmps32
    go_wp2
    go_loopw [5, 1] (fun i k wr => ∃ (j : Nat) (ys : List Value), i = .int .i64 j ∧ k = .int .i64 (m + j) ∧ j ≤ n ∧ wr.ownsRow base 4 1 (.slice (some ⟨g, 0, none⟩) n c) n ys ∧ w.grownBy wr (some g) ∧ Hid (∀ i, i < j → ys[i]? = (marksB m n)[i]?)) (fun i _ _ => n - (intOf i).toNat)
    case atStart => exact ⟨0, xs, rfl, by simp, by omega, h, World.grownBy.refl _ _, fun i hi => by omega⟩
    case round =>
      obtain ⟨j, ys, rfl, rfl, hj, hown, hgr, hX⟩ := hrel
      by_cases hlt : j < n
      · have hlt' : (j : Int) < (n : Int) := by omega
        have hly : ys.length = n := by have := hown.1; omega
        obtain ⟨v0, hv0⟩ : ∃ v0, ys[j]? = some v0 := ⟨_, List.getElem?_eq_getElem (by omega)⟩
        have hold : wr.cell? ⟨g, j, none⟩ = some v0 := by rw [hown.cellAt j (by omega)]; exact hv0
        have hfz : wr.frozen? ⟨g, j, none⟩ = false := hown.frozenAt j
        obtain ⟨hst, hgs⟩ := hown.stored j (Value.bool ((m + (j : Int)) % 3 == 0))
        have HS := Lib.hid hst
        have HG := Lib.hid (hgr.trans hgs)
        have HL := Lib.hid hly
        have hb3 : (m + (j : Int)).tmod 3 = (m + (j : Int)) % 3 := Int.tmod_eq_emod_of_nonneg (by omega)
        clear hst hgs hv0 hly hown hgr
        go_wp2
        go_roundw
        case rel =>
          refine ⟨j + 1, _, by go_num, by go_num, by omega, HS.out, HG.out, fun i hi => ?_⟩
          have hly := HL.out
          rw [List.getElem?_set]
          by_cases e : j = i
          · subst e
            rw [marksB_at _ hlt, if_pos rfl, if_pos (by omega)] <;> rfl
          · rw [if_neg e]; exact hX.out i (by omega)
        case measure => simp [intOf]; omega
      · have hlt' : ¬ (j : Int) < (n : Int) := by omega
        have hke : j = n := by omega
        have HK := Lib.hid hke
        have HO := Lib.hid hown
        have HG := Lib.hid hgr
        clear hke hown hgr
        go_wp2
        go_ret
        refine ⟨by rw [HK.out] <;> rfl, ?_, HG.out⟩
        have e : ys = marksB m n := by
          apply List.ext_getElem?
          intro i
          by_cases hi : i < n
          · exact hX.out i (by rw [HK.out]; exact hi)
          · have := HO.out.1
            rw [List.getElem?_eq_none (by omega), List.getElem?_eq_none (by simp [marksB]; omega)]
        rw [← e]
        exact HO.out

end Go.Proofs.Ytbfelekohdiddaa
