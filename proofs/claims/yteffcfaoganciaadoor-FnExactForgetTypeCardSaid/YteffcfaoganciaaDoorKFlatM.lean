
/- The model's other languages: types without grades. -/
import Derived.Test.YteffcfaoganciaaDoorKFlatSpec
import Derived.Test.YteffcfaoganciaaDoorKGrow
import Derived.Test.YteffcfaoganciaaDoorKHoldL
import Derived.Test.YteffcfaoganciaaDoorGD
set_option linter.unusedVariables false
set_option linter.unusedSimpArgs false
namespace Go.Proofs.YteffcfaoganciaaDoor
open Go.RowKit

set_option maxHeartbeats 4000000 in
theorem specForget_ans {W : World} {a : Option Addr} {c : Nat} {l : List Int} (hr : Row W (Value.int .i64) a l) (hll : l.length ≤ 1099511627776) (o : List Int) (ho : ForgetV l o) (x : Ext W) :
    Calls Tryd.prog 39 #[.slice a l.length c] x.w (NewR W o) := by
  obtain ⟨yy, hyy⟩ : ∃ y : Ext W, x = y := ⟨x, rfl⟩
  rw [hyy]
  clear hyy
  have HO := Lib.hid ho
  clear ho
  by_cases hwt : WT l
  · have HW := Lib.hid hwt
    have hl40 := hwt.1
    have H36 := Lib.hid hwt.codes
    clear hwt
    go_enter Tryd.func39, Tryd.ntmps39
    go_wp2_with fail
    refine Calls.mono (l2Type_ans hr hll true (by simpa using HW.out) yy) ?_
    rintro e w' ⟨rfl, yy, rfl⟩
    go_wp2_with fail
    have st0 : Grow W (yy.w.alloc (.cells #[] 3)) (some ⟨yy.w.heap.size, 0, none⟩) 0 [] := Grow.new yy.below [] (by simp) _ rfl
    go_loopw [4, 3] (fun i v wr => ∃ (k : Nat) (a' : Option Addr) (c' : Nat) (n : Nat), i = .int .i64 k ∧ v = .slice a' n c' ∧ k ≤ l.length ∧ n ≤ k ∧ Hid (n = ((l.take k).flatMap plainC).length ∧ Grow W wr a' c' ((l.take k).flatMap plainC))) (fun i _ _ => l.length - (intOf i).toNat)
    case atStart => exact ⟨0, _, _, 0, rfl, rfl, by omega, by omega, rfl, st0⟩
    case round =>
      obtain ⟨k, a', c', n, rfl, rfl, hk, hn, HG⟩ := hrel
      clear st0
      by_cases hlt : k < l.length
      · have hlt' : (k : Int) < (l.length : Int) := by omega
        obtain ⟨b1, o1, rfl, hc⟩ := hr.at hlt
        have HC : Hid (l[k]? = some l[k]) := List.getElem?_eq_getElem hlt
        have d1 : ∀ y : Ext W, y.w.cell? ⟨b1, o1 + k, none⟩ = some (.int .i64 l[k]) := fun y => y.cell (hc k _ HC.out)
        have hcc := H36.out _ (List.getElem_mem hlt)
        clear hc
        generalize l[k] = u at *
        have hb := HG.out.2.bel
        have d2 : ∀ y : Ext wr, y.w.cell? ⟨b1, o1 + k, none⟩ = some (.int .i64 u) := fun y => d1 ⟨y.w, hb.trans (y.below.mono hb.size)⟩
        have d3 := d2 (Ext.self wr)
        dsimp only at d3
        clear d1
        obtain ⟨q, hq⟩ : ∃ q, q = (l.take k).flatMap plainC := ⟨_, rfl⟩
        rw [← hq] at HG
        have HQ := Lib.hid hq
        have hnq : n = q.length := HG.out.1
        subst hnq
        clear hq hb
        by_cases ha : Arr u
        · have PE : Hid (plainC u = [4]) := by show _ = _; unfold plainC; rw [if_pos ha]
          have HA := Lib.hid ha
          clear ha
          go_wp2_with (first | (go_at_call 84; (with_reducible refine Calls.mono (l2Arrow_ans u true (by simpa using HA.out) (Ext.self wr)) ?_); rintro e w' ⟨rfl, y1, rfl⟩) | (at_builtin; refine wpList_grow rfl (.tmp 21) (.tmp 22) rfl ((HG.out.2.ext y1).alloc _) rfl rfl (row_new1 _ 4 _ _ rfl) (by first | omega | (simp only [List.length_cons, List.length_nil]; omega)) ?_; intro a2 c2 w2 g2))
          have HG3 := Lib.hid g2
          clear g2
          go_roundw
          case rel =>
            have e := flat_take_succ (f := plainC) HC.out
            rw [← HQ.out, PE.out] at e
            refine ⟨k + 1, a2, c2, _, by go_num, rfl, by omega, by first | omega | (simp only [List.length_cons, List.length_nil]; omega), ?_⟩
            rw [e]
            exact ⟨by rw [List.length_append] <;> rfl, HG3.out⟩
          case measure => simp [intOf]; omega
        · by_cases hb : Bx u
          · have PE : Hid (plainC u = []) := by show _ = _; unfold plainC; rw [if_neg ha, if_pos hb]
            have HA := Lib.hid ha
            have HB := Lib.hid hb
            clear ha hb
            go_wp2_with (first | (go_at_call 84; (with_reducible refine Calls.mono (l2Arrow_ans u false (by simpa using HA.out) (Ext.self wr)) ?_); rintro e w' ⟨rfl, y1, rfl⟩) | (go_at_call 85; (with_reducible refine Calls.mono (l2Box_ans u true (by simpa using HB.out) y1) ?_); rintro e w' ⟨rfl, y2, rfl⟩))
            go_roundw
            case rel =>
              have e := flat_take_succ (f := plainC) HC.out
              rw [← HQ.out, PE.out, List.append_nil] at e
              refine ⟨k + 1, a', c', _, by go_num, rfl, by omega, by omega, ?_⟩
              rw [e]
              exact ⟨rfl, HG.out.2.ext y2⟩
            case measure => simp [intOf]; omega
          · have PE : Hid (plainC u = [u]) := by show _ = _; unfold plainC; rw [if_neg ha, if_neg hb]
            have HA := Lib.hid ha
            have HB := Lib.hid hb
            clear ha hb
            go_wp2_with (first | (go_at_call 84; (with_reducible refine Calls.mono (l2Arrow_ans u false (by simpa using HA.out) (Ext.self wr)) ?_); rintro e w' ⟨rfl, y1, rfl⟩) | (go_at_call 85; (with_reducible refine Calls.mono (l2Box_ans u false (by simpa using HB.out) y1) ?_); rintro e w' ⟨rfl, y2, rfl⟩) | (at_builtin; refine wpList_grow rfl (.tmp 31) (.tmp 36) rfl ((HG.out.2.ext y2).alloc _) rfl rfl (row_new1 _ u _ _ rfl) (by first | omega | (simp only [List.length_cons, List.length_nil]; omega)) ?_; intro a2 c2 w2 g2))
            have HG3 := Lib.hid g2
            clear g2
            go_roundw
            case rel =>
              have e := flat_take_succ (f := plainC) HC.out
              rw [← HQ.out, PE.out] at e
              refine ⟨k + 1, a2, c2, _, by go_num, rfl, by omega, by first | omega | (simp only [List.length_cons, List.length_nil]; omega), ?_⟩
              rw [e]
              exact ⟨by rw [List.length_append] <;> rfl, HG3.out⟩
            case measure => simp [intOf]; omega
      · have e : l.take k = l := List.take_of_length_le (by omega)
        have HG2 : Hid (n = (plainL l).length ∧ Grow W wr a' c' (plainL l)) := by have := HG.out; rw [e] at this; exact this
        clear e HG
        go_wp2
        go_ret
        obtain ⟨rfl, g⟩ := HG2.out
        have e : o = plainL l := by rcases HO.out with ⟨_, h⟩ | ⟨h, _⟩; exact h; exact absurd HW.out h
        subst e
        exact ⟨a', c', ⟨wr, g.bel⟩, rfl, rfl, g.own⟩
  · have HW := Lib.hid hwt
    clear hwt
    go_enter Tryd.func39, Tryd.ntmps39
    go_wp2_with fail
    refine Calls.mono (l2Type_ans hr hll false (by simpa using HW.out) yy) ?_
    rintro e w' ⟨rfl, yy, rfl⟩
    go_wp2_with fail
    go_ret
    have e : o = [] := by rcases HO.out with ⟨h, _⟩ | ⟨_, h⟩; exact absurd h HW.out; exact h
    subst e
    exact ⟨none, 0, yy, rfl, rfl, World.ownsRow_nil _ _ _ _⟩

end Go.Proofs.YteffcfaoganciaaDoor
