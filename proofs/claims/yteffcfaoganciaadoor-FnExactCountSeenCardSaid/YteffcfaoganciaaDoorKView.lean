
/- The program's parts of the test of a view. -/
import Derived.Test.YteffcfaoganciaaDoorGB
import Derived.Test.YteffcfaoganciaaDoorKViewSpec
set_option linter.unusedVariables false
set_option linter.unusedSimpArgs false
namespace Go.Proofs.YteffcfaoganciaaDoor
open Go.RowKit

theorem has_is {W : World} {S : Nat} {g : Int} {v : Bool} (hS : S < 65536) (hg : 0 ≤ g ∧ g < 16) (hv : bitI S g = v) (x : Ext W) :
    Calls Tryd.prog 125 #[.int .u32 S, .int .i64 g] x.w (Ans W (.bool v)) := by
  obtain ⟨n, rfl⟩ := Int.eq_ofNat_of_zero_le hg.1
  subst hv
  have e : ((n : Int).toNat) = n := by omega
  unfold bitI
  rw [e]
  exact has_ans S n hS (by omega) x

set_option maxHeartbeats 1600000 in
theorem setOf_ans {W : World} {a : Option Addr} {c : Nat} {l : List Int} (hr : Row W (Value.int .i64) a l) (_hl : l.length ≤ 1099511627776) (hg : ∀ g ∈ l, 0 ≤ g ∧ g < 16) (x : Ext W) :
    Calls Tryd.prog 78 #[.slice a l.length c] x.w (Ans W (.int .u32 (setL l))) := by
  have HG := Lib.hid hg
  clear hg
  obtain ⟨yy, hx⟩ : ∃ y : Ext W, y.w = x.w := ⟨x, rfl⟩
  go_enter Tryd.func78, Tryd.ntmps78
  go_wp2
  rw [← hx]
  clear hx
  go_loopw [8, 3] (fun i v wr => ∃ k S : Nat, i = .int .i64 k ∧ v = .int .u32 S ∧ k ≤ l.length ∧ (∃ y : Ext W, wr = y.w) ∧ Hid (S = setL (l.take k))) (fun i _ _ => l.length - (intOf i).toNat)
  case atStart => exact ⟨0, 0, rfl, rfl, by omega, ⟨yy, rfl⟩, rfl⟩
  case round =>
    obtain ⟨k, S, rfl, rfl, hk, ⟨yy, rfl⟩, hS⟩ := hrel
    by_cases hlt : k < l.length
    · obtain ⟨b1, o1, rfl, hc⟩ := (hr.ext yy).at hlt
      have hcell0 := hc k _ (List.getElem?_eq_getElem hlt)
      have HK : Hid (l[k]? = some l[k]) := List.getElem?_eq_getElem hlt
      have hu := HG.out _ (List.getElem_mem hlt)
      have hS16 : S < 65536 := by rw [hS.out]; exact setL_lt _ (fun g hg => HG.out g (List.mem_of_mem_take hg))
      clear hc
      generalize l[k] = u at *
      obtain ⟨m, rfl⟩ := Int.eq_ofNat_of_zero_le hu.1
      have hm : m < 16 := by omega
      have hor := or_bit (k := m) hS16 hm
      clear hu
      go_wp2
      go_roundw
      case rel => exact ⟨k + 1, S ||| 2 ^ m, by go_num, rfl, by omega, ⟨yy, rfl⟩, by unfold Hid; rw [setL_take HK.out, hS.out]; rfl⟩
      case measure => simp [intOf]; omega
    · go_wp2
      go_ret
      refine fin_int ?_ ⟨yy, rfl⟩
      rw [hS.out, List.take_of_length_le (by omega)]

set_option maxHeartbeats 1600000 in
theorem isAscending_ans {W : World} {a : Option Addr} {c : Nat} {l : List Int} (hr : Row W (Value.int .i64) a l) (_hl : l.length ≤ 1099511627776) (n : Int) (p : Bool) (hp : p = true ↔ AscP n l) (x : Ext W) :
    Calls Tryd.prog 120 #[.slice a l.length c, .int .i64 n] x.w (Ans W (.bool p)) := by
  have HP := Lib.hid hp
  clear hp
  obtain ⟨yy, hx⟩ : ∃ y : Ext W, y.w = x.w := ⟨x, rfl⟩
  go_enter Tryd.func120, Tryd.ntmps120
  go_wp2
  rw [← hx]
  clear hx
  go_loopw [9] (fun i wr => ∃ k : Nat, i = .int .i64 k ∧ k ≤ l.length ∧ (∃ y : Ext W, wr = y.w) ∧ Hid (AscP n (l.take k))) (fun i _ => l.length - (intOf i).toNat)
  case atStart => exact ⟨0, rfl, by omega, ⟨yy, rfl⟩, fun i g h => by simp at h⟩
  case round =>
    obtain ⟨k, rfl, hk, ⟨yy, rfl⟩, hU⟩ := hrel
    by_cases hlt : k < l.length
    · obtain ⟨b1, o1, rfl, hc⟩ := hr.at hlt
      have hcell : ∀ y : Ext W, y.w.cell? ⟨b1, o1 + k, none⟩ = some (.int .i64 l[k]) := fun y => y.cell (hc k _ (List.getElem?_eq_getElem hlt))
      have HK : Hid (l[k]? = some l[k]) := List.getElem?_eq_getElem hlt
      have HC := Lib.hid hc
      clear hc
      generalize l[k] = u at *
      by_cases e1 : 0 ≤ u ∧ u < n
      · have E1 := Lib.hid e1
        clear e1
        by_cases k0 : k = 0
        · have hk0 : (k : Int) ≤ 0 := by omega
          have K0 := Lib.hid k0
          clear k0
          go_wp2_with (go_at_call 112; with_reducible refine Calls.mono (inRange_ans u n true (by simp only [true_iff]; exact E1.out) yy) ?_; rintro e w' ⟨rfl, yy, rfl⟩)
          go_roundw
          case rel =>
            have hk00 := K0.out
            refine ⟨k + 1, by go_num, by omega, ⟨yy, rfl⟩, fun i g hg => ?_⟩
            have hi : i < k + 1 := by
              by_cases hi : i < k + 1
              · exact hi
              · rw [List.getElem?_take_eq_none (by omega)] at hg; cases hg
            obtain rfl : i = k := by omega
            rw [List.getElem?_take_of_lt (by omega), HK.out] at hg
            cases hg
            exact ⟨E1.out, fun j f hj _ => by omega⟩
          case measure => simp [intOf]; omega
        · obtain ⟨m, rfl⟩ : ∃ m, k = m + 1 := ⟨k - 1, by omega⟩
          have hltm : m < l.length := by omega
          have hcellm : ∀ y : Ext W, y.w.cell? ⟨b1, o1 + m, none⟩ = some (.int .i64 l[m]) := fun y => y.cell (HC.out m _ (List.getElem?_eq_getElem hltm))
          have HM : Hid (l[m]? = some l[m]) := List.getElem?_eq_getElem hltm
          generalize l[m] = f at *
          by_cases e2 : u ≤ f
          · go_wp2_with (go_at_call 112; with_reducible refine Calls.mono (inRange_ans u n true (by simp only [true_iff]; exact E1.out) yy) ?_; rintro e w' ⟨rfl, yy, rfl⟩)
            go_ret
            exact fin_false HP (fun q => by have := (q (m + 1) u HK.out).2 m f rfl HM.out; omega) ⟨yy, rfl⟩
          · go_wp2_with (go_at_call 112; with_reducible refine Calls.mono (inRange_ans u n true (by simp only [true_iff]; exact E1.out) yy) ?_; rintro e w' ⟨rfl, yy, rfl⟩)
            go_roundw
            case rel =>
              refine ⟨m + 1 + 1, by go_num, by omega, ⟨yy, rfl⟩, fun i g hg => ?_⟩
              have hi : i < m + 1 + 1 := by
                by_cases hi : i < m + 1 + 1
                · exact hi
                · rw [List.getElem?_take_eq_none (by omega)] at hg; cases hg
              rw [List.getElem?_take_of_lt hi] at hg
              by_cases e : i = m + 1
              · subst e
                rw [HK.out] at hg
                cases hg
                refine ⟨E1.out, fun j f' hj hf' => ?_⟩
                obtain rfl : j = m := by omega
                rw [List.getElem?_take_of_lt (by omega), HM.out] at hf'
                cases hf'
                omega
              · have := hU.out i g (by rw [List.getElem?_take_of_lt (by omega)]; exact hg)
                refine ⟨this.1, fun j f' hj hf' => this.2 j f' hj ?_⟩
                rw [List.getElem?_take_of_lt (by omega)] at hf' ⊢
                exact hf'
            case measure => simp [intOf]; omega
      · have E1 := Lib.hid e1
        clear e1
        go_wp2_with (go_at_call 112; with_reducible refine Calls.mono (inRange_ans u n false (by simp only [Bool.false_eq_true, false_iff]; exact E1.out) yy) ?_; rintro e w' ⟨rfl, yy, rfl⟩)
        go_ret
        exact fin_false HP (fun q => E1.out (q k u HK.out).1) ⟨yy, rfl⟩
    · go_wp2
      go_ret
      refine fin_true HP ?_ ⟨yy, rfl⟩
      have := hU.out
      rw [List.take_of_length_le (by omega)] at this
      exact this

set_option maxHeartbeats 8000000 in
theorem isViewSet_ans {W : World} {r : Ref} {s : Sys} (h : SysIn W r s) (t : Tables s) {S : Nat} (hS : S < 65536) (p : Bool) (hp : p = true ↔ ViewP s (fun g => bitI S g = true)) (x : Ext W) :
    Calls Tryd.prog 121 #[r.val s, .int .u32 S] x.w (Ans W (.bool p)) := by
  have HP := Lib.hid hp
  clear hp
  have h2 := t.lo
  have h16 := t.hi
  unfold Ref.val
  go_enter Tryd.func121, Tryd.ntmps121
  go_wp2_with fail
  generalize hW : x.w.alloc _ = W1
  generalize hB : x.w.heap.size = B
  obtain ⟨c0, c1, c2, c3, h1, hback, yy, hy0⟩ := boxed h x hB hW
  clear hW hB
  rw [← hy0]
  clear hy0
  have j0 : (0 : Int) ≤ 0 ∧ (0 : Int) < 16 := by omega
  have j1 : (0 : Int) ≤ 1 ∧ (1 : Int) < 16 := by omega
  cases h1b : bitI S 1
  · have H1 := Lib.hid h1b
    go_wp2_with (first | (go_at_call 125; with_reducible refine Calls.mono (has_is hS (by assumption) (by assumption) _) ?_; rintro e w' ⟨rfl, yy, rfl⟩) | (go_at_call 161; with_reducible refine Calls.mono (sumIn_ans h1 t (by assumption) (by assumption) _) ?_; rintro e w' ⟨rfl, yy, rfl⟩) | (go_at_call 162; with_reducible refine Calls.mono (productIn_ans h1 t (by assumption) (by assumption) _) ?_; rintro e w' ⟨rfl, yy, rfl⟩) | (go_at_call 163; with_reducible refine Calls.mono (belowIn_is h1 t (by assumption) (by assumption) (by assumption) _) ?_; rintro e w' ⟨rfl, yy, rfl⟩))
    go_ret
    exact fin_false HP (fun q => by have this : bitI S 1 = true := q.1.1; rw [H1.out] at this; cases this) (hback yy)
  · have H1 := Lib.hid h1b
    cases h0b : bitI S 0
    · have H0 := Lib.hid h0b
      go_wp2_with (first | (go_at_call 125; with_reducible refine Calls.mono (has_is hS (by assumption) (by assumption) _) ?_; rintro e w' ⟨rfl, yy, rfl⟩) | (go_at_call 161; with_reducible refine Calls.mono (sumIn_ans h1 t (by assumption) (by assumption) _) ?_; rintro e w' ⟨rfl, yy, rfl⟩) | (go_at_call 162; with_reducible refine Calls.mono (productIn_ans h1 t (by assumption) (by assumption) _) ?_; rintro e w' ⟨rfl, yy, rfl⟩) | (go_at_call 163; with_reducible refine Calls.mono (belowIn_is h1 t (by assumption) (by assumption) (by assumption) _) ?_; rintro e w' ⟨rfl, yy, rfl⟩))
      go_loopw [16] (fun i wr => ∃ k : Nat, i = .int .i64 k ∧ (k : Int) ≤ s.n ∧ (∃ y : Ext W1, wr = y.w) ∧ Hid (Upto k (ViewAt s (fun g => bitI S g = true)))) (fun i _ => (s.n - intOf i).toNat)
      case atStart => exact ⟨0, rfl, by omega, ⟨yy, rfl⟩, Upto.zero _⟩
      case round =>
        obtain ⟨k, rfl, hk, ⟨yy, rfl⟩, hUk⟩ := hrel
        by_cases hltk : (k : Int) < s.n
        · have hGk : G s k := ⟨by omega, hltk⟩
          go_wp2_with fail
          go_loopw [21] (fun i wr => ∃ j : Nat, i = .int .i64 j ∧ (j : Int) ≤ s.n ∧ (∃ y : Ext W1, wr = y.w) ∧ Hid (Upto j (ViewAt1 s (fun g => bitI S g = true) k))) (fun i _ => (s.n - intOf i).toNat)
          case atStart => exact ⟨0, rfl, by omega, ⟨yy, rfl⟩, Upto.zero _⟩
          case round =>
            obtain ⟨j, rfl, hj, ⟨yy, rfl⟩, hUj⟩ := hrel
            by_cases hltj : (j : Int) < s.n
            · have hGj : G s j := ⟨by omega, hltj⟩
              have g1 := t.addG hGk hGj
              have g2 := t.mulG hGk hGj
              have i1 : 0 ≤ s.add k j ∧ s.add k j < 16 := ⟨g1.1, by have := g1.2; omega⟩
              have i2 : 0 ≤ s.mul k j ∧ s.mul k j < 16 := ⟨g2.1, by have := g2.2; omega⟩
              have i3 : 0 ≤ (k : Int) ∧ (k : Int) < 16 := by omega
              have i4 : 0 ≤ (j : Int) ∧ (j : Int) < 16 := by omega
              cases hA : bitI S k
              · have HA := Lib.hid hA
                cases hB : bitI S j
                · have HB := Lib.hid hB
                  cases hX : bitI S (s.add k j)
                  · have HX := Lib.hid hX
                    cases hY : bitI S (s.mul k j)
                    · have HY := Lib.hid hY
                      go_wp2_with (first | (go_at_call 125; with_reducible refine Calls.mono (has_is hS (by assumption) (by assumption) _) ?_; rintro e w' ⟨rfl, yy, rfl⟩) | (go_at_call 161; with_reducible refine Calls.mono (sumIn_ans h1 t (by assumption) (by assumption) _) ?_; rintro e w' ⟨rfl, yy, rfl⟩) | (go_at_call 162; with_reducible refine Calls.mono (productIn_ans h1 t (by assumption) (by assumption) _) ?_; rintro e w' ⟨rfl, yy, rfl⟩) | (go_at_call 163; with_reducible refine Calls.mono (belowIn_is h1 t (by assumption) (by assumption) (by assumption) _) ?_; rintro e w' ⟨rfl, yy, rfl⟩))
                      go_roundw
                      case rel => exact ⟨j + 1, by go_num, by omega, ⟨yy, rfl⟩, hUj.out.succ (⟨by simp [HA.out, HB.out, HX.out], by simp [HA.out, HB.out, HY.out], fun (u : bitI S k = true) => (by rw [HA.out] at u; cases u)⟩)⟩
                      case measure => simp [intOf]; omega
                    · have HY := Lib.hid hY
                      go_wp2_with (first | (go_at_call 125; with_reducible refine Calls.mono (has_is hS (by assumption) (by assumption) _) ?_; rintro e w' ⟨rfl, yy, rfl⟩) | (go_at_call 161; with_reducible refine Calls.mono (sumIn_ans h1 t (by assumption) (by assumption) _) ?_; rintro e w' ⟨rfl, yy, rfl⟩) | (go_at_call 162; with_reducible refine Calls.mono (productIn_ans h1 t (by assumption) (by assumption) _) ?_; rintro e w' ⟨rfl, yy, rfl⟩) | (go_at_call 163; with_reducible refine Calls.mono (belowIn_is h1 t (by assumption) (by assumption) (by assumption) _) ?_; rintro e w' ⟨rfl, yy, rfl⟩))
                      go_ret
                      exact fin_false HP (fun q => (by have := ((q.2 k hGk) j hGj).2.1; simp only [HA.out, HB.out, HY.out] at this; simp at this)) (hback yy)
                  · have HX := Lib.hid hX
                    go_wp2_with (first | (go_at_call 125; with_reducible refine Calls.mono (has_is hS (by assumption) (by assumption) _) ?_; rintro e w' ⟨rfl, yy, rfl⟩) | (go_at_call 161; with_reducible refine Calls.mono (sumIn_ans h1 t (by assumption) (by assumption) _) ?_; rintro e w' ⟨rfl, yy, rfl⟩) | (go_at_call 162; with_reducible refine Calls.mono (productIn_ans h1 t (by assumption) (by assumption) _) ?_; rintro e w' ⟨rfl, yy, rfl⟩) | (go_at_call 163; with_reducible refine Calls.mono (belowIn_is h1 t (by assumption) (by assumption) (by assumption) _) ?_; rintro e w' ⟨rfl, yy, rfl⟩))
                    go_ret
                    exact fin_false HP (fun q => (by have := ((q.2 k hGk) j hGj).1; simp only [HA.out, HB.out, HX.out] at this; simp at this)) (hback yy)
                · have HB := Lib.hid hB
                  cases hX : bitI S (s.add k j)
                  · have HX := Lib.hid hX
                    go_wp2_with (first | (go_at_call 125; with_reducible refine Calls.mono (has_is hS (by assumption) (by assumption) _) ?_; rintro e w' ⟨rfl, yy, rfl⟩) | (go_at_call 161; with_reducible refine Calls.mono (sumIn_ans h1 t (by assumption) (by assumption) _) ?_; rintro e w' ⟨rfl, yy, rfl⟩) | (go_at_call 162; with_reducible refine Calls.mono (productIn_ans h1 t (by assumption) (by assumption) _) ?_; rintro e w' ⟨rfl, yy, rfl⟩) | (go_at_call 163; with_reducible refine Calls.mono (belowIn_is h1 t (by assumption) (by assumption) (by assumption) _) ?_; rintro e w' ⟨rfl, yy, rfl⟩))
                    go_ret
                    exact fin_false HP (fun q => (by have := ((q.2 k hGk) j hGj).1; simp only [HA.out, HB.out, HX.out] at this; simp at this)) (hback yy)
                  · have HX := Lib.hid hX
                    cases hY : bitI S (s.mul k j)
                    · have HY := Lib.hid hY
                      go_wp2_with (first | (go_at_call 125; with_reducible refine Calls.mono (has_is hS (by assumption) (by assumption) _) ?_; rintro e w' ⟨rfl, yy, rfl⟩) | (go_at_call 161; with_reducible refine Calls.mono (sumIn_ans h1 t (by assumption) (by assumption) _) ?_; rintro e w' ⟨rfl, yy, rfl⟩) | (go_at_call 162; with_reducible refine Calls.mono (productIn_ans h1 t (by assumption) (by assumption) _) ?_; rintro e w' ⟨rfl, yy, rfl⟩) | (go_at_call 163; with_reducible refine Calls.mono (belowIn_is h1 t (by assumption) (by assumption) (by assumption) _) ?_; rintro e w' ⟨rfl, yy, rfl⟩))
                      go_roundw
                      case rel => exact ⟨j + 1, by go_num, by omega, ⟨yy, rfl⟩, hUj.out.succ (⟨by simp [HA.out, HB.out, HX.out], by simp [HA.out, HB.out, HY.out], fun (u : bitI S k = true) => (by rw [HA.out] at u; cases u)⟩)⟩
                      case measure => simp [intOf]; omega
                    · have HY := Lib.hid hY
                      go_wp2_with (first | (go_at_call 125; with_reducible refine Calls.mono (has_is hS (by assumption) (by assumption) _) ?_; rintro e w' ⟨rfl, yy, rfl⟩) | (go_at_call 161; with_reducible refine Calls.mono (sumIn_ans h1 t (by assumption) (by assumption) _) ?_; rintro e w' ⟨rfl, yy, rfl⟩) | (go_at_call 162; with_reducible refine Calls.mono (productIn_ans h1 t (by assumption) (by assumption) _) ?_; rintro e w' ⟨rfl, yy, rfl⟩) | (go_at_call 163; with_reducible refine Calls.mono (belowIn_is h1 t (by assumption) (by assumption) (by assumption) _) ?_; rintro e w' ⟨rfl, yy, rfl⟩))
                      go_ret
                      exact fin_false HP (fun q => (by have := ((q.2 k hGk) j hGj).2.1; simp only [HA.out, HB.out, HY.out] at this; simp at this)) (hback yy)
              · have HA := Lib.hid hA
                cases hB : bitI S j
                · have HB := Lib.hid hB
                  cases hX : bitI S (s.add k j)
                  · have HX := Lib.hid hX
                    go_wp2_with (first | (go_at_call 125; with_reducible refine Calls.mono (has_is hS (by assumption) (by assumption) _) ?_; rintro e w' ⟨rfl, yy, rfl⟩) | (go_at_call 161; with_reducible refine Calls.mono (sumIn_ans h1 t (by assumption) (by assumption) _) ?_; rintro e w' ⟨rfl, yy, rfl⟩) | (go_at_call 162; with_reducible refine Calls.mono (productIn_ans h1 t (by assumption) (by assumption) _) ?_; rintro e w' ⟨rfl, yy, rfl⟩) | (go_at_call 163; with_reducible refine Calls.mono (belowIn_is h1 t (by assumption) (by assumption) (by assumption) _) ?_; rintro e w' ⟨rfl, yy, rfl⟩))
                    go_ret
                    exact fin_false HP (fun q => (by have := ((q.2 k hGk) j hGj).1; simp only [HA.out, HB.out, HX.out] at this; simp at this)) (hback yy)
                  · have HX := Lib.hid hX
                    cases hY : bitI S (s.mul k j)
                    · have HY := Lib.hid hY
                      cases hL : s.le k j
                      · have HL := Lib.hid hL
                        go_wp2_with (first | (go_at_call 125; with_reducible refine Calls.mono (has_is hS (by assumption) (by assumption) _) ?_; rintro e w' ⟨rfl, yy, rfl⟩) | (go_at_call 161; with_reducible refine Calls.mono (sumIn_ans h1 t (by assumption) (by assumption) _) ?_; rintro e w' ⟨rfl, yy, rfl⟩) | (go_at_call 162; with_reducible refine Calls.mono (productIn_ans h1 t (by assumption) (by assumption) _) ?_; rintro e w' ⟨rfl, yy, rfl⟩) | (go_at_call 163; with_reducible refine Calls.mono (belowIn_is h1 t (by assumption) (by assumption) (by assumption) _) ?_; rintro e w' ⟨rfl, yy, rfl⟩))
                        go_roundw
                        case rel => exact ⟨j + 1, by go_num, by omega, ⟨yy, rfl⟩, hUj.out.succ (⟨by simp [HA.out, HB.out, HX.out], by simp [HA.out, HB.out, HY.out], fun _ u => (by rw [HL.out] at u; cases u)⟩)⟩
                        case measure => simp [intOf]; omega
                      · have HL := Lib.hid hL
                        go_wp2_with (first | (go_at_call 125; with_reducible refine Calls.mono (has_is hS (by assumption) (by assumption) _) ?_; rintro e w' ⟨rfl, yy, rfl⟩) | (go_at_call 161; with_reducible refine Calls.mono (sumIn_ans h1 t (by assumption) (by assumption) _) ?_; rintro e w' ⟨rfl, yy, rfl⟩) | (go_at_call 162; with_reducible refine Calls.mono (productIn_ans h1 t (by assumption) (by assumption) _) ?_; rintro e w' ⟨rfl, yy, rfl⟩) | (go_at_call 163; with_reducible refine Calls.mono (belowIn_is h1 t (by assumption) (by assumption) (by assumption) _) ?_; rintro e w' ⟨rfl, yy, rfl⟩))
                        go_ret
                        exact fin_false HP (fun q => (by have this : bitI S j = true := ((q.2 k hGk) j hGj).2.2 HA.out HL.out; rw [HB.out] at this; cases this)) (hback yy)
                    · have HY := Lib.hid hY
                      go_wp2_with (first | (go_at_call 125; with_reducible refine Calls.mono (has_is hS (by assumption) (by assumption) _) ?_; rintro e w' ⟨rfl, yy, rfl⟩) | (go_at_call 161; with_reducible refine Calls.mono (sumIn_ans h1 t (by assumption) (by assumption) _) ?_; rintro e w' ⟨rfl, yy, rfl⟩) | (go_at_call 162; with_reducible refine Calls.mono (productIn_ans h1 t (by assumption) (by assumption) _) ?_; rintro e w' ⟨rfl, yy, rfl⟩) | (go_at_call 163; with_reducible refine Calls.mono (belowIn_is h1 t (by assumption) (by assumption) (by assumption) _) ?_; rintro e w' ⟨rfl, yy, rfl⟩))
                      go_ret
                      exact fin_false HP (fun q => (by have := ((q.2 k hGk) j hGj).2.1; simp only [HA.out, HB.out, HY.out] at this; simp at this)) (hback yy)
                · have HB := Lib.hid hB
                  cases hX : bitI S (s.add k j)
                  · have HX := Lib.hid hX
                    go_wp2_with (first | (go_at_call 125; with_reducible refine Calls.mono (has_is hS (by assumption) (by assumption) _) ?_; rintro e w' ⟨rfl, yy, rfl⟩) | (go_at_call 161; with_reducible refine Calls.mono (sumIn_ans h1 t (by assumption) (by assumption) _) ?_; rintro e w' ⟨rfl, yy, rfl⟩) | (go_at_call 162; with_reducible refine Calls.mono (productIn_ans h1 t (by assumption) (by assumption) _) ?_; rintro e w' ⟨rfl, yy, rfl⟩) | (go_at_call 163; with_reducible refine Calls.mono (belowIn_is h1 t (by assumption) (by assumption) (by assumption) _) ?_; rintro e w' ⟨rfl, yy, rfl⟩))
                    go_ret
                    exact fin_false HP (fun q => (by have := ((q.2 k hGk) j hGj).1; simp only [HA.out, HB.out, HX.out] at this; simp at this)) (hback yy)
                  · have HX := Lib.hid hX
                    cases hY : bitI S (s.mul k j)
                    · have HY := Lib.hid hY
                      go_wp2_with (first | (go_at_call 125; with_reducible refine Calls.mono (has_is hS (by assumption) (by assumption) _) ?_; rintro e w' ⟨rfl, yy, rfl⟩) | (go_at_call 161; with_reducible refine Calls.mono (sumIn_ans h1 t (by assumption) (by assumption) _) ?_; rintro e w' ⟨rfl, yy, rfl⟩) | (go_at_call 162; with_reducible refine Calls.mono (productIn_ans h1 t (by assumption) (by assumption) _) ?_; rintro e w' ⟨rfl, yy, rfl⟩) | (go_at_call 163; with_reducible refine Calls.mono (belowIn_is h1 t (by assumption) (by assumption) (by assumption) _) ?_; rintro e w' ⟨rfl, yy, rfl⟩))
                      go_ret
                      exact fin_false HP (fun q => (by have := ((q.2 k hGk) j hGj).2.1; simp only [HA.out, HB.out, HY.out] at this; simp at this)) (hback yy)
                    · have HY := Lib.hid hY
                      cases hL : s.le k j
                      · have HL := Lib.hid hL
                        go_wp2_with (first | (go_at_call 125; with_reducible refine Calls.mono (has_is hS (by assumption) (by assumption) _) ?_; rintro e w' ⟨rfl, yy, rfl⟩) | (go_at_call 161; with_reducible refine Calls.mono (sumIn_ans h1 t (by assumption) (by assumption) _) ?_; rintro e w' ⟨rfl, yy, rfl⟩) | (go_at_call 162; with_reducible refine Calls.mono (productIn_ans h1 t (by assumption) (by assumption) _) ?_; rintro e w' ⟨rfl, yy, rfl⟩) | (go_at_call 163; with_reducible refine Calls.mono (belowIn_is h1 t (by assumption) (by assumption) (by assumption) _) ?_; rintro e w' ⟨rfl, yy, rfl⟩))
                        go_roundw
                        case rel => exact ⟨j + 1, by go_num, by omega, ⟨yy, rfl⟩, hUj.out.succ (⟨by simp [HA.out, HB.out, HX.out], by simp [HA.out, HB.out, HY.out], fun _ _ => HB.out⟩)⟩
                        case measure => simp [intOf]; omega
                      · have HL := Lib.hid hL
                        go_wp2_with (first | (go_at_call 125; with_reducible refine Calls.mono (has_is hS (by assumption) (by assumption) _) ?_; rintro e w' ⟨rfl, yy, rfl⟩) | (go_at_call 161; with_reducible refine Calls.mono (sumIn_ans h1 t (by assumption) (by assumption) _) ?_; rintro e w' ⟨rfl, yy, rfl⟩) | (go_at_call 162; with_reducible refine Calls.mono (productIn_ans h1 t (by assumption) (by assumption) _) ?_; rintro e w' ⟨rfl, yy, rfl⟩) | (go_at_call 163; with_reducible refine Calls.mono (belowIn_is h1 t (by assumption) (by assumption) (by assumption) _) ?_; rintro e w' ⟨rfl, yy, rfl⟩))
                        go_roundw
                        case rel => exact ⟨j + 1, by go_num, by omega, ⟨yy, rfl⟩, hUj.out.succ (⟨by simp [HA.out, HB.out, HX.out], by simp [HA.out, HB.out, HY.out], fun _ _ => HB.out⟩)⟩
                        case measure => simp [intOf]; omega
            · go_wp2
              go_roundw
              case rel => exact ⟨k + 1, by go_num, by omega, ⟨yy, rfl⟩, hUk.out.succ (hUj.out.all _ (by omega))⟩
              case measure => simp [intOf]; omega
        · go_wp2
          go_ret
          exact fin_true HP (⟨⟨H1.out, fun (u : bitI S 0 = true) => (by rw [H0.out] at u; cases u)⟩, hUk.out.all _ (by omega)⟩) (hback yy)
    · have H0 := Lib.hid h0b
      go_wp2_with (first | (go_at_call 125; with_reducible refine Calls.mono (has_is hS (by assumption) (by assumption) _) ?_; rintro e w' ⟨rfl, yy, rfl⟩) | (go_at_call 161; with_reducible refine Calls.mono (sumIn_ans h1 t (by assumption) (by assumption) _) ?_; rintro e w' ⟨rfl, yy, rfl⟩) | (go_at_call 162; with_reducible refine Calls.mono (productIn_ans h1 t (by assumption) (by assumption) _) ?_; rintro e w' ⟨rfl, yy, rfl⟩) | (go_at_call 163; with_reducible refine Calls.mono (belowIn_is h1 t (by assumption) (by assumption) (by assumption) _) ?_; rintro e w' ⟨rfl, yy, rfl⟩))
      go_ret
      exact fin_false HP (fun q => q.1.2 H0.out) (hback yy)

end Go.Proofs.YteffcfaoganciaaDoor
