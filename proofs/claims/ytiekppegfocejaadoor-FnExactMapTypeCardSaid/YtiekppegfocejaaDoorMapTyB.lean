
/- MapType of the program; the model's helpers. -/
import Derived.Test.YtiekppegfocejaaDoorMapTyA
import Derived.Test.YtiekppegfocejaaDoorTermK
namespace Go.Proofs.YtiekppegfocejaaDoor
open Go.RowKit

theorem rule16 {l : List Int} : RuleP 16 true l ↔ WT l := by
  unfold RuleP
  refine ⟨fun h => h.1, fun h => ⟨h, fun u _ hg => ?_⟩⟩
  have h1 := gradeOf_ge hg
  have h2 := gradeOf_le hg
  unfold Allows
  by_cases h : gradeOf u = -1
  · exact .inr ⟨rfl, h⟩
  · exact .inl (by omega)
theorem isWrittenType_ans {W : World} (F : Forms W) {a : Option Addr} {c : Nat} {l : List Int} (hr : Row W (Value.int .i64) a l) (p : Bool) (hp : p = true ↔ WT l) (x : Ext W) :
    Calls Tryd.prog 33 #[.slice a l.length c] x.w (Ans W (.bool p)) := by
  obtain ⟨yy, hyy⟩ : ∃ y : Ext W, x = y := ⟨x, rfl⟩
  rw [hyy]
  clear hyy
  have C : ∀ y : Ext W, Calls Tryd.prog 65 #[.agg #[.int .i64 16, .bool true], .slice a l.length c] y.w (Ans W (.bool p)) := fun y => allowsType_ans F hr 16 true p (hp.trans rule16.symm) y
  clear hp
  go_enter Tryd.func33, Tryd.ntmps33
  go_wp2_with (first | (go_at_call 64; with_reducible refine Calls.mono (writtenRule_ans _) ?_; rintro e w' ⟨rfl, yy, rfl⟩) | (go_at_call 65; with_reducible refine Calls.mono (C _) ?_; rintro e w' ⟨rfl, yy, rfl⟩))
  go_ret
  exact ⟨rfl, yy, rfl⟩

set_option maxHeartbeats 1600000 in
theorem mapTypeTop_ans {W : World} (F : Forms W) {af al : Option Addr} {cf cl : Nat} {f l : List Int} (hf : Row W (Value.int .i64) af f) (hfl : f.length ≤ 9223372036854775807) (hr : Row W (Value.int .i64) al l) (o : List Int) (ho : MapTyV f l o) (x : Ext W) :
    Calls Tryd.prog 26 #[.slice af f.length cf, .slice al l.length cl] x.w (NewRow W 22 3 (Value.int .i64) o) := by
  obtain ⟨yy, hyy⟩ : ∃ y : Ext W, x = y := ⟨x, rfl⟩
  rw [hyy]
  clear hyy
  have HO := Lib.hid ho
  clear ho
  by_cases hw : WT l
  · have C : ∀ y : Ext W, Calls Tryd.prog 33 #[.slice al l.length cl] y.w (Ans W (.bool true)) := fun y => isWrittenType_ans F hr true (by simp [hw]) y
    have HW := Lib.hid hw
    have hl : l.length ≤ 1000 := by have := hw.1; omega
    clear hw
    go_enter Tryd.func26, Tryd.ntmps26
    go_wp2_with fail
    refine Calls.mono (C _) ?_
    rintro e w' ⟨rfl, yy, rfl⟩
    go_wp2_with fail
    refine Calls.mono (mapType_ans F hf hfl hr hl _) ?_
    rintro e w' (⟨xs, v, y, hx, rfl, rfl, own⟩ | ⟨hx, y, rfl, rfl⟩)
    · have HX := Lib.hid hx
      clear hx
      go_wp2
      go_ret
      have e : o = xs := by
        rcases HO.out with ⟨_, h⟩ | ⟨h, _⟩
        · rw [HX.out] at h; cases h; rfl
        · exact absurd ⟨HW.out, xs, HX.out⟩ h
      subst e
      exact ⟨_, y, rfl, rfl, own⟩
    · have HX := Lib.hid hx
      clear hx
      go_wp2
      go_ret
      have e : o = [] := by
        rcases HO.out with ⟨_, h⟩ | ⟨_, h⟩
        · rw [HX.out] at h; cases h
        · exact h
      subst e
      exact ⟨_, y, rfl, rfl, World.ownsRow_nil _ _ _ _⟩
  · have C : ∀ y : Ext W, Calls Tryd.prog 33 #[.slice al l.length cl] y.w (Ans W (.bool false)) := fun y => isWrittenType_ans F hr false (by simp [hw]) y
    have HW := Lib.hid hw
    clear hw
    go_enter Tryd.func26, Tryd.ntmps26
    go_wp2_with fail
    refine Calls.mono (C _) ?_
    rintro e w' ⟨rfl, yy, rfl⟩
    go_wp2
    go_ret
    have e : o = [] := by
      rcases HO.out with ⟨h, _⟩ | ⟨_, h⟩
      · exact absurd h HW.out
      · exact h
    subst e
    exact ⟨_, yy, rfl, rfl, World.ownsRow_nil _ _ _ _⟩

set_option maxHeartbeats 1600000 in
theorem l3Mapped_ok {W : World} {a : Option Addr} {c : Nat} {f : List Int} (hr : Row W (Value.int .i64) a f) (_hl : f.length ≤ 9223372036854775807) (g u : Int) (hg : 0 ≤ g) (hu : imgOf f g = some u) (x : Ext W) : Calls Tryd.prog 55 #[.slice a f.length c, .int .i64 g] x.w (Ans W (.bool true)) := by
  obtain ⟨h1, h2, h3⟩ := imgOf_some hu
  have hlt : g.toNat < f.length := (List.getElem?_eq_some_iff.1 h1).1
  obtain ⟨k, rfl⟩ : ∃ k : Nat, g = k := ⟨g.toNat, by omega⟩
  simp only [Int.toNat_natCast] at h1 hlt
  obtain ⟨b1, o1, rfl, hc⟩ := hr.at hlt
  have c1 : ∀ y : Ext W, y.w.cell? ⟨b1, o1 + k, none⟩ = some (.int .i64 u) := fun y => y.cell (hc k u h1)
  have hlt' : (k : Int) < (f.length : Int) := by omega
  clear hc h1 hu
  obtain ⟨yy, hyy⟩ : ∃ y : Ext W, x = y := ⟨x, rfl⟩
  rw [hyy]
  clear hyy
  go_enter Tryd.func55, Tryd.ntmps55
  go_wp2_with (go_at_call 77; with_reducible refine Calls.mono (l1In_ans u 0 15 true (by refine iff_tf ?_; dsimp only; omega) _) ?_; rintro e w' ⟨rfl, yy, rfl⟩)
  go_ret
  exact ⟨rfl, yy, rfl⟩
set_option maxHeartbeats 1600000 in
theorem l3Mapped_bad {W : World} {a : Option Addr} {c : Nat} {f : List Int} (hr : Row W (Value.int .i64) a f) (_hl : f.length ≤ 9223372036854775807) (g : Int) (hg : 0 ≤ g) (hu : imgOf f g = none) (x : Ext W) : Calls Tryd.prog 55 #[.slice a f.length c, .int .i64 g] x.w (Ans W (.bool false)) := by
  obtain ⟨k, rfl⟩ : ∃ k : Nat, g = k := ⟨g.toNat, by omega⟩
  obtain ⟨yy, hyy⟩ : ∃ y : Ext W, x = y := ⟨x, rfl⟩
  rw [hyy]
  clear hyy
  rcases imgOf_none hu with h1 | ⟨u, h1, h2⟩
  · simp only [Int.toNat_natCast] at h1
    have hlt' : decide (k < f.length) = false := by rw [decide_eq_false_iff_not]; omega
    clear hu
    go_enter Tryd.func55, Tryd.ntmps55
    go_wp2
    go_ret
    exact ⟨rfl, yy, rfl⟩
  · simp only [Int.toNat_natCast] at h1
    have hlt : k < f.length := (List.getElem?_eq_some_iff.1 h1).1
    obtain ⟨b1, o1, rfl, hc⟩ := hr.at hlt
    have c1 : ∀ y : Ext W, y.w.cell? ⟨b1, o1 + k, none⟩ = some (.int .i64 u) := fun y => y.cell (hc k u h1)
    have hlt' : (k : Int) < (f.length : Int) := by omega
    have H2 := Lib.hid h2
    clear hc h1 hu h2
    go_enter Tryd.func55, Tryd.ntmps55
    go_wp2_with (go_at_call 77; with_reducible refine Calls.mono (l1In_ans u 0 15 false (by refine iff_tf ?_; dsimp only; have := H2.out; omega) _) ?_; rintro e w' ⟨rfl, yy, rfl⟩)
    go_ret
    exact ⟨rfl, yy, rfl⟩
theorem l2Code_ans {W : World} (b : Bool) (u : Int) (h0 : 0 ≤ u) (h1 : u ≤ 1000) (x : Ext W) : Calls Tryd.prog 56 #[.bool b, .int .i64 u] x.w (Ans W (.int .i64 (if b then 3 + u else 19 + u))) := by
  have f1 : ¬ u < 0 := by omega
  cases b
  · rw [if_neg (by simp)]
    go_enter Tryd.func56, Tryd.ntmps56
    go_wp2
    go_ret
    exact ⟨rfl, x, rfl⟩
  · rw [if_pos rfl]
    go_enter Tryd.func56, Tryd.ntmps56
    go_wp2
    go_ret
    exact ⟨rfl, x, rfl⟩

end Go.Proofs.YtiekppegfocejaaDoor
