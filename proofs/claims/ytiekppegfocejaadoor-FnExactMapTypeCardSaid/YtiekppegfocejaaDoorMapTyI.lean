
/- What a list has in place of a grade; codes for grades. -/
import Derived.Test.YtiekppegfocejaaDoorMapTyS
import Derived.Test.YtiekppegfocejaaDoorTypeI
namespace Go.Proofs.YtiekppegfocejaaDoor
open Go.RowKit

/-- Two results, the first a number. -/
def ImgA (W : World) (v : Int) (b : Bool) : Ending → World → Prop := fun e w' => e = .returned (.tuple #[.int .i64 v, .bool b]) ∧ ∃ y : Ext W, w' = y.w

theorem imageOf_open {W : World} (a : Option Addr) (n c : Nat) (x : Ext W) : Calls Tryd.prog 78 #[.slice a n c, .int .i64 (-1)] x.w (ImgA W (-1) true) := by
  obtain ⟨yy, hyy⟩ : ∃ y : Ext W, x = y := ⟨x, rfl⟩
  rw [hyy]
  clear hyy
  go_enter Tryd.func78, Tryd.ntmps78
  go_wp2
  go_ret2
  exact ⟨rfl, yy, rfl⟩
set_option maxHeartbeats 1600000 in
theorem imageOf_ok {W : World} {a : Option Addr} {c : Nat} {f : List Int} (hr : Row W (Value.int .i64) a f) (_ : f.length ≤ 9223372036854775807) (g u : Int) (hg : 0 ≤ g) (hu : imgOf f g = some u) (x : Ext W) : Calls Tryd.prog 78 #[.slice a f.length c, .int .i64 g] x.w (ImgA W u true) := by
  obtain ⟨h1, h2, h3⟩ := imgOf_some hu
  have hlt : g.toNat < f.length := (List.getElem?_eq_some_iff.1 h1).1
  obtain ⟨k, rfl⟩ : ∃ k : Nat, g = k := ⟨g.toNat, by omega⟩
  simp only [Int.toNat_natCast] at h1 hlt
  obtain ⟨b1, o1, rfl, hc⟩ := hr.at hlt
  have c1 : ∀ y : Ext W, y.w.cell? ⟨b1, o1 + k, none⟩ = some (.int .i64 u) := fun y => y.cell (hc k u h1)
  have hlt' : (k : Int) < (f.length : Int) := by omega
  have hne : ((k : Int) == -1) = false := by rw [beq_eq_false_iff_ne]; omega
  clear hc h1 hu
  obtain ⟨yy, hyy⟩ : ∃ y : Ext W, x = y := ⟨x, rfl⟩
  rw [hyy]
  clear hyy
  go_enter Tryd.func78, Tryd.ntmps78
  go_wp2_with fail
  (with_reducible refine Calls.mono (inRange_ans k f.length true (by simp; omega) _) ?_)
  rintro e w' ⟨rfl, yy, rfl⟩
  go_wp2_with fail
  (with_reducible refine Calls.mono (inRange_ans u 16 true (by simp; omega) _) ?_)
  rintro e w' ⟨rfl, yy, rfl⟩
  go_wp2
  go_ret2
  exact ⟨rfl, yy, rfl⟩
set_option maxHeartbeats 1600000 in
theorem imageOf_bad {W : World} {a : Option Addr} {c : Nat} {f : List Int} (hr : Row W (Value.int .i64) a f) (_ : f.length ≤ 9223372036854775807) (g : Int) (hg : 0 ≤ g) (hg2 : g ≤ 1000) (hu : imgOf f g = none) (x : Ext W) : Calls Tryd.prog 78 #[.slice a f.length c, .int .i64 g] x.w (ImgA W 0 false) := by
  obtain ⟨k, rfl⟩ : ∃ k : Nat, g = k := ⟨g.toNat, by omega⟩
  have hne : ((k : Int) == -1) = false := by rw [beq_eq_false_iff_ne]; omega
  obtain ⟨yy, hyy⟩ : ∃ y : Ext W, x = y := ⟨x, rfl⟩
  rw [hyy]
  clear hyy
  rcases imgOf_none hu with h1 | ⟨u, h1, h2⟩
  · simp only [Int.toNat_natCast] at h1
    clear hu
    go_enter Tryd.func78, Tryd.ntmps78
    go_wp2_with fail
    (with_reducible refine Calls.mono (inRange_ans k f.length false (by simp; omega) _) ?_)
    rintro e w' ⟨rfl, yy, rfl⟩
    go_wp2
    go_ret2
    exact ⟨rfl, yy, rfl⟩
  · simp only [Int.toNat_natCast] at h1
    have hlt : k < f.length := (List.getElem?_eq_some_iff.1 h1).1
    obtain ⟨b1, o1, rfl, hc⟩ := hr.at hlt
    have c1 : ∀ y : Ext W, y.w.cell? ⟨b1, o1 + k, none⟩ = some (.int .i64 u) := fun y => y.cell (hc k u h1)
    have hlt' : (k : Int) < (f.length : Int) := by omega
    have H2 := Lib.hid h2
    clear hc h1 hu h2
    go_enter Tryd.func78, Tryd.ntmps78
    go_wp2_with fail
    (with_reducible refine Calls.mono (inRange_ans k f.length true (by simp; omega) _) ?_)
    rintro e w' ⟨rfl, yy, rfl⟩
    go_wp2_with fail
    (with_reducible refine Calls.mono (inRange_ans u 16 false (by refine iff_tf ?_; dsimp only; have := H2.out; omega) _) ?_)
    rintro e w' ⟨rfl, yy, rfl⟩
    go_wp2
    go_ret2
    exact ⟨rfl, yy, rfl⟩

set_option maxHeartbeats 1600000 in
theorem codeFor_ans {W : World} (m : ByteArray) (code opn parts g : Int) (hg : -1 ≤ g) (hg1 : g ≤ 100) (hc : 0 ≤ code ∧ code ≤ 100) (x : Ext W) : Calls Tryd.prog 79 #[.agg #[.string m, .int .i64 code, .int .i64 opn, .int .i64 parts, .bool true], .int .i64 g] x.w (Ans W (.int .i64 (if g = -1 then opn else code + g))) := by
  obtain ⟨hc0, hc1⟩ := hc
  have cells : ∀ (Y : World) (B : Nat), x.w.alloc (.cells #[.string m, .int .i64 code, .int .i64 opn, .int .i64 parts, .bool true] 75) = Y → x.w.heap.size = B → Y.cell? ⟨B, 1, none⟩ = some (.int .i64 code) ∧ Y.cell? ⟨B, 2, none⟩ = some (.int .i64 opn) ∧ Y.cell? ⟨B, 4, none⟩ = some (.bool true) := fun Y B h1 h2 => by
    subst h1; subst h2
    refine ⟨?_, ?_, ?_⟩ <;> rw [World.cell?_alloc_at _ _ _ _ rfl] <;> rfl
  by_cases h : g = -1
  · subst h
    rw [if_pos rfl]
    go_enter Tryd.func79, Tryd.ntmps79
    go_wp2
    go_ret
    exact ⟨rfl, x.alloc _, rfl⟩
  · rw [if_neg h]
    have f : (g == -1) = false := by simpa using h
    clear h
    go_enter Tryd.func79, Tryd.ntmps79
    go_wp2
    go_ret
    exact ⟨rfl, x.alloc _, rfl⟩

end Go.Proofs.YtiekppegfocejaaDoor
