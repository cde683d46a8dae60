
/- Whether cells keep their budgets: the program. -/
import Derived.Test.YteffcfaoganciaaKCells
import Derived.Test.YteffcfaoganciaaKSysA
import Derived.Deep.Cut
namespace Go.Proofs.Yteffcfaoganciaa
open Go.RowKit

theorem fin_bool {W : World} {a v : Bool} (h : a = v) {w : World} (hz : ∃ z : Ext W, w = z.w) : Ans W (.bool v) (.returned (.bool a)) w := by
  obtain ⟨z, rfl⟩ := hz
  subst h
  exact ⟨rfl, z, rfl⟩
/-- Each cell's booked grade is below its budget, both of a system. -/
def KeepAt (s : Sys) (u : Int × Int) : Prop := (G s u.2 ∧ G s u.1) ∧ s.le u.2 u.1 = true
def KeepsP (s : Sys) (l : List (Int × Int)) : Prop := IsSys s ∧ ∀ u ∈ l, KeepAt s u
theorem keeps_take {s : Sys} {l : List (Int × Int)} {k : Nat} {u : Int × Int} (h : ∀ v ∈ l.take k, KeepAt s v) (hu : l[k]? = some u) (ku : KeepAt s u) : ∀ v ∈ l.take (k + 1), KeepAt s v := by
  have hk : k < l.length := (List.getElem?_eq_some_iff.1 hu).1
  rw [List.take_succ_eq_append_getElem hk]
  intro v hv
  rcases List.mem_append.1 hv with q | q
  · exact h v q
  · rw [List.mem_singleton.1 q]
    have := (List.getElem?_eq_some_iff.1 hu).2
    rw [this]; exact ku

set_option maxHeartbeats 8000000 in
theorem keeps_ans {W : World} {r : Ref} {s : Sys} (h : SysIn W r s) {a : Option Addr} {c : Nat} {l : List (Int × Int)} (hr : Row2 W a l) (hl : l.length ≤ 1048576) (p : Bool) (hp : p = true ↔ KeepsP s l) (x : Ext W) :
    Calls Try.prog 10 #[r.val s, .slice a l.length c] x.w (Ans W (.bool p)) := by
  have HP := Lib.hid hp
  clear hp
  unfold Ref.val
  go_enter Try.func10, Try.ntmps10
  go_wp2_with fail
  generalize hW : x.w.alloc _ = W1
  generalize hB : x.w.heap.size = B
  obtain ⟨c0, c1, c2, c3, h1, hback, yy, hy0⟩ := boxed h x hB hW
  have hr1 : Row2 W1 a l := by rw [← hW]; exact hr.ext (x.alloc _)
  clear hW hB
  rw [← hy0]
  clear hy0 hr h
  by_cases is : IsSys s
  · have C := isSystem_ans h1 true (by simp [is]) yy
    unfold Ref.val at C
    go_wp2_with (go_at_call 25; refine Calls.mono C ?_; rintro e w' ⟨rfl, uu, rfl⟩)
    clear C
    go_loopw [12] (fun i wr => ∃ k : Nat, i = .int .i64 k ∧ k ≤ l.length ∧ (∃ y : Ext W1, wr = y.w) ∧ Hid (∀ v ∈ l.take k, KeepAt s v)) (fun i _ => l.length - (intOf i).toNat)
    case atStart => exact ⟨0, rfl, by omega, ⟨uu, rfl⟩, fun v hv => by simp at hv⟩
    case round =>
      obtain ⟨k, rfl, hk, ⟨y, rfl⟩, HU⟩ := hrel
      by_cases hlt : k < l.length
      · obtain ⟨u, hu⟩ : ∃ u, l[k]? = some u := ⟨_, List.getElem?_eq_getElem hlt⟩
        have hlt' : (k : Int) < (l.length : Int) := by omega
        obtain ⟨b0, o0, rfl, K⟩ := hr1.at hlt
        obtain ⟨K0, K1⟩ := K k u hu
        have d0 : y.w.cell? ⟨b0, o0 + k * 2, none⟩ = some (.int .i64 u.1) := y.cell K0
        have d1 : y.w.cell? ⟨b0, o0 + k * 2 + 1, none⟩ = some (.int .i64 u.2) := y.cell K1
        have HK := Lib.hid hu
        clear K K0 K1 hu
        go_upto_region 6 with fail
        generalize hWc : y.w.alloc _ = Wc
        have bk := new_blk3 y.w (.cells #[.int .i64 u.1, .int .i64 u.2] 52)
        rw [hWc] at bk
        generalize y.w.heap.size = Bc at *
        have f0 : ∀ z : Ext Wc, z.w.cell? ⟨Bc, 0, none⟩ = some (.int .i64 u.1) := fun z => blk_cell (z.blk bk) 0
        have f1 : ∀ z : Ext Wc, z.w.cell? ⟨Bc, 1, none⟩ = some (.int .i64 u.2) := fun z => blk_cell (z.blk bk) 1
        obtain ⟨yc, hyc⟩ : ∃ z : Ext W1, z.w = Wc := ⟨y.alloc _, hWc⟩
        clear hWc bk d0 d1
        have e0 : ∀ z : Ext Wc, z.w.cell? ⟨B, 0, none⟩ = some (.int .i64 s.n) := fun z => by subst hyc; exact c0 (yc.trans z)
        have e1 : ∀ z : Ext Wc, z.w.cell? ⟨B, 1, none⟩ = some (.slice r.pa s.plus.length r.pc) := fun z => by subst hyc; exact c1 (yc.trans z)
        have e2 : ∀ z : Ext Wc, z.w.cell? ⟨B, 2, none⟩ = some (.slice r.ta s.times.length r.tc) := fun z => by subst hyc; exact c2 (yc.trans z)
        have e3 : ∀ z : Ext Wc, z.w.cell? ⟨B, 3, none⟩ = some (.slice r.ba s.below.length r.bc) := fun z => by subst hyc; exact c3 (yc.trans z)
        have hc : SysIn Wc r s := by subst hyc; exact h1.ext yc
        have hbc : ∀ z : Ext Wc, ∃ q : Ext W1, q.w = z.w := fun z => by subst hyc; exact ⟨yc.trans z, rfl⟩
        obtain ⟨zc, hzc⟩ : ∃ z : Ext Wc, z.w = Wc := ⟨Ext.self Wc, rfl⟩
        rw [← hzc]
        clear hzc hyc
        have BAD : ¬ KeepAt s u → p = false := fun hn => by
          cases p
          · rfl
          · exact absurd ((HP.out.1 rfl).2 u (List.mem_of_getElem? HK.out)) hn
        have IN : ∀ (g : Int) (b : Bool), (b = true ↔ 0 ≤ g ∧ g < s.n) → ∀ z : Ext Wc, Calls Try.prog 26 #[.int .i64 g, .int .i64 s.n] z.w (Ans Wc (.bool b)) := fun g b hb z => inRange_ans g s.n b hb z
        by_cases g2 : G s u.2
        · have I2 := IN u.2 true (by simp; exact g2)
          by_cases g1 : G s u.1
          · have I1 := IN u.1 true (by simp; exact g1)
            cases e : s.le u.2 u.1
            · have LL : ∀ z : Ext Wc, Calls Try.prog 27 #[.agg #[.int .i64 s.n, .slice r.pa s.plus.length r.pc, .slice r.ta s.times.length r.tc, .slice r.ba s.below.length r.bc], .int .i64 u.2, .int .i64 u.1] z.w (Ans Wc (.bool false)) := fun z => belowIn_is hc is.tab g2 g1 e z
              have HBAD : Hid (¬ KeepAt s u) := fun h => by have := h.2; rw [e] at this; cases this
              clear IN g1 g2 e hc
              go_wp2_with (first | (go_at_call 26; (first | (with_reducible refine Calls.mono (I2 _) ?_) | (with_reducible refine Calls.mono (I1 _) ?_)); rintro e w' ⟨rfl, z1, rfl⟩) | (go_at_call 27; (with_reducible refine Calls.mono (LL _) ?_); rintro e w' ⟨rfl, z1, rfl⟩))
              go_ret
              obtain ⟨q, hq⟩ := hbc z1
              obtain ⟨z, hz⟩ := hback q
              exact fin_bool (BAD HBAD.out).symm ⟨z, by rw [← hz, hq]⟩
            · have LL : ∀ z : Ext Wc, Calls Try.prog 27 #[.agg #[.int .i64 s.n, .slice r.pa s.plus.length r.pc, .slice r.ta s.times.length r.tc, .slice r.ba s.below.length r.bc], .int .i64 u.2, .int .i64 u.1] z.w (Ans Wc (.bool true)) := fun z => belowIn_is hc is.tab g2 g1 e z
              have HGOOD : Hid (KeepAt s u) := ⟨⟨g2, g1⟩, e⟩
              have hwk : IntKind.i64.wrap ((k : Int) + 1) = (k : Int) + 1 := IntWalk.i64_in _ (by omega)
              clear IN g1 g2 e hc
              go_wp2_with (first | (go_at_call 26; (first | (with_reducible refine Calls.mono (I2 _) ?_) | (with_reducible refine Calls.mono (I1 _) ?_)); rintro e w' ⟨rfl, z1, rfl⟩) | (go_at_call 27; (with_reducible refine Calls.mono (LL _) ?_); rintro e w' ⟨rfl, z1, rfl⟩))
              obtain ⟨q, hq⟩ := hbc z1
              have HQ := Lib.hid hq
              clear hq
              go_roundw
              case rel => exact ⟨k + 1, by go_num, by omega, ⟨q, HQ.out.symm⟩, keeps_take HU.out HK.out HGOOD.out⟩
              case measure => simp [intOf]; omega
          · have I1 := IN u.1 false (by rw [Bool.false_eq_true, false_iff]; exact g1)
            have HBAD : Hid (¬ KeepAt s u) := fun h => g1 h.1.2
            clear IN g1 g2 hc
            go_wp2_with (first | (go_at_call 26; (first | (with_reducible refine Calls.mono (I2 _) ?_) | (with_reducible refine Calls.mono (I1 _) ?_)); rintro e w' ⟨rfl, z1, rfl⟩) | (go_at_call 27; (with_reducible refine Calls.mono (LL _) ?_); rintro e w' ⟨rfl, z1, rfl⟩))
            go_ret
            obtain ⟨q, hq⟩ := hbc z1
            obtain ⟨z, hz⟩ := hback q
            exact fin_bool (BAD HBAD.out).symm ⟨z, by rw [← hz, hq]⟩
        · have I2 := IN u.2 false (by rw [Bool.false_eq_true, false_iff]; exact g2)
          have HBAD : Hid (¬ KeepAt s u) := fun h => g2 h.1.1
          clear IN g2 hc
          go_wp2_with (first | (go_at_call 26; (first | (with_reducible refine Calls.mono (I2 _) ?_) | (with_reducible refine Calls.mono (I1 _) ?_)); rintro e w' ⟨rfl, z1, rfl⟩) | (go_at_call 27; (with_reducible refine Calls.mono (LL _) ?_); rintro e w' ⟨rfl, z1, rfl⟩))
          go_ret
          obtain ⟨q, hq⟩ := hbc z1
          obtain ⟨z, hz⟩ := hback q
          exact fin_bool (BAD HBAD.out).symm ⟨z, by rw [← hz, hq]⟩
      · go_wp2
        go_ret
        obtain ⟨z, hz⟩ := hback y
        exact fin_bool (HP.out.2 ⟨is, fun v hv => HU.out v (by rw [List.take_of_length_le (by omega)]; exact hv)⟩).symm ⟨z, hz⟩
  · have C := isSystem_ans h1 false (by simp [is]) yy
    unfold Ref.val at C
    go_wp2_with (go_at_call 25; refine Calls.mono C ?_; rintro e w' ⟨rfl, uu, rfl⟩)
    go_ret
    obtain ⟨z, hz⟩ := hback uu
    have : p = false := by
      cases p
      · rfl
      · exact absurd (HP.out.1 rfl).1 is
    exact fin_bool this.symm ⟨z, hz⟩

end Go.Proofs.Yteffcfaoganciaa
