/- The laws' sizes of terms. -/
import Derived.Test.YtgcdgfdlkkafeaaDoorTermA
import Derived.Test.YtgcdgfdlkkafeaaDoorLawB
namespace Go.Proofs.YtgcdgfdlkkafeaaDoor
open Go.RowKit

def WtV (n : Nat) (left v : Int) : Prop := ((n : Int) ≤ left ∧ v = left - n) ∨ (left < (n : Int) ∧ v = -1)
theorem wtV_ex (n : Nat) (left : Int) : ∃ v, WtV n left v := by
  by_cases h : (n : Int) ≤ left
  · exact ⟨_, .inl ⟨h, rfl⟩⟩
  · exact ⟨_, .inr ⟨by omega, rfl⟩⟩
set_option maxHeartbeats 1600000 in
theorem szTermS_ans {W : World} {lo : Nat} {t : Tm} {r : TV} {kr : Nat → TV} (A : TmAt W lo t r kr)
    (HI : Hid (∀ kid ∈ t.kids, ∀ {W : World} {lo : Nat} {r : TV} (_ : TmIn W lo kid r) (left : Int) (_ : 0 ≤ left) (_ : left ≤ 1048576) (v : Int) (_ : WtV kid.wt left v) (x : Ext W), Calls Tryd.prog 28 #[r.val kid, .int .i64 left] x.w (Ans W (.int .i64 v))))
    (left : Int) (hl0 : 0 ≤ left) (hl1 : left ≤ 1048576) (v : Int) (hv : WtV (t.kids.length + Tm.wtL t.kids) left v) (x : Ext W) :
    Calls Tryd.prog 66 #[.slice r.b t.kids.length r.d, .int .i64 left] x.w (Ans W (.int .i64 v)) := by
  have HV := Lib.hid hv
  clear hv
  obtain ⟨ra, rc, rb, rd⟩ := r
  dsimp only
  have hlk := A.lk
  obtain ⟨yy, hyy⟩ : ∃ y : Ext W, x = y := ⟨x, rfl⟩
  rw [hyy]
  clear hyy
  by_cases hs : left < (t.kids.length : Int)
  · have hs2 : left - (t.kids.length : Int) < 0 := by omega
    go_enter Tryd.func66, Tryd.ntmps66
    go_wp2
    go_ret
    refine fin_int ?_ ⟨yy, rfl⟩
    rcases HV.out with ⟨b1, b2⟩ | ⟨b1, b2⟩ <;> omega
  · have hs2 : ¬ left - (t.kids.length : Int) < 0 := by omega
    go_enter Tryd.func66, Tryd.ntmps66
    go_wp2
    go_loopw [5, 1] (fun i q wr => ∃ k : Nat, ∃ u : Int, i = .int .i64 k ∧ q = .int .i64 u ∧ k ≤ t.kids.length ∧ 0 ≤ u ∧ u ≤ left ∧ (∃ y : Ext W, wr = y.w) ∧ Hid (u = left - t.kids.length - Tm.wtL (t.kids.take k))) (fun i _ _ => t.kids.length - (intOf i).toNat)
    case atStart => exact ⟨0, _, rfl, rfl, by omega, by omega, by omega, ⟨yy, rfl⟩, by show _ = _; simp [Tm.wtL]⟩
    case round =>
      obtain ⟨k, u, rfl, rfl, hk, hu1, hu2, ⟨yy, rfl⟩, HU⟩ := hrel
      by_cases hlt : k < t.kids.length
      · have hlt' : (k : Int) < (t.kids.length : Int) := by omega
        obtain ⟨kid, hkid⟩ : ∃ kid, t.kids[k]? = some kid := ⟨_, List.getElem?_eq_getElem hlt⟩
        have hmem : kid ∈ t.kids := List.mem_of_getElem? hkid
        have HKID := Lib.hid hkid
        obtain ⟨b0, o0, hrb, K⟩ := A.kid k kid hkid
        have hsub := A.sub k kid hkid
        dsimp only at hrb
        subst hrb
        have d0 : ∀ y : Ext W, y.w.cell? ⟨b0, o0 + k * 4, none⟩ = some (.int .i64 kid.op) := fun y => y.cell K.c0
        have d1 : ∀ y : Ext W, y.w.cell? ⟨b0, o0 + k * 4 + 1, none⟩ = some (.int .i64 kid.n) := fun y => y.cell K.c1
        have d2 : ∀ y : Ext W, y.w.cell? ⟨b0, o0 + k * 4 + 2, none⟩ = some (.slice (kr k).a kid.ty.length (kr k).c) := fun y => y.cell K.c2
        have d3 : ∀ y : Ext W, y.w.cell? ⟨b0, o0 + k * 4 + 3, none⟩ = some (.slice (kr k).b kid.kids.length (kr k).d) := fun y => y.cell K.c3
        clear K hkid
        obtain ⟨m, hm⟩ := wtV_ex kid.wt u
        have HM := Lib.hid hm
        clear hm
        have C : ∀ y : Ext W, Calls Tryd.prog 28 #[(kr k).val kid, .int .i64 u] y.w (Ans W (.int .i64 m)) := fun y => HI.out kid hmem hsub u hu1 (by omega) m HM.out y
        unfold TV.val at C
        have HMEM := Lib.hid hmem
        clear hmem hsub
        by_cases hm0 : m < 0
        · go_wp2_with (go_at_call 28; with_reducible refine Calls.mono (C _) ?_; rintro e w' ⟨rfl, yy, rfl⟩)
          go_ret
          refine fin_int ?_ ⟨yy, rfl⟩
          have h1 := Tm.wtL_take_succ HKID.out
          have h2 := Tm.wtL_take_le t.kids (k + 1)
          have h3 := HU.out
          rcases HM.out with ⟨a1, a2⟩ | ⟨a1, a2⟩
          · omega
          · rcases HV.out with ⟨b1, b2⟩ | ⟨b1, b2⟩ <;> omega
        · have hm2 : m ≤ u := by rcases HM.out with h | h <;> omega
          go_wp2_with (go_at_call 28; with_reducible refine Calls.mono (C _) ?_; rintro e w' ⟨rfl, yy, rfl⟩)
          go_roundw
          case rel =>
            refine ⟨k + 1, m, by go_num, rfl, by omega, by omega, by omega, ⟨yy, rfl⟩, ?_⟩
            have h1 := Tm.wtL_take_succ HKID.out
            have h3 := HU.out
            show _ = _
            rcases HM.out with ⟨a1, a2⟩ | ⟨a1, a2⟩ <;> omega
          case measure => simp [intOf]; omega
      · go_wp2
        go_ret
        refine fin_int ?_ ⟨yy, rfl⟩
        have h4 : t.kids.take k = t.kids := List.take_of_length_le (by omega)
        have h3 := HU.out
        rw [h4] at h3
        rcases HV.out with ⟨b1, b2⟩ | ⟨b1, b2⟩ <;> omega

set_option maxHeartbeats 1600000 in
theorem szTerm_ans (t : Tm) : ∀ {W : World} {lo : Nat} {r : TV} (_ : TmIn W lo t r) (left : Int) (_ : 0 ≤ left) (_ : left ≤ 1048576) (v : Int) (_ : WtV t.wt left v) (x : Ext W), Calls Tryd.prog 28 #[r.val t, .int .i64 left] x.w (Ans W (.int .i64 v)) := by
  induction t using Tm.ind with
  | h t ih =>
    intro W lo r h left hl0 hl1 v hv x
    have HV := Lib.hid hv
    have HI := Lib.hid ih
    clear hv ih
    obtain ⟨ra, rc, rb, rd⟩ := r
    unfold TV.val
    by_cases hs : left < (t.ty.length : Int)
    · skip
      go_enter Tryd.func28, Tryd.ntmps28
      go_wp2_with fail
      generalize hW : x.w.alloc _ = W1
      generalize hB : x.w.heap.size = B
      obtain ⟨c0, c1, c2, c3, h1, hback, yy, hy0⟩ := boxedT h x hB hW
      clear hW hB
      rw [← hy0]
      clear hy0
      obtain ⟨kr, A⟩ := h1.out
      have hlt1 := A.lt
      go_wp2_with (go_at_call 47; with_reducible refine Calls.mono (szIntS_ans _ _ t.ty left hl0 hl1 hlt1 (-1) (by rw [if_pos (by omega)]) _) ?_; rintro e w' ⟨rfl, yy, rfl⟩)
      go_ret
      refine fin_int ?_ (hback yy)
      have h3 := t.wt_eq
      rcases HV.out with ⟨b1, b2⟩ | ⟨b1, b2⟩ <;> omega
    · obtain ⟨m, hm⟩ := wtV_ex (t.kids.length + Tm.wtL t.kids) (left - t.ty.length)
      have HM := Lib.hid hm
      clear hm
      have hs2 : ¬ left - (t.ty.length : Int) < 0 := by omega
      go_enter Tryd.func28, Tryd.ntmps28
      go_wp2_with fail
      generalize hW : x.w.alloc _ = W1
      generalize hB : x.w.heap.size = B
      obtain ⟨c0, c1, c2, c3, h1, hback, yy, hy0⟩ := boxedT h x hB hW
      clear hW hB
      rw [← hy0]
      clear hy0
      obtain ⟨kr, A⟩ := h1.out
      have hlt1 := A.lt
      by_cases hm0 : m < 0
      · go_wp2_with (first | (go_at_call 47; with_reducible refine Calls.mono (szIntS_ans _ _ t.ty left hl0 hl1 hlt1 (left - t.ty.length) (by rw [if_neg (by omega)]) _) ?_; rintro e w' ⟨rfl, yy, rfl⟩) | (go_at_call 66; with_reducible refine Calls.mono (szTermS_ans A HI (left - t.ty.length) (by omega) (by omega) m HM.out _) ?_; rintro e w' ⟨rfl, yy, rfl⟩))
        go_ret
        refine fin_int ?_ (hback yy)
        have h3 := t.wt_eq
        rcases HM.out with ⟨a1, a2⟩ | ⟨a1, a2⟩
        · omega
        · rcases HV.out with ⟨b1, b2⟩ | ⟨b1, b2⟩ <;> omega
      · go_wp2_with (first | (go_at_call 47; with_reducible refine Calls.mono (szIntS_ans _ _ t.ty left hl0 hl1 hlt1 (left - t.ty.length) (by rw [if_neg (by omega)]) _) ?_; rintro e w' ⟨rfl, yy, rfl⟩) | (go_at_call 66; with_reducible refine Calls.mono (szTermS_ans A HI (left - t.ty.length) (by omega) (by omega) m HM.out _) ?_; rintro e w' ⟨rfl, yy, rfl⟩))
        go_ret
        refine fin_int ?_ (hback yy)
        have h3 := t.wt_eq
        rcases HM.out with ⟨a1, a2⟩ | ⟨a1, a2⟩
        · rcases HV.out with ⟨b1, b2⟩ | ⟨b1, b2⟩ <;> omega
        · omega

end Go.Proofs.YtgcdgfdlkkafeaaDoor
