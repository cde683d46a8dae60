
/- Walks over terms. -/
import Derived.Test.YtiekppegfocejaaDoorTermSpec
import Derived.Test.YtiekppegfocejaaDoorTypeS
namespace Go.Proofs.YtiekppegfocejaaDoor
open Go.RowKit

/-- What is left of a number of nodes. -/
def LeftV (t : Tm) (left v : Int) : Prop := ((t.sz : Int) ≤ left ∧ v = left - t.sz) ∨ (left < (t.sz : Int) ∧ v = -1)
theorem leftV_ex (t : Tm) (left : Int) : ∃ v, LeftV t left v := by
  by_cases h : (t.sz : Int) ≤ left
  · exact ⟨_, .inl ⟨h, rfl⟩⟩
  · exact ⟨_, .inr ⟨by omega, rfl⟩⟩
set_option maxHeartbeats 1600000 in
theorem l2Left_ans (t : Tm) : ∀ {W : World} {lo : Nat} {r : TV} (_ : TmIn W lo t r) (left : Int) (_ : 0 ≤ left) (_ : left ≤ 100000) (v : Int) (_ : LeftV t left v) (x : Ext W),
    Calls Tryd.prog 67 #[r.val t, .int .i64 left] x.w (Ans W (.int .i64 v)) := by
  induction t using Tm.ind with
  | h t ih =>
    intro W lo r h left hl0 hl1 v hv x
    have HV := Lib.hid hv
    have HI := Lib.hid ih
    clear hv ih
    obtain ⟨ra, rc, rb, rd⟩ := r
    unfold TV.val
    go_enter Tryd.func67, Tryd.ntmps67
    go_wp2_with fail
    generalize hW : x.w.alloc _ = W1
    generalize hB : x.w.heap.size = B
    obtain ⟨c0, c1, c2, c3, h1, hback, yy, hy0⟩ := boxedT h x hB hW
    clear hW hB
    rw [← hy0]
    clear hy0
    obtain ⟨kr, A⟩ := h1.out
    have hlk := A.lk
    go_loopw [5, 1] (fun i q wr => ∃ k : Nat, ∃ u : Int, i = .int .i64 k ∧ q = .int .i64 u ∧ k ≤ t.kids.length ∧ -1 ≤ u ∧ u ≤ left ∧ (∃ y : Ext W1, wr = y.w) ∧ Hid ((1 + Tm.szL (t.kids.take k) ≤ left ∧ u = left - 1 - Tm.szL (t.kids.take k)) ∨ (left < (t.sz : Int) ∧ u = -1))) (fun i _ _ => t.kids.length - (intOf i).toNat)
    case atStart =>
      refine ⟨0, left - 1, rfl, rfl, by omega, by omega, by omega, ⟨yy, rfl⟩, ?_⟩
      have := t.sz_pos
      by_cases e : 1 ≤ left
      · exact .inl ⟨by simp [Tm.szL]; omega, by simp [Tm.szL]⟩
      · exact .inr ⟨by omega, by omega⟩
    case round =>
      obtain ⟨k, u, rfl, rfl, hk, hu1, hu2, ⟨yy, rfl⟩, HU⟩ := hrel
      by_cases hlt : k < t.kids.length
      · have hlt' : (k : Int) < (t.kids.length : Int) := by omega
        by_cases hu : 0 ≤ u
        · skip
          obtain ⟨kid, hkid⟩ : ∃ kid, t.kids[k]? = some kid := ⟨_, List.getElem?_eq_getElem hlt⟩
          have hmem : kid ∈ t.kids := List.mem_of_getElem? hkid
          have HKID := Lib.hid hkid
          obtain ⟨b0, o0, hrb, K⟩ := A.kid k kid hkid
          have hsub := A.sub k kid hkid
          dsimp only at hrb
          subst hrb
          have d0 : ∀ y : Ext W1, y.w.cell? ⟨b0, o0 + k * 4, none⟩ = some (.int .i64 kid.op) := fun y => y.cell K.c0
          have d1 : ∀ y : Ext W1, y.w.cell? ⟨b0, o0 + k * 4 + 1, none⟩ = some (.int .i64 kid.n) := fun y => y.cell K.c1
          have d2 : ∀ y : Ext W1, y.w.cell? ⟨b0, o0 + k * 4 + 2, none⟩ = some (.slice (kr k).a kid.ty.length (kr k).c) := fun y => y.cell K.c2
          have d3 : ∀ y : Ext W1, y.w.cell? ⟨b0, o0 + k * 4 + 3, none⟩ = some (.slice (kr k).b kid.kids.length (kr k).d) := fun y => y.cell K.c3
          clear K hkid
          obtain ⟨m, hm⟩ := leftV_ex kid u
          have HM := Lib.hid hm
          clear hm
          have hm1 : -1 ≤ m := by rcases HM.out with h | h <;> omega
          have hm2 : m ≤ u := by rcases HM.out with h | h <;> omega
          have C : ∀ y : Ext W1, Calls Tryd.prog 67 #[(kr k).val kid, .int .i64 u] y.w (Ans W1 (.int .i64 m)) := fun y => HI.out kid hmem hsub u hu (by omega) m HM.out y
          unfold TV.val at C
          have HMEM := Lib.hid hmem
          clear hmem hsub
          go_wp2_with (go_at_call 67; with_reducible refine Calls.mono (C _) ?_; rintro e w' ⟨rfl, yy, rfl⟩)
          go_roundw
          case rel =>
            refine ⟨k + 1, m, by go_num, rfl, by omega, hm1, by omega, ⟨yy, rfl⟩, ?_⟩
            have h1 := Tm.szL_take_succ HKID.out
            have h2 := Tm.szL_take_le t.kids (k + 1)
            have h3 := t.sz_eq
            show _ ∨ _
            rcases HU.out with ⟨a1, a2⟩ | ⟨a1, a2⟩
            · rcases HM.out with ⟨b1, b2⟩ | ⟨b1, b2⟩
              · left; omega
              · right; omega
            · omega
          case measure => simp [intOf]; omega
        · go_wp2
          go_ret
          refine fin_int ?_ (hback yy)
          have h3 := t.sz_eq
          have h2 := Tm.szL_take_le t.kids k
          rcases HU.out with ⟨a1, a2⟩ | ⟨a1, a2⟩
          · omega
          · rcases HV.out with ⟨b1, b2⟩ | ⟨b1, b2⟩ <;> omega
      · go_wp2
        go_ret
        refine fin_int ?_ (hback yy)
        have h3 := t.sz_eq
        have h4 : t.kids.take k = t.kids := List.take_of_length_le (by omega)
        have hu := HU.out
        rw [h4] at hu
        rcases hu with ⟨a1, a2⟩ | ⟨a1, a2⟩
        · rcases HV.out with ⟨b1, b2⟩ | ⟨b1, b2⟩ <;> omega
        · rcases HV.out with ⟨b1, b2⟩ | ⟨b1, b2⟩ <;> omega

end Go.Proofs.YtiekppegfocejaaDoor
