/- The model's count of a variable. -/
import Derived.Test.YtncfbljablbglaaDoorZ3KUsesSpec
import Derived.Test.YtncfbljablbglaaDoorZ3GG
set_option linter.unusedVariables false
set_option linter.unusedSimpArgs false
namespace Go.Proofs.YtncfbljablbglaaDoor
open Go.RowKit

set_option maxHeartbeats 4000000 in
theorem l2Uses_ans (t : Tm) : ∀ {W : World} {lo : Nat} {r : TV} (_ : TmIn W lo t r) {size vars : Int} {closed : Bool} (_ : OkT size closed vars t) (_ : t.sz ≤ 1000) (i : Int) (_ : 0 ≤ i) (_ : i + 2 * (t.sz : Int) ≤ 9223372036854775807) (x : Ext W),
    Calls Tryd.prog 104 #[r.val t, .int .i64 i] x.w (Ans W (.int .i64 (t.uses i : Int))) := by
  induction t using Tm.ind with
  | h t ih =>
    intro W lo r h size vars closed ok hsz i h0 h1 x
    have HI := Lib.hid ih
    clear ih
    have hsp := t.sz_pos
    have h13 : 0 ≤ t.op ∧ t.op ≤ 12 := manyO_in (by rw [← ok.node.many]; omega)
    have hk3 : t.kids.length ≤ 3 := by have := ok.node.many; have := manyO_le t.op; omega
    have H13 := Lib.hid h13
    have OK := Lib.hid ok
    clear h13
    obtain ⟨ra, rc, rb, rd⟩ := r
    unfold TV.val
    by_cases h0 : t.op = 0
    · have f0 : (t.op == 0) = true := by simpa using h0
      by_cases hn : t.n = i
      · have fn : (t.n == i) = true := by simpa using hn
        have HN := Lib.hid hn
        have HH := Lib.hid h0
        clear hn h0 ok
        go_enter Tryd.func104, Tryd.ntmps104
        go_wp2_with fail
        generalize hW : x.w.alloc _ = W1
        generalize hB : x.w.heap.size = B
        obtain ⟨c0, c1, c2, c3, h1, hback, yy, hy0⟩ := boxedT h x hB hW
        clear hW hB
        rw [← hy0]
        clear hy0
        obtain ⟨kr, A⟩ := h1.out
        go_wp2
        go_ret
        exact fin_int (by rw [Tm.uses_var HH.out, if_pos HN.out]; rfl) (hback yy)
      · have fn : (t.n == i) = false := by simpa using hn
        have HN := Lib.hid hn
        have HH := Lib.hid h0
        clear hn h0 ok
        go_enter Tryd.func104, Tryd.ntmps104
        go_wp2_with fail
        generalize hW : x.w.alloc _ = W1
        generalize hB : x.w.heap.size = B
        obtain ⟨c0, c1, c2, c3, h1, hback, yy, hy0⟩ := boxedT h x hB hW
        clear hW hB
        rw [← hy0]
        clear hy0
        obtain ⟨kr, A⟩ := h1.out
        go_wp2
        go_ret
        exact fin_int (by rw [Tm.uses_var HH.out, if_neg HN.out]; rfl) (hback yy)
    · have f0 : (t.op == 0) = false := by simpa using h0
      have H0 := Lib.hid h0
      clear h0 ok
      go_enter Tryd.func104, Tryd.ntmps104
      go_wp2_with fail
      generalize hW : x.w.alloc _ = W1
      generalize hB : x.w.heap.size = B
      obtain ⟨c0, c1, c2, c3, h1, hback, yy, hy0⟩ := boxedT h x hB hW
      clear hW hB
      rw [← hy0]
      clear hy0
      obtain ⟨kr, A⟩ := h1.out
      have hlk := A.lk
      have hul := Tm.uses_le t i
      have hulK : ∀ k, Tm.usesL t.op i 0 (t.kids.take k) ≤ Tm.szL (t.kids.take k) := fun k => Tm.usesL_le _ _ _ _ (fun u _ q => u.uses_le q)
      have HULK := Lib.hid hulK
      clear hulK
      go_wp2
      go_loopw [6, 5] (fun a b wr => ∃ k : Nat, ∃ s : Int, a = .int .i64 k ∧ b = .int .i64 s ∧ k ≤ t.kids.length ∧ (∃ y : Ext W1, wr = y.w) ∧ 0 ≤ s ∧ s ≤ 1000 * (k : Int) ∧ Hid (s = (Tm.usesL t.op i 0 (t.kids.take k) : Int))) (fun a _ _ => t.kids.length - (intOf a).toNat)
      case atStart => exact ⟨0, 0, rfl, rfl, by omega, ⟨yy, rfl⟩, by omega, by omega, by show _ = _; simp [Tm.usesL]⟩
      case round =>
        obtain ⟨k, s, rfl, rfl, hk, ⟨yy, rfl⟩, hs0, hs1, HS⟩ := hrel
        by_cases hlt : k < t.kids.length
        · have hlt' : (k : Int) < (t.kids.length : Int) := by omega
          obtain ⟨kid, hkid⟩ : ∃ kid, t.kids[k]? = some kid := ⟨_, List.getElem?_eq_getElem hlt⟩
          have hmem : kid ∈ t.kids := List.mem_of_getElem? hkid
          have HKID := Lib.hid hkid
          obtain ⟨b0, o0, hrb, K⟩ := A.kid k kid hkid
          have hsub := A.sub k kid hkid
          dsimp only at hrb
          subst hrb
          have d0 : ∀ y : Ext W1, y.w.cell? ⟨b0, o0 + k * 4, none⟩ = some (.int .i64 kid.op) := fun y => y.cell K.c0
          have d1 : ∀ y : Ext W1, y.w.cell? ⟨b0, o0 + k * 4 + 1, none⟩ = some (.int .i64 kid.n) := fun y => y.cell K.c1
          have d2 : ∀ y : Ext W1, y.w.cell? ⟨b0, o0 + k * 4 + 2, none⟩ = some (.slice (kr k).a kid.ty.length (kr k).c) := fun y => y.cell K.c2
          have d3 : ∀ y : Ext W1, y.w.cell? ⟨b0, o0 + k * 4 + 3, none⟩ = some (.slice (kr k).b kid.kids.length (kr k).d) := fun y => y.cell K.c3
          clear K hkid
          have ha1 := addsO_ge t.op k
          have ha2 := addsO_le t.op k
          have hks := Tm.sz_kid hmem
          have ADDS : ∀ y : Ext W1, Calls Tryd.prog 65 #[.int .i64 t.op, .int .i64 k] y.w (Ans W1 (.int .i64 (addsO t.op k))) := fun y => l2Adds_ans t.op H13.out k (by omega) y
          have hok : OkT size closed (vars + addsO t.op k) kid := OK.out.kid HKID.out
          generalize hadd : addsO t.op k = ad at *
          have HOKK := Lib.hid hok
          clear hok
          obtain ⟨m, hm⟩ : ∃ m : Int, m = (kid.uses (i + ad) : Int) := ⟨_, rfl⟩
          have HMV := Lib.hid hm
          have C : ∀ y : Ext W1, Calls Tryd.prog 104 #[(kr k).val kid, .int .i64 (i + ad)] y.w (Ans W1 (.int .i64 m)) := fun y => by rw [hm]; exact HI.out kid hmem hsub HOKK.out (by omega) (i + ad) (by omega) (by omega) y
          clear hm
          have hm1 : 0 ≤ m := by have := HMV.out; omega
          have hm2 : m ≤ 1000 := by have := HMV.out; have := kid.uses_le (i + ad); omega
          unfold TV.val at C
          have HMEM := Lib.hid hmem
          have HADD := Lib.hid hadd
          clear hmem hsub hadd
          go_wp2
          refine region_ext yy (by kernel_rfl) (by kernel_rfl) ?_
          repeat (go_big_quiet_step (first | (go_at_call 65; with_reducible exact ADDS _) | (go_at_call 104; with_reducible exact C _)))
          refine wpQuiet_nil ?_
          rintro _ ⟨yy, rfl⟩
          go_wp2
          go_roundw
          case rel =>
            refine ⟨k + 1, s + m, by go_num, by go_num, by omega, ⟨yy, rfl⟩, by omega, by omega, ?_⟩
            have h1 := Tm.usesL_take_succ t.op i (j := 0) HKID.out
            rw [Nat.zero_add, HADD.out] at h1
            have := HS.out
            have := HMV.out
            show _ = _
            omega
          case measure => simp [intOf]; omega
        · go_wp2
          go_ret
          refine fin_int ?_ (hback yy)
          have h4 : t.kids.take k = t.kids := List.take_of_length_le (by omega)
          have h3 := HS.out
          rw [h4] at h3
          rw [Tm.uses_node H0.out]
          exact h3

/-- An index that no variable of the term can have. -/
def FarI (n : Nat) (vars i : Int) : Prop := (50000 ≤ i ∧ i ≤ 9223372036854775807 ∧ vars + 2 * (n : Int) ≤ 10000 ∧ n ≤ 1000) ∨ (-9223372036854775808 ≤ i ∧ i < -(2 * (n : Int)) ∧ vars + 2 * (n : Int) ≤ 10000 ∧ n ≤ 1000)
theorem FarI.next {n n' : Nat} {vars i ad : Int} (h : FarI n vars i) (h1 : n' < n) (h2 : 0 ≤ ad) (h3 : ad ≤ 2) (h4 : 0 < n) : FarI n' (vars + ad) (IntKind.i64.wrap (i + ad)) := by
  rw [IntKind.wrap_i64]
  unfold FarI at h ⊢
  omega
end Go.Proofs.YtncfbljablbglaaDoor
