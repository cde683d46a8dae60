
/- The model's terms: IsWritten, SizeOfTerm. -/
import Derived.Test.YtiekppegfocejaaDoorTermN
namespace Go.Proofs.YtiekppegfocejaaDoor
open Go.RowKit

set_option maxHeartbeats 4000000 in
theorem l2Term_ans (t : Tm) : ∀ {W : World} {lo : Nat} {r : TV} (_ : TmIn W lo t r) (_ : t.wt ≤ 1099511627776) (vars size : Int) (_ : 0 ≤ vars) (_ : vars + 2 * (t.sz : Int) ≤ 1000000) (closed : Bool) (p : Bool) (_ : p = true ↔ OkT size closed vars t) (x : Ext W),
    Calls Tryd.prog 68 #[r.val t, .int .i64 vars, .int .i64 size, .bool closed] x.w (Ans W (.bool p)) := by
  induction t using Tm.ind with
  | h t ih =>
    intro W lo r h hwt vars size hv0 hv1 closed p hp x
    have HP := Lib.hid hp
    have HI := Lib.hid ih
    clear hp ih
    have hsz := t.sz_pos
    have hl40 : t.ty.length ≤ 1099511627776 := by rw [t.wt_eq] at hwt; omega
    have HWT := Lib.hid hwt
    clear hwt
    by_cases hn : NodeOk size closed vars t
    · have h13 : 0 ≤ t.op ∧ t.op ≤ 12 := manyO_in (by rw [← hn.many]; omega)
      have hk3 : t.kids.length ≤ 3 := by have := hn.many; have := manyO_le t.op; omega
      have HN := Lib.hid hn
      clear hn
      have H13 := Lib.hid h13
      clear h13
      obtain ⟨ra, rc, rb, rd⟩ := r
      unfold TV.val
      go_enter Tryd.func68, Tryd.ntmps68
      go_wp2_with fail
      generalize hW : x.w.alloc _ = W1
      generalize hB : x.w.heap.size = B
      obtain ⟨c0, c1, c2, c3, h1, hback, yy, hy0⟩ := boxedT h x hB hW
      clear hW hB
      rw [← hy0]
      clear hy0
      obtain ⟨kr, A⟩ := h1.out
      have NODE : ∀ y : Ext W1, Calls Tryd.prog 83 #[(TV.mk ra rc rb rd).val t, .int .i64 vars, .int .i64 size, .bool closed] y.w (Ans W1 (.bool true)) := fun y => l2Node_ans h1 hl40 vars size hv0 (by omega) closed true (by refine iff_tf ?_; dsimp only; exact HN.out) y
      unfold TV.val at NODE
      have hlk := A.lk
      go_wp2_with (go_at_call 83; with_reducible refine Calls.mono (NODE _) ?_; rintro e w' ⟨rfl, yy, rfl⟩)
      go_loopw [9] (fun i wr => ∃ k : Nat, i = .int .i64 k ∧ k ≤ t.kids.length ∧ (∃ y : Ext W1, wr = y.w) ∧ Hid (∀ (j : Nat) u, j < k → t.kids[j]? = some u → OkT size closed (vars + addsO t.op j) u)) (fun i _ => t.kids.length - (intOf i).toNat)
      case atStart => exact ⟨0, rfl, by omega, ⟨yy, rfl⟩, fun j u hj => by omega⟩
      case round =>
        obtain ⟨k, rfl, hk, ⟨yy, rfl⟩, HU⟩ := hrel
        by_cases hlt : k < t.kids.length
        · have hlt' : (k : Int) < (t.kids.length : Int) := by omega
          obtain ⟨kid, hkid⟩ : ∃ kid, t.kids[k]? = some kid := ⟨_, List.getElem?_eq_getElem hlt⟩
          have hmem : kid ∈ t.kids := List.mem_of_getElem? hkid
          have HKID := Lib.hid hkid
          obtain ⟨b0, o0, hrb, K⟩ := A.kid k kid hkid
          have hsub := A.sub k kid hkid
          dsimp only at hrb
          subst hrb
          have d0 : ∀ y : Ext W1, y.w.cell? ⟨b0, o0 + k * 4, none⟩ = some (.int .i64 kid.op) := fun y => y.cell K.c0
          have d1 : ∀ y : Ext W1, y.w.cell? ⟨b0, o0 + k * 4 + 1, none⟩ = some (.int .i64 kid.n) := fun y => y.cell K.c1
          have d2 : ∀ y : Ext W1, y.w.cell? ⟨b0, o0 + k * 4 + 2, none⟩ = some (.slice (kr k).a kid.ty.length (kr k).c) := fun y => y.cell K.c2
          have d3 : ∀ y : Ext W1, y.w.cell? ⟨b0, o0 + k * 4 + 3, none⟩ = some (.slice (kr k).b kid.kids.length (kr k).d) := fun y => y.cell K.c3
          clear K hkid
          obtain ⟨m, hm⟩ := bool_of (OkT size closed (vars + addsO t.op k) kid)
          have HM := Lib.hid hm
          clear hm
          have ha1 := addsO_ge t.op k
          have ha2 := addsO_le t.op k
          have hks := Tm.sz_kid hmem
          have hkw := Tm.wt_kid hmem
          have ADDS : ∀ y : Ext W1, Calls Tryd.prog 69 #[.int .i64 t.op, .int .i64 k] y.w (Ans W1 (.int .i64 (addsO t.op k))) := fun y => l2Adds_ans t.op H13.out k (by omega) y
          generalize hadd : addsO t.op k = ad at *
          have C : ∀ y : Ext W1, Calls Tryd.prog 68 #[(kr k).val kid, .int .i64 (vars + ad), .int .i64 size, .bool closed] y.w (Ans W1 (.bool m)) := fun y => HI.out kid hmem hsub (by have := HWT.out; omega) (vars + ad) size (by omega) (by omega) closed m HM.out y
          unfold TV.val at C
          clear hmem hsub hkw NODE
          have HADD := Lib.hid hadd
          clear hadd
          have hw1 : vars + ad ≤ 1000000 := by omega
          cases m
          · go_wp2
            refine region_ext yy (by kernel_rfl) (by kernel_rfl) ?_
            repeat (go_big_quiet_step (first | (go_at_call 69; with_reducible exact ADDS _) | (go_at_call 68; with_reducible exact C _)))
            refine wpQuiet_nil ?_
            rintro _ ⟨yy, rfl⟩
            go_wp2
            go_ret
            exact fin_false HP (fun q => by have := HM.out.2 (HADD.out ▸ q.kid HKID.out); cases this) (hback yy)
          · go_wp2
            refine region_ext yy (by kernel_rfl) (by kernel_rfl) ?_
            repeat (go_big_quiet_step (first | (go_at_call 69; with_reducible exact ADDS _) | (go_at_call 68; with_reducible exact C _)))
            refine wpQuiet_nil ?_
            rintro _ ⟨yy, rfl⟩
            go_wp2
            go_roundw
            case rel =>
              refine ⟨k + 1, by go_num, by omega, ⟨yy, rfl⟩, fun j u hj hu => ?_⟩
              by_cases e : j = k
              · subst e
                obtain rfl := Option.some.inj (hu.symm.trans HKID.out)
                rw [HADD.out]
                exact HM.out.1 (by simp)
              · exact HU.out j u (by omega) hu
            case measure => simp [intOf]; omega
        · go_wp2
          go_ret
          exact fin_true HP (.mk _ _ HN.out (fun i u hu => HU.out i u (by have := (List.getElem?_eq_some_iff.1 hu).1; omega) hu)) (hback yy)
    · have HN := Lib.hid hn
      clear hn
      obtain ⟨ra, rc, rb, rd⟩ := r
      unfold TV.val
      go_enter Tryd.func68, Tryd.ntmps68
      go_wp2_with fail
      generalize hW : x.w.alloc _ = W1
      generalize hB : x.w.heap.size = B
      obtain ⟨c0, c1, c2, c3, h1, hback, yy, hy0⟩ := boxedT h x hB hW
      clear hW hB
      rw [← hy0]
      clear hy0
      obtain ⟨kr, A⟩ := h1.out
      have NODE : ∀ y : Ext W1, Calls Tryd.prog 83 #[(TV.mk ra rc rb rd).val t, .int .i64 vars, .int .i64 size, .bool closed] y.w (Ans W1 (.bool false)) := fun y => l2Node_ans h1 hl40 vars size hv0 (by omega) closed false (by refine iff_tf ?_; dsimp only; exact HN.out) y
      unfold TV.val at NODE
      go_wp2_with (go_at_call 83; with_reducible refine Calls.mono (NODE _) ?_; rintro e w' ⟨rfl, yy, rfl⟩)
      go_ret
      exact fin_false HP (fun q => HN.out q.node) (hback yy)

set_option maxHeartbeats 1600000 in
theorem specIsWritten_ans {W : World} {lo : Nat} {t : Tm} {r : TV} (h : TmIn W lo t r) (hwt : t.wt ≤ 1099511627776) (p : Bool) (hp : p = true ↔ Written t) (x : Ext W) :
    Calls Tryd.prog 38 #[r.val t] x.w (Ans W (.bool p)) := by
  have HP := Lib.hid hp
  clear hp
  obtain ⟨ra, rc, rb, rd⟩ := r
  unfold TV.val
  obtain ⟨m, hm⟩ := leftV_ex t 400
  have HM := Lib.hid hm
  clear hm
  by_cases hs : t.sz ≤ 400
  · have hm0 : 0 ≤ m := by rcases HM.out with h | h <;> omega
    by_cases ho : OkT 16 false 8 t
    · have HO := Lib.hid ho
      clear ho
      go_enter Tryd.func38, Tryd.ntmps38
      go_wp2_with fail
      generalize hW : x.w.alloc _ = W1
      generalize hB : x.w.heap.size = B
      obtain ⟨c0, c1, c2, c3, h1, hback, yy, hy0⟩ := boxedT h x hB hW
      clear hW hB
      rw [← hy0]
      clear hy0
      obtain ⟨kr, A⟩ := h1.out
      have LEFT : ∀ y : Ext W1, Calls Tryd.prog 67 #[(TV.mk ra rc rb rd).val t, .int .i64 400] y.w (Ans W1 (.int .i64 m)) := fun y => l2Left_ans t h1 400 (by omega) (by omega) m HM.out y
      unfold TV.val at LEFT
      have TERM : ∀ y : Ext W1, Calls Tryd.prog 68 #[(TV.mk ra rc rb rd).val t, .int .i64 8, .int .i64 16, .bool false] y.w (Ans W1 (.bool true)) := fun y => l2Term_ans t h1 hwt 8 16 (by omega) (by omega) false true (by refine iff_tf ?_; dsimp only; exact HO.out) y
      unfold TV.val at TERM
      go_wp2_with (first | (go_at_call 67; with_reducible refine Calls.mono (LEFT _) ?_; rintro e w' ⟨rfl, yy, rfl⟩) | (go_at_call 68; with_reducible refine Calls.mono (TERM _) ?_; rintro e w' ⟨rfl, yy, rfl⟩))
      go_ret
      exact fin_true HP (⟨hs, HO.out⟩) (hback yy)
    · have HO := Lib.hid ho
      clear ho
      go_enter Tryd.func38, Tryd.ntmps38
      go_wp2_with fail
      generalize hW : x.w.alloc _ = W1
      generalize hB : x.w.heap.size = B
      obtain ⟨c0, c1, c2, c3, h1, hback, yy, hy0⟩ := boxedT h x hB hW
      clear hW hB
      rw [← hy0]
      clear hy0
      obtain ⟨kr, A⟩ := h1.out
      have LEFT : ∀ y : Ext W1, Calls Tryd.prog 67 #[(TV.mk ra rc rb rd).val t, .int .i64 400] y.w (Ans W1 (.int .i64 m)) := fun y => l2Left_ans t h1 400 (by omega) (by omega) m HM.out y
      unfold TV.val at LEFT
      have TERM : ∀ y : Ext W1, Calls Tryd.prog 68 #[(TV.mk ra rc rb rd).val t, .int .i64 8, .int .i64 16, .bool false] y.w (Ans W1 (.bool false)) := fun y => l2Term_ans t h1 hwt 8 16 (by omega) (by omega) false false (by refine iff_tf ?_; dsimp only; exact HO.out) y
      unfold TV.val at TERM
      go_wp2_with (first | (go_at_call 67; with_reducible refine Calls.mono (LEFT _) ?_; rintro e w' ⟨rfl, yy, rfl⟩) | (go_at_call 68; with_reducible refine Calls.mono (TERM _) ?_; rintro e w' ⟨rfl, yy, rfl⟩))
      go_ret
      exact fin_false HP (fun q => HO.out q.2) (hback yy)

  · have hm0 : ¬ 0 ≤ m := by rcases HM.out with h | h <;> omega
    go_enter Tryd.func38, Tryd.ntmps38
    go_wp2_with fail
    generalize hW : x.w.alloc _ = W1
    generalize hB : x.w.heap.size = B
    obtain ⟨c0, c1, c2, c3, h1, hback, yy, hy0⟩ := boxedT h x hB hW
    clear hW hB
    rw [← hy0]
    clear hy0
    obtain ⟨kr, A⟩ := h1.out
    have LEFT : ∀ y : Ext W1, Calls Tryd.prog 67 #[(TV.mk ra rc rb rd).val t, .int .i64 400] y.w (Ans W1 (.int .i64 m)) := fun y => l2Left_ans t h1 400 (by omega) (by omega) m HM.out y
    unfold TV.val at LEFT
    go_wp2_with (go_at_call 67; with_reducible refine Calls.mono (LEFT _) ?_; rintro e w' ⟨rfl, yy, rfl⟩)
    go_ret
    exact fin_false HP (fun q => hs q.1) (hback yy)

/-- The size of a written term, or -1. -/
def SizeV (t : Tm) (v : Int) : Prop := (Written t ∧ v = t.sz) ∨ (¬ Written t ∧ v = -1)
theorem sizeV_ex (t : Tm) : ∃ v, SizeV t v := by
  by_cases h : Written t
  · exact ⟨_, .inl ⟨h, rfl⟩⟩
  · exact ⟨_, .inr ⟨h, rfl⟩⟩
end Go.Proofs.YtiekppegfocejaaDoor
