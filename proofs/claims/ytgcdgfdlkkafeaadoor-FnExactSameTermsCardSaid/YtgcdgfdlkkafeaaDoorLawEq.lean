/- The laws' comparison of terms. -/
import Derived.Test.YtgcdgfdlkkafeaaDoorTermA
import Derived.Test.YtgcdgfdlkkafeaaDoorLawB
namespace Go.Proofs.YtgcdgfdlkkafeaaDoor
open Go.RowKit

set_option maxHeartbeats 4000000 in
theorem eqTermS_ans {W : World} {lo lo' : Nat} {t t' : Tm} {r r' : TV} {kr kr' : Nat → TV} (A : TmAt W lo t r kr) (A' : TmAt W lo' t' r' kr')
    (HI : Hid (∀ kid ∈ t.kids, ∀ {W : World} {lo lo' : Nat} {t' : Tm} {r r' : TV} (_ : TmIn W lo kid r) (_ : TmIn W lo' t' r') (_ : kid.wt ≤ 1048576) (p : Bool) (_ : p = true ↔ kid = t') (x : Ext W), Calls Tryd.prog 32 #[r.val kid, r'.val t'] x.w (Ans W (.bool p))))
    (hwt : t.wt ≤ 1048576) (p : Bool) (hp : p = true ↔ t.kids = t'.kids) (x : Ext W) :
    Calls Tryd.prog 72 #[.slice r.b t.kids.length r.d, .slice r'.b t'.kids.length r'.d] x.w (Ans W (.bool p)) := by
  have HP := Lib.hid hp
  clear hp
  obtain ⟨ra, rc, rb, rd⟩ := r
  obtain ⟨ra', rc', rb', rd'⟩ := r'
  dsimp only
  have hlk := A.lk
  have hlk' := A'.lk
  have HWT := Lib.hid hwt
  clear hwt
  obtain ⟨yy, hyy⟩ : ∃ y : Ext W, x = y := ⟨x, rfl⟩
  rw [hyy]
  clear hyy
  by_cases hlen : t.kids.length = t'.kids.length
  · have fl : ((t.kids.length : Int) != (t'.kids.length : Int)) = false := by simp; omega
    have HL := Lib.hid hlen
    clear hlen
    go_enter Tryd.func72, Tryd.ntmps72
    go_wp2
    clear fl
    go_loopw [5] (fun i wr => ∃ k : Nat, i = .int .i64 k ∧ k ≤ t.kids.length ∧ (∃ y : Ext W, wr = y.w) ∧ Hid (∀ j, j < k → t.kids[j]? = t'.kids[j]?)) (fun i _ => t.kids.length - (intOf i).toNat)
    case atStart => exact ⟨0, rfl, by omega, ⟨yy, rfl⟩, fun j hj => by omega⟩
    case round =>
      obtain ⟨k, rfl, hk, ⟨yy, rfl⟩, HU⟩ := hrel
      by_cases hlt : k < t.kids.length
      · have hlt' : (k : Int) < (t.kids.length : Int) := by omega
        have hlt2 : k < t'.kids.length := by have := HL.out; omega
        have hlt3 : (k : Int) < (t'.kids.length : Int) := by omega
        obtain ⟨kid, hkid⟩ : ∃ kid, t.kids[k]? = some kid := ⟨_, List.getElem?_eq_getElem hlt⟩
        have hmem : kid ∈ t.kids := List.mem_of_getElem? hkid
        have HKID := Lib.hid hkid
        obtain ⟨b0, o0, hrb, K⟩ := A.kid k kid hkid
        have hsub := A.sub k kid hkid
        dsimp only at hrb
        subst hrb
        have d0 : ∀ y : Ext W, y.w.cell? ⟨b0, o0 + k * 4, none⟩ = some (.int .i64 kid.op) := fun y => y.cell K.c0
        have d1 : ∀ y : Ext W, y.w.cell? ⟨b0, o0 + k * 4 + 1, none⟩ = some (.int .i64 kid.n) := fun y => y.cell K.c1
        have d2 : ∀ y : Ext W, y.w.cell? ⟨b0, o0 + k * 4 + 2, none⟩ = some (.slice (kr k).a kid.ty.length (kr k).c) := fun y => y.cell K.c2
        have d3 : ∀ y : Ext W, y.w.cell? ⟨b0, o0 + k * 4 + 3, none⟩ = some (.slice (kr k).b kid.kids.length (kr k).d) := fun y => y.cell K.c3
        clear K hkid
        obtain ⟨kid', hkid'⟩ : ∃ kid', t'.kids[k]? = some kid' := ⟨_, List.getElem?_eq_getElem hlt2⟩
        have HKID' := Lib.hid hkid'
        obtain ⟨b0', o0', hrb', K'⟩ := A'.kid k kid' hkid'
        have hsub' := A'.sub k kid' hkid'
        dsimp only at hrb'
        subst hrb'
        have g0 : ∀ y : Ext W, y.w.cell? ⟨b0', o0' + k * 4, none⟩ = some (.int .i64 kid'.op) := fun y => y.cell K'.c0
        have g1 : ∀ y : Ext W, y.w.cell? ⟨b0', o0' + k * 4 + 1, none⟩ = some (.int .i64 kid'.n) := fun y => y.cell K'.c1
        have g2 : ∀ y : Ext W, y.w.cell? ⟨b0', o0' + k * 4 + 2, none⟩ = some (.slice (kr' k).a kid'.ty.length (kr' k).c) := fun y => y.cell K'.c2
        have g3 : ∀ y : Ext W, y.w.cell? ⟨b0', o0' + k * 4 + 3, none⟩ = some (.slice (kr' k).b kid'.kids.length (kr' k).d) := fun y => y.cell K'.c3
        clear K' hkid'
        obtain ⟨m, hm⟩ := bool_of (kid = kid')
        have HM := Lib.hid hm
        clear hm
        have hkw := Tm.wt_kid hmem
        have C : ∀ y : Ext W, Calls Tryd.prog 32 #[(kr k).val kid, (kr' k).val kid'] y.w (Ans W (.bool m)) := fun y => HI.out kid hmem hsub hsub' (by have := HWT.out; omega) m HM.out y
        unfold TV.val at C
        clear hmem hsub hsub' hkw
        cases m
        · go_wp2
          refine region_ext yy (by kernel_rfl) (by kernel_rfl) ?_
          repeat (go_big_quiet_step ((go_at_call 32; with_reducible exact C _)))
          refine wpQuiet_nil ?_
          rintro _ ⟨yy, rfl⟩
          go_wp2
          go_ret
          refine fin_false HP (fun q => ?_) ⟨yy, rfl⟩
          have e1 := HKID.out
          rw [q, HKID'.out] at e1
          have := HM.out.2 (Option.some.inj e1).symm
          cases this
        · go_wp2
          refine region_ext yy (by kernel_rfl) (by kernel_rfl) ?_
          repeat (go_big_quiet_step ((go_at_call 32; with_reducible exact C _)))
          refine wpQuiet_nil ?_
          rintro _ ⟨yy, rfl⟩
          go_wp2
          go_roundw
          case rel =>
            refine ⟨k + 1, by go_num, by omega, ⟨yy, rfl⟩, fun j hj => ?_⟩
            by_cases e : j = k
            · subst e
              rw [HKID.out, HKID'.out, HM.out.1 (by simp)]
            · exact HU.out j (by omega)
          case measure => simp [intOf]; omega
      · go_wp2
        go_ret
        refine fin_true HP (List.ext_getElem? fun i => ?_) ⟨yy, rfl⟩
        by_cases hi : i < t.kids.length
        · exact HU.out i (by omega)
        · have := HL.out
          rw [List.getElem?_eq_none (by omega), List.getElem?_eq_none (by omega)]
  · have fl : ((t.kids.length : Int) != (t'.kids.length : Int)) = true := by simp; omega
    have HL := Lib.hid hlen
    clear hlen
    go_enter Tryd.func72, Tryd.ntmps72
    go_wp2
    go_ret
    exact fin_false HP (fun q => HL.out (by rw [q])) ⟨yy, rfl⟩

/-- Two terms that a function has been handed. -/
theorem boxedTT {W W1 : World} {lo lo' : Nat} {t t' : Tm} {r r' : TV} (h : TmIn W lo t r) (h' : TmIn W lo' t' r') (x : Ext W) {T T' : TypeId} {B : Nat} (hB : x.w.heap.size = B)
    (hW : (x.w.alloc (.cells #[.int .i64 t.op, .int .i64 t.n, .slice r.a t.ty.length r.c, .slice r.b t.kids.length r.d] T)).alloc (.cells #[.int .i64 t'.op, .int .i64 t'.n, .slice r'.a t'.ty.length r'.c, .slice r'.b t'.kids.length r'.d] T') = W1) :
    (∀ y : Ext W1, y.w.cell? ⟨B, 0, none⟩ = some (.int .i64 t.op)) ∧ (∀ y : Ext W1, y.w.cell? ⟨B, 1, none⟩ = some (.int .i64 t.n)) ∧
    (∀ y : Ext W1, y.w.cell? ⟨B, 2, none⟩ = some (.slice r.a t.ty.length r.c)) ∧ (∀ y : Ext W1, y.w.cell? ⟨B, 3, none⟩ = some (.slice r.b t.kids.length r.d)) ∧
    (∀ y : Ext W1, y.w.cell? ⟨B + 1, 0, none⟩ = some (.int .i64 t'.op)) ∧ (∀ y : Ext W1, y.w.cell? ⟨B + 1, 1, none⟩ = some (.int .i64 t'.n)) ∧
    (∀ y : Ext W1, y.w.cell? ⟨B + 1, 2, none⟩ = some (.slice r'.a t'.ty.length r'.c)) ∧ (∀ y : Ext W1, y.w.cell? ⟨B + 1, 3, none⟩ = some (.slice r'.b t'.kids.length r'.d)) ∧
    TmIn W1 lo t r ∧ TmIn W1 lo' t' r' ∧ (∀ y : Ext W1, ∃ z : Ext W, y.w = z.w) ∧ ∃ y0 : Ext W1, y0.w = W1 := by
  obtain ⟨a0, a1, a2, a3, g1, gb, _, _⟩ := boxedT h x (W1 := x.w.alloc _) hB rfl
  obtain ⟨b0, b1, b2, b3, g2, gb2, y1, hy1⟩ := boxedT (h'.ext (x.alloc _)) (Ext.self (x.w.alloc _)) (T := T') (B := B + 1) (by rw [← hB]; simp) hW
  have hf : ∀ y : Ext W1, ∃ z : Ext (x.w.alloc (.cells #[.int .i64 t.op, .int .i64 t.n, .slice r.a t.ty.length r.c, .slice r.b t.kids.length r.d] T)), y.w = z.w := gb2
  refine ⟨?_, ?_, ?_, ?_, b0, b1, b2, b3, ?_, g2, ?_, y1, hy1⟩
  · intro y; obtain ⟨z, hz⟩ := hf y; rw [hz]; exact a0 z
  · intro y; obtain ⟨z, hz⟩ := hf y; rw [hz]; exact a1 z
  · intro y; obtain ⟨z, hz⟩ := hf y; rw [hz]; exact a2 z
  · intro y; obtain ⟨z, hz⟩ := hf y; rw [hz]; exact a3 z
  · obtain ⟨z, hz⟩ := hf y1; rw [← hy1, hz]; exact g1.ext z
  · intro y; obtain ⟨z, hz⟩ := hf y; obtain ⟨u, hu⟩ := gb z; exact ⟨u, by rw [hz, hu]⟩

set_option maxHeartbeats 4000000 in
theorem eqTerm_ans (t : Tm) : ∀ {W : World} {lo lo' : Nat} {t' : Tm} {r r' : TV} (_ : TmIn W lo t r) (_ : TmIn W lo' t' r') (_ : t.wt ≤ 1048576) (p : Bool) (_ : p = true ↔ t = t') (x : Ext W), Calls Tryd.prog 32 #[r.val t, r'.val t'] x.w (Ans W (.bool p)) := by
  induction t using Tm.ind with
  | h t ih =>
    intro W lo lo' t' r r' h h' hwt p hp x
    have HP := Lib.hid hp
    have HI := Lib.hid ih
    clear hp ih
    have hl40 : t.ty.length ≤ 1099511627776 := by rw [t.wt_eq] at hwt; omega
    obtain ⟨ra, rc, rb, rd⟩ := r
    obtain ⟨ra', rc', rb', rd'⟩ := r'
    unfold TV.val
    by_cases e1 : t.op = t'.op
    · have f1 : (t.op != t'.op) = false := by simpa using e1
      have E1 := Lib.hid e1
      clear e1
      by_cases e2 : t.n = t'.n
      · have f2 : (t.n != t'.n) = false := by simpa using e2
        have E2 := Lib.hid e2
        clear e2
        by_cases e3 : t.ty = t'.ty
        · have E3 := Lib.hid e3
          clear e3
          by_cases e4 : t.kids = t'.kids
          · have E4 := Lib.hid e4
            clear e4
            go_enter Tryd.func32, Tryd.ntmps32
            go_wp2_with fail
            generalize hW : (x.w.alloc _).alloc _ = W1
            generalize hB : x.w.heap.size = B
            obtain ⟨c0, c1, c2, c3, d0, d1, d2, d3, h1, h1', hback, yy, hy0⟩ := boxedTT h h' x hB hW
            clear hW hB
            rw [← hy0]
            clear hy0
            obtain ⟨kr, A⟩ := h1.out
            obtain ⟨kr', A'⟩ := h1'.out
            have hlk := A.lk
            have hlk' := A'.lk
            go_wp2_with (first | (go_at_call 19; with_reducible refine Calls.mono (eqIntS_ans A.row A'.row hl40 true (by refine iff_tf ?_; dsimp only; exact E3.out) _) ?_; rintro e w' ⟨rfl, yy, rfl⟩) | (go_at_call 72; with_reducible refine Calls.mono (eqTermS_ans A A' HI hwt true (by refine iff_tf ?_; dsimp only; exact E4.out) _) ?_; rintro e w' ⟨rfl, yy, rfl⟩))
            go_ret
            exact fin_true HP (Tm.ext' E1.out E2.out E3.out E4.out) (hback yy)
          · have E4 := Lib.hid e4
            clear e4
            go_enter Tryd.func32, Tryd.ntmps32
            go_wp2_with fail
            generalize hW : (x.w.alloc _).alloc _ = W1
            generalize hB : x.w.heap.size = B
            obtain ⟨c0, c1, c2, c3, d0, d1, d2, d3, h1, h1', hback, yy, hy0⟩ := boxedTT h h' x hB hW
            clear hW hB
            rw [← hy0]
            clear hy0
            obtain ⟨kr, A⟩ := h1.out
            obtain ⟨kr', A'⟩ := h1'.out
            have hlk := A.lk
            have hlk' := A'.lk
            go_wp2_with (first | (go_at_call 19; with_reducible refine Calls.mono (eqIntS_ans A.row A'.row hl40 true (by refine iff_tf ?_; dsimp only; exact E3.out) _) ?_; rintro e w' ⟨rfl, yy, rfl⟩) | (go_at_call 72; with_reducible refine Calls.mono (eqTermS_ans A A' HI hwt false (by refine iff_tf ?_; dsimp only; exact E4.out) _) ?_; rintro e w' ⟨rfl, yy, rfl⟩))
            go_ret
            exact fin_false HP (fun q => E4.out (by rw [q])) (hback yy)
        · have E3 := Lib.hid e3
          clear e3
          go_enter Tryd.func32, Tryd.ntmps32
          go_wp2_with fail
          generalize hW : (x.w.alloc _).alloc _ = W1
          generalize hB : x.w.heap.size = B
          obtain ⟨c0, c1, c2, c3, d0, d1, d2, d3, h1, h1', hback, yy, hy0⟩ := boxedTT h h' x hB hW
          clear hW hB
          rw [← hy0]
          clear hy0
          obtain ⟨kr, A⟩ := h1.out
          obtain ⟨kr', A'⟩ := h1'.out
          have hlk := A.lk
          have hlk' := A'.lk
          go_wp2_with (go_at_call 19; with_reducible refine Calls.mono (eqIntS_ans A.row A'.row hl40 false (by refine iff_tf ?_; dsimp only; exact E3.out) _) ?_; rintro e w' ⟨rfl, yy, rfl⟩)
          go_ret
          exact fin_false HP (fun q => E3.out (by rw [q])) (hback yy)
      · have f2 : (t.n != t'.n) = true := by simpa using e2
        have E2 := Lib.hid e2
        clear e2
        go_enter Tryd.func32, Tryd.ntmps32
        go_wp2_with fail
        generalize hW : (x.w.alloc _).alloc _ = W1
        generalize hB : x.w.heap.size = B
        obtain ⟨c0, c1, c2, c3, d0, d1, d2, d3, h1, h1', hback, yy, hy0⟩ := boxedTT h h' x hB hW
        clear hW hB
        rw [← hy0]
        clear hy0
        obtain ⟨kr, A⟩ := h1.out
        obtain ⟨kr', A'⟩ := h1'.out
        have hlk := A.lk
        have hlk' := A'.lk
        go_wp2
        go_ret
        exact fin_false HP (fun q => E2.out (by rw [q])) (hback yy)
    · have f1 : (t.op != t'.op) = true := by simpa using e1
      have E1 := Lib.hid e1
      clear e1
      go_enter Tryd.func32, Tryd.ntmps32
      go_wp2_with fail
      generalize hW : (x.w.alloc _).alloc _ = W1
      generalize hB : x.w.heap.size = B
      obtain ⟨c0, c1, c2, c3, d0, d1, d2, d3, h1, h1', hback, yy, hy0⟩ := boxedTT h h' x hB hW
      clear hW hB
      rw [← hy0]
      clear hy0
      obtain ⟨kr, A⟩ := h1.out
      obtain ⟨kr', A'⟩ := h1'.out
      have hlk := A.lk
      have hlk' := A'.lk
      go_wp2
      go_ret
      exact fin_false HP (fun q => E1.out (by rw [q])) (hback yy)

end Go.Proofs.YtgcdgfdlkkafeaaDoor
