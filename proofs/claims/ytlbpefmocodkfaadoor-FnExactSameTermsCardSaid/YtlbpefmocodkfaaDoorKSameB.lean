
/- The program's comparison of terms. -/
import Derived.Test.YtlbpefmocodkfaaDoorKSameA
import Derived.Test.YtlbpefmocodkfaaDoorGH
namespace Go.Proofs.YtlbpefmocodkfaaDoor
open Go.RowKit

set_option maxHeartbeats 4000000 in
theorem equalFunc_ans {W : World} {lo lo' : Nat} {t t' : Tm} {r r' : TV} {kr kr' : Nat → TV} (A : TmAt W lo t r kr) (A' : TmAt W lo' t' r' kr')
    (HI : Hid (∀ kid ∈ t.kids, ∀ {W : World} {lo lo' : Nat} {t' : Tm} {r r' : TV} (_ : TmIn W lo kid r) (_ : TmIn W lo' t' r') (_ : kid.wt ≤ 1048576) (p : Bool) (_ : p = true ↔ kid = t') (x : Ext W), Calls Tryd.prog 73 #[r.val kid, r'.val t'] x.w (Ans W (.bool p))))
    (hwt : t.wt ≤ 1048576) (p : Bool) (hp : p = true ↔ t.kids = t'.kids) (x : Ext W) :
    Calls Tryd.prog 118 #[.slice r.b t.kids.length r.d, .slice r'.b t'.kids.length r'.d, (.func (.func 73) #[] #[])] x.w (Ans W (.bool p)) := by
  have HP := Lib.hid hp
  clear hp
  obtain ⟨ra, rc, rb, rd⟩ := r
  obtain ⟨ra', rc', rb', rd'⟩ := r'
  dsimp only
  have hlk := A.lk
  have hlk' := A'.lk
  have HWT := Lib.hid hwt
  clear hwt
  obtain ⟨yy, hyy⟩ : ∃ y : Ext W, x = y := ⟨x, rfl⟩
  rw [hyy]
  clear hyy
  by_cases hlen : t.kids.length = t'.kids.length
  · have fl : ((t.kids.length : Int) != (t'.kids.length : Int)) = false := by simp; omega
    have HL := Lib.hid hlen
    clear hlen
    go_enter Tryd.func118, Tryd.ntmps118
    go_wp2
    clear fl
    go_loopw [17] (fun i wr => ∃ k : Nat, i = .int .i64 k ∧ k ≤ t.kids.length ∧ (∃ y : Ext W, wr = y.w) ∧ Hid (∀ j, j < k → t.kids[j]? = t'.kids[j]?)) (fun i _ => t.kids.length - (intOf i).toNat)
    case atStart => exact ⟨0, rfl, by omega, ⟨yy, rfl⟩, fun j hj => by omega⟩
    case round =>
      obtain ⟨k, rfl, hk, ⟨yy, rfl⟩, HU⟩ := hrel
      by_cases hlt : k < t.kids.length
      · have hlt' : (k : Int) < (t.kids.length : Int) := by omega
        have hlt2 : k < t'.kids.length := by have := HL.out; omega
        have hlt3 : (k : Int) < (t'.kids.length : Int) := by omega
        obtain ⟨kid, hkid⟩ : ∃ kid, t.kids[k]? = some kid := ⟨_, List.getElem?_eq_getElem hlt⟩
        have hmem : kid ∈ t.kids := List.mem_of_getElem? hkid
        have HKID := Lib.hid hkid
        obtain ⟨b0, o0, hrb, K⟩ := A.kid k kid hkid
        have hsub := A.sub k kid hkid
        dsimp only at hrb
        subst hrb
        have d0 : ∀ y : Ext W, y.w.cell? ⟨b0, o0 + k * 4, none⟩ = some (.int .i64 kid.op) := fun y => y.cell K.c0
        have d1 : ∀ y : Ext W, y.w.cell? ⟨b0, o0 + k * 4 + 1, none⟩ = some (.int .i64 kid.n) := fun y => y.cell K.c1
        have d2 : ∀ y : Ext W, y.w.cell? ⟨b0, o0 + k * 4 + 2, none⟩ = some (.slice (kr k).a kid.ty.length (kr k).c) := fun y => y.cell K.c2
        have d3 : ∀ y : Ext W, y.w.cell? ⟨b0, o0 + k * 4 + 3, none⟩ = some (.slice (kr k).b kid.kids.length (kr k).d) := fun y => y.cell K.c3
        clear K hkid
        obtain ⟨kid', hkid'⟩ : ∃ kid', t'.kids[k]? = some kid' := ⟨_, List.getElem?_eq_getElem hlt2⟩
        have HKID' := Lib.hid hkid'
        obtain ⟨b0', o0', hrb', K'⟩ := A'.kid k kid' hkid'
        have hsub' := A'.sub k kid' hkid'
        dsimp only at hrb'
        subst hrb'
        have g0 : ∀ y : Ext W, y.w.cell? ⟨b0', o0' + k * 4, none⟩ = some (.int .i64 kid'.op) := fun y => y.cell K'.c0
        have g1 : ∀ y : Ext W, y.w.cell? ⟨b0', o0' + k * 4 + 1, none⟩ = some (.int .i64 kid'.n) := fun y => y.cell K'.c1
        have g2 : ∀ y : Ext W, y.w.cell? ⟨b0', o0' + k * 4 + 2, none⟩ = some (.slice (kr' k).a kid'.ty.length (kr' k).c) := fun y => y.cell K'.c2
        have g3 : ∀ y : Ext W, y.w.cell? ⟨b0', o0' + k * 4 + 3, none⟩ = some (.slice (kr' k).b kid'.kids.length (kr' k).d) := fun y => y.cell K'.c3
        clear K' hkid'
        have x0 := fun o => g0 (yy.alloc o)
        have x1 := fun o => g1 (yy.alloc o)
        have x2 := fun o => g2 (yy.alloc o)
        have x3 := fun o => g3 (yy.alloc o)
        dsimp only at x0 x1 x2 x3
        obtain ⟨m, hm⟩ := bool_of (kid = kid')
        have HM := Lib.hid hm
        clear hm
        have hkw := Tm.wt_kid hmem
        have C : ∀ y : Ext W, Calls Tryd.prog 73 #[(kr k).val kid, (kr' k).val kid'] y.w (Ans W (.bool m)) := fun y => HI.out kid hmem hsub hsub' (by have := HWT.out; omega) m HM.out y
        unfold TV.val at C
        clear hmem hsub hsub' hkw
        cases m
        · go_wp2_with (go_at_call 73; with_reducible refine Calls.mono (C ((yy.alloc _).alloc _)) ?_; rintro e w' ⟨rfl, zz, rfl⟩)
          go_ret
          refine fin_false HP (fun q => ?_) ⟨zz, rfl⟩
          have e1 := HKID.out
          rw [q, HKID'.out] at e1
          have := HM.out.2 (Option.some.inj e1).symm
          cases this
        · go_wp2_with (go_at_call 73; with_reducible refine Calls.mono (C ((yy.alloc _).alloc _)) ?_; rintro e w' ⟨rfl, zz, rfl⟩)
          go_roundw
          case rel =>
            refine ⟨k + 1, by go_num, by omega, ⟨zz, rfl⟩, fun j hj => ?_⟩
            by_cases e : j = k
            · subst e
              rw [HKID.out, HKID'.out, HM.out.1 (by simp)]
            · exact HU.out j (by omega)
          case measure => simp [intOf]; omega
      · go_wp2
        go_ret
        refine fin_true HP (List.ext_getElem? fun i => ?_) ⟨yy, rfl⟩
        by_cases hi : i < t.kids.length
        · exact HU.out i (by omega)
        · have := HL.out
          rw [List.getElem?_eq_none (by omega), List.getElem?_eq_none (by omega)]
  · have fl : ((t.kids.length : Int) != (t'.kids.length : Int)) = true := by simp; omega
    have HL := Lib.hid hlen
    clear hlen
    go_enter Tryd.func118, Tryd.ntmps118
    go_wp2
    go_ret
    exact fin_false HP (fun q => HL.out (by rw [q])) ⟨yy, rfl⟩

set_option maxHeartbeats 4000000 in
theorem equalTerms_ans (t : Tm) : ∀ {W : World} {lo lo' : Nat} {t' : Tm} {r r' : TV} (_ : TmIn W lo t r) (_ : TmIn W lo' t' r') (_ : t.wt ≤ 1048576) (p : Bool) (_ : p = true ↔ t = t') (x : Ext W), Calls Tryd.prog 73 #[r.val t, r'.val t'] x.w (Ans W (.bool p)) := by
  induction t using Tm.ind with
  | h t ih =>
    intro W lo lo' t' r r' h h' hwt p hp x
    have HP := Lib.hid hp
    have HI := Lib.hid ih
    clear hp ih
    have hl40 : t.ty.length ≤ 1099511627776 := by rw [t.wt_eq] at hwt; omega
    have HWT := Lib.hid hwt
    obtain ⟨ra, rc, rb, rd⟩ := r
    obtain ⟨ra', rc', rb', rd'⟩ := r'
    unfold TV.val
    by_cases e1 : t.op = t'.op
    · have f1 : (t.op == t'.op) = true := by simpa using e1
      have E1 := Lib.hid e1
      clear e1
      by_cases e2 : t.n = t'.n
      · have f2 : (t.n == t'.n) = true := by simpa using e2
        have E2 := Lib.hid e2
        clear e2
        by_cases e3 : t.ty = t'.ty
        · have E3 := Lib.hid e3
          clear e3
          by_cases e4 : t.kids = t'.kids
          · have E4 := Lib.hid e4
            clear e4
            go_enter Tryd.func73, Tryd.ntmps73
            go_wp2_with fail
            generalize hW : (x.w.alloc _).alloc _ = W1
            generalize hB : x.w.heap.size = B
            obtain ⟨c0, c1, c2, c3, d0, d1, d2, d3, h1, h1', hback, yy, hy0⟩ := boxedTT h h' x hB hW
            clear hW hB
            rw [← hy0]
            clear hy0
            obtain ⟨kr, A⟩ := h1.out
            obtain ⟨kr', A'⟩ := h1'.out
            have hlk := A.lk
            have hlk' := A'.lk
            go_wp2_with (first | (go_at_call 117; with_reducible refine Calls.mono (slicesEqual_ans A.row A'.row hl40 true (by refine iff_tf ?_; dsimp only; exact E3.out) _) ?_; rintro e w' ⟨rfl, yy, rfl⟩) | (go_at_call 118; with_reducible refine Calls.mono (equalFunc_ans A A' HI hwt true (by refine iff_tf ?_; dsimp only; exact E4.out) _) ?_; rintro e w' ⟨rfl, yy, rfl⟩))
            go_ret
            exact fin_true HP (Tm.ext' E1.out E2.out E3.out E4.out) (hback yy)
          · have E4 := Lib.hid e4
            clear e4
            go_enter Tryd.func73, Tryd.ntmps73
            go_wp2_with fail
            generalize hW : (x.w.alloc _).alloc _ = W1
            generalize hB : x.w.heap.size = B
            obtain ⟨c0, c1, c2, c3, d0, d1, d2, d3, h1, h1', hback, yy, hy0⟩ := boxedTT h h' x hB hW
            clear hW hB
            rw [← hy0]
            clear hy0
            obtain ⟨kr, A⟩ := h1.out
            obtain ⟨kr', A'⟩ := h1'.out
            have hlk := A.lk
            have hlk' := A'.lk
            go_wp2_with (first | (go_at_call 117; with_reducible refine Calls.mono (slicesEqual_ans A.row A'.row hl40 true (by refine iff_tf ?_; dsimp only; exact E3.out) _) ?_; rintro e w' ⟨rfl, yy, rfl⟩) | (go_at_call 118; with_reducible refine Calls.mono (equalFunc_ans A A' HI hwt false (by refine iff_tf ?_; dsimp only; exact E4.out) _) ?_; rintro e w' ⟨rfl, yy, rfl⟩))
            go_ret
            exact fin_false HP (fun q => E4.out (by rw [q])) (hback yy)
        · have E3 := Lib.hid e3
          clear e3
          go_enter Tryd.func73, Tryd.ntmps73
          go_wp2_with fail
          generalize hW : (x.w.alloc _).alloc _ = W1
          generalize hB : x.w.heap.size = B
          obtain ⟨c0, c1, c2, c3, d0, d1, d2, d3, h1, h1', hback, yy, hy0⟩ := boxedTT h h' x hB hW
          clear hW hB
          rw [← hy0]
          clear hy0
          obtain ⟨kr, A⟩ := h1.out
          obtain ⟨kr', A'⟩ := h1'.out
          have hlk := A.lk
          have hlk' := A'.lk
          go_wp2_with (go_at_call 117; with_reducible refine Calls.mono (slicesEqual_ans A.row A'.row hl40 false (by refine iff_tf ?_; dsimp only; exact E3.out) _) ?_; rintro e w' ⟨rfl, yy, rfl⟩)
          go_ret
          exact fin_false HP (fun q => E3.out (by rw [q])) (hback yy)
      · have f2 : (t.n == t'.n) = false := by simpa using e2
        have E2 := Lib.hid e2
        clear e2
        go_enter Tryd.func73, Tryd.ntmps73
        go_wp2_with fail
        generalize hW : (x.w.alloc _).alloc _ = W1
        generalize hB : x.w.heap.size = B
        obtain ⟨c0, c1, c2, c3, d0, d1, d2, d3, h1, h1', hback, yy, hy0⟩ := boxedTT h h' x hB hW
        clear hW hB
        rw [← hy0]
        clear hy0
        obtain ⟨kr, A⟩ := h1.out
        obtain ⟨kr', A'⟩ := h1'.out
        have hlk := A.lk
        have hlk' := A'.lk
        go_wp2
        go_ret
        exact fin_false HP (fun q => E2.out (by rw [q])) (hback yy)
    · have f1 : (t.op == t'.op) = false := by simpa using e1
      have E1 := Lib.hid e1
      clear e1
      go_enter Tryd.func73, Tryd.ntmps73
      go_wp2_with fail
      generalize hW : (x.w.alloc _).alloc _ = W1
      generalize hB : x.w.heap.size = B
      obtain ⟨c0, c1, c2, c3, d0, d1, d2, d3, h1, h1', hback, yy, hy0⟩ := boxedTT h h' x hB hW
      clear hW hB
      rw [← hy0]
      clear hy0
      obtain ⟨kr, A⟩ := h1.out
      obtain ⟨kr', A'⟩ := h1'.out
      have hlk := A.lk
      have hlk' := A'.lk
      go_wp2
      go_ret
      exact fin_false HP (fun q => E1.out (by rw [q])) (hback yy)

set_option maxHeartbeats 4000000 in
theorem sameTerms_ans {W : World} (F : Forms W) (TF : TForms W) {lo lo' : Nat} {t t' : Tm} {r r' : TV} (h : TmIn W lo t r) (h' : TmIn W lo' t' r') (hTB : TmB t) (hTB' : TmB t') (hwt : t.wt ≤ 1048576) (hwt' : t'.wt ≤ 1048576) (p : Bool) (hp : p = true ↔ SameP t t') (x : Ext W) :
    Calls Tryd.prog 34 #[r.val t, r'.val t'] x.w (Ans W (.bool p)) := by
  have HP := Lib.hid hp
  clear hp
  have hwt2 : t.wt ≤ 1099511627776 := by omega
  have hwt2' : t'.wt ≤ 1099511627776 := by omega
  obtain ⟨ra, rc, rb, rd⟩ := r
  obtain ⟨ra', rc', rb', rd'⟩ := r'
  unfold TV.val
  by_cases ha : Written t
  · have HA := Lib.hid ha
    clear ha
    by_cases hb : Written t'
    · have HB := Lib.hid hb
      clear hb
      by_cases he : t = t'
      · have HE := Lib.hid he
        clear he
        go_enter Tryd.func34, Tryd.ntmps34
        go_wp2_with fail
        generalize hW : (x.w.alloc _).alloc _ = W1
        generalize hB : x.w.heap.size = B
        obtain ⟨c0, c1, c2, c3, d0, d1, d2, d3, h1, h1', hback, yy, hy0⟩ := boxedTT h h' x hB hW
        clear hW hB
        rw [← hy0]
        clear hy0
        have FF := F.on hback
        have TG := TF.on hback
        have W1a : ∀ y : Ext W1, Calls Tryd.prog 30 #[(TV.mk ra rc rb rd).val t] y.w (Ans W1 (.bool true)) := fun y => isWritten_ans FF TG h1 hTB true (by refine iff_tf ?_; dsimp only; exact HA.out) y
        unfold TV.val at W1a
        have W1b : ∀ y : Ext W1, Calls Tryd.prog 30 #[(TV.mk ra' rc' rb' rd').val t'] y.w (Ans W1 (.bool true)) := fun y => isWritten_ans FF TG h1' hTB' true (by refine iff_tf ?_; dsimp only; exact HB.out) y
        unfold TV.val at W1b
        have EQ : ∀ y : Ext W1, Calls Tryd.prog 73 #[(TV.mk ra rc rb rd).val t, (TV.mk ra' rc' rb' rd').val t'] y.w (Ans W1 (.bool true)) := fun y => equalTerms_ans t h1 h1' hwt true (by refine iff_tf ?_; dsimp only; exact HE.out) y
        unfold TV.val at EQ
        go_wp2_with (first | (go_at_call 30; with_reducible refine Calls.mono (W1a _) ?_; rintro e w' ⟨rfl, yy, rfl⟩) | (go_at_call 30; with_reducible refine Calls.mono (W1b _) ?_; rintro e w' ⟨rfl, yy, rfl⟩) | (go_at_call 73; with_reducible refine Calls.mono (EQ _) ?_; rintro e w' ⟨rfl, yy, rfl⟩))
        go_ret
        exact fin_true HP (⟨HA.out, HB.out, HE.out⟩) (hback yy)
      · have HE := Lib.hid he
        clear he
        go_enter Tryd.func34, Tryd.ntmps34
        go_wp2_with fail
        generalize hW : (x.w.alloc _).alloc _ = W1
        generalize hB : x.w.heap.size = B
        obtain ⟨c0, c1, c2, c3, d0, d1, d2, d3, h1, h1', hback, yy, hy0⟩ := boxedTT h h' x hB hW
        clear hW hB
        rw [← hy0]
        clear hy0
        have FF := F.on hback
        have TG := TF.on hback
        have W1a : ∀ y : Ext W1, Calls Tryd.prog 30 #[(TV.mk ra rc rb rd).val t] y.w (Ans W1 (.bool true)) := fun y => isWritten_ans FF TG h1 hTB true (by refine iff_tf ?_; dsimp only; exact HA.out) y
        unfold TV.val at W1a
        have W1b : ∀ y : Ext W1, Calls Tryd.prog 30 #[(TV.mk ra' rc' rb' rd').val t'] y.w (Ans W1 (.bool true)) := fun y => isWritten_ans FF TG h1' hTB' true (by refine iff_tf ?_; dsimp only; exact HB.out) y
        unfold TV.val at W1b
        have EQ : ∀ y : Ext W1, Calls Tryd.prog 73 #[(TV.mk ra rc rb rd).val t, (TV.mk ra' rc' rb' rd').val t'] y.w (Ans W1 (.bool false)) := fun y => equalTerms_ans t h1 h1' hwt false (by refine iff_tf ?_; dsimp only; exact HE.out) y
        unfold TV.val at EQ
        go_wp2_with (first | (go_at_call 30; with_reducible refine Calls.mono (W1a _) ?_; rintro e w' ⟨rfl, yy, rfl⟩) | (go_at_call 30; with_reducible refine Calls.mono (W1b _) ?_; rintro e w' ⟨rfl, yy, rfl⟩) | (go_at_call 73; with_reducible refine Calls.mono (EQ _) ?_; rintro e w' ⟨rfl, yy, rfl⟩))
        go_ret
        exact fin_false HP (fun q => HE.out q.2.2) (hback yy)
    · have HB := Lib.hid hb
      clear hb
      go_enter Tryd.func34, Tryd.ntmps34
      go_wp2_with fail
      generalize hW : (x.w.alloc _).alloc _ = W1
      generalize hB : x.w.heap.size = B
      obtain ⟨c0, c1, c2, c3, d0, d1, d2, d3, h1, h1', hback, yy, hy0⟩ := boxedTT h h' x hB hW
      clear hW hB
      rw [← hy0]
      clear hy0
      have FF := F.on hback
      have TG := TF.on hback
      have W1a : ∀ y : Ext W1, Calls Tryd.prog 30 #[(TV.mk ra rc rb rd).val t] y.w (Ans W1 (.bool true)) := fun y => isWritten_ans FF TG h1 hTB true (by refine iff_tf ?_; dsimp only; exact HA.out) y
      unfold TV.val at W1a
      have W1b : ∀ y : Ext W1, Calls Tryd.prog 30 #[(TV.mk ra' rc' rb' rd').val t'] y.w (Ans W1 (.bool false)) := fun y => isWritten_ans FF TG h1' hTB' false (by refine iff_tf ?_; dsimp only; exact HB.out) y
      unfold TV.val at W1b
      go_wp2_with (first | (go_at_call 30; with_reducible refine Calls.mono (W1a _) ?_; rintro e w' ⟨rfl, yy, rfl⟩) | (go_at_call 30; with_reducible refine Calls.mono (W1b _) ?_; rintro e w' ⟨rfl, yy, rfl⟩))
      go_ret
      exact fin_false HP (fun q => HB.out q.2.1) (hback yy)
  · have HA := Lib.hid ha
    clear ha
    go_enter Tryd.func34, Tryd.ntmps34
    go_wp2_with fail
    generalize hW : (x.w.alloc _).alloc _ = W1
    generalize hB : x.w.heap.size = B
    obtain ⟨c0, c1, c2, c3, d0, d1, d2, d3, h1, h1', hback, yy, hy0⟩ := boxedTT h h' x hB hW
    clear hW hB
    rw [← hy0]
    clear hy0
    have FF := F.on hback
    have TG := TF.on hback
    have W1a : ∀ y : Ext W1, Calls Tryd.prog 30 #[(TV.mk ra rc rb rd).val t] y.w (Ans W1 (.bool false)) := fun y => isWritten_ans FF TG h1 hTB false (by refine iff_tf ?_; dsimp only; exact HA.out) y
    unfold TV.val at W1a
    go_wp2_with (first | (go_at_call 30; with_reducible refine Calls.mono (W1a _) ?_; rintro e w' ⟨rfl, yy, rfl⟩))
    go_ret
    exact fin_false HP (fun q => HA.out q.1) (hback yy)

end Go.Proofs.YtlbpefmocodkfaaDoor
