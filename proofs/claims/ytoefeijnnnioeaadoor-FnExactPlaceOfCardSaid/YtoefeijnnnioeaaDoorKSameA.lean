
/- The model's comparison of terms. -/
import Derived.Test.YtoefeijnnnioeaaDoorGG
import Derived.Test.YtoefeijnnnioeaaDoorGI
set_option linter.unusedVariables false
set_option linter.unusedSimpArgs false
namespace Go.Proofs.YtoefeijnnnioeaaDoor
open Go.RowKit

set_option maxHeartbeats 4000000 in
theorem l1Same_ans {W : World} {a b : Option Addr} {c d : Nat} {l m : List Int} (h : Row W (Value.int .i64) a l) (k : Row W (Value.int .i64) b m) (hl : l.length ≤ 1099511627776) (p : Bool) (hp : p = true ↔ l = m) (x : Ext W) :
    Calls Tryd.prog 125 #[.slice a l.length c, .slice b m.length d] x.w (Ans W (.bool p)) := by
  have HP := Lib.hid hp
  clear hp
  by_cases hlen : l.length = m.length
  · have fl : ((l.length : Int) != (m.length : Int)) = false := by simp; omega
    have hlm1 : l.length ≤ m.length := by omega
    have hlm2 : m.length ≤ l.length := by omega
    have HL := Lib.hid hlen
    clear hlen
    go_enter Tryd.func125, Tryd.ntmps125
    go_wp2
    clear fl
    obtain ⟨yy, hyy⟩ : ∃ y : Ext W, x = y := ⟨x, rfl⟩
    rw [hyy]
    clear hyy
    go_loopw [5] (fun i wr => ∃ j : Nat, i = .int .i64 j ∧ j ≤ l.length ∧ (∃ y : Ext W, wr = y.w) ∧ Hid (∀ i, i < j → l[i]? = m[i]?)) (fun i _ => l.length - (intOf i).toNat)
    case atStart => exact ⟨0, rfl, by omega, ⟨yy, rfl⟩, fun i hi => by omega⟩
    case round =>
      obtain ⟨j, rfl, hj, ⟨yy, rfl⟩, hU⟩ := hrel
      by_cases hlt : j < l.length
      · have hltm : j < m.length := by omega
        have hlt' : (j : Int) < (l.length : Int) := by omega
        have hltm' : (j : Int) < (m.length : Int) := by omega
        obtain ⟨b1, o1, rfl, hc⟩ := h.at hlt
        obtain ⟨b2, o2, rfl, hd⟩ := k.at hltm
        have c1 : ∀ y : Ext W, y.w.cell? ⟨b1, o1 + j, none⟩ = some ((Value.int .i64) l[j]) := fun y => y.cell (hc j _ (List.getElem?_eq_getElem hlt))
        have c2 : ∀ y : Ext W, y.w.cell? ⟨b2, o2 + j, none⟩ = some ((Value.int .i64) m[j]) := fun y => y.cell (hd j _ (List.getElem?_eq_getElem hltm))
        have E1 : Hid (l[j]? = some l[j]) := List.getElem?_eq_getElem hlt
        have E2 : Hid (m[j]? = some m[j]) := List.getElem?_eq_getElem hltm
        clear hc hd
        generalize l[j] = u at *
        generalize m[j] = v at *
        by_cases he : u = v
        · have fe : (u != v) = false := by simpa using he
          have HE := Lib.hid he
          clear he
          go_wp2
          refine region_ext yy (by kernel_rfl) (by kernel_rfl) ?_
          repeat (go_big_quiet_step (fail))
          refine wpQuiet_nil ?_
          rintro _ ⟨yy, rfl⟩
          go_wp2
          go_roundw
          case rel =>
            refine ⟨j + 1, by go_num, by omega, ⟨yy, rfl⟩, fun i hi => ?_⟩
            by_cases e : i = j
            · subst e; rw [E1.out, E2.out, HE.out]
            · exact hU.out i (by omega)
          case measure => simp [intOf]; omega
        · have fe : (u != v) = true := by simpa using he
          have HE := Lib.hid he
          clear he
          go_wp2
          refine region_ext yy (by kernel_rfl) (by kernel_rfl) ?_
          repeat (go_big_quiet_step (fail))
          refine wpQuiet_nil ?_
          rintro _ ⟨yy, rfl⟩
          go_wp2
          go_ret
          refine fin_false HP (fun q => HE.out ?_) ⟨yy, rfl⟩
          have e1 := E1.out
          rw [q, E2.out] at e1
          cases e1
          rfl
      · go_wp2
        go_ret
        refine fin_true HP (List.ext_getElem? fun i => ?_) ⟨yy, rfl⟩
        by_cases hi : i < l.length
        · exact hU.out i (by omega)
        · rw [List.getElem?_eq_none (by omega), List.getElem?_eq_none (by omega)]
  · have fl : ((l.length : Int) != (m.length : Int)) = true := by simp; omega
    have HL := Lib.hid hlen
    clear hlen
    go_enter Tryd.func125, Tryd.ntmps125
    go_wp2
    go_ret
    exact fin_false HP (fun q => HL.out (by rw [q])) ⟨x, rfl⟩

set_option maxHeartbeats 4000000 in
theorem slicesEqual_ans {W : World} {a b : Option Addr} {c d : Nat} {l m : List Int} (h : Row W (Value.int .i64) a l) (k : Row W (Value.int .i64) b m) (hl : l.length ≤ 1099511627776) (p : Bool) (hp : p = true ↔ l = m) (x : Ext W) :
    Calls Tryd.prog 133 #[.slice a l.length c, .slice b m.length d] x.w (Ans W (.bool p)) := by
  have HP := Lib.hid hp
  clear hp
  by_cases hlen : l.length = m.length
  · have fl : ((l.length : Int) != (m.length : Int)) = false := by simp; omega
    have hlm1 : l.length ≤ m.length := by omega
    have hlm2 : m.length ≤ l.length := by omega
    have HL := Lib.hid hlen
    clear hlen
    go_enter Tryd.func133, Tryd.ntmps133
    go_wp2
    clear fl
    obtain ⟨yy, hyy⟩ : ∃ y : Ext W, x = y := ⟨x, rfl⟩
    rw [hyy]
    clear hyy
    go_loopw [13] (fun i wr => ∃ j : Nat, i = .int .i64 j ∧ j ≤ l.length ∧ (∃ y : Ext W, wr = y.w) ∧ Hid (∀ i, i < j → l[i]? = m[i]?)) (fun i _ => l.length - (intOf i).toNat)
    case atStart => exact ⟨0, rfl, by omega, ⟨yy, rfl⟩, fun i hi => by omega⟩
    case round =>
      obtain ⟨j, rfl, hj, ⟨yy, rfl⟩, hU⟩ := hrel
      by_cases hlt : j < l.length
      · have hltm : j < m.length := by omega
        have hlt' : (j : Int) < (l.length : Int) := by omega
        have hltm' : (j : Int) < (m.length : Int) := by omega
        obtain ⟨b1, o1, rfl, hc⟩ := h.at hlt
        obtain ⟨b2, o2, rfl, hd⟩ := k.at hltm
        have c1 : ∀ y : Ext W, y.w.cell? ⟨b1, o1 + j, none⟩ = some ((Value.int .i64) l[j]) := fun y => y.cell (hc j _ (List.getElem?_eq_getElem hlt))
        have c2 : ∀ y : Ext W, y.w.cell? ⟨b2, o2 + j, none⟩ = some ((Value.int .i64) m[j]) := fun y => y.cell (hd j _ (List.getElem?_eq_getElem hltm))
        have E1 : Hid (l[j]? = some l[j]) := List.getElem?_eq_getElem hlt
        have E2 : Hid (m[j]? = some m[j]) := List.getElem?_eq_getElem hltm
        clear hc hd
        generalize l[j] = u at *
        generalize m[j] = v at *
        by_cases he : u = v
        · have fe : (u != v) = false := by simpa using he
          have HE := Lib.hid he
          clear he
          go_wp2
          refine region_ext yy (by kernel_rfl) (by kernel_rfl) ?_
          repeat (go_big_quiet_step (fail))
          refine wpQuiet_nil ?_
          rintro _ ⟨yy, rfl⟩
          go_wp2
          go_roundw
          case rel =>
            refine ⟨j + 1, by go_num, by omega, ⟨yy, rfl⟩, fun i hi => ?_⟩
            by_cases e : i = j
            · subst e; rw [E1.out, E2.out, HE.out]
            · exact hU.out i (by omega)
          case measure => simp [intOf]; omega
        · have fe : (u != v) = true := by simpa using he
          have HE := Lib.hid he
          clear he
          go_wp2
          refine region_ext yy (by kernel_rfl) (by kernel_rfl) ?_
          repeat (go_big_quiet_step (fail))
          refine wpQuiet_nil ?_
          rintro _ ⟨yy, rfl⟩
          go_wp2
          go_ret
          refine fin_false HP (fun q => HE.out ?_) ⟨yy, rfl⟩
          have e1 := E1.out
          rw [q, E2.out] at e1
          cases e1
          rfl
      · go_wp2
        go_ret
        refine fin_true HP (List.ext_getElem? fun i => ?_) ⟨yy, rfl⟩
        by_cases hi : i < l.length
        · exact hU.out i (by omega)
        · rw [List.getElem?_eq_none (by omega), List.getElem?_eq_none (by omega)]
  · have fl : ((l.length : Int) != (m.length : Int)) = true := by simp; omega
    have HL := Lib.hid hlen
    clear hlen
    go_enter Tryd.func133, Tryd.ntmps133
    go_wp2
    go_ret
    exact fin_false HP (fun q => HL.out (by rw [q])) ⟨x, rfl⟩

set_option maxHeartbeats 4000000 in
theorem l2Equal_ans (t : Tm) : ∀ {W : World} {lo lo' : Nat} {t' : Tm} {r r' : TV} (_ : TmIn W lo t r) (_ : TmIn W lo' t' r') (_ : t.wt ≤ 1048576) (p : Bool) (_ : p = true ↔ t = t') (x : Ext W), Calls Tryd.prog 104 #[r.val t, r'.val t'] x.w (Ans W (.bool p)) := by
  induction t using Tm.ind with
  | h t ih =>
    intro W lo lo' t' r r' h h' hwt p hp x
    have HP := Lib.hid hp
    have HI := Lib.hid ih
    clear hp ih
    have hl40 : t.ty.length ≤ 1099511627776 := by rw [t.wt_eq] at hwt; omega
    have HWT := Lib.hid hwt
    obtain ⟨ra, rc, rb, rd⟩ := r
    obtain ⟨ra', rc', rb', rd'⟩ := r'
    unfold TV.val
    by_cases e1 : t.op = t'.op
    · have f1 : (t.op != t'.op) = false := by simpa using e1
      have E1 := Lib.hid e1
      clear e1
      by_cases e2 : t.n = t'.n
      · have f2 : (t.n != t'.n) = false := by simpa using e2
        have E2 := Lib.hid e2
        clear e2
        by_cases e3 : t.ty = t'.ty
        · have E3 := Lib.hid e3
          clear e3
          by_cases hlen : t.kids.length = t'.kids.length
          · have fl : ((t.kids.length : Int) != (t'.kids.length : Int)) = false := by simp; omega
            have HL := Lib.hid hlen
            clear hlen
            go_enter Tryd.func104, Tryd.ntmps104
            go_wp2_with fail
            generalize hW : (x.w.alloc _).alloc _ = W1
            generalize hB : x.w.heap.size = B
            obtain ⟨c0, c1, c2, c3, d0, d1, d2, d3, h1, h1', hback, yy, hy0⟩ := boxedTT h h' x hB hW
            clear hW hB
            rw [← hy0]
            clear hy0
            obtain ⟨kr, A⟩ := h1.out
            obtain ⟨kr', A'⟩ := h1'.out
            have hlk := A.lk
            have hlk' := A'.lk
            go_wp2_with (go_at_call 125; with_reducible refine Calls.mono (l1Same_ans A.row A'.row hl40 true (by refine iff_tf ?_; dsimp only; exact E3.out) _) ?_; rintro e w' ⟨rfl, yy, rfl⟩)
            clear fl f1 f2
            go_loopw [5] (fun i wr => ∃ k : Nat, i = .int .i64 k ∧ k ≤ t.kids.length ∧ (∃ y : Ext W1, wr = y.w) ∧ Hid (∀ j, j < k → t.kids[j]? = t'.kids[j]?)) (fun i _ => t.kids.length - (intOf i).toNat)
            case atStart => exact ⟨0, rfl, by omega, ⟨yy, rfl⟩, fun j hj => by omega⟩
            case round =>
              obtain ⟨k, rfl, hk, ⟨yy, rfl⟩, HU⟩ := hrel
              by_cases hlt : k < t.kids.length
              · have hlt' : (k : Int) < (t.kids.length : Int) := by omega
                have hlt2 : k < t'.kids.length := by have := HL.out; omega
                have hlt3 : (k : Int) < (t'.kids.length : Int) := by omega
                obtain ⟨kid, hkid⟩ : ∃ kid, t.kids[k]? = some kid := ⟨_, List.getElem?_eq_getElem hlt⟩
                have hmem : kid ∈ t.kids := List.mem_of_getElem? hkid
                have HKID := Lib.hid hkid
                obtain ⟨b0, o0, hrb, K⟩ := A.kid k kid hkid
                have hsub := A.sub k kid hkid
                dsimp only at hrb
                subst hrb
                have m0 : ∀ y : Ext W1, y.w.cell? ⟨b0, o0 + k * 4, none⟩ = some (.int .i64 kid.op) := fun y => y.cell K.c0
                have m1 : ∀ y : Ext W1, y.w.cell? ⟨b0, o0 + k * 4 + 1, none⟩ = some (.int .i64 kid.n) := fun y => y.cell K.c1
                have m2 : ∀ y : Ext W1, y.w.cell? ⟨b0, o0 + k * 4 + 2, none⟩ = some (.slice (kr k).a kid.ty.length (kr k).c) := fun y => y.cell K.c2
                have m3 : ∀ y : Ext W1, y.w.cell? ⟨b0, o0 + k * 4 + 3, none⟩ = some (.slice (kr k).b kid.kids.length (kr k).d) := fun y => y.cell K.c3
                clear K hkid
                obtain ⟨kid', hkid'⟩ : ∃ kid', t'.kids[k]? = some kid' := ⟨_, List.getElem?_eq_getElem hlt2⟩
                have HKID' := Lib.hid hkid'
                obtain ⟨b0', o0', hrb', K'⟩ := A'.kid k kid' hkid'
                have hsub' := A'.sub k kid' hkid'
                dsimp only at hrb'
                subst hrb'
                have n0 : ∀ y : Ext W1, y.w.cell? ⟨b0', o0' + k * 4, none⟩ = some (.int .i64 kid'.op) := fun y => y.cell K'.c0
                have n1 : ∀ y : Ext W1, y.w.cell? ⟨b0', o0' + k * 4 + 1, none⟩ = some (.int .i64 kid'.n) := fun y => y.cell K'.c1
                have n2 : ∀ y : Ext W1, y.w.cell? ⟨b0', o0' + k * 4 + 2, none⟩ = some (.slice (kr' k).a kid'.ty.length (kr' k).c) := fun y => y.cell K'.c2
                have n3 : ∀ y : Ext W1, y.w.cell? ⟨b0', o0' + k * 4 + 3, none⟩ = some (.slice (kr' k).b kid'.kids.length (kr' k).d) := fun y => y.cell K'.c3
                clear K' hkid'
                obtain ⟨m, hm⟩ := bool_of (kid = kid')
                have HM := Lib.hid hm
                clear hm
                have hkw := Tm.wt_kid hmem
                have C : ∀ y : Ext W1, Calls Tryd.prog 104 #[(kr k).val kid, (kr' k).val kid'] y.w (Ans W1 (.bool m)) := fun y => HI.out kid hmem hsub hsub' (by have := HWT.out; omega) m HM.out y
                unfold TV.val at C
                clear hmem hsub hsub' hkw
                cases m
                · go_wp2
                  refine region_ext yy (by kernel_rfl) (by kernel_rfl) ?_
                  repeat (go_big_quiet_step ((go_at_call 104; with_reducible exact C _)))
                  refine wpQuiet_nil ?_
                  rintro _ ⟨yy, rfl⟩
                  go_wp2
                  go_ret
                  refine fin_false HP (fun q => ?_) (hback yy)
                  have e1 := HKID.out
                  rw [q, HKID'.out] at e1
                  have := HM.out.2 (Option.some.inj e1).symm
                  cases this
                · go_wp2
                  refine region_ext yy (by kernel_rfl) (by kernel_rfl) ?_
                  repeat (go_big_quiet_step ((go_at_call 104; with_reducible exact C _)))
                  refine wpQuiet_nil ?_
                  rintro _ ⟨yy, rfl⟩
                  go_wp2
                  go_roundw
                  case rel =>
                    refine ⟨k + 1, by go_num, by omega, ⟨yy, rfl⟩, fun j hj => ?_⟩
                    by_cases e : j = k
                    · subst e
                      rw [HKID.out, HKID'.out, HM.out.1 (by simp)]
                    · exact HU.out j (by omega)
                  case measure => simp [intOf]; omega
              · go_wp2
                go_ret
                have HK : t.kids = t'.kids := List.ext_getElem? fun i => by
                  by_cases hi : i < t.kids.length
                  · exact HU.out i (by omega)
                  · have := HL.out
                    rw [List.getElem?_eq_none (by omega), List.getElem?_eq_none (by omega)]
                exact fin_true HP (Tm.ext' E1.out E2.out E3.out HK) (hback yy)
          · have fl : ((t.kids.length : Int) != (t'.kids.length : Int)) = true := by simp; omega
            have HL := Lib.hid hlen
            clear hlen
            go_enter Tryd.func104, Tryd.ntmps104
            go_wp2_with fail
            generalize hW : (x.w.alloc _).alloc _ = W1
            generalize hB : x.w.heap.size = B
            obtain ⟨c0, c1, c2, c3, d0, d1, d2, d3, h1, h1', hback, yy, hy0⟩ := boxedTT h h' x hB hW
            clear hW hB
            rw [← hy0]
            clear hy0
            obtain ⟨kr, A⟩ := h1.out
            obtain ⟨kr', A'⟩ := h1'.out
            have hlk := A.lk
            have hlk' := A'.lk
            go_wp2_with (go_at_call 125; with_reducible refine Calls.mono (l1Same_ans A.row A'.row hl40 true (by refine iff_tf ?_; dsimp only; exact E3.out) _) ?_; rintro e w' ⟨rfl, yy, rfl⟩)
            go_ret
            exact fin_false HP (fun q => HL.out (by rw [q])) (hback yy)
        · have E3 := Lib.hid e3
          clear e3
          go_enter Tryd.func104, Tryd.ntmps104
          go_wp2_with fail
          generalize hW : (x.w.alloc _).alloc _ = W1
          generalize hB : x.w.heap.size = B
          obtain ⟨c0, c1, c2, c3, d0, d1, d2, d3, h1, h1', hback, yy, hy0⟩ := boxedTT h h' x hB hW
          clear hW hB
          rw [← hy0]
          clear hy0
          obtain ⟨kr, A⟩ := h1.out
          obtain ⟨kr', A'⟩ := h1'.out
          have hlk := A.lk
          have hlk' := A'.lk
          go_wp2_with (go_at_call 125; with_reducible refine Calls.mono (l1Same_ans A.row A'.row hl40 false (by refine iff_tf ?_; dsimp only; exact E3.out) _) ?_; rintro e w' ⟨rfl, yy, rfl⟩)
          go_ret
          exact fin_false HP (fun q => E3.out (by rw [q])) (hback yy)
      · have f2 : (t.n != t'.n) = true := by simpa using e2
        have E2 := Lib.hid e2
        clear e2
        go_enter Tryd.func104, Tryd.ntmps104
        go_wp2_with fail
        generalize hW : (x.w.alloc _).alloc _ = W1
        generalize hB : x.w.heap.size = B
        obtain ⟨c0, c1, c2, c3, d0, d1, d2, d3, h1, h1', hback, yy, hy0⟩ := boxedTT h h' x hB hW
        clear hW hB
        rw [← hy0]
        clear hy0
        obtain ⟨kr, A⟩ := h1.out
        obtain ⟨kr', A'⟩ := h1'.out
        have hlk := A.lk
        have hlk' := A'.lk
        go_wp2
        go_ret
        exact fin_false HP (fun q => E2.out (by rw [q])) (hback yy)
    · have f1 : (t.op != t'.op) = true := by simpa using e1
      have E1 := Lib.hid e1
      clear e1
      go_enter Tryd.func104, Tryd.ntmps104
      go_wp2_with fail
      generalize hW : (x.w.alloc _).alloc _ = W1
      generalize hB : x.w.heap.size = B
      obtain ⟨c0, c1, c2, c3, d0, d1, d2, d3, h1, h1', hback, yy, hy0⟩ := boxedTT h h' x hB hW
      clear hW hB
      rw [← hy0]
      clear hy0
      obtain ⟨kr, A⟩ := h1.out
      obtain ⟨kr', A'⟩ := h1'.out
      have hlk := A.lk
      have hlk' := A'.lk
      go_wp2
      go_ret
      exact fin_false HP (fun q => E1.out (by rw [q])) (hback yy)

def SameP (t t' : Tm) : Prop := Written t ∧ Written t' ∧ t = t'

end Go.Proofs.YtoefeijnnnioeaaDoor
