
/- The model's count of open places. -/
import Derived.Test.YteffcfaoganciaaDoorKOpnSpec
import Derived.Test.YteffcfaoganciaaDoorGG
set_option linter.unusedVariables false
set_option linter.unusedSimpArgs false
namespace Go.Proofs.YteffcfaoganciaaDoor
open Go.RowKit

set_option maxHeartbeats 8000000 in
theorem l9Count_ans (t : Tm) : ∀ {W : World} {lo : Nat} {r : TV} (_ : TmIn W lo t r) {size vars : Int} {closed : Bool} (_ : OkT size closed vars t) (_ : t.sz ≤ 1000) (x : Ext W),
    Calls Tryd.prog 55 #[r.val t] x.w (Ans W (.int .i64 (t.opn : Int))) := by
  induction t using Tm.ind with
  | h t ih =>
    intro W lo r h size vars closed ok hsz x
    have HI := Lib.hid ih
    clear ih
    have hsp := t.sz_pos
    have h13 : 0 ≤ t.op ∧ t.op ≤ 12 := manyO_in (by rw [← ok.node.many]; omega)
    have hk3 : t.kids.length ≤ 3 := by have := ok.node.many; have := manyO_le t.op; omega
    have hty := ok.node.tok.len
    have OK := Lib.hid ok
    obtain ⟨ra, rc, rb, rd⟩ := r
    unfold TV.val
    by_cases hh : HasG t.op
    · have HH := Lib.hid hh
      clear hh
      by_cases hn : t.n < 0
      · have HN0 : Hid ((1 : Int) = ((if t.n = -1 then 1 else 0 : Nat) : Int)) := by
          have := ok.node.nok
          have h6 := HH.out
          unfold NOk at this
          unfold HasG at h6
          rw [if_neg (by omega), if_neg (by omega), if_pos HH.out] at this
          show _ = _
          rw [if_pos (by omega)]; rfl
        clear ok
        go_enter Tryd.func55, Tryd.ntmps55
        go_wp2_with fail
        generalize hW : x.w.alloc _ = W1
        generalize hB : x.w.heap.size = B
        obtain ⟨c0, c1, c2, c3, h1, hback, yy, hy0⟩ := boxedT h x hB hW
        clear hW hB
        rw [← hy0]
        clear hy0
        obtain ⟨kr, A⟩ := h1.out
        have hlk := A.lk
        have hlt := A.lt
        go_wp2_with (go_at_call 107; with_reducible refine Calls.mono (l2Has_ans t.op true (by refine iff_tf ?_; dsimp only; exact HH.out) _) ?_; rintro e w' ⟨rfl, yy, rfl⟩)
        go_loopw [4, 3] (fun a b wr => ∃ k : Nat, ∃ s : Int, a = .int .i64 k ∧ b = .int .i64 s ∧ k ≤ t.ty.length ∧ (∃ y : Ext W1, wr = y.w) ∧ 0 ≤ s ∧ s ≤ 1 + (k : Int) ∧ Hid (s = 1 + (opnTy (t.ty.take k) : Int))) (fun a _ _ => t.ty.length - (intOf a).toNat)
        case atStart => exact ⟨0, _, rfl, rfl, by omega, ⟨yy, rfl⟩, by omega, by omega, by show _ = _; simp [opnTy]⟩
        case round =>
          obtain ⟨k, s, rfl, rfl, hk, ⟨yy, rfl⟩, hs0, hs1, HS⟩ := hrel
          by_cases hlt : k < t.ty.length
          · have hlt' : (k : Int) < (t.ty.length : Int) := by omega
            obtain ⟨b1, o1, hra, hc⟩ := A.row.at hlt
            dsimp only at hra
            subst hra
            have HC : Hid (t.ty[k]? = some t.ty[k]) := List.getElem?_eq_getElem hlt
            have d1 : ∀ y : Ext W1, y.w.cell? ⟨b1, o1 + k, none⟩ = some (.int .i64 t.ty[k]) := fun y => y.cell (hc k _ HC.out)
            clear hc
            generalize t.ty[k] = c at *
            by_cases hc : 35 ≤ c
            · have HG := Lib.hid hc
              go_wp2_with fail
              go_roundw
              case rel =>
                refine ⟨k + 1, s + 1, by go_num, by go_num, by omega, ⟨yy, rfl⟩, by omega, by omega, ?_⟩
                have h1 := opnTy_take_succ HC.out
                rw [if_pos (by have := HG.out; omega)] at h1
                have := HS.out
                show _ = _
                omega
              case measure => simp [intOf]; omega
            · have HG := Lib.hid hc
              go_wp2_with fail
              go_roundw
              case rel =>
                refine ⟨k + 1, s, by go_num, rfl, by omega, ⟨yy, rfl⟩, by omega, by omega, ?_⟩
                have h1 := opnTy_take_succ HC.out
                rw [if_neg (by have := HG.out; omega)] at h1
                have := HS.out
                show _ = _
                omega
              case measure => simp [intOf]; omega
          · have hke : t.ty.take k = t.ty := List.take_of_length_le (by omega)
            have HK1 : Hid (s = 1 + (opnTy t.ty : Int)) := by have := HS.out; rw [hke] at this; exact this
            clear hke HS
            go_wp2_with fail
            go_loopw [5, 3] (fun a b wr => ∃ k : Nat, ∃ u : Int, a = .int .i64 k ∧ b = .int .i64 u ∧ k ≤ t.kids.length ∧ (∃ y : Ext W1, wr = y.w) ∧ 0 ≤ u ∧ u ≤ 41 + 41000 * (k : Int) ∧ Hid (u = 1 + (opnTy t.ty : Int) + (Tm.opnL (t.kids.take k) : Int))) (fun a _ _ => t.kids.length - (intOf a).toNat)
            case atStart => exact ⟨0, s, rfl, rfl, by omega, ⟨yy, rfl⟩, by omega, by omega, by show _ = _; have := HK1.out; simp [Tm.opnL]; omega⟩
            case round =>
              obtain ⟨k, u, rfl, rfl, hk, ⟨yy, rfl⟩, hs0, hs1, HS⟩ := hrel
              by_cases hlt : k < t.kids.length
              · have hlt' : (k : Int) < (t.kids.length : Int) := by omega
                obtain ⟨kid, hkid⟩ : ∃ kid, t.kids[k]? = some kid := ⟨_, List.getElem?_eq_getElem hlt⟩
                have hmem : kid ∈ t.kids := List.mem_of_getElem? hkid
                have HKID := Lib.hid hkid
                obtain ⟨b0, o0, hrb, K⟩ := A.kid k kid hkid
                have hsub := A.sub k kid hkid
                dsimp only at hrb
                subst hrb
                have d0 : ∀ y : Ext W1, y.w.cell? ⟨b0, o0 + k * 4, none⟩ = some (.int .i64 kid.op) := fun y => y.cell K.c0
                have d1 : ∀ y : Ext W1, y.w.cell? ⟨b0, o0 + k * 4 + 1, none⟩ = some (.int .i64 kid.n) := fun y => y.cell K.c1
                have d2 : ∀ y : Ext W1, y.w.cell? ⟨b0, o0 + k * 4 + 2, none⟩ = some (.slice (kr k).a kid.ty.length (kr k).c) := fun y => y.cell K.c2
                have d3 : ∀ y : Ext W1, y.w.cell? ⟨b0, o0 + k * 4 + 3, none⟩ = some (.slice (kr k).b kid.kids.length (kr k).d) := fun y => y.cell K.c3
                clear K hkid
                have hks := Tm.sz_kid hmem
                have hok : OkT size closed (vars + addsO t.op k) kid := OK.out.kid HKID.out
                have hop := hok.opn_le
                obtain ⟨m, hm⟩ : ∃ m : Int, m = (kid.opn : Int) := ⟨_, rfl⟩
                have HMV := Lib.hid hm
                have C : ∀ y : Ext W1, Calls Tryd.prog 55 #[(kr k).val kid] y.w (Ans W1 (.int .i64 m)) := fun y => by rw [hm]; exact HI.out kid hmem hsub hok (by omega) y
                have hm1 : 0 ≤ m := by omega
                have hm2 : m ≤ 41000 := by omega
                unfold TV.val at C
                clear hmem hsub hok hop hm hks
                go_wp2_with (go_at_call 55; with_reducible refine Calls.mono (C _) ?_; rintro e w' ⟨rfl, yy, rfl⟩)
                go_roundw
                case rel =>
                  refine ⟨k + 1, u + m, by go_num, by go_num, by omega, ⟨yy, rfl⟩, by omega, by omega, ?_⟩
                  have h1 := Tm.opnL_take_succ HKID.out
                  have := HS.out
                  have := HMV.out
                  show _ = _
                  omega
                case measure => simp [intOf]; omega
              · go_wp2_with fail
                go_ret
                refine fin_int ?_ (hback yy)
                have h4 : t.kids.take k = t.kids := List.take_of_length_le (by omega)
                have h3 := HS.out
                rw [h4] at h3
                have h5 := t.opn_eq
                have h6 := HN0.out
                omega
      · have HN0 : Hid ((0 : Int) = ((if t.n = -1 then 1 else 0 : Nat) : Int)) := by show _ = _; rw [if_neg (by omega)]; rfl
        clear ok
        go_enter Tryd.func55, Tryd.ntmps55
        go_wp2_with fail
        generalize hW : x.w.alloc _ = W1
        generalize hB : x.w.heap.size = B
        obtain ⟨c0, c1, c2, c3, h1, hback, yy, hy0⟩ := boxedT h x hB hW
        clear hW hB
        rw [← hy0]
        clear hy0
        obtain ⟨kr, A⟩ := h1.out
        have hlk := A.lk
        have hlt := A.lt
        go_wp2_with (go_at_call 107; with_reducible refine Calls.mono (l2Has_ans t.op true (by refine iff_tf ?_; dsimp only; exact HH.out) _) ?_; rintro e w' ⟨rfl, yy, rfl⟩)
        go_loopw [4, 3] (fun a b wr => ∃ k : Nat, ∃ s : Int, a = .int .i64 k ∧ b = .int .i64 s ∧ k ≤ t.ty.length ∧ (∃ y : Ext W1, wr = y.w) ∧ 0 ≤ s ∧ s ≤ 1 + (k : Int) ∧ Hid (s = 0 + (opnTy (t.ty.take k) : Int))) (fun a _ _ => t.ty.length - (intOf a).toNat)
        case atStart => exact ⟨0, _, rfl, rfl, by omega, ⟨yy, rfl⟩, by omega, by omega, by show _ = _; simp [opnTy]⟩
        case round =>
          obtain ⟨k, s, rfl, rfl, hk, ⟨yy, rfl⟩, hs0, hs1, HS⟩ := hrel
          by_cases hlt : k < t.ty.length
          · have hlt' : (k : Int) < (t.ty.length : Int) := by omega
            obtain ⟨b1, o1, hra, hc⟩ := A.row.at hlt
            dsimp only at hra
            subst hra
            have HC : Hid (t.ty[k]? = some t.ty[k]) := List.getElem?_eq_getElem hlt
            have d1 : ∀ y : Ext W1, y.w.cell? ⟨b1, o1 + k, none⟩ = some (.int .i64 t.ty[k]) := fun y => y.cell (hc k _ HC.out)
            clear hc
            generalize t.ty[k] = c at *
            by_cases hc : 35 ≤ c
            · have HG := Lib.hid hc
              go_wp2_with fail
              go_roundw
              case rel =>
                refine ⟨k + 1, s + 1, by go_num, by go_num, by omega, ⟨yy, rfl⟩, by omega, by omega, ?_⟩
                have h1 := opnTy_take_succ HC.out
                rw [if_pos (by have := HG.out; omega)] at h1
                have := HS.out
                show _ = _
                omega
              case measure => simp [intOf]; omega
            · have HG := Lib.hid hc
              go_wp2_with fail
              go_roundw
              case rel =>
                refine ⟨k + 1, s, by go_num, rfl, by omega, ⟨yy, rfl⟩, by omega, by omega, ?_⟩
                have h1 := opnTy_take_succ HC.out
                rw [if_neg (by have := HG.out; omega)] at h1
                have := HS.out
                show _ = _
                omega
              case measure => simp [intOf]; omega
          · have hke : t.ty.take k = t.ty := List.take_of_length_le (by omega)
            have HK1 : Hid (s = 0 + (opnTy t.ty : Int)) := by have := HS.out; rw [hke] at this; exact this
            clear hke HS
            go_wp2_with fail
            go_loopw [5, 3] (fun a b wr => ∃ k : Nat, ∃ u : Int, a = .int .i64 k ∧ b = .int .i64 u ∧ k ≤ t.kids.length ∧ (∃ y : Ext W1, wr = y.w) ∧ 0 ≤ u ∧ u ≤ 41 + 41000 * (k : Int) ∧ Hid (u = 0 + (opnTy t.ty : Int) + (Tm.opnL (t.kids.take k) : Int))) (fun a _ _ => t.kids.length - (intOf a).toNat)
            case atStart => exact ⟨0, s, rfl, rfl, by omega, ⟨yy, rfl⟩, by omega, by omega, by show _ = _; have := HK1.out; simp [Tm.opnL]; omega⟩
            case round =>
              obtain ⟨k, u, rfl, rfl, hk, ⟨yy, rfl⟩, hs0, hs1, HS⟩ := hrel
              by_cases hlt : k < t.kids.length
              · have hlt' : (k : Int) < (t.kids.length : Int) := by omega
                obtain ⟨kid, hkid⟩ : ∃ kid, t.kids[k]? = some kid := ⟨_, List.getElem?_eq_getElem hlt⟩
                have hmem : kid ∈ t.kids := List.mem_of_getElem? hkid
                have HKID := Lib.hid hkid
                obtain ⟨b0, o0, hrb, K⟩ := A.kid k kid hkid
                have hsub := A.sub k kid hkid
                dsimp only at hrb
                subst hrb
                have d0 : ∀ y : Ext W1, y.w.cell? ⟨b0, o0 + k * 4, none⟩ = some (.int .i64 kid.op) := fun y => y.cell K.c0
                have d1 : ∀ y : Ext W1, y.w.cell? ⟨b0, o0 + k * 4 + 1, none⟩ = some (.int .i64 kid.n) := fun y => y.cell K.c1
                have d2 : ∀ y : Ext W1, y.w.cell? ⟨b0, o0 + k * 4 + 2, none⟩ = some (.slice (kr k).a kid.ty.length (kr k).c) := fun y => y.cell K.c2
                have d3 : ∀ y : Ext W1, y.w.cell? ⟨b0, o0 + k * 4 + 3, none⟩ = some (.slice (kr k).b kid.kids.length (kr k).d) := fun y => y.cell K.c3
                clear K hkid
                have hks := Tm.sz_kid hmem
                have hok : OkT size closed (vars + addsO t.op k) kid := OK.out.kid HKID.out
                have hop := hok.opn_le
                obtain ⟨m, hm⟩ : ∃ m : Int, m = (kid.opn : Int) := ⟨_, rfl⟩
                have HMV := Lib.hid hm
                have C : ∀ y : Ext W1, Calls Tryd.prog 55 #[(kr k).val kid] y.w (Ans W1 (.int .i64 m)) := fun y => by rw [hm]; exact HI.out kid hmem hsub hok (by omega) y
                have hm1 : 0 ≤ m := by omega
                have hm2 : m ≤ 41000 := by omega
                unfold TV.val at C
                clear hmem hsub hok hop hm hks
                go_wp2_with (go_at_call 55; with_reducible refine Calls.mono (C _) ?_; rintro e w' ⟨rfl, yy, rfl⟩)
                go_roundw
                case rel =>
                  refine ⟨k + 1, u + m, by go_num, by go_num, by omega, ⟨yy, rfl⟩, by omega, by omega, ?_⟩
                  have h1 := Tm.opnL_take_succ HKID.out
                  have := HS.out
                  have := HMV.out
                  show _ = _
                  omega
                case measure => simp [intOf]; omega
              · go_wp2_with fail
                go_ret
                refine fin_int ?_ (hback yy)
                have h4 : t.kids.take k = t.kids := List.take_of_length_le (by omega)
                have h3 := HS.out
                rw [h4] at h3
                have h5 := t.opn_eq
                have h6 := HN0.out
                omega
    · have HH := Lib.hid hh
      clear hh
      have HN0 : Hid ((0 : Int) = ((if t.n = -1 then 1 else 0 : Nat) : Int)) := by
        have := ok.node.nok
        unfold NOk at this
        show _ = _
        by_cases e0 : t.op = 0
        · rw [if_pos e0] at this; rw [if_neg (by omega)]; rfl
        · by_cases e1 : t.op = 1
          · rw [if_neg e0, if_pos e1] at this; rw [if_neg (by omega)]; rfl
          · rw [if_neg e0, if_neg e1, if_neg HH.out] at this; rw [if_neg (by omega)]; rfl
      clear ok
      go_enter Tryd.func55, Tryd.ntmps55
      go_wp2_with fail
      generalize hW : x.w.alloc _ = W1
      generalize hB : x.w.heap.size = B
      obtain ⟨c0, c1, c2, c3, h1, hback, yy, hy0⟩ := boxedT h x hB hW
      clear hW hB
      rw [← hy0]
      clear hy0
      obtain ⟨kr, A⟩ := h1.out
      have hlk := A.lk
      have hlt := A.lt
      go_wp2_with (go_at_call 107; with_reducible refine Calls.mono (l2Has_ans t.op false (by refine iff_tf ?_; dsimp only; exact HH.out) _) ?_; rintro e w' ⟨rfl, yy, rfl⟩)
      go_loopw [4, 3] (fun a b wr => ∃ k : Nat, ∃ s : Int, a = .int .i64 k ∧ b = .int .i64 s ∧ k ≤ t.ty.length ∧ (∃ y : Ext W1, wr = y.w) ∧ 0 ≤ s ∧ s ≤ 1 + (k : Int) ∧ Hid (s = 0 + (opnTy (t.ty.take k) : Int))) (fun a _ _ => t.ty.length - (intOf a).toNat)
      case atStart => exact ⟨0, _, rfl, rfl, by omega, ⟨yy, rfl⟩, by omega, by omega, by show _ = _; simp [opnTy]⟩
      case round =>
        obtain ⟨k, s, rfl, rfl, hk, ⟨yy, rfl⟩, hs0, hs1, HS⟩ := hrel
        by_cases hlt : k < t.ty.length
        · have hlt' : (k : Int) < (t.ty.length : Int) := by omega
          obtain ⟨b1, o1, hra, hc⟩ := A.row.at hlt
          dsimp only at hra
          subst hra
          have HC : Hid (t.ty[k]? = some t.ty[k]) := List.getElem?_eq_getElem hlt
          have d1 : ∀ y : Ext W1, y.w.cell? ⟨b1, o1 + k, none⟩ = some (.int .i64 t.ty[k]) := fun y => y.cell (hc k _ HC.out)
          clear hc
          generalize t.ty[k] = c at *
          by_cases hc : 35 ≤ c
          · have HG := Lib.hid hc
            go_wp2_with fail
            go_roundw
            case rel =>
              refine ⟨k + 1, s + 1, by go_num, by go_num, by omega, ⟨yy, rfl⟩, by omega, by omega, ?_⟩
              have h1 := opnTy_take_succ HC.out
              rw [if_pos (by have := HG.out; omega)] at h1
              have := HS.out
              show _ = _
              omega
            case measure => simp [intOf]; omega
          · have HG := Lib.hid hc
            go_wp2_with fail
            go_roundw
            case rel =>
              refine ⟨k + 1, s, by go_num, rfl, by omega, ⟨yy, rfl⟩, by omega, by omega, ?_⟩
              have h1 := opnTy_take_succ HC.out
              rw [if_neg (by have := HG.out; omega)] at h1
              have := HS.out
              show _ = _
              omega
            case measure => simp [intOf]; omega
        · have hke : t.ty.take k = t.ty := List.take_of_length_le (by omega)
          have HK1 : Hid (s = 0 + (opnTy t.ty : Int)) := by have := HS.out; rw [hke] at this; exact this
          clear hke HS
          go_wp2_with fail
          go_loopw [5, 3] (fun a b wr => ∃ k : Nat, ∃ u : Int, a = .int .i64 k ∧ b = .int .i64 u ∧ k ≤ t.kids.length ∧ (∃ y : Ext W1, wr = y.w) ∧ 0 ≤ u ∧ u ≤ 41 + 41000 * (k : Int) ∧ Hid (u = 0 + (opnTy t.ty : Int) + (Tm.opnL (t.kids.take k) : Int))) (fun a _ _ => t.kids.length - (intOf a).toNat)
          case atStart => exact ⟨0, s, rfl, rfl, by omega, ⟨yy, rfl⟩, by omega, by omega, by show _ = _; have := HK1.out; simp [Tm.opnL]; omega⟩
          case round =>
            obtain ⟨k, u, rfl, rfl, hk, ⟨yy, rfl⟩, hs0, hs1, HS⟩ := hrel
            by_cases hlt : k < t.kids.length
            · have hlt' : (k : Int) < (t.kids.length : Int) := by omega
              obtain ⟨kid, hkid⟩ : ∃ kid, t.kids[k]? = some kid := ⟨_, List.getElem?_eq_getElem hlt⟩
              have hmem : kid ∈ t.kids := List.mem_of_getElem? hkid
              have HKID := Lib.hid hkid
              obtain ⟨b0, o0, hrb, K⟩ := A.kid k kid hkid
              have hsub := A.sub k kid hkid
              dsimp only at hrb
              subst hrb
              have d0 : ∀ y : Ext W1, y.w.cell? ⟨b0, o0 + k * 4, none⟩ = some (.int .i64 kid.op) := fun y => y.cell K.c0
              have d1 : ∀ y : Ext W1, y.w.cell? ⟨b0, o0 + k * 4 + 1, none⟩ = some (.int .i64 kid.n) := fun y => y.cell K.c1
              have d2 : ∀ y : Ext W1, y.w.cell? ⟨b0, o0 + k * 4 + 2, none⟩ = some (.slice (kr k).a kid.ty.length (kr k).c) := fun y => y.cell K.c2
              have d3 : ∀ y : Ext W1, y.w.cell? ⟨b0, o0 + k * 4 + 3, none⟩ = some (.slice (kr k).b kid.kids.length (kr k).d) := fun y => y.cell K.c3
              clear K hkid
              have hks := Tm.sz_kid hmem
              have hok : OkT size closed (vars + addsO t.op k) kid := OK.out.kid HKID.out
              have hop := hok.opn_le
              obtain ⟨m, hm⟩ : ∃ m : Int, m = (kid.opn : Int) := ⟨_, rfl⟩
              have HMV := Lib.hid hm
              have C : ∀ y : Ext W1, Calls Tryd.prog 55 #[(kr k).val kid] y.w (Ans W1 (.int .i64 m)) := fun y => by rw [hm]; exact HI.out kid hmem hsub hok (by omega) y
              have hm1 : 0 ≤ m := by omega
              have hm2 : m ≤ 41000 := by omega
              unfold TV.val at C
              clear hmem hsub hok hop hm hks
              go_wp2_with (go_at_call 55; with_reducible refine Calls.mono (C _) ?_; rintro e w' ⟨rfl, yy, rfl⟩)
              go_roundw
              case rel =>
                refine ⟨k + 1, u + m, by go_num, by go_num, by omega, ⟨yy, rfl⟩, by omega, by omega, ?_⟩
                have h1 := Tm.opnL_take_succ HKID.out
                have := HS.out
                have := HMV.out
                show _ = _
                omega
              case measure => simp [intOf]; omega
            · go_wp2_with fail
              go_ret
              refine fin_int ?_ (hback yy)
              have h4 : t.kids.take k = t.kids := List.take_of_length_le (by omega)
              have h3 := HS.out
              rw [h4] at h3
              have h5 := t.opn_eq
              have h6 := HN0.out
              omega

set_option maxHeartbeats 1600000 in
theorem specCountOpen_ans {W : World} {lo : Nat} {t : Tm} {r : TV} (h : TmIn W lo t r) (hwt : t.wt ≤ 1099511627776) (v : Int) (hv : OpnV t v) (x : Ext W) :
    Calls Tryd.prog 18 #[r.val t] x.w (Ans W (.int .i64 v)) := by
  have HV := Lib.hid hv
  clear hv
  obtain ⟨ra, rc, rb, rd⟩ := r
  unfold TV.val
  by_cases hw : Written t
  · have HW := Lib.hid hw
    clear hw
    go_enter Tryd.func18, Tryd.ntmps18
    go_wp2_with fail
    generalize hW : x.w.alloc _ = W1
    generalize hB : x.w.heap.size = B
    obtain ⟨c0, c1, c2, c3, h1, hback, yy, hy0⟩ := boxedT h x hB hW
    clear hW hB
    rw [← hy0]
    clear hy0
    have WR : ∀ y : Ext W1, Calls Tryd.prog 48 #[(TV.mk ra rc rb rd).val t] y.w (Ans W1 (.bool true)) := fun y => specIsWritten_ans h1 hwt true (by refine iff_tf ?_; dsimp only; exact HW.out) y
    unfold TV.val at WR
    have US : ∀ y : Ext W1, Calls Tryd.prog 55 #[(TV.mk ra rc rb rd).val t] y.w (Ans W1 (.int .i64 (t.opn : Int))) := fun y => l9Count_ans t h1 HW.out.2 (by have := HW.out.1; omega) y
    unfold TV.val at US
    go_wp2_with (first | (go_at_call 48; with_reducible refine Calls.mono (WR _) ?_; rintro e w' ⟨rfl, yy, rfl⟩) | (go_at_call 55; with_reducible refine Calls.mono (US _) ?_; rintro e w' ⟨rfl, yy, rfl⟩))
    go_ret
    refine fin_int ?_ (hback yy)
    rcases HV.out with ⟨a1, a2⟩ | ⟨a1, a2⟩
    · exact a2.symm
    · exact absurd HW.out a1
  · have HW := Lib.hid hw
    clear hw
    go_enter Tryd.func18, Tryd.ntmps18
    go_wp2_with fail
    generalize hW : x.w.alloc _ = W1
    generalize hB : x.w.heap.size = B
    obtain ⟨c0, c1, c2, c3, h1, hback, yy, hy0⟩ := boxedT h x hB hW
    clear hW hB
    rw [← hy0]
    clear hy0
    have WR : ∀ y : Ext W1, Calls Tryd.prog 48 #[(TV.mk ra rc rb rd).val t] y.w (Ans W1 (.bool false)) := fun y => specIsWritten_ans h1 hwt false (by refine iff_tf ?_; dsimp only; exact HW.out) y
    unfold TV.val at WR
    go_wp2_with (first | (go_at_call 48; with_reducible refine Calls.mono (WR _) ?_; rintro e w' ⟨rfl, yy, rfl⟩))
    go_ret
    refine fin_int ?_ (hback yy)
    rcases HV.out with ⟨a1, a2⟩ | ⟨a1, a2⟩
    · exact absurd a1 HW.out
    · exact a2.symm

end Go.Proofs.YteffcfaoganciaaDoor
