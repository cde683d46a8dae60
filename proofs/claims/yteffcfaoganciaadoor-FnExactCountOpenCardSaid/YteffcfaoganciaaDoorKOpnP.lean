
/- The program's count of open places. -/
import Derived.Test.YteffcfaoganciaaDoorKOpnSpec
import Derived.Test.YteffcfaoganciaaDoorGH
set_option linter.unusedVariables false
set_option linter.unusedSimpArgs false
namespace Go.Proofs.YteffcfaoganciaaDoor
open Go.RowKit

theorem gF_open {c : Int} (h : 35 ≤ c ∧ c ≤ 36) : gF c = -1 := by
  unfold gF gradeOf
  rw [if_pos (by unfold Graded Arr Bx; omega), if_pos h.1]
theorem gF_shut {c : Int} (h : 0 ≤ c ∧ c < 35) : (gF c == -1) = false := by
  have : gF c ≠ -1 := by
    unfold gF gradeOf
    split
    · rename_i hg; unfold Graded Arr Bx at hg; split; omega; split <;> omega
    · omega
  simpa using this
theorem form_any {W : World} (F : Forms W) (c : Int) (hc : c ≤ 36) : ∃ (f0 : ByteArray) (f1 f2 f3 : Int) (f4 f6 : Bool), ∀ y : Ext W, Calls Tryd.prog 59 #[.int .i64 c] y.w (Ans W (.tuple #[.agg #[.string f0, .int .i64 f1, .int .i64 f2, .int .i64 f3, .bool f4], .int .i64 (gF c), .bool f6])) :=
  ⟨_, _, _, _, _, _, fun y => formOf_ans F c hc y⟩
set_option maxHeartbeats 8000000 in
theorem stepOpen_ans {W : World} (F : Forms W) {lo : Nat} {t : Tm} {r : TV} (h : TmIn W lo t r) (hl : t.ty.length ≤ 40) (h36 : Hid (∀ u ∈ t.ty, 0 ≤ u ∧ u ≤ 36)) (n : Int) (h0 : 0 ≤ n) (h1 : n ≤ 1000000) (v : Int) (hv : v = n + ((if t.n = -1 then 1 else 0 : Nat) : Int) + (opnTy t.ty : Int)) (x : Ext W) :
    Calls Tryd.prog 58 #[.int .i64 n, r.val t] x.w (Ans W (.int .i64 v)) := by
  have HV := Lib.hid hv
  clear hv
  obtain ⟨ra, rc, rb, rd⟩ := r
  unfold TV.val
  by_cases hn : t.n = -1
  · have fn : (t.n == -1) = true := by simpa using hn
    have HN := Lib.hid hn
    clear hn
    go_enter Tryd.func58, Tryd.ntmps58
    go_upto_region 1 with fail
    generalize hW : x.w.alloc _ = W1
    generalize hB : x.w.heap.size = B
    obtain ⟨c0, c1, c2, c3, h1, hback, yy, hy0⟩ := boxedT h x hB hW
    clear hW hB
    have FF := F.on hback
    rw [← hy0]
    clear hy0
    obtain ⟨kr, A⟩ := h1.out
    have hlt0 := A.lt
    go_wp2_with fail
    go_loopw [18, 0] (fun a b wr => ∃ k : Nat, ∃ s : Int, a = .int .i64 k ∧ b = .int .i64 s ∧ k ≤ t.ty.length ∧ (∃ y : Ext W1, wr = y.w) ∧ 0 ≤ s ∧ s ≤ n + 1 + (k : Int) ∧ Hid (s = n + 1 + (opnTy (t.ty.take k) : Int))) (fun a _ _ => t.ty.length - (intOf a).toNat)
    case atStart => exact ⟨0, _, rfl, rfl, by omega, ⟨yy, rfl⟩, by omega, by omega, by show _ = _; simp [opnTy]⟩
    case round =>
      obtain ⟨k, s, rfl, rfl, hk, ⟨yy, rfl⟩, hs0, hs1, HS⟩ := hrel
      by_cases hlt : k < t.ty.length
      · have hlt' : (k : Int) < (t.ty.length : Int) := by omega
        obtain ⟨b1, o1, hra, hc⟩ := A.row.at hlt
        dsimp only at hra
        subst hra
        have HC : Hid (t.ty[k]? = some t.ty[k]) := List.getElem?_eq_getElem hlt
        have d1 : ∀ y : Ext W1, y.w.cell? ⟨b1, o1 + k, none⟩ = some (.int .i64 t.ty[k]) := fun y => y.cell (hc k _ HC.out)
        have hcc := h36.out _ (List.getElem_mem hlt)
        clear hc
        generalize t.ty[k] = c at *
        obtain ⟨f0, f1, f2, f3, f4, f6, FOC⟩ := form_any FF c hcc.2
        by_cases hc : 35 ≤ c
        · have HG := Lib.hid hc
          have hg : gF c = -1 := gF_open ⟨hc, hcc.2⟩
          rw [hg] at FOC
          clear hg
          go_wp2_with (go_at_call 59; (with_reducible refine Calls.mono (FOC _) ?_); rintro e w' ⟨rfl, yy, rfl⟩)
          obtain ⟨yz, hyz⟩ : ∃ y : Ext W1, y.w = yy.w.alloc (.cells #[.string f0, .int .i64 f1, .int .i64 f2, .int .i64 f3, .bool f4] 75) := ⟨yy.alloc _, rfl⟩
          rw [← hyz]
          clear hyz
          go_roundw
          case rel =>
            refine ⟨k + 1, s + 1, by go_num, by go_num, by omega, ⟨yz, rfl⟩, by omega, by omega, ?_⟩
            have h1 := opnTy_take_succ HC.out
            rw [if_pos (by have := HG.out; omega)] at h1
            have := HS.out
            show _ = _
            omega
          case measure => simp [intOf]; omega
        · have HG := Lib.hid hc
          have hg : (gF c == -1) = false := gF_shut ⟨hcc.1, by omega⟩
          generalize gF c = g at *
          go_wp2_with (go_at_call 59; (with_reducible refine Calls.mono (FOC _) ?_); rintro e w' ⟨rfl, yy, rfl⟩)
          obtain ⟨yz, hyz⟩ : ∃ y : Ext W1, y.w = yy.w.alloc (.cells #[.string f0, .int .i64 f1, .int .i64 f2, .int .i64 f3, .bool f4] 75) := ⟨yy.alloc _, rfl⟩
          rw [← hyz]
          clear hyz
          go_roundw
          case rel =>
            refine ⟨k + 1, s, by go_num, rfl, by omega, ⟨yz, rfl⟩, by omega, by omega, ?_⟩
            have h1 := opnTy_take_succ HC.out
            rw [if_neg (by have := HG.out; omega)] at h1
            have := HS.out
            show _ = _
            omega
          case measure => simp [intOf]; omega
      · have hke : t.ty.take k = t.ty := List.take_of_length_le (by omega)
        have HK1 : Hid (s = n + 1 + (opnTy t.ty : Int)) := by have := HS.out; rw [hke] at this; exact this
        clear hke HS
        go_wp2_with fail
        go_ret
        exact fin_int (by rw [HK1.out, HV.out, if_pos HN.out]; rfl) (hback yy)
  · have fn : (t.n == -1) = false := by simpa using hn
    have HN := Lib.hid hn
    clear hn
    go_enter Tryd.func58, Tryd.ntmps58
    go_upto_region 1 with fail
    generalize hW : x.w.alloc _ = W1
    generalize hB : x.w.heap.size = B
    obtain ⟨c0, c1, c2, c3, h1, hback, yy, hy0⟩ := boxedT h x hB hW
    clear hW hB
    have FF := F.on hback
    rw [← hy0]
    clear hy0
    obtain ⟨kr, A⟩ := h1.out
    have hlt0 := A.lt
    go_wp2_with fail
    go_loopw [18, 0] (fun a b wr => ∃ k : Nat, ∃ s : Int, a = .int .i64 k ∧ b = .int .i64 s ∧ k ≤ t.ty.length ∧ (∃ y : Ext W1, wr = y.w) ∧ 0 ≤ s ∧ s ≤ n + 1 + (k : Int) ∧ Hid (s = n + 0 + (opnTy (t.ty.take k) : Int))) (fun a _ _ => t.ty.length - (intOf a).toNat)
    case atStart => exact ⟨0, _, rfl, rfl, by omega, ⟨yy, rfl⟩, by omega, by omega, by show _ = _; simp [opnTy]⟩
    case round =>
      obtain ⟨k, s, rfl, rfl, hk, ⟨yy, rfl⟩, hs0, hs1, HS⟩ := hrel
      by_cases hlt : k < t.ty.length
      · have hlt' : (k : Int) < (t.ty.length : Int) := by omega
        obtain ⟨b1, o1, hra, hc⟩ := A.row.at hlt
        dsimp only at hra
        subst hra
        have HC : Hid (t.ty[k]? = some t.ty[k]) := List.getElem?_eq_getElem hlt
        have d1 : ∀ y : Ext W1, y.w.cell? ⟨b1, o1 + k, none⟩ = some (.int .i64 t.ty[k]) := fun y => y.cell (hc k _ HC.out)
        have hcc := h36.out _ (List.getElem_mem hlt)
        clear hc
        generalize t.ty[k] = c at *
        obtain ⟨f0, f1, f2, f3, f4, f6, FOC⟩ := form_any FF c hcc.2
        by_cases hc : 35 ≤ c
        · have HG := Lib.hid hc
          have hg : gF c = -1 := gF_open ⟨hc, hcc.2⟩
          rw [hg] at FOC
          clear hg
          go_wp2_with (go_at_call 59; (with_reducible refine Calls.mono (FOC _) ?_); rintro e w' ⟨rfl, yy, rfl⟩)
          obtain ⟨yz, hyz⟩ : ∃ y : Ext W1, y.w = yy.w.alloc (.cells #[.string f0, .int .i64 f1, .int .i64 f2, .int .i64 f3, .bool f4] 75) := ⟨yy.alloc _, rfl⟩
          rw [← hyz]
          clear hyz
          go_roundw
          case rel =>
            refine ⟨k + 1, s + 1, by go_num, by go_num, by omega, ⟨yz, rfl⟩, by omega, by omega, ?_⟩
            have h1 := opnTy_take_succ HC.out
            rw [if_pos (by have := HG.out; omega)] at h1
            have := HS.out
            show _ = _
            omega
          case measure => simp [intOf]; omega
        · have HG := Lib.hid hc
          have hg : (gF c == -1) = false := gF_shut ⟨hcc.1, by omega⟩
          generalize gF c = g at *
          go_wp2_with (go_at_call 59; (with_reducible refine Calls.mono (FOC _) ?_); rintro e w' ⟨rfl, yy, rfl⟩)
          obtain ⟨yz, hyz⟩ : ∃ y : Ext W1, y.w = yy.w.alloc (.cells #[.string f0, .int .i64 f1, .int .i64 f2, .int .i64 f3, .bool f4] 75) := ⟨yy.alloc _, rfl⟩
          rw [← hyz]
          clear hyz
          go_roundw
          case rel =>
            refine ⟨k + 1, s, by go_num, rfl, by omega, ⟨yz, rfl⟩, by omega, by omega, ?_⟩
            have h1 := opnTy_take_succ HC.out
            rw [if_neg (by have := HG.out; omega)] at h1
            have := HS.out
            show _ = _
            omega
          case measure => simp [intOf]; omega
      · have hke : t.ty.take k = t.ty := List.take_of_length_le (by omega)
        have HK1 : Hid (s = n + 0 + (opnTy t.ty : Int)) := by have := HS.out; rw [hke] at this; exact this
        clear hke HS
        go_wp2_with fail
        go_ret
        exact fin_int (by rw [HK1.out, HV.out, if_neg HN.out]; rfl) (hback yy)

set_option maxHeartbeats 8000000 in
theorem foldOpen_ans (t : Tm) : ∀ {W : World} (_ : Forms W) {lo : Nat} {r : TV} (_ : TmIn W lo t r) {size vars : Int} {closed : Bool} (_ : OkT size closed vars t) (_ : t.sz ≤ 1000) (n : Int) (_ : 0 ≤ n) (_ : n + 41 * (t.sz : Int) ≤ 1000000) (x : Ext W),
    Calls Tryd.prog 57 #[r.val t, .int .i64 n, .func (.func 58) #[] #[]] x.w (Ans W (.int .i64 (n + (t.opn : Int)))) := by
  induction t using Tm.ind with
  | h t ih =>
    intro W F lo r h size vars closed ok hsz n hn0 hn1 x
    have HI := Lib.hid ih
    clear ih
    have hsp := t.sz_pos
    have hk3 : t.kids.length ≤ 3 := by have := ok.node.many; have := manyO_le t.op; omega
    have hty := ok.node.tok.len
    have h36 := Lib.hid ok.node.tok.c36
    have OK := Lib.hid ok
    have hot := opnTy_le t.ty
    have HSZ := Lib.hid t.sz_eq
    clear ok
    obtain ⟨ra, rc, rb, rd⟩ := r
    unfold TV.val
    obtain ⟨a, ha⟩ : ∃ a : Int, a = ((if t.n = -1 then 1 else 0 : Nat) : Int) + (opnTy t.ty : Int) := ⟨_, rfl⟩
    have ha1 : 0 ≤ a ∧ a ≤ 41 := by rw [ha]; split <;> omega
    have HA := Lib.hid ha
    clear ha
    obtain ⟨ha1, ha2⟩ := ha1
    go_enter Tryd.func57, Tryd.ntmps57
    go_upto_region 1 with fail
    generalize hW : x.w.alloc _ = W1
    generalize hB : x.w.heap.size = B
    obtain ⟨c0, c1, c2, c3, h1, hback, yy, hy0⟩ := boxedT h x hB hW
    clear hW hB
    have FF := F.on hback
    rw [← hy0]
    clear hy0
    obtain ⟨kr, A⟩ := h1.out
    have hlk := A.lk
    have ST : ∀ y : Ext W1, Calls Tryd.prog 58 #[.int .i64 n, (TV.mk ra rc rb rd).val t] y.w (Ans W1 (.int .i64 (n + a))) := fun y => stepOpen_ans FF h1 hty h36 n hn0 (by omega) (n + a) (by have := HA.out; omega) y
    unfold TV.val at ST
    go_wp2_with (go_at_call 58; (with_reducible refine Calls.mono (ST _) ?_); rintro e w' ⟨rfl, yy, rfl⟩)
    clear ST
    go_loopw [16, 1] (fun i b wr => ∃ k : Nat, ∃ u : Int, i = .int .i64 k ∧ b = .int .i64 u ∧ k ≤ t.kids.length ∧ (∃ y : Ext W1, wr = y.w) ∧ 0 ≤ u ∧ u ≤ n + 41 + 41 * (Tm.szL (t.kids.take k) : Int) ∧ Hid (u = n + a + (Tm.opnL (t.kids.take k) : Int))) (fun i _ _ => t.kids.length - (intOf i).toNat)
    case atStart => exact ⟨0, _, rfl, rfl, by omega, ⟨yy, rfl⟩, by omega, by simp [Tm.szL]; omega, by show _ = _; simp [Tm.opnL]⟩
    case round =>
      obtain ⟨k, u, rfl, rfl, hk, ⟨yy, rfl⟩, hs0, hs1, HS⟩ := hrel
      by_cases hlt : k < t.kids.length
      · have hlt' : (k : Int) < (t.kids.length : Int) := by omega
        obtain ⟨kid, hkid⟩ : ∃ kid, t.kids[k]? = some kid := ⟨_, List.getElem?_eq_getElem hlt⟩
        have hmem : kid ∈ t.kids := List.mem_of_getElem? hkid
        have HKID := Lib.hid hkid
        obtain ⟨b0, o0, hrb, K⟩ := A.kid k kid hkid
        have hsub := A.sub k kid hkid
        dsimp only at hrb
        subst hrb
        have d0 : ∀ y : Ext W1, y.w.cell? ⟨b0, o0 + k * 4, none⟩ = some (.int .i64 kid.op) := fun y => y.cell K.c0
        have d1 : ∀ y : Ext W1, y.w.cell? ⟨b0, o0 + k * 4 + 1, none⟩ = some (.int .i64 kid.n) := fun y => y.cell K.c1
        have d2 : ∀ y : Ext W1, y.w.cell? ⟨b0, o0 + k * 4 + 2, none⟩ = some (.slice (kr k).a kid.ty.length (kr k).c) := fun y => y.cell K.c2
        have d3 : ∀ y : Ext W1, y.w.cell? ⟨b0, o0 + k * 4 + 3, none⟩ = some (.slice (kr k).b kid.kids.length (kr k).d) := fun y => y.cell K.c3
        clear K hkid
        have hks := Tm.sz_kid hmem
        have hok : OkT size closed (vars + addsO t.op k) kid := OK.out.kid HKID.out
        have hop := hok.opn_le
        have hz1 := Tm.szL_take_succ HKID.out
        have hz2 := Tm.szL_take_le t.kids (k + 1)
        have hz3 := HSZ.out
        have hz4 : (Tm.szL (t.kids.take (k + 1)) : Int) = (Tm.szL (t.kids.take k) : Int) + (kid.sz : Int) := by omega
        have hz5 : u + 41 * (kid.sz : Int) ≤ 1000000 := by omega
        have HZ := Lib.hid hz4
        clear hz1 hz3 hz4
        go_upto_region 5 with fail
        generalize hW2 : yy.w.alloc _ = W2
        generalize hB2 : yy.w.heap.size = B2
        obtain ⟨g0, g1, g2, g3, k1, hb2, zz, hz0⟩ := boxedT (hsub.ext yy) (Ext.self yy.w) hB2 hW2
        clear hW2 hB2
        have hbz : ∀ y : Ext W2, ∃ z : Ext W1, y.w = z.w := fun y => by obtain ⟨u, hu⟩ := hb2 y; exact ⟨yy.trans u, hu⟩
        have FZ := FF.on hbz
        have C : ∀ y : Ext W2, Calls Tryd.prog 57 #[(kr k).val kid, .int .i64 u, .func (.func 58) #[] #[]] y.w (Ans W2 (.int .i64 (u + (kid.opn : Int)))) := fun y => HI.out kid hmem FZ k1 hok (by omega) u (by omega) (by omega) y
        unfold TV.val at C
        obtain ⟨m, hm⟩ : ∃ m : Int, m = (kid.opn : Int) := ⟨_, rfl⟩
        have HMV := Lib.hid hm
        rw [← hm] at C
        have hm1 : 0 ≤ m := by omega
        have hm2 : m ≤ 41 * (kid.sz : Int) := by omega
        rw [← hz0]
        clear hz0 hb2 k1 hsub hok hm hmem FZ
        go_wp2_with (go_at_call 57; (with_reducible refine Calls.mono (C _) ?_); rintro e w' ⟨rfl, zz, rfl⟩)
        go_roundw
        case rel =>
          refine ⟨k + 1, u + m, by go_num, by go_num, by omega, hbz zz, by omega, by rw [HZ.out]; omega, ?_⟩
          have h1 := Tm.opnL_take_succ HKID.out
          have := HS.out
          have := HMV.out
          show _ = _
          omega
        case measure => simp [intOf]; omega
      · go_wp2_with fail
        go_ret
        refine fin_int ?_ (hback yy)
        have h4 : t.kids.take k = t.kids := List.take_of_length_le (by omega)
        have h3 := HS.out
        rw [h4] at h3
        have h5 := t.opn_eq
        have h6 := HA.out
        omega

set_option maxHeartbeats 1600000 in
theorem countOpen_ans {W : World} (F : Forms W) (TF : TForms W) {lo : Nat} {t : Tm} {r : TV} (h : TmIn W lo t r) (hTB : TmB t) (v : Int) (hv : OpnV t v) (x : Ext W) :
    Calls Tryd.prog 20 #[r.val t] x.w (Ans W (.int .i64 v)) := by
  have HV := Lib.hid hv
  clear hv
  obtain ⟨ra, rc, rb, rd⟩ := r
  unfold TV.val
  by_cases hw : Written t
  · have HW := Lib.hid hw
    clear hw
    go_enter Tryd.func20, Tryd.ntmps20
    go_wp2_with fail
    generalize hW : x.w.alloc _ = W1
    generalize hB : x.w.heap.size = B
    obtain ⟨c0, c1, c2, c3, h1, hback, yy, hy0⟩ := boxedT h x hB hW
    have FF := F.ext (x.alloc (.cells #[.int .i64 t.op, .int .i64 t.n, .slice ra t.ty.length rc, .slice rb t.kids.length rd] 37))
    have TG := TF.ext (x.alloc (.cells #[.int .i64 t.op, .int .i64 t.n, .slice ra t.ty.length rc, .slice rb t.kids.length rd] 37))
    rw [show (x.alloc _).w = W1 from hW] at FF TG
    clear hW hB
    rw [← hy0]
    clear hy0
    have WR : ∀ y : Ext W1, Calls Tryd.prog 51 #[(TV.mk ra rc rb rd).val t] y.w (Ans W1 (.bool true)) := fun y => isWritten_ans FF TG h1 hTB true (by refine iff_tf ?_; dsimp only; exact HW.out) y
    unfold TV.val at WR
    have US : ∀ y : Ext W1, Calls Tryd.prog 57 #[(TV.mk ra rc rb rd).val t, .int .i64 0, .func (.func 58) #[] #[]] y.w (Ans W1 (.int .i64 (t.opn : Int))) := fun y => by have := foldOpen_ans t FF h1 HW.out.2 (by have := HW.out.1; omega) 0 (by omega) (by have := HW.out.1; omega) y; rw [Int.zero_add] at this; exact this
    unfold TV.val at US
    go_wp2_with (first | (go_at_call 51; with_reducible refine Calls.mono (WR _) ?_; rintro e w' ⟨rfl, yy, rfl⟩) | (go_at_call 57; with_reducible refine Calls.mono (US _) ?_; rintro e w' ⟨rfl, yy, rfl⟩))
    go_ret
    refine fin_int ?_ (hback yy)
    rcases HV.out with ⟨a1, a2⟩ | ⟨a1, a2⟩
    · exact a2.symm
    · exact absurd HW.out a1
  · have HW := Lib.hid hw
    clear hw
    go_enter Tryd.func20, Tryd.ntmps20
    go_wp2_with fail
    generalize hW : x.w.alloc _ = W1
    generalize hB : x.w.heap.size = B
    obtain ⟨c0, c1, c2, c3, h1, hback, yy, hy0⟩ := boxedT h x hB hW
    have FF := F.ext (x.alloc (.cells #[.int .i64 t.op, .int .i64 t.n, .slice ra t.ty.length rc, .slice rb t.kids.length rd] 37))
    have TG := TF.ext (x.alloc (.cells #[.int .i64 t.op, .int .i64 t.n, .slice ra t.ty.length rc, .slice rb t.kids.length rd] 37))
    rw [show (x.alloc _).w = W1 from hW] at FF TG
    clear hW hB
    rw [← hy0]
    clear hy0
    have WR : ∀ y : Ext W1, Calls Tryd.prog 51 #[(TV.mk ra rc rb rd).val t] y.w (Ans W1 (.bool false)) := fun y => isWritten_ans FF TG h1 hTB false (by refine iff_tf ?_; dsimp only; exact HW.out) y
    unfold TV.val at WR
    go_wp2_with (first | (go_at_call 51; with_reducible refine Calls.mono (WR _) ?_; rintro e w' ⟨rfl, yy, rfl⟩))
    go_ret
    refine fin_int ?_ (hback yy)
    rcases HV.out with ⟨a1, a2⟩ | ⟨a1, a2⟩
    · exact absurd a1 HW.out
    · exact a2.symm

end Go.Proofs.YteffcfaoganciaaDoor
