
/- The program's count of a variable. -/
import Derived.Test.YtlbpefmocodkfaaDoorKUsesSpec
import Derived.Test.YtlbpefmocodkfaaDoorGH
namespace Go.Proofs.YtlbpefmocodkfaaDoor
open Go.RowKit

set_option maxHeartbeats 4000000 in
theorem countUses_ans (t : Tm) : ∀ {W : World} (_ : TForms W) {lo : Nat} {r : TV} (_ : TmIn W lo t r) {size vars : Int} {closed : Bool} (_ : OkT size closed vars t) (_ : t.sz ≤ 1000) (i : Int) (_ : 0 ≤ i) (_ : i + 2 * (t.sz : Int) ≤ 100000) (x : Ext W),
    Calls Tryd.prog 75 #[r.val t, .int .i64 i] x.w (Ans W (.int .i64 (t.uses i : Int))) := by
  induction t using Tm.ind with
  | h t ih =>
    intro W TF lo r h size vars closed ok hsz i hi0 hi1 x
    have HI := Lib.hid ih
    clear ih
    have hsp := t.sz_pos
    have h13 : 0 ≤ t.op ∧ t.op ≤ 12 := manyO_in (by rw [← ok.node.many]; omega)
    have hk3 : t.kids.length ≤ 3 := by have := ok.node.many; have := manyO_le t.op; omega
    have h9 : t.op = 9 → t.kids.length = 1 := fun e => by have := ok.node.many; rw [e] at this; have e2 : manyO 9 = 1 := (by decide); omega
    have hv0 : t.op = 0 → t.kids = [] := fun e => by have := ok.node.many; rw [e] at this; have e2 : manyO 0 = 0 := (by decide); exact List.eq_nil_of_length_eq_zero (by omega)
    have HV0 := Lib.hid hv0
    have H13 := Lib.hid h13
    have OK := Lib.hid ok
    clear h13 ok hv0
    obtain ⟨ra, rc, rb, rd⟩ := r
    unfold TV.val
    have ONE : ∀ (e1 : t.op = 0) (e2 : t.n = i), (t.uses i : Int) = 1 := fun e1 e2 => by rw [Tm.uses_var e1, if_pos e2]; rfl
    have HONE := Lib.hid ONE
    clear ONE
    by_cases hone : t.op = 0 ∧ t.n = i
    · have f0 : (t.op == 0) = true := by simpa using hone.1
      have fn : (t.n == i) = true := by simpa using hone.2
      have HN := Lib.hid hone
      clear hone
      go_enter Tryd.func75, Tryd.ntmps75
      go_wp2_with fail
      generalize hW : x.w.alloc _ = W1
      generalize hB : x.w.heap.size = B
      obtain ⟨c0, c1, c2, c3, h1, hback, yy, hy0⟩ := boxedT h x hB hW
      clear hW hB
      rw [← hy0]
      clear hy0
      obtain ⟨kr, A⟩ := h1.out
      go_wp2
      go_ret
      exact fin_int (HONE.out HN.out.1 HN.out.2).symm (hback yy)
    · have hnz : (t.uses i : Int) = (Tm.usesL t.op i 0 t.kids : Int) := by
        by_cases h0 : t.op = 0
        · rw [Tm.uses_var h0, if_neg (fun e => hone ⟨h0, e⟩), HV0.out h0]; simp [Tm.usesL]
        · rw [Tm.uses_node h0]
      have HNZ := Lib.hid hnz
      clear hnz
      have hcase : (t.op == 0) = false ∨ ((t.op == 0) = true ∧ (t.n == i) = false) := by
        by_cases h0 : t.op = 0
        · exact .inr ⟨by simpa using h0, by simp; exact fun e => hone ⟨h0, e⟩⟩
        · exact .inl (by simpa using h0)
      clear hone
      have KEY : ∀ (b1 b2 : Bool), (t.op == 0) = b1 → (b1 = true → (t.n == i) = b2) → (b1 && b2) = false → Calls Tryd.prog 75 #[.agg #[.int .i64 t.op, .int .i64 t.n, .slice ra t.ty.length rc, .slice rb t.kids.length rd], .int .i64 i] x.w (Ans W (.int .i64 (t.uses i : Int))) := by
        intro b1 b2 f0 fn hb
        have hbb : b1 = false ∨ (b1 = true ∧ b2 = false) := by cases b1 <;> cases b2 <;> simp_all
        clear hb hcase
        rcases hbb with rfl | ⟨rfl, rfl⟩
        · clear fn
          go_enter Tryd.func75, Tryd.ntmps75
          go_wp2_with fail
          generalize hW : x.w.alloc _ = W1
          generalize hB : x.w.heap.size = B
          obtain ⟨c0, c1, c2, c3, h1, hback, yy, hy0⟩ := boxedT h x hB hW
          clear hW hB
          rw [← hy0]
          clear hy0
          obtain ⟨kr, A⟩ := h1.out
          have TG := TF.on hback
          have hlk := A.lk
          go_wp2
          go_loopw [20, 5] (fun a b wr => ∃ k : Nat, ∃ s : Int, a = .int .i64 k ∧ b = .int .i64 s ∧ k ≤ t.kids.length ∧ (∃ y : Ext W1, wr = y.w) ∧ 0 ≤ s ∧ s ≤ 1000 * (k : Int) ∧ Hid (s = (Tm.usesL t.op i 0 (t.kids.take k) : Int))) (fun a _ _ => t.kids.length - (intOf a).toNat)
          case atStart => exact ⟨0, 0, rfl, rfl, by omega, ⟨yy, rfl⟩, by omega, by omega, by show _ = _; simp [Tm.usesL]⟩
          case round =>
            obtain ⟨k, s, rfl, rfl, hk, ⟨yy, rfl⟩, hs0, hs1, HS⟩ := hrel
            by_cases hlt : k < t.kids.length
            · have hlt' : (k : Int) < (t.kids.length : Int) := by omega
              have H9 : Hid (t.op = 9 → k = 0) := fun e => by have := h9 e; omega
              obtain ⟨kid, hkid⟩ : ∃ kid, t.kids[k]? = some kid := ⟨_, List.getElem?_eq_getElem hlt⟩
              have hmem : kid ∈ t.kids := List.mem_of_getElem? hkid
              have HKID := Lib.hid hkid
              obtain ⟨b0, o0, hrb, K⟩ := A.kid k kid hkid
              have hsub := A.sub k kid hkid
              dsimp only at hrb
              subst hrb
              have d0 : ∀ y : Ext W1, y.w.cell? ⟨b0, o0 + k * 4, none⟩ = some (.int .i64 kid.op) := fun y => y.cell K.c0
              have d1 : ∀ y : Ext W1, y.w.cell? ⟨b0, o0 + k * 4 + 1, none⟩ = some (.int .i64 kid.n) := fun y => y.cell K.c1
              have d2 : ∀ y : Ext W1, y.w.cell? ⟨b0, o0 + k * 4 + 2, none⟩ = some (.slice (kr k).a kid.ty.length (kr k).c) := fun y => y.cell K.c2
              have d3 : ∀ y : Ext W1, y.w.cell? ⟨b0, o0 + k * 4 + 3, none⟩ = some (.slice (kr k).b kid.kids.length (kr k).d) := fun y => y.cell K.c3
              clear K hkid
              have ha1 := addsO_ge t.op k
              have ha2 := addsO_le t.op k
              have hks := Tm.sz_kid hmem
              have hok : OkT size closed (vars + addsO t.op k) kid := OK.out.kid HKID.out
              have HOKK := Lib.hid hok
              clear hok
              go_upto_region 7 with fail
              generalize hW2 : yy.w.alloc _ = W2
              generalize hB2 : yy.w.heap.size = B2
              obtain ⟨g0, g1, g2, g3, k1, hb2, zz, hz0⟩ := boxedT (hsub.ext yy) (Ext.self yy.w) hB2 hW2
              clear hW2 hB2
              have s0 := lift_fact yy hb2 c0
              have s1 := lift_fact yy hb2 c1
              have s2 := lift_fact yy hb2 c2
              have s3 := lift_fact yy hb2 c3
              have hbz : ∀ y : Ext W2, ∃ z : Ext W1, y.w = z.w := fun y => by obtain ⟨u, hu⟩ := hb2 y; exact ⟨yy.trans u, hu⟩
              have TZ := TG.on hbz
              have ADDS : ∀ y : Ext W2, Calls Tryd.prog 115 #[(TV.mk ra rc (some ⟨b0, o0, none⟩) rd).val t, .int .i64 k] y.w (Ans W2 (.int .i64 (addsO t.op k))) := fun y => addedFor_ans TZ t _ H13.out k (by omega) H9.out y
              unfold TV.val at ADDS
              generalize hadd : addsO t.op k = ad at *
              obtain ⟨m, hm⟩ : ∃ m : Int, m = (kid.uses (i + ad) : Int) := ⟨_, rfl⟩
              have HMV := Lib.hid hm
              have C : ∀ y : Ext W2, Calls Tryd.prog 75 #[(kr k).val kid, .int .i64 (i + ad)] y.w (Ans W2 (.int .i64 m)) := fun y => by rw [hm]; exact HI.out kid hmem TZ k1 HOKK.out (by omega) (i + ad) (by omega) (by omega) y
              unfold TV.val at C
              have hm1 : 0 ≤ m := by have := HMV.out; omega
              have hm2 : m ≤ 1000 := by have := HMV.out; have := kid.uses_le (i + ad); omega
              have HADD := Lib.hid hadd
              clear hadd hm
              rw [← hz0]
              clear hz0 hb2 k1
              clear hsub
              refine region_ext zz (by kernel_rfl) (by kernel_rfl) ?_
              repeat (go_big_quiet_step (first | (go_at_call 115; with_reducible exact ADDS _) | (go_at_call 75; with_reducible exact C _)))
              refine wpQuiet_nil ?_
              rintro _ ⟨zz, rfl⟩
              go_wp2
              go_roundw
              case rel =>
                refine ⟨k + 1, s + m, by go_num, by go_num, by omega, hbz zz, by omega, by omega, ?_⟩
                have h1 := Tm.usesL_take_succ t.op i (j := 0) HKID.out
                rw [Nat.zero_add, HADD.out] at h1
                have := HS.out
                have := HMV.out
                show _ = _
                omega
              case measure => simp [intOf]; omega
            · go_wp2
              go_ret
              refine fin_int ?_ (hback yy)
              have h4 : t.kids.take k = t.kids := List.take_of_length_le (by omega)
              have h3 := HS.out
              rw [h4] at h3
              rw [HNZ.out]
              exact h3
        · replace fn := fn rfl
          go_enter Tryd.func75, Tryd.ntmps75
          go_wp2_with fail
          generalize hW : x.w.alloc _ = W1
          generalize hB : x.w.heap.size = B
          obtain ⟨c0, c1, c2, c3, h1, hback, yy, hy0⟩ := boxedT h x hB hW
          clear hW hB
          rw [← hy0]
          clear hy0
          obtain ⟨kr, A⟩ := h1.out
          have TG := TF.on hback
          have hlk := A.lk
          go_wp2
          go_loopw [20, 5] (fun a b wr => ∃ k : Nat, ∃ s : Int, a = .int .i64 k ∧ b = .int .i64 s ∧ k ≤ t.kids.length ∧ (∃ y : Ext W1, wr = y.w) ∧ 0 ≤ s ∧ s ≤ 1000 * (k : Int) ∧ Hid (s = (Tm.usesL t.op i 0 (t.kids.take k) : Int))) (fun a _ _ => t.kids.length - (intOf a).toNat)
          case atStart => exact ⟨0, 0, rfl, rfl, by omega, ⟨yy, rfl⟩, by omega, by omega, by show _ = _; simp [Tm.usesL]⟩
          case round =>
            obtain ⟨k, s, rfl, rfl, hk, ⟨yy, rfl⟩, hs0, hs1, HS⟩ := hrel
            by_cases hlt : k < t.kids.length
            · have hlt' : (k : Int) < (t.kids.length : Int) := by omega
              have H9 : Hid (t.op = 9 → k = 0) := fun e => by have := h9 e; omega
              obtain ⟨kid, hkid⟩ : ∃ kid, t.kids[k]? = some kid := ⟨_, List.getElem?_eq_getElem hlt⟩
              have hmem : kid ∈ t.kids := List.mem_of_getElem? hkid
              have HKID := Lib.hid hkid
              obtain ⟨b0, o0, hrb, K⟩ := A.kid k kid hkid
              have hsub := A.sub k kid hkid
              dsimp only at hrb
              subst hrb
              have d0 : ∀ y : Ext W1, y.w.cell? ⟨b0, o0 + k * 4, none⟩ = some (.int .i64 kid.op) := fun y => y.cell K.c0
              have d1 : ∀ y : Ext W1, y.w.cell? ⟨b0, o0 + k * 4 + 1, none⟩ = some (.int .i64 kid.n) := fun y => y.cell K.c1
              have d2 : ∀ y : Ext W1, y.w.cell? ⟨b0, o0 + k * 4 + 2, none⟩ = some (.slice (kr k).a kid.ty.length (kr k).c) := fun y => y.cell K.c2
              have d3 : ∀ y : Ext W1, y.w.cell? ⟨b0, o0 + k * 4 + 3, none⟩ = some (.slice (kr k).b kid.kids.length (kr k).d) := fun y => y.cell K.c3
              clear K hkid
              have ha1 := addsO_ge t.op k
              have ha2 := addsO_le t.op k
              have hks := Tm.sz_kid hmem
              have hok : OkT size closed (vars + addsO t.op k) kid := OK.out.kid HKID.out
              have HOKK := Lib.hid hok
              clear hok
              go_upto_region 7 with fail
              generalize hW2 : yy.w.alloc _ = W2
              generalize hB2 : yy.w.heap.size = B2
              obtain ⟨g0, g1, g2, g3, k1, hb2, zz, hz0⟩ := boxedT (hsub.ext yy) (Ext.self yy.w) hB2 hW2
              clear hW2 hB2
              have s0 := lift_fact yy hb2 c0
              have s1 := lift_fact yy hb2 c1
              have s2 := lift_fact yy hb2 c2
              have s3 := lift_fact yy hb2 c3
              have hbz : ∀ y : Ext W2, ∃ z : Ext W1, y.w = z.w := fun y => by obtain ⟨u, hu⟩ := hb2 y; exact ⟨yy.trans u, hu⟩
              have TZ := TG.on hbz
              have ADDS : ∀ y : Ext W2, Calls Tryd.prog 115 #[(TV.mk ra rc (some ⟨b0, o0, none⟩) rd).val t, .int .i64 k] y.w (Ans W2 (.int .i64 (addsO t.op k))) := fun y => addedFor_ans TZ t _ H13.out k (by omega) H9.out y
              unfold TV.val at ADDS
              generalize hadd : addsO t.op k = ad at *
              obtain ⟨m, hm⟩ : ∃ m : Int, m = (kid.uses (i + ad) : Int) := ⟨_, rfl⟩
              have HMV := Lib.hid hm
              have C : ∀ y : Ext W2, Calls Tryd.prog 75 #[(kr k).val kid, .int .i64 (i + ad)] y.w (Ans W2 (.int .i64 m)) := fun y => by rw [hm]; exact HI.out kid hmem TZ k1 HOKK.out (by omega) (i + ad) (by omega) (by omega) y
              unfold TV.val at C
              have hm1 : 0 ≤ m := by have := HMV.out; omega
              have hm2 : m ≤ 1000 := by have := HMV.out; have := kid.uses_le (i + ad); omega
              have HADD := Lib.hid hadd
              clear hadd hm
              rw [← hz0]
              clear hz0 hb2 k1
              clear hsub
              refine region_ext zz (by kernel_rfl) (by kernel_rfl) ?_
              repeat (go_big_quiet_step (first | (go_at_call 115; with_reducible exact ADDS _) | (go_at_call 75; with_reducible exact C _)))
              refine wpQuiet_nil ?_
              rintro _ ⟨zz, rfl⟩
              go_wp2
              go_roundw
              case rel =>
                refine ⟨k + 1, s + m, by go_num, by go_num, by omega, hbz zz, by omega, by omega, ?_⟩
                have h1 := Tm.usesL_take_succ t.op i (j := 0) HKID.out
                rw [Nat.zero_add, HADD.out] at h1
                have := HS.out
                have := HMV.out
                show _ = _
                omega
              case measure => simp [intOf]; omega
            · go_wp2
              go_ret
              refine fin_int ?_ (hback yy)
              have h4 : t.kids.take k = t.kids := List.take_of_length_le (by omega)
              have h3 := HS.out
              rw [h4] at h3
              rw [HNZ.out]
              exact h3
      rcases hcase with f0 | ⟨f0, fn⟩
      · exact KEY false false f0 (fun e => by cases e) rfl
      · exact KEY true false f0 (fun _ => fn) rfl

set_option maxHeartbeats 1600000 in
theorem usesOf_ans {W : World} (F : Forms W) (TF : TForms W) {lo : Nat} {t : Tm} {r : TV} (h : TmIn W lo t r) (hTB : TmB t) (i : Int) (hi : i ≤ 9223372036854775807) (v : Int) (hv : UsesV t i v) (x : Ext W) :
    Calls Tryd.prog 36 #[r.val t, .int .i64 i] x.w (Ans W (.int .i64 v)) := by
  have HV := Lib.hid hv
  clear hv
  obtain ⟨ra, rc, rb, rd⟩ := r
  unfold TV.val
  by_cases hw : Written t
  · have HW := Lib.hid hw
    clear hw
    by_cases h0 : 0 ≤ i
    · have H0 := Lib.hid h0
      clear h0
      have i0 : 0 ≤ i := H0.out
      by_cases h8 : i ≤ 8
      · have hmin : min i 8 = i := by omega
        go_enter Tryd.func36, Tryd.ntmps36
        go_wp2_with fail
        generalize hW : x.w.alloc _ = W1
        generalize hB : x.w.heap.size = B
        obtain ⟨c0, c1, c2, c3, h1, hback, yy, hy0⟩ := boxedT h x hB hW
        have FF := F.ext (x.alloc (.cells #[.int .i64 t.op, .int .i64 t.n, .slice ra t.ty.length rc, .slice rb t.kids.length rd] 41))
        have TG := TF.ext (x.alloc (.cells #[.int .i64 t.op, .int .i64 t.n, .slice ra t.ty.length rc, .slice rb t.kids.length rd] 41))
        rw [show (x.alloc _).w = W1 from hW] at FF TG
        clear hW hB
        rw [← hy0]
        clear hy0
        have WR : ∀ y : Ext W1, Calls Tryd.prog 30 #[(TV.mk ra rc rb rd).val t] y.w (Ans W1 (.bool true)) := fun y => isWritten_ans FF TG h1 hTB true (by refine iff_tf ?_; dsimp only; exact HW.out) y
        unfold TV.val at WR
        have US : ∀ y : Ext W1, Calls Tryd.prog 75 #[(TV.mk ra rc rb rd).val t, .int .i64 i] y.w (Ans W1 (.int .i64 (t.uses i : Int))) := fun y => by exact countUses_ans t TG h1 HW.out.2 (by have := HW.out.1; omega) i (by omega) (by have := HW.out.1; omega) y
        unfold TV.val at US
        go_wp2_with (first | (go_at_call 30; with_reducible refine Calls.mono (WR _) ?_; rintro e w' ⟨rfl, yy, rfl⟩) | (go_at_call 75; with_reducible refine Calls.mono (US _) ?_; rintro e w' ⟨rfl, yy, rfl⟩))
        go_ret
        refine fin_int ?_ (hback yy)
        rcases HV.out with ⟨a1, a2⟩ | ⟨a1, a2⟩
        · exact a2.symm
        · exact absurd ⟨HW.out, H0.out⟩ a1
      · have EU : Hid ((t.uses i : Int) = (t.uses 8 : Int)) := by show _ = _; rw [uses_far t HW.out.2 (by omega), uses_far t HW.out.2 (Int.le_refl _)]
        have hmin : min i 8 = 8 := by omega
        go_enter Tryd.func36, Tryd.ntmps36
        go_wp2_with fail
        generalize hW : x.w.alloc _ = W1
        generalize hB : x.w.heap.size = B
        obtain ⟨c0, c1, c2, c3, h1, hback, yy, hy0⟩ := boxedT h x hB hW
        have FF := F.ext (x.alloc (.cells #[.int .i64 t.op, .int .i64 t.n, .slice ra t.ty.length rc, .slice rb t.kids.length rd] 41))
        have TG := TF.ext (x.alloc (.cells #[.int .i64 t.op, .int .i64 t.n, .slice ra t.ty.length rc, .slice rb t.kids.length rd] 41))
        rw [show (x.alloc _).w = W1 from hW] at FF TG
        clear hW hB
        rw [← hy0]
        clear hy0
        have WR : ∀ y : Ext W1, Calls Tryd.prog 30 #[(TV.mk ra rc rb rd).val t] y.w (Ans W1 (.bool true)) := fun y => isWritten_ans FF TG h1 hTB true (by refine iff_tf ?_; dsimp only; exact HW.out) y
        unfold TV.val at WR
        have US : ∀ y : Ext W1, Calls Tryd.prog 75 #[(TV.mk ra rc rb rd).val t, .int .i64 8] y.w (Ans W1 (.int .i64 (t.uses i : Int))) := fun y => by rw [EU.out]; exact countUses_ans t TG h1 HW.out.2 (by have := HW.out.1; omega) 8 (by omega) (by have := HW.out.1; omega) y
        unfold TV.val at US
        go_wp2_with (first | (go_at_call 30; with_reducible refine Calls.mono (WR _) ?_; rintro e w' ⟨rfl, yy, rfl⟩) | (go_at_call 75; with_reducible refine Calls.mono (US _) ?_; rintro e w' ⟨rfl, yy, rfl⟩))
        go_ret
        refine fin_int ?_ (hback yy)
        rcases HV.out with ⟨a1, a2⟩ | ⟨a1, a2⟩
        · exact a2.symm
        · exact absurd ⟨HW.out, H0.out⟩ a1
    · have H0 := Lib.hid h0
      clear h0
      have i0 : i < 0 := by have := H0.out; omega
      go_enter Tryd.func36, Tryd.ntmps36
      go_wp2_with fail
      generalize hW : x.w.alloc _ = W1
      generalize hB : x.w.heap.size = B
      obtain ⟨c0, c1, c2, c3, h1, hback, yy, hy0⟩ := boxedT h x hB hW
      have FF := F.ext (x.alloc (.cells #[.int .i64 t.op, .int .i64 t.n, .slice ra t.ty.length rc, .slice rb t.kids.length rd] 41))
      have TG := TF.ext (x.alloc (.cells #[.int .i64 t.op, .int .i64 t.n, .slice ra t.ty.length rc, .slice rb t.kids.length rd] 41))
      rw [show (x.alloc _).w = W1 from hW] at FF TG
      clear hW hB
      rw [← hy0]
      clear hy0
      have WR : ∀ y : Ext W1, Calls Tryd.prog 30 #[(TV.mk ra rc rb rd).val t] y.w (Ans W1 (.bool true)) := fun y => isWritten_ans FF TG h1 hTB true (by refine iff_tf ?_; dsimp only; exact HW.out) y
      unfold TV.val at WR
      go_wp2_with (first | (go_at_call 30; with_reducible refine Calls.mono (WR _) ?_; rintro e w' ⟨rfl, yy, rfl⟩))
      go_ret
      refine fin_int ?_ (hback yy)
      rcases HV.out with ⟨a1, a2⟩ | ⟨a1, a2⟩
      · exact absurd a1.2 (by have := H0.out; omega)
      · exact a2.symm
  · have HW := Lib.hid hw
    clear hw
    go_enter Tryd.func36, Tryd.ntmps36
    go_wp2_with fail
    generalize hW : x.w.alloc _ = W1
    generalize hB : x.w.heap.size = B
    obtain ⟨c0, c1, c2, c3, h1, hback, yy, hy0⟩ := boxedT h x hB hW
    have FF := F.ext (x.alloc (.cells #[.int .i64 t.op, .int .i64 t.n, .slice ra t.ty.length rc, .slice rb t.kids.length rd] 41))
    have TG := TF.ext (x.alloc (.cells #[.int .i64 t.op, .int .i64 t.n, .slice ra t.ty.length rc, .slice rb t.kids.length rd] 41))
    rw [show (x.alloc _).w = W1 from hW] at FF TG
    clear hW hB
    rw [← hy0]
    clear hy0
    have WR : ∀ y : Ext W1, Calls Tryd.prog 30 #[(TV.mk ra rc rb rd).val t] y.w (Ans W1 (.bool false)) := fun y => isWritten_ans FF TG h1 hTB false (by refine iff_tf ?_; dsimp only; exact HW.out) y
    unfold TV.val at WR
    go_wp2_with (first | (go_at_call 30; with_reducible refine Calls.mono (WR _) ?_; rintro e w' ⟨rfl, yy, rfl⟩))
    go_ret
    refine fin_int ?_ (hback yy)
    rcases HV.out with ⟨a1, a2⟩ | ⟨a1, a2⟩
    · exact absurd a1.1 HW.out
    · exact a2.symm

end Go.Proofs.YtlbpefmocodkfaaDoor
