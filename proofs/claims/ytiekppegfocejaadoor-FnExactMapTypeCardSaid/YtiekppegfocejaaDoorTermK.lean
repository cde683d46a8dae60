
/- The program's terms: measure, IsWritten, SizeOfTerm. -/
import Derived.Test.YtiekppegfocejaaDoorTermJ
namespace Go.Proofs.YtiekppegfocejaaDoor
open Go.RowKit

/-- What the program measures: the number of nodes, or -1. -/
def MeasV (size : Int) (opn : Bool) (t : Tm) (vars most m : Int) : Prop := ((OkT size (!opn) vars t ∧ (t.sz : Int) ≤ most) ∧ m = t.sz) ∨ (¬ (OkT size (!opn) vars t ∧ (t.sz : Int) ≤ most) ∧ m = -1)
theorem measV_ex (size : Int) (opn : Bool) (t : Tm) (vars most : Int) : ∃ m, MeasV size opn t vars most m := by
  by_cases h : OkT size (!opn) vars t ∧ (t.sz : Int) ≤ most
  · exact ⟨_, .inl ⟨h, rfl⟩⟩
  · exact ⟨_, .inr ⟨h, rfl⟩⟩
set_option maxHeartbeats 8000000 in
theorem measure_ans (size : Int) (hs : 0 ≤ size) (opn : Bool) (t : Tm) : ∀ {W : World} (_ : Forms W) (_ : TForms W) {lo : Nat} {r : TV} (_ : TmIn W lo t r) (vars most : Int) (_ : 0 ≤ vars) (_ : most ≤ 1000) (_ : vars + 2 * most ≤ 100000) (m : Int) (_ : MeasV size opn t vars most m) (x : Ext W),
    Calls Tryd.prog 73 #[.agg #[.int .i64 size, .bool opn], r.val t, .int .i64 vars, .int .i64 most] x.w (Ans W (.int .i64 m)) := by
  induction t using Tm.ind with
  | h t ih =>
    intro W F TF lo r h vars most hv0 hm1 hv1 v hv x
    have HV := Lib.hid hv
    have HI := Lib.hid ih
    clear hv ih
    have hsz := t.sz_pos
    obtain ⟨ra, rc, rb, rd⟩ := r
    unfold TV.val
    by_cases hmost : most < 1
    · skip
      go_enter Tryd.func73, Tryd.ntmps73
      go_wp2_with fail
      generalize hW : (x.w.alloc _).alloc _ = W1
      generalize hB : x.w.heap.size = B
      obtain ⟨e0, e1, c0, c1, c2, c3, h1, hback, yy, hy0⟩ := boxedRT h x hB hW
      clear hW hB
      have FF := F.on hback
      have TG := TF.on hback
      rw [← hy0]
      clear hy0
      obtain ⟨kr, A⟩ := h1.out
      have hlk := A.lk
      go_wp2
      go_ret
      refine fin_int ?_ (hback yy)
      rcases HV.out with ⟨⟨_, b1⟩, b2⟩ | ⟨b1, b2⟩ <;> omega
    by_cases hn : NodeOk size (!opn) vars t
    · have h13 : 0 ≤ t.op ∧ t.op ≤ 12 := manyO_in (by rw [← hn.many]; omega)
      have hk3 : t.kids.length ≤ 3 := by have := hn.many; have := manyO_le t.op; omega
      have h9 : t.op = 9 → t.kids.length = 1 := fun e => by have := hn.many; rw [e] at this; have e2 : manyO 9 = 1 := (by decide); omega
      have HN := Lib.hid hn
      have H13 := Lib.hid h13
      clear hn h13
      go_enter Tryd.func73, Tryd.ntmps73
      go_wp2_with fail
      generalize hW : (x.w.alloc _).alloc _ = W1
      generalize hB : x.w.heap.size = B
      obtain ⟨e0, e1, c0, c1, c2, c3, h1, hback, yy, hy0⟩ := boxedRT h x hB hW
      clear hW hB
      have FF := F.on hback
      have TG := TF.on hback
      rw [← hy0]
      clear hy0
      obtain ⟨kr, A⟩ := h1.out
      have hlk := A.lk
      have NODE : ∀ y : Ext W1, Calls Tryd.prog 84 #[.agg #[.int .i64 size, .bool opn], (TV.mk ra rc rb rd).val t, .int .i64 vars] y.w (Ans W1 (.bool true)) := fun y => allowsNode_ans FF TG h1 size hs opn vars true (by refine iff_tf ?_; dsimp only; exact HN.out) y
      unfold TV.val at NODE
      go_wp2_with (go_at_call 84; with_reducible refine Calls.mono (NODE _) ?_; rintro e w' ⟨rfl, yy, rfl⟩)
      go_loopw [25, 9] (fun i u wr => ∃ k : Nat, ∃ s : Int, i = .int .i64 k ∧ u = .int .i64 s ∧ k ≤ t.kids.length ∧ 1 ≤ s ∧ s ≤ most ∧ (∃ y : Ext W1, wr = y.w) ∧ Hid (s = 1 + Tm.szL (t.kids.take k)) ∧ Hid (∀ (j : Nat) u, j < k → t.kids[j]? = some u → OkT size (!opn) (vars + addsO t.op j) u)) (fun i _ _ => t.kids.length - (intOf i).toNat)
      case atStart => exact ⟨0, 1, rfl, rfl, by omega, by omega, by omega, ⟨yy, rfl⟩, by show _ = _; simp [Tm.szL], fun j u hj => by omega⟩
      case round =>
        obtain ⟨k, s, rfl, rfl, hk, hs1, hs2, ⟨yy, rfl⟩, HS, HU⟩ := hrel
        by_cases hlt : k < t.kids.length
        · have hlt' : (k : Int) < (t.kids.length : Int) := by omega
          have H9 : Hid (t.op = 9 → k = 0) := fun e => by have := h9 e; omega
          obtain ⟨kid, hkid⟩ : ∃ kid, t.kids[k]? = some kid := ⟨_, List.getElem?_eq_getElem hlt⟩
          have hmem : kid ∈ t.kids := List.mem_of_getElem? hkid
          have HKID := Lib.hid hkid
          obtain ⟨b0, o0, hrb, K⟩ := A.kid k kid hkid
          have hsub := A.sub k kid hkid
          dsimp only at hrb
          subst hrb
          have d0 : ∀ y : Ext W1, y.w.cell? ⟨b0, o0 + k * 4, none⟩ = some (.int .i64 kid.op) := fun y => y.cell K.c0
          have d1 : ∀ y : Ext W1, y.w.cell? ⟨b0, o0 + k * 4 + 1, none⟩ = some (.int .i64 kid.n) := fun y => y.cell K.c1
          have d2 : ∀ y : Ext W1, y.w.cell? ⟨b0, o0 + k * 4 + 2, none⟩ = some (.slice (kr k).a kid.ty.length (kr k).c) := fun y => y.cell K.c2
          have d3 : ∀ y : Ext W1, y.w.cell? ⟨b0, o0 + k * 4 + 3, none⟩ = some (.slice (kr k).b kid.kids.length (kr k).d) := fun y => y.cell K.c3
          clear K hkid
          obtain ⟨m, hm⟩ := measV_ex size opn kid (vars + addsO t.op k) (most - s)
          have HM := Lib.hid hm
          clear hm
          have ha1 := addsO_ge t.op k
          have ha2 := addsO_le t.op k
          have hkp := kid.sz_pos
          go_upto_region 7 with fail
          generalize hW2 : yy.w.alloc _ = W2
          generalize hB2 : yy.w.heap.size = B2
          obtain ⟨g0, g1, g2, g3, k1, hb2, zz, hz0⟩ := boxedT (hsub.ext yy) (Ext.self yy.w) hB2 hW2
          clear hW2 hB2
          have l0 := lift_fact yy hb2 e0
          have l1 := lift_fact yy hb2 e1
          have s0 := lift_fact yy hb2 c0
          have s1 := lift_fact yy hb2 c1
          have s2 := lift_fact yy hb2 c2
          have s3 := lift_fact yy hb2 c3
          have hbz : ∀ y : Ext W2, ∃ z : Ext W1, y.w = z.w := fun y => by obtain ⟨u, hu⟩ := hb2 y; exact ⟨yy.trans u, hu⟩
          have FZ := FF.on hbz
          have TZ := TG.on hbz
          have ADDS : ∀ y : Ext W2, Calls Tryd.prog 71 #[(TV.mk ra rc (some ⟨b0, o0, none⟩) rd).val t, .int .i64 k] y.w (Ans W2 (.int .i64 (addsO t.op k))) := fun y => addedFor_ans TZ t _ H13.out k (by omega) H9.out y
          unfold TV.val at ADDS
          generalize hadd : addsO t.op k = ad at *
          have C : ∀ y : Ext W2, Calls Tryd.prog 73 #[.agg #[.int .i64 size, .bool opn], (kr k).val kid, .int .i64 (vars + ad), .int .i64 (most - s)] y.w (Ans W2 (.int .i64 m)) := fun y => HI.out kid hmem FZ TZ k1 (vars + ad) (most - s) (by omega) (by omega) (by omega) m HM.out y
          unfold TV.val at C
          have HADD := Lib.hid hadd
          clear hadd
          have hw1 : vars + ad ≤ 1000000 := by omega
          rw [← hz0]
          clear hz0 hb2 k1
          clear hsub NODE
          by_cases hm0 : m < 0
          · skip
            refine region_ext zz (by kernel_rfl) (by kernel_rfl) ?_
            repeat (go_big_quiet_step (first | (go_at_call 71; with_reducible exact ADDS _) | (go_at_call 73; with_reducible exact C _)))
            refine wpQuiet_nil ?_
            rintro _ ⟨zz, rfl⟩
            go_wp2
            go_ret
            refine fin_int ?_ (by obtain ⟨z, hz⟩ := hbz zz; rw [hz]; exact hback z)
            rcases HM.out with ⟨_, a2⟩ | ⟨a1, a2⟩
            · omega
            · rcases HV.out with ⟨⟨b1, b3⟩, b2⟩ | ⟨b1, b2⟩
              · exact absurd ⟨HADD.out ▸ b1.kid HKID.out, by
                  have := Tm.szL_take_succ HKID.out
                  have := Tm.szL_take_le t.kids (k + 1)
                  have := t.sz_eq
                  have := HS.out
                  omega⟩ a1
              · exact b2.symm
          · have hm2 : m ≤ most - s := by rcases HM.out with ⟨a1, a2⟩ | ⟨a1, a2⟩ <;> omega
            refine region_ext zz (by kernel_rfl) (by kernel_rfl) ?_
            repeat (go_big_quiet_step (first | (go_at_call 71; with_reducible exact ADDS _) | (go_at_call 73; with_reducible exact C _)))
            refine wpQuiet_nil ?_
            rintro _ ⟨zz, rfl⟩
            go_wp2
            go_roundw
            case rel =>
              have hm3 : (kid.sz : Int) = m ∧ OkT size (!opn) (vars + ad) kid := by rcases HM.out with ⟨a1, a2⟩ | ⟨a1, a2⟩; exact ⟨a2.symm, a1.1⟩; omega
              refine ⟨k + 1, s + m, by go_num, by go_num, by omega, by omega, by omega, hbz zz, ?_, fun j u hj hu => ?_⟩
              · have := Tm.szL_take_succ HKID.out
                have := HS.out
                show _ = _
                omega
              · by_cases e : j = k
                · subst e
                  obtain rfl := Option.some.inj (hu.symm.trans HKID.out)
                  rw [HADD.out]
                  exact hm3.2
                · exact HU.out j u (by omega) hu
            case measure => simp [intOf]; omega
        · go_wp2
          go_ret
          refine fin_int ?_ (hback yy)
          have hok : OkT size (!opn) vars t := .mk _ _ HN.out (fun i u hu => HU.out i u (by have := (List.getElem?_eq_some_iff.1 hu).1; omega) hu)
          have h4 : t.kids.take k = t.kids := List.take_of_length_le (by omega)
          have h3 := HS.out
          rw [h4] at h3
          have h5 := t.sz_eq
          rcases HV.out with ⟨b1, b2⟩ | ⟨b1, b2⟩
          · omega
          · exact absurd ⟨hok, by omega⟩ b1
    · have HN := Lib.hid hn
      clear hn
      go_enter Tryd.func73, Tryd.ntmps73
      go_wp2_with fail
      generalize hW : (x.w.alloc _).alloc _ = W1
      generalize hB : x.w.heap.size = B
      obtain ⟨e0, e1, c0, c1, c2, c3, h1, hback, yy, hy0⟩ := boxedRT h x hB hW
      clear hW hB
      have FF := F.on hback
      have TG := TF.on hback
      rw [← hy0]
      clear hy0
      obtain ⟨kr, A⟩ := h1.out
      have hlk := A.lk
      have NODE : ∀ y : Ext W1, Calls Tryd.prog 84 #[.agg #[.int .i64 size, .bool opn], (TV.mk ra rc rb rd).val t, .int .i64 vars] y.w (Ans W1 (.bool false)) := fun y => allowsNode_ans FF TG h1 size hs opn vars false (by refine iff_tf ?_; dsimp only; exact HN.out) y
      unfold TV.val at NODE
      go_wp2_with (go_at_call 84; with_reducible refine Calls.mono (NODE _) ?_; rintro e w' ⟨rfl, yy, rfl⟩)
      go_ret
      refine fin_int ?_ (hback yy)
      rcases HV.out with ⟨⟨b1, _⟩, b2⟩ | ⟨b1, b2⟩
      · exact absurd b1.node HN.out
      · exact b2.symm

set_option maxHeartbeats 1600000 in
theorem allowsTerm_ans {W : World} (F : Forms W) (TF : TForms W) {lo : Nat} {t : Tm} {r : TV} (h : TmIn W lo t r) (size : Int) (hs : 0 ≤ size) (opn : Bool) (vars : Int) (hv0 : 0 ≤ vars) (hv1 : vars ≤ 1000) (p : Bool) (hp : p = true ↔ (OkT size (!opn) vars t ∧ t.sz ≤ 400)) (x : Ext W) :
    Calls Tryd.prog 70 #[.agg #[.int .i64 size, .bool opn], r.val t, .int .i64 vars] x.w (Ans W (.bool p)) := by
  have HP := Lib.hid hp
  clear hp
  obtain ⟨ra, rc, rb, rd⟩ := r
  unfold TV.val
  obtain ⟨m, hm⟩ := measV_ex size opn t vars 400
  have HM := Lib.hid hm
  clear hm
  by_cases hm0 : 0 ≤ m
  · skip
    go_enter Tryd.func70, Tryd.ntmps70
    go_wp2_with fail
    generalize hW : (x.w.alloc _).alloc _ = W1
    generalize hB : x.w.heap.size = B
    obtain ⟨e0, e1, c0, c1, c2, c3, h1, hback, yy, hy0⟩ := boxedRT h x hB hW
    clear hW hB
    have FF := F.on hback
    have TG := TF.on hback
    rw [← hy0]
    clear hy0
    obtain ⟨kr, A⟩ := h1.out
    have hlk := A.lk
    have M : ∀ y : Ext W1, Calls Tryd.prog 73 #[.agg #[.int .i64 size, .bool opn], (TV.mk ra rc rb rd).val t, .int .i64 vars, .int .i64 400] y.w (Ans W1 (.int .i64 m)) := fun y => measure_ans size hs opn t FF TG h1 vars 400 hv0 (by omega) (by omega) m HM.out y
    unfold TV.val at M
    go_wp2_with (go_at_call 73; with_reducible refine Calls.mono (M _) ?_; rintro e w' ⟨rfl, yy, rfl⟩)
    go_ret
    refine fin_true HP ?_ (hback yy)
    rcases HM.out with ⟨⟨a1, a3⟩, a2⟩ | ⟨a1, a2⟩
    · exact ⟨a1, by omega⟩
    · omega
  · have hmd : decide (0 ≤ m) = false := decide_eq_false hm0
    go_enter Tryd.func70, Tryd.ntmps70
    go_wp2_with fail
    generalize hW : (x.w.alloc _).alloc _ = W1
    generalize hB : x.w.heap.size = B
    obtain ⟨e0, e1, c0, c1, c2, c3, h1, hback, yy, hy0⟩ := boxedRT h x hB hW
    clear hW hB
    have FF := F.on hback
    have TG := TF.on hback
    rw [← hy0]
    clear hy0
    obtain ⟨kr, A⟩ := h1.out
    have hlk := A.lk
    have M : ∀ y : Ext W1, Calls Tryd.prog 73 #[.agg #[.int .i64 size, .bool opn], (TV.mk ra rc rb rd).val t, .int .i64 vars, .int .i64 400] y.w (Ans W1 (.int .i64 m)) := fun y => measure_ans size hs opn t FF TG h1 vars 400 hv0 (by omega) (by omega) m HM.out y
    unfold TV.val at M
    go_wp2_with (go_at_call 73; with_reducible refine Calls.mono (M _) ?_; rintro e w' ⟨rfl, yy, rfl⟩)
    go_ret
    refine fin_false HP (fun q => ?_) (hback yy)
    rcases HM.out with ⟨⟨a1, a3⟩, a2⟩ | ⟨a1, a2⟩
    · omega
    · exact a1 ⟨q.1, by have := q.2; omega⟩

theorem writtenRule_ans {W : World} (x : Ext W) : Calls Tryd.prog 64 #[] x.w (Ans W (.agg #[.int .i64 16, .bool true])) := by
  go_enter Tryd.func64, Tryd.ntmps64
  go_wp2
  generalize hY : x.w.alloc _ = Y
  have q2 : Y.heap[x.w.heap.size]? = some (.cells #[.int .i64 16, .bool true] 72 (0, 0)) := by
    subst hY
    show (x.w.heap.push _)[x.w.heap.size]? = _
    rw [Array.getElem?_push, if_pos rfl]
  have r0 := blk_cell q2 0
  have r1 := blk_cell q2 1
  simp at r0 r1
  refine bodyPost_ret (v := .agg #[.int .i64 16, .bool true]) (by simp [results, Tryd.results64, go_sem, r0, r1]) rfl ?_
  exact ⟨rfl, x.alloc _, by rw [← hY]⟩

set_option maxHeartbeats 1600000 in
theorem isWritten_ans {W : World} (F : Forms W) (TF : TForms W) {lo : Nat} {t : Tm} {r : TV} (h : TmIn W lo t r) (p : Bool) (hp : p = true ↔ Written t) (x : Ext W) :
    Calls Tryd.prog 42 #[r.val t] x.w (Ans W (.bool p)) := by
  have HP := Lib.hid hp
  clear hp
  obtain ⟨ra, rc, rb, rd⟩ := r
  unfold TV.val
  by_cases ho : OkT 16 (!true) 8 t ∧ t.sz ≤ 400
  · have HO := Lib.hid ho
    clear ho
    go_enter Tryd.func42, Tryd.ntmps42
    go_wp2_with fail
    generalize hW : x.w.alloc _ = W1
    generalize hB : x.w.heap.size = B
    obtain ⟨c0, c1, c2, c3, h1, hback, yy, hy0⟩ := boxedT h x hB hW
    have FF := F.ext (x.alloc (.cells #[.int .i64 t.op, .int .i64 t.n, .slice ra t.ty.length rc, .slice rb t.kids.length rd] 37))
    have TG := TF.ext (x.alloc (.cells #[.int .i64 t.op, .int .i64 t.n, .slice ra t.ty.length rc, .slice rb t.kids.length rd] 37))
    rw [show (x.alloc _).w = W1 from hW] at FF TG
    clear hW hB
    rw [← hy0]
    clear hy0
    obtain ⟨kr, A⟩ := h1.out
    have AT : ∀ y : Ext W1, Calls Tryd.prog 70 #[.agg #[.int .i64 16, .bool true], (TV.mk ra rc rb rd).val t, .int .i64 8] y.w (Ans W1 (.bool true)) := fun y => allowsTerm_ans FF TG h1 16 (by omega) true 8 (by omega) (by omega) true (by refine iff_tf ?_; dsimp only; exact HO.out) y
    unfold TV.val at AT
    refine region_ext yy (by kernel_rfl) (by kernel_rfl) ?_
    repeat (go_big_quiet_step (first | (go_at_call 64; with_reducible exact writtenRule_ans _) | (go_at_call 70; with_reducible exact AT _)))
    refine wpQuiet_nil ?_
    rintro _ ⟨yy, rfl⟩
    go_wp2
    go_ret
    exact fin_true HP (⟨HO.out.2, HO.out.1⟩) (hback yy)
  · have HO := Lib.hid ho
    clear ho
    go_enter Tryd.func42, Tryd.ntmps42
    go_wp2_with fail
    generalize hW : x.w.alloc _ = W1
    generalize hB : x.w.heap.size = B
    obtain ⟨c0, c1, c2, c3, h1, hback, yy, hy0⟩ := boxedT h x hB hW
    have FF := F.ext (x.alloc (.cells #[.int .i64 t.op, .int .i64 t.n, .slice ra t.ty.length rc, .slice rb t.kids.length rd] 37))
    have TG := TF.ext (x.alloc (.cells #[.int .i64 t.op, .int .i64 t.n, .slice ra t.ty.length rc, .slice rb t.kids.length rd] 37))
    rw [show (x.alloc _).w = W1 from hW] at FF TG
    clear hW hB
    rw [← hy0]
    clear hy0
    obtain ⟨kr, A⟩ := h1.out
    have AT : ∀ y : Ext W1, Calls Tryd.prog 70 #[.agg #[.int .i64 16, .bool true], (TV.mk ra rc rb rd).val t, .int .i64 8] y.w (Ans W1 (.bool false)) := fun y => allowsTerm_ans FF TG h1 16 (by omega) true 8 (by omega) (by omega) false (by refine iff_tf ?_; dsimp only; exact HO.out) y
    unfold TV.val at AT
    refine region_ext yy (by kernel_rfl) (by kernel_rfl) ?_
    repeat (go_big_quiet_step (first | (go_at_call 64; with_reducible exact writtenRule_ans _) | (go_at_call 70; with_reducible exact AT _)))
    refine wpQuiet_nil ?_
    rintro _ ⟨yy, rfl⟩
    go_wp2
    go_ret
    exact fin_false HP (fun q => HO.out ⟨q.2, q.1⟩) (hback yy)

theorem sizeV_meas {t : Tm} {v : Int} (h : SizeV t v) : MeasV 16 true t 8 400 v := by
  rcases h with ⟨h, e⟩ | ⟨h, e⟩
  · exact .inl ⟨⟨h.2, by have := h.1; omega⟩, e⟩
  · exact .inr ⟨fun q => h ⟨by have := q.2; omega, q.1⟩, e⟩
set_option maxHeartbeats 1600000 in
theorem sizeOfTerm_ans {W : World} (F : Forms W) (TF : TForms W) {lo : Nat} {t : Tm} {r : TV} (h : TmIn W lo t r) (v : Int) (hv : SizeV t v) (x : Ext W) :
    Calls Tryd.prog 51 #[r.val t] x.w (Ans W (.int .i64 v)) := by
  have HV := Lib.hid (sizeV_meas hv)
  clear hv
  obtain ⟨ra, rc, rb, rd⟩ := r
  unfold TV.val
  go_enter Tryd.func51, Tryd.ntmps51
  go_wp2_with fail
  generalize hW : x.w.alloc _ = W1
  generalize hB : x.w.heap.size = B
  obtain ⟨c0, c1, c2, c3, h1, hback, yy, hy0⟩ := boxedT h x hB hW
  have FF := F.ext (x.alloc (.cells #[.int .i64 t.op, .int .i64 t.n, .slice ra t.ty.length rc, .slice rb t.kids.length rd] 37))
  have TG := TF.ext (x.alloc (.cells #[.int .i64 t.op, .int .i64 t.n, .slice ra t.ty.length rc, .slice rb t.kids.length rd] 37))
  rw [show (x.alloc _).w = W1 from hW] at FF TG
  clear hW hB
  rw [← hy0]
  clear hy0
  obtain ⟨kr, A⟩ := h1.out
  have ME : ∀ y : Ext W1, Calls Tryd.prog 73 #[.agg #[.int .i64 16, .bool true], (TV.mk ra rc rb rd).val t, .int .i64 8, .int .i64 400] y.w (Ans W1 (.int .i64 v)) := fun y => measure_ans 16 (by omega) true t FF TG h1 8 400 (by omega) (by omega) (by omega) v HV.out y
  unfold TV.val at ME
  refine region_ext yy (by kernel_rfl) (by kernel_rfl) ?_
  repeat (go_big_quiet_step (first | (go_at_call 64; with_reducible exact writtenRule_ans _) | (go_at_call 73; with_reducible exact ME _)))
  refine wpQuiet_nil ?_
  rintro _ ⟨yy, rfl⟩
  go_wp2
  go_ret
  exact ⟨rfl, hback yy⟩

end Go.Proofs.YtiekppegfocejaaDoor
