
/- The model's other languages: types with boxes. -/
import Derived.Test.YteffcfaoganciaaDoorKFlatSpec
import Derived.Test.YteffcfaoganciaaDoorKGrow
import Derived.Test.YteffcfaoganciaaDoorKHoldL
import Derived.Test.YteffcfaoganciaaDoorGD
set_option linter.unusedVariables false
set_option linter.unusedSimpArgs false
namespace Go.Proofs.YteffcfaoganciaaDoor
open Go.RowKit

theorem l2CodeBox_ans {W : World} (g : Int) (h0 : -1 ≤ g) (h1 : g ≤ 15) (v : Int) (hv : v = if g = -1 then 36 else 19 + g) (x : Ext W) : Calls Tryd.prog 109 #[.bool false, .int .i64 g] x.w (Ans W (.int .i64 v)) := by
  obtain ⟨yy, hyy⟩ : ∃ y : Ext W, x = y := ⟨x, rfl⟩
  rw [hyy]
  clear hyy
  have HV := Lib.hid hv
  clear hv
  by_cases e : g = -1
  · subst e
    go_enter Tryd.func109, Tryd.ntmps109
    go_wp2
    go_ret
    exact fin_int (by rw [HV.out]; rfl) ⟨yy, rfl⟩
  · have E := Lib.hid e
    have f1 : ¬ g < 0 := by omega
    clear e
    go_enter Tryd.func109, Tryd.ntmps109
    go_wp2
    go_ret
    exact fin_int (by rw [HV.out, if_neg E.out]) ⟨yy, rfl⟩
set_option maxRecDepth 100000 in
set_option maxHeartbeats 8000000 in
theorem l10Box_ans (T : Ty) : ∀ {W : World} {a : Option Addr} {c : Nat} {l : List Int} (_ : Row W (Value.int .i64) a l) (_ : l.length ≤ 40) (_ : ∀ u ∈ l, 0 ≤ u ∧ u ≤ 36) (i0 : Nat) (post : List Int) (_ : l.drop i0 = T.enc ++ post) (_ : T.Ok) (x : Ext W),
    Calls Tryd.prog 81 #[.slice a l.length c, .int .i64 (i0 : Nat)] x.w (fun e w' => ∃ (a2 : Option Addr) (c2 : Nat) (y : Ext W), e = .returned (.tuple #[.slice a2 (boxL T.enc).length c2, .int .i64 ((i0 + T.enc.length : Nat) : Int)]) ∧ w' = y.w ∧ y.w.ownsRow W.heap.size 3 1 (.slice a2 (boxL T.enc).length c2) (boxL T.enc).length ((boxL T.enc).map (Value.int .i64))) := by
  induction T using Ty.indP with
  | h T ih =>
    intro W a c l hr hl h36 i0 post hd hok x
    obtain ⟨xx, hxx⟩ : ∃ y : Ext W, x = y := ⟨x, rfl⟩
    rw [hxx]
    clear hxx
    have HI := Lib.hid ih
    have HD := Lib.hid hd
    have HOK := Lib.hid hok
    have hlt : i0 < l.length := by have := congrArg List.length hd; simp at this; have := T.enc_pos; omega
    have hat : l[i0]? = some T.code := by
      have := congrArg (fun (q : List Int) => q[0]?) hd
      rw [T.enc_parts] at this
      simpa using this
    have hcc := h36 _ (List.mem_of_getElem? hat)
    have hkc := Ty.kids_parts hok
    have H36 := Lib.hid h36
    obtain ⟨cc, hcc2⟩ : ∃ cc, T.code = cc := ⟨_, rfl⟩
    rw [hcc2] at hat hcc hkc
    have HCC := Lib.hid hcc2
    have HKC := Lib.hid hkc
    have hpl : T.parts.length ≤ 2 := by cases T <;> simp [Ty.parts]
    obtain ⟨b1, o1, hra, hcell⟩ := hr.at hlt
    have d1 : ∀ y : Ext W, y.w.cell? ⟨b1, o1 + i0, none⟩ = some (.int .i64 cc) := fun y => y.cell (hcell i0 _ hat)
    have hlt' : (i0 : Int) < (l.length : Int) := by omega
    clear ih hd hok h36 hkc hcc2 hat hcell
    by_cases ha : Arr cc
    · obtain ⟨v, hv⟩ : ∃ v : Int, v = if gradeOf cc = -1 then 36 else 19 + gradeOf cc := ⟨_, rfl⟩
      have PE : Hid (boxC cc = [4, v]) := by show _ = _; unfold boxC; rw [if_pos ha, hv]
      have g0 := gradeOf_ge (c := cc) (.inl ha)
      have g1 := gradeOf_le (c := cc) (.inl ha)
      have AC : ∀ y : Ext W, Calls Tryd.prog 84 #[.int .i64 cc] y.w (Ans W (.bool true)) := fun y => l2Arrow_ans cc true (by simpa using ha) y
      have GC : ∀ y : Ext W, Calls Tryd.prog 119 #[.int .i64 cc] y.w (Ans W (.int .i64 (gradeOf cc))) := fun y => l2Grade_ans cc hcc.1 (by omega) y
      have CC : ∀ y : Ext W, Calls Tryd.prog 109 #[.bool false, .int .i64 (gradeOf cc)] y.w (Ans W (.int .i64 v)) := fun y => l2CodeBox_ans _ g0 g1 v hv y
      generalize gradeOf cc = g at *
      subst hra
      clear ha hv g0 g1
      go_enter Tryd.func81, Tryd.ntmps81
      go_wp2_with fail
      refine Calls.mono (AC (xx.alloc _)) ?_
      rintro e w' ⟨rfl, y1, rfl⟩
      go_wp2_with fail
      refine Calls.mono (GC y1) ?_
      rintro e w' ⟨rfl, y2, rfl⟩
      go_wp2_with fail
      refine Calls.mono (CC y2) ?_
      rintro e w' ⟨rfl, y3, rfl⟩
      go_wp2_with fail
      have st0 : Grow W (y3.w.alloc (.cells #[.int .i64 4, .int .i64 v] 3)) (some ⟨y3.w.heap.size, 0, none⟩) 2 [4, v] := Grow.new y3.below [4, v] (by simp) _ rfl
      clear AC GC CC
      go_loopw [8, 7, 1] (fun i v p wr => ∃ (k : Nat) (a' : Option Addr) (c' : Nat) (n m : Nat), i = .int .i64 k ∧ v = .slice a' n c' ∧ p = .int .i64 m ∧ k ≤ T.parts.length ∧ n ≤ 100 ∧ m ≤ 100 ∧ Hid (n = (boxP cc T.parts k).length ∧ m = i0 + (1 + posP T.parts k) ∧ Grow W wr a' c' (boxP cc T.parts k))) (fun i _ _ _ => T.parts.length - (intOf i).toNat)
      case atStart => exact ⟨0, _, _, _, i0 + 1, rfl, rfl, by go_num, by omega, by omega, by omega, by rw [boxP_zero, PE.out] <;> rfl, by rw [posP_zero], by rw [boxP_zero, PE.out]; exact st0⟩
      case round =>
        obtain ⟨k, a', c', n, m, rfl, rfl, rfl, hk, hn, hm, HG⟩ := hrel
        clear st0
        have KI : ∀ y : Ext wr, Calls Tryd.prog 108 #[.int .i64 cc] y.w (Ans wr (.int .i64 (T.parts.length : Nat))) := fun y => by have := l2Kids_ans (W := wr) cc y; rw [HKC.out] at this; exact this
        by_cases hlt : k < T.parts.length
        · have hlt' : (k : Int) < (T.parts.length : Int) := by omega
          obtain ⟨p, hp⟩ : ∃ p, T.parts[k]? = some p := ⟨_, List.getElem?_eq_getElem hlt⟩
          have HP := Lib.hid hp
          have hmem := List.mem_of_getElem? hp
          obtain ⟨post2, hdr⟩ := part_at HD.out hp
          rw [← HG.out.2.1] at hdr
          have hpm : m + p.enc.length ≤ 40 := by have := congrArg List.length hdr; simp at this; have := p.enc_pos; omega
          have hb := HG.out.2.2.bel
          have hlen9 : n + (boxL p.enc).length ≤ 100 := by
            have e1 := HG.out.1
            have e2 := HG.out.2.1
            have e3 := boxP_len cc T.parts (k + 1)
            have e4 := posP_succ hp
            rw [boxP_succ hp, List.length_append] at e3
            omega
          have hrw : Row wr (Value.int .i64) (some ⟨b1, o1, none⟩) l := hr.ext ⟨wr, hb⟩
          have IH : ∀ y : Ext wr, Calls Tryd.prog 81 #[.slice (some ⟨b1, o1, none⟩) l.length c, .int .i64 (m : Nat)] y.w (fun e w' => ∃ (a2 : Option Addr) (c2 : Nat) (z : Ext y.w), e = .returned (.tuple #[.slice a2 (boxL p.enc).length c2, .int .i64 ((m + p.enc.length : Nat) : Int)]) ∧ w' = z.w ∧ Row z.w (Value.int .i64) a2 (boxL p.enc)) := fun y => (HI.out p hmem (W := y.w) (hrw.ext y) hl H36.out m post2 hdr (Ty.ok_parts HOK.out p hmem) (Ext.self y.w)).mono fun _ _ ⟨a2, c2, z, h1, h2, h3⟩ => ⟨a2, c2, z, h1, h2, own_row h3⟩
          obtain ⟨q, hq⟩ : ∃ q, q = boxP cc T.parts k := ⟨_, rfl⟩
          rw [← hq] at HG
          have HQ := Lib.hid hq
          have hnq : n = q.length := HG.out.1
          subst hnq
          obtain ⟨bp, hbp⟩ : ∃ bp, bp = boxL p.enc := ⟨_, rfl⟩
          rw [← hbp] at IH hlen9
          have HBP := Lib.hid hbp
          clear hp hmem hdr hb hq hbp
          go_wp2_with fail
          refine Calls.mono (KI (Ext.self wr)) ?_
          rintro e w' ⟨rfl, y5, rfl⟩
          go_wp2_with fail
          refine Calls.mono (IH y5) ?_
          rintro e w' ⟨sa, sc, y6, rfl, rfl, rs⟩
          have RS := Lib.hid rs
          clear rs IH KI
          go_wp2_with (at_builtin; refine wpList_grow rfl (.tmp 37) (.tmp 38) rfl ((HG.out.2.2.ext y5).ext y6) rfl rfl RS.out (by omega) ?_; intro a2 c2 w2 g2)
          have HG3 := Lib.hid g2
          clear g2
          go_roundw
          case rel =>
            have e1 := boxP_succ (c := cc) HP.out
            have e2 := posP_succ HP.out
            rw [← HQ.out, ← HBP.out] at e1
            refine ⟨k + 1, a2, c2, _, m + p.enc.length, by go_num, rfl, rfl, by omega, hlen9, by omega, ?_⟩
            rw [e1, e2]
            exact ⟨by rw [List.length_append] <;> rfl, by have := HG.out.2.1; omega, HG3.out⟩
          case measure => simp [intOf]; omega
        · have hke : k = T.parts.length := by omega
          have HG2 : Hid (n = (boxL T.enc).length ∧ m = i0 + T.enc.length ∧ Grow W wr a' c' (boxL T.enc)) := by
            have h1 := HG.out
            rw [hke, ← HCC.out, boxP_all] at h1
            have h2 := posP_all T
            exact ⟨h1.1, by rw [h1.2.1]; omega, h1.2.2⟩
          clear HG hke
          go_wp2_with fail
          refine Calls.mono (KI (Ext.self wr)) ?_
          rintro e w' ⟨rfl, y5, rfl⟩
          go_wp2_with fail
          go_ret2
          obtain ⟨rfl, rfl, g⟩ := HG2.out
          exact ⟨a', c', ⟨y5.w, (g.ext y5).bel⟩, rfl, rfl, (g.ext y5).own⟩
    · have PE : Hid (boxC cc = [cc]) := by show _ = _; unfold boxC; rw [if_neg ha]
      have HA := Lib.hid ha
      subst hra
      clear ha
      go_enter Tryd.func81, Tryd.ntmps81
      go_wp2_with fail
      have st1 : Grow W (xx.w.alloc (.cells #[.int .i64 cc] 3)) (some ⟨xx.w.heap.size, 0, none⟩) 1 [cc] := Grow.new xx.below [cc] (by simp) _ rfl
      refine Calls.mono (l2Arrow_ans (W := xx.w.alloc _) cc false (by simpa using HA.out) (Ext.self _)) ?_
      rintro e w' ⟨rfl, y3, rfl⟩
      have st0 := st1.ext y3
      clear st1
      go_wp2_with fail
      go_loopw [8, 7, 1] (fun i v p wr => ∃ (k : Nat) (a' : Option Addr) (c' : Nat) (n m : Nat), i = .int .i64 k ∧ v = .slice a' n c' ∧ p = .int .i64 m ∧ k ≤ T.parts.length ∧ n ≤ 100 ∧ m ≤ 100 ∧ Hid (n = (boxP cc T.parts k).length ∧ m = i0 + (1 + posP T.parts k) ∧ Grow W wr a' c' (boxP cc T.parts k))) (fun i _ _ _ => T.parts.length - (intOf i).toNat)
      case atStart => exact ⟨0, _, _, _, i0 + 1, rfl, rfl, by go_num, by omega, by omega, by omega, by rw [boxP_zero, PE.out] <;> rfl, by rw [posP_zero], by rw [boxP_zero, PE.out]; exact st0⟩
      case round =>
        obtain ⟨k, a', c', n, m, rfl, rfl, rfl, hk, hn, hm, HG⟩ := hrel
        clear st0
        have KI : ∀ y : Ext wr, Calls Tryd.prog 108 #[.int .i64 cc] y.w (Ans wr (.int .i64 (T.parts.length : Nat))) := fun y => by have := l2Kids_ans (W := wr) cc y; rw [HKC.out] at this; exact this
        by_cases hlt : k < T.parts.length
        · have hlt' : (k : Int) < (T.parts.length : Int) := by omega
          obtain ⟨p, hp⟩ : ∃ p, T.parts[k]? = some p := ⟨_, List.getElem?_eq_getElem hlt⟩
          have HP := Lib.hid hp
          have hmem := List.mem_of_getElem? hp
          obtain ⟨post2, hdr⟩ := part_at HD.out hp
          rw [← HG.out.2.1] at hdr
          have hpm : m + p.enc.length ≤ 40 := by have := congrArg List.length hdr; simp at this; have := p.enc_pos; omega
          have hb := HG.out.2.2.bel
          have hlen9 : n + (boxL p.enc).length ≤ 100 := by
            have e1 := HG.out.1
            have e2 := HG.out.2.1
            have e3 := boxP_len cc T.parts (k + 1)
            have e4 := posP_succ hp
            rw [boxP_succ hp, List.length_append] at e3
            omega
          have hrw : Row wr (Value.int .i64) (some ⟨b1, o1, none⟩) l := hr.ext ⟨wr, hb⟩
          have IH : ∀ y : Ext wr, Calls Tryd.prog 81 #[.slice (some ⟨b1, o1, none⟩) l.length c, .int .i64 (m : Nat)] y.w (fun e w' => ∃ (a2 : Option Addr) (c2 : Nat) (z : Ext y.w), e = .returned (.tuple #[.slice a2 (boxL p.enc).length c2, .int .i64 ((m + p.enc.length : Nat) : Int)]) ∧ w' = z.w ∧ Row z.w (Value.int .i64) a2 (boxL p.enc)) := fun y => (HI.out p hmem (W := y.w) (hrw.ext y) hl H36.out m post2 hdr (Ty.ok_parts HOK.out p hmem) (Ext.self y.w)).mono fun _ _ ⟨a2, c2, z, h1, h2, h3⟩ => ⟨a2, c2, z, h1, h2, own_row h3⟩
          obtain ⟨q, hq⟩ : ∃ q, q = boxP cc T.parts k := ⟨_, rfl⟩
          rw [← hq] at HG
          have HQ := Lib.hid hq
          have hnq : n = q.length := HG.out.1
          subst hnq
          obtain ⟨bp, hbp⟩ : ∃ bp, bp = boxL p.enc := ⟨_, rfl⟩
          rw [← hbp] at IH hlen9
          have HBP := Lib.hid hbp
          clear hp hmem hdr hb hq hbp
          go_wp2_with fail
          refine Calls.mono (KI (Ext.self wr)) ?_
          rintro e w' ⟨rfl, y5, rfl⟩
          go_wp2_with fail
          refine Calls.mono (IH y5) ?_
          rintro e w' ⟨sa, sc, y6, rfl, rfl, rs⟩
          have RS := Lib.hid rs
          clear rs IH KI
          go_wp2_with (at_builtin; refine wpList_grow rfl (.tmp 37) (.tmp 38) rfl ((HG.out.2.2.ext y5).ext y6) rfl rfl RS.out (by omega) ?_; intro a2 c2 w2 g2)
          have HG3 := Lib.hid g2
          clear g2
          go_roundw
          case rel =>
            have e1 := boxP_succ (c := cc) HP.out
            have e2 := posP_succ HP.out
            rw [← HQ.out, ← HBP.out] at e1
            refine ⟨k + 1, a2, c2, _, m + p.enc.length, by go_num, rfl, rfl, by omega, hlen9, by omega, ?_⟩
            rw [e1, e2]
            exact ⟨by rw [List.length_append] <;> rfl, by have := HG.out.2.1; omega, HG3.out⟩
          case measure => simp [intOf]; omega
        · have hke : k = T.parts.length := by omega
          have HG2 : Hid (n = (boxL T.enc).length ∧ m = i0 + T.enc.length ∧ Grow W wr a' c' (boxL T.enc)) := by
            have h1 := HG.out
            rw [hke, ← HCC.out, boxP_all] at h1
            have h2 := posP_all T
            exact ⟨h1.1, by rw [h1.2.1]; omega, h1.2.2⟩
          clear HG hke
          go_wp2_with fail
          refine Calls.mono (KI (Ext.self wr)) ?_
          rintro e w' ⟨rfl, y5, rfl⟩
          go_wp2_with fail
          go_ret2
          obtain ⟨rfl, rfl, g⟩ := HG2.out
          exact ⟨a', c', ⟨y5.w, (g.ext y5).bel⟩, rfl, rfl, (g.ext y5).own⟩

set_option maxHeartbeats 4000000 in
theorem specBoxType_ans {W : World} {a : Option Addr} {c : Nat} {l : List Int} (hr : Row W (Value.int .i64) a l) (hll : l.length ≤ 1099511627776) (o : List Int) (ho : BoxV l o) (x : Ext W) :
    Calls Tryd.prog 36 #[.slice a l.length c] x.w (NewR W o) := by
  obtain ⟨yy, hyy⟩ : ∃ y : Ext W, x = y := ⟨x, rfl⟩
  rw [hyy]
  clear hyy
  have HO := Lib.hid ho
  clear ho
  by_cases hwt : WT l
  · have HW := Lib.hid hwt
    obtain ⟨T, hok, hT⟩ := hwt.tree
    have HOK := Lib.hid hok
    have HT : Hid (l.drop 0 = T.enc ++ []) := by show _ = _; simp [hT]
    have HE : Hid (boxL l = boxL T.enc) := by show _ = _; rw [hT]
    clear hwt hok hT
    by_cases h40 : (boxL l).length ≤ 40
    · have H40 := Lib.hid h40
      have h41 : ¬ 40 < ((boxL l).length : Int) := by omega
      clear h40
      go_enter Tryd.func36, Tryd.ntmps36
      go_wp2_with fail
      refine Calls.mono (l2Type_ans hr hll true (by simpa using HW.out) yy) ?_
      rintro e w' ⟨rfl, yy, rfl⟩
      go_wp2_with fail
      refine Calls.mono (l10Box_ans T (W := yy.w) (hr.ext yy) HW.out.1 HW.out.codes 0 [] HT.out HOK.out (Ext.self yy.w)) ?_
      rintro e w' ⟨sa, sc, y, rfl, rfl, own⟩
      rw [← HE.out]
      have HOWN := Lib.hid own
      clear own
      go_wp2_with fail
      go_ret
      have e : o = boxL l := by rcases HO.out with ⟨_, h⟩ | ⟨h, _⟩; exact h; exact absurd ⟨HW.out, H40.out⟩ h
      subst e
      have own := HOWN.out
      rw [← HE.out] at own
      exact ⟨sa, sc, ⟨y.w, yy.below.trans (y.below.mono yy.size)⟩, rfl, rfl, owns_lower own yy.size⟩
    · have H40 := Lib.hid h40
      have h41 : 40 < ((boxL l).length : Int) := by omega
      clear h40
      go_enter Tryd.func36, Tryd.ntmps36
      go_wp2_with fail
      refine Calls.mono (l2Type_ans hr hll true (by simpa using HW.out) yy) ?_
      rintro e w' ⟨rfl, yy, rfl⟩
      go_wp2_with fail
      refine Calls.mono (l10Box_ans T (W := yy.w) (hr.ext yy) HW.out.1 HW.out.codes 0 [] HT.out HOK.out (Ext.self yy.w)) ?_
      rintro e w' ⟨sa, sc, y, rfl, rfl, own⟩
      rw [← HE.out]
      have HOWN := Lib.hid own
      clear own
      go_wp2_with fail
      go_ret
      have e : o = [] := by rcases HO.out with ⟨h, _⟩ | ⟨_, h⟩; exact absurd h.2 H40.out; exact h
      subst e
      exact ⟨none, 0, ⟨y.w, yy.below.trans (y.below.mono yy.size)⟩, rfl, rfl, World.ownsRow_nil _ _ _ _⟩
  · have HW := Lib.hid hwt
    clear hwt
    go_enter Tryd.func36, Tryd.ntmps36
    go_wp2_with fail
    refine Calls.mono (l2Type_ans hr hll false (by simpa using HW.out) yy) ?_
    rintro e w' ⟨rfl, yy, rfl⟩
    go_wp2_with fail
    go_ret
    have e : o = [] := by rcases HO.out with ⟨h, _⟩ | ⟨_, h⟩; exact absurd h.1 HW.out; exact h
    subst e
    exact ⟨none, 0, yy, rfl, rfl, World.ownsRow_nil _ _ _ _⟩

end Go.Proofs.YteffcfaoganciaaDoor
