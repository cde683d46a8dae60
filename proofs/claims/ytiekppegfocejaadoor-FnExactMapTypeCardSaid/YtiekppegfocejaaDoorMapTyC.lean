
/- The model's MapType. -/
import Derived.Test.YtiekppegfocejaaDoorMapTyB
namespace Go.Proofs.YtiekppegfocejaaDoor
open Go.RowKit

theorem own_lit0 {base : Nat} {e : TypeId} {size : Nat} (w : World) (hb : base ≤ w.heap.size) : (w.alloc (.cells #[] e)).ownsRow base e size (.slice (some ⟨w.heap.size, 0, none⟩) 0 0) 0 [] :=
  ⟨by simp, .inr ⟨w.heap.size, 0, #[], rfl, hb, new_blk rfl, Nat.le_refl _, by unfold maxLen; omega, by simp, by simp⟩⟩

theorem endL_codes : ∀ (l : List Int) (i : Nat) (m : Int), endL l i m = ((i + l.length : Nat) : Int) → ∀ c ∈ l, 0 ≤ kidsOf c
  | [], _, _, _ => fun c h => by cases h
  | a :: l, i, m, h => by
    simp only [endL] at h
    by_cases hm : m = 0
    · rw [if_pos hm] at h; simp at h; omega
    · rw [if_neg hm] at h
      by_cases hk : kidsOf a < 0
      · rw [if_pos hk] at h; simp at h; omega
      · rw [if_neg hk] at h
        have ih := endL_codes l (i + 1) (m - 1 + kidsOf a) (by rw [h]; simp; omega)
        intro c hc
        rcases List.mem_cons.1 hc with rfl | hc
        · omega
        · exact ih c hc
theorem kidsOf_code {c : Int} (h : 0 ≤ kidsOf c) : 0 ≤ c ∧ c ≤ 36 := by
  by_cases a0 : c = 0
  · omega
  · by_cases a1 : c = 1 ∨ c = 2 ∨ Arr c
    · unfold Arr at a1; omega
    · by_cases a2 : Bx c
      · unfold Bx at a2; omega
      · rw [kidsOf_no a0 a1 a2] at h; omega
theorem WT.codes {l : List Int} (h : WT l) {k : Nat} {c : Int} (hk : l[k]? = some c) : 0 ≤ c ∧ c ≤ 36 := by
  refine kidsOf_code (endL_codes l 0 1 ?_ c (List.mem_of_getElem? hk))
  have := h.2
  unfold endOf at this
  simpa using this

set_option maxRecDepth 100000 in
set_option maxHeartbeats 8000000 in
theorem specMapType_ans {W : World} {af al : Option Addr} {cf cl : Nat} {f l : List Int} (hf : Row W (Value.int .i64) af f) (hfl : f.length ≤ 1099511627776) (hr : Row W (Value.int .i64) al l) (hll : l.length ≤ 1099511627776) (o : List Int) (ho : MapTyV f l o) (x : Ext W) :
    Calls Tryd.prog 25 #[.slice af f.length cf, .slice al l.length cl] x.w (NewRow W 22 3 (Value.int .i64) o) := by
  obtain ⟨i0, hi0, hz0, hz1, hz2⟩ := info_parts info_int
  obtain ⟨yy, hyy⟩ : ∃ y : Ext W, x = y := ⟨x, rfl⟩
  rw [hyy]
  clear hyy
  have HO := Lib.hid ho
  clear ho
  by_cases hw : WT l
  · have C : ∀ y : Ext W, Calls Tryd.prog 30 #[.slice al l.length cl] y.w (Ans W (.bool true)) := fun y => l2Type_ans hr hll true (by simp [hw]) y
    have HW := Lib.hid hw
    have hl : l.length ≤ 1000 := by have := hw.1; omega
    have hcodes : ∀ (k : Nat) c, l[k]? = some c → 0 ≤ c ∧ c ≤ 36 := fun k c hk => HW.out.codes hk
    have HCD := Lib.hid hcodes
    clear hw hcodes
    go_enter Tryd.func25, Tryd.ntmps25
    go_wp2_with fail
    refine Calls.mono (C _) ?_
    rintro e w' ⟨rfl, yy, rfl⟩
    clear C
    go_wp2_with fail
    go_loopw [6, 5] (fun i q wr => ∃ (k : Nat) (xs : List Int) (v : Value), i = .int .i64 k ∧ v = q ∧ k ≤ l.length ∧ Hid (mapL f (l.take k) = some xs) ∧ wr.ownsRow W.heap.size 3 1 v xs.length (xs.map (Value.int .i64)) ∧ Below W.heap.size W wr) (fun i _ _ => l.length - (intOf i).toNat)
    case atStart => exact ⟨0, [], _, rfl, rfl, by omega, by show _ = _; simp [mapL], own_lit0 _ yy.size, yy.below.alloc yy.size _⟩
    case round =>
      obtain ⟨k, xs, v, rfl, rfl, hk, HXS, hown, hb⟩ := hrel
      have hxl : xs.length ≤ 1000 := by have := mapL_len HXS.out; simp at this; omega
      by_cases hlt : k < l.length
      · have hlt' : (k : Int) < (l.length : Int) := by omega
        obtain ⟨b1, o1, rfl, hc⟩ := hr.at hlt
        obtain ⟨c, hcc⟩ : ∃ c, l[k]? = some c := ⟨_, List.getElem?_eq_getElem hlt⟩
        have c1 : wr.cell? ⟨b1, o1 + k, none⟩ = some (.int .i64 c) := (Ext.mk wr hb).cell (hc k c hcc)
        have c2 : ∀ y : Ext wr, y.w.cell? ⟨b1, o1 + k, none⟩ = some (.int .i64 c) := fun y => y.cell c1
        obtain ⟨hc0, hc1'⟩ := HCD.out k c hcc
        have hc1 : c ≤ 1000 := by omega
        have HC := Lib.hid hcc
        clear hc hcc c1
        have KI : ∀ y : Ext wr, Calls Tryd.prog 31 #[.int .i64 c] y.w (Ans wr (.int .i64 (kidsOf c))) := fun y => l2Kids_ans c y
        have GRC : ∀ y : Ext wr, Calls Tryd.prog 54 #[.int .i64 c] y.w (Ans wr (.int .i64 (gradeOf c))) := fun y => l2Grade_ans c hc0 hc1 y
        obtain ⟨yy, hyy⟩ : ∃ y : Ext wr, y.w = wr := ⟨Ext.self wr, rfl⟩
        by_cases hg : Graded c
        · obtain ⟨p1, p2⟩ := (graded_iff c).2 hg
          have gge := gradeOf_ge hg
          have gle := gradeOf_le hg
          have HG := Lib.hid hg
          clear hg
          generalize hkc : kidsOf c = kc at *
          generalize hgc : gradeOf c = gc at *
          by_cases hop : 0 ≤ gc
          · cases him : imgOf f gc with
            | none =>
              have HIM := Lib.hid him
              have M : ∀ y : Ext wr, Calls Tryd.prog 55 #[.slice af f.length cf, .int .i64 gc] y.w (Ans wr (.bool false)) := fun y => l3Mapped_bad (hf.ext ⟨wr, hb⟩) (by omega) gc hop him y
              clear him
              have HGC := Lib.hid hgc
              clear hgc hkc
              rw [← hyy]
              clear hyy
              go_wp2_with (first | (go_at_call 31; with_reducible refine Calls.mono (KI _) ?_; rintro e w' ⟨rfl, yy, rfl⟩) | (go_at_call 54; with_reducible refine Calls.mono (GRC _) ?_; rintro e w' ⟨rfl, yy, rfl⟩) | (go_at_call 55; with_reducible refine Calls.mono (M _) ?_; rintro e w' ⟨rfl, yy, rfl⟩))
              go_ret
              have e : o = [] := by
                rcases HO.out with ⟨_, h⟩ | ⟨_, h⟩
                · rw [mapL_none HC.out (mapC_bad HG.out (by rw [HGC.out]; exact hop) (by rw [HGC.out]; exact HIM.out))] at h; cases h
                · exact h
              subst e
              refine ⟨_, ⟨yy.w, hb.trans (yy.below.mono hb.size)⟩, rfl, rfl, World.ownsRow_nil _ _ _ _⟩
            | some u =>
              have HIM := Lib.hid him
              have M : ∀ y : Ext wr, Calls Tryd.prog 55 #[.slice af f.length cf, .int .i64 gc] y.w (Ans wr (.bool true)) := fun y => l3Mapped_ok (hf.ext ⟨wr, hb⟩) (by omega) gc u hop him y
              obtain ⟨m1, m2, m3⟩ := imgOf_some him
              obtain ⟨gk, rfl⟩ : ∃ gk : Nat, gc = gk := ⟨gc.toNat, by omega⟩
              simp only [Int.toNat_natCast] at m1
              have glt : gk < f.length := (List.getElem?_eq_some_iff.1 m1).1
              obtain ⟨b2, o2, rfl, hc2⟩ := hf.at glt
              have c3 : ∀ y : Ext wr, y.w.cell? ⟨b2, o2 + gk, none⟩ = some (.int .i64 u) := fun y => y.cell ((Ext.mk wr hb).cell (hc2 gk u m1))
              have glt' : (gk : Int) < (f.length : Int) := by omega
              clear hc2 m1
              clear him
              have HGC := Lib.hid hgc
              clear hgc hkc
              by_cases ha : Arr c
              · skip
                have ARC : ∀ y : Ext wr, Calls Tryd.prog 57 #[.int .i64 c] y.w (Ans wr (.bool true)) := fun y => l2Arrow_ans c true (by simp [ha]) y
                have HA := Lib.hid ha
                clear ha
                rw [← hyy]
                clear hyy
                go_wp2_with (first | (go_at_call 31; with_reducible refine Calls.mono (KI _) ?_; rintro e w' ⟨rfl, yy, rfl⟩) | (go_at_call 54; with_reducible refine Calls.mono (GRC _) ?_; rintro e w' ⟨rfl, yy, rfl⟩) | (go_at_call 55; with_reducible refine Calls.mono (M _) ?_; rintro e w' ⟨rfl, yy, rfl⟩) | (go_at_call 57; with_reducible refine Calls.mono (ARC _) ?_; rintro e w' ⟨rfl, yy, rfl⟩) | (go_at_call 56; with_reducible refine Calls.mono (l2Code_ans true u (by omega) (by omega) _) ?_; rintro e w' ⟨rfl, yy, rfl⟩) | (at_builtin; refine wpList_append_own_at _ rfl (.tmp 47) (.tmp 49) 22 rfl W.heap.size 3 i0 (.int .i64 0) 1 8 Tryd.underlying22 hi0 hz0 hz1 hz2 rfl (by decide) v xs.length (xs.map (Value.int .i64)) rfl ((owns_ext hown yy).alloc _) _ 1 1 [.int .i64 (3 + u)] rfl rfl (cell_one_at _ _ _ _ (by simp)) (by intro u hu; simp at hu; subst hu; rfl) (by unfold maxLen; omega) (by omega) (by have := hb.size; have := yy.size; simp; omega) ?_; intro v' w1 own1 gr1 _ hat1))
                have HB1 : Hid (Below W.heap.size W w1) := (((hb.trans (yy.below.mono hb.size)).alloc (by have := hb.size; have := yy.size; omega) _).grown gr1 (by have := hb.size; have := yy.size; simp; omega) (fun k hk => (hown.lt k hk).1))
                have HO1 := Lib.hid own1
                clear own1 gr1 hat1
                go_roundw
                case rel =>
                  have own1 := HO1.out
                  refine ⟨k + 1, xs ++ [3 + u], _, by go_num, rfl, by omega, mapL_step HC.out HXS.out (by rw [mapC_ok HG.out (by rw [HGC.out]; omega) (by rw [HGC.out]; exact HIM.out)]; unfold codeOf; rw [if_pos HA.out]), ?_, HB1.out⟩
                  simpa using own1
                case measure => simp [intOf]; omega
              · skip
                have ARC : ∀ y : Ext wr, Calls Tryd.prog 57 #[.int .i64 c] y.w (Ans wr (.bool false)) := fun y => l2Arrow_ans c false (by simp [ha]) y
                have HA := Lib.hid ha
                clear ha
                rw [← hyy]
                clear hyy
                go_wp2_with (first | (go_at_call 31; with_reducible refine Calls.mono (KI _) ?_; rintro e w' ⟨rfl, yy, rfl⟩) | (go_at_call 54; with_reducible refine Calls.mono (GRC _) ?_; rintro e w' ⟨rfl, yy, rfl⟩) | (go_at_call 55; with_reducible refine Calls.mono (M _) ?_; rintro e w' ⟨rfl, yy, rfl⟩) | (go_at_call 57; with_reducible refine Calls.mono (ARC _) ?_; rintro e w' ⟨rfl, yy, rfl⟩) | (go_at_call 56; with_reducible refine Calls.mono (l2Code_ans false u (by omega) (by omega) _) ?_; rintro e w' ⟨rfl, yy, rfl⟩) | (at_builtin; refine wpList_append_own_at _ rfl (.tmp 47) (.tmp 49) 22 rfl W.heap.size 3 i0 (.int .i64 0) 1 8 Tryd.underlying22 hi0 hz0 hz1 hz2 rfl (by decide) v xs.length (xs.map (Value.int .i64)) rfl ((owns_ext hown yy).alloc _) _ 1 1 [.int .i64 (19 + u)] rfl rfl (cell_one_at _ _ _ _ (by simp)) (by intro u hu; simp at hu; subst hu; rfl) (by unfold maxLen; omega) (by omega) (by have := hb.size; have := yy.size; simp; omega) ?_; intro v' w1 own1 gr1 _ hat1))
                have HB1 : Hid (Below W.heap.size W w1) := (((hb.trans (yy.below.mono hb.size)).alloc (by have := hb.size; have := yy.size; omega) _).grown gr1 (by have := hb.size; have := yy.size; simp; omega) (fun k hk => (hown.lt k hk).1))
                have HO1 := Lib.hid own1
                clear own1 gr1 hat1
                go_roundw
                case rel =>
                  have own1 := HO1.out
                  refine ⟨k + 1, xs ++ [19 + u], _, by go_num, rfl, by omega, mapL_step HC.out HXS.out (by rw [mapC_ok HG.out (by rw [HGC.out]; omega) (by rw [HGC.out]; exact HIM.out)]; unfold codeOf; rw [if_neg HA.out]), ?_, HB1.out⟩
                  simpa using own1
                case measure => simp [intOf]; omega
          · skip
            have HGC := Lib.hid hgc
            clear hgc hkc
            rw [← hyy]
            have hopf : decide (0 ≤ gc) = false := by rw [decide_eq_false_iff_not]; omega
            clear hyy
            go_wp2_with (first | (go_at_call 31; with_reducible refine Calls.mono (KI _) ?_; rintro e w' ⟨rfl, yy, rfl⟩) | (go_at_call 54; with_reducible refine Calls.mono (GRC _) ?_; rintro e w' ⟨rfl, yy, rfl⟩) | (at_builtin; refine wpList_append_own_at _ rfl (.tmp 47) (.tmp 49) 22 rfl W.heap.size 3 i0 (.int .i64 0) 1 8 Tryd.underlying22 hi0 hz0 hz1 hz2 rfl (by decide) v xs.length (xs.map (Value.int .i64)) rfl ((owns_ext hown yy).alloc _) _ 1 1 [.int .i64 (c)] rfl rfl (cell_one_at _ _ _ _ (by simp)) (by intro u hu; simp at hu; subst hu; rfl) (by unfold maxLen; omega) (by omega) (by have := hb.size; have := yy.size; simp; omega) ?_; intro v' w1 own1 gr1 _ hat1))
            have HB1 : Hid (Below W.heap.size W w1) := (((hb.trans (yy.below.mono hb.size)).alloc (by have := hb.size; have := yy.size; omega) _).grown gr1 (by have := hb.size; have := yy.size; simp; omega) (fun k hk => (hown.lt k hk).1))
            have HO1 := Lib.hid own1
            clear own1 gr1 hat1
            go_roundw
            case rel =>
              have own1 := HO1.out
              refine ⟨k + 1, xs ++ [c], _, by go_num, rfl, by omega, mapL_step HC.out HXS.out (mapC_open (by rw [HGC.out]; omega)), ?_, HB1.out⟩
              simpa using own1
            case measure => simp [intOf]; omega
        · have h3 : c = 0 ∨ c = 1 ∨ c = 2 := by unfold Graded Arr Bx at hg; omega
          clear hg GRC
          rcases h3 with rfl | rfl | rfl
          · skip
            have hkc : kidsOf 0 = 0 := by decide
            rw [hkc] at KI
            clear hkc
            rw [← hyy]
            clear hyy
            go_wp2_with (first | (go_at_call 31; with_reducible refine Calls.mono (KI _) ?_; rintro e w' ⟨rfl, yy, rfl⟩) | (at_builtin; refine wpList_append_own_at _ rfl (.tmp 47) (.tmp 49) 22 rfl W.heap.size 3 i0 (.int .i64 0) 1 8 Tryd.underlying22 hi0 hz0 hz1 hz2 rfl (by decide) v xs.length (xs.map (Value.int .i64)) rfl ((owns_ext hown yy).alloc _) _ 1 1 [.int .i64 (0)] rfl rfl (cell_one_at _ _ _ _ (by simp)) (by intro u hu; simp at hu; subst hu; rfl) (by unfold maxLen; omega) (by omega) (by have := hb.size; have := yy.size; simp; omega) ?_; intro v' w1 own1 gr1 _ hat1))
            have HB1 : Hid (Below W.heap.size W w1) := (((hb.trans (yy.below.mono hb.size)).alloc (by have := hb.size; have := yy.size; omega) _).grown gr1 (by have := hb.size; have := yy.size; simp; omega) (fun k hk => (hown.lt k hk).1))
            have HO1 := Lib.hid own1
            clear own1 gr1 hat1
            go_roundw
            case rel =>
              have own1 := HO1.out
              refine ⟨k + 1, xs ++ [0], _, by go_num, rfl, by omega, mapL_step HC.out HXS.out (mapC_plain (by decide)), ?_, HB1.out⟩
              simpa using own1
            case measure => simp [intOf]; omega
          · skip
            have hkc : kidsOf 1 = 2 := by decide
            rw [hkc] at KI
            clear hkc
            rw [← hyy]
            clear hyy
            go_wp2_with (first | (go_at_call 31; with_reducible refine Calls.mono (KI _) ?_; rintro e w' ⟨rfl, yy, rfl⟩) | (at_builtin; refine wpList_append_own_at _ rfl (.tmp 47) (.tmp 49) 22 rfl W.heap.size 3 i0 (.int .i64 0) 1 8 Tryd.underlying22 hi0 hz0 hz1 hz2 rfl (by decide) v xs.length (xs.map (Value.int .i64)) rfl ((owns_ext hown yy).alloc _) _ 1 1 [.int .i64 (1)] rfl rfl (cell_one_at _ _ _ _ (by simp)) (by intro u hu; simp at hu; subst hu; rfl) (by unfold maxLen; omega) (by omega) (by have := hb.size; have := yy.size; simp; omega) ?_; intro v' w1 own1 gr1 _ hat1))
            have HB1 : Hid (Below W.heap.size W w1) := (((hb.trans (yy.below.mono hb.size)).alloc (by have := hb.size; have := yy.size; omega) _).grown gr1 (by have := hb.size; have := yy.size; simp; omega) (fun k hk => (hown.lt k hk).1))
            have HO1 := Lib.hid own1
            clear own1 gr1 hat1
            go_roundw
            case rel =>
              have own1 := HO1.out
              refine ⟨k + 1, xs ++ [1], _, by go_num, rfl, by omega, mapL_step HC.out HXS.out (mapC_plain (by decide)), ?_, HB1.out⟩
              simpa using own1
            case measure => simp [intOf]; omega
          · skip
            have hkc : kidsOf 2 = 2 := by decide
            rw [hkc] at KI
            clear hkc
            rw [← hyy]
            clear hyy
            go_wp2_with (first | (go_at_call 31; with_reducible refine Calls.mono (KI _) ?_; rintro e w' ⟨rfl, yy, rfl⟩) | (at_builtin; refine wpList_append_own_at _ rfl (.tmp 47) (.tmp 49) 22 rfl W.heap.size 3 i0 (.int .i64 0) 1 8 Tryd.underlying22 hi0 hz0 hz1 hz2 rfl (by decide) v xs.length (xs.map (Value.int .i64)) rfl ((owns_ext hown yy).alloc _) _ 1 1 [.int .i64 (2)] rfl rfl (cell_one_at _ _ _ _ (by simp)) (by intro u hu; simp at hu; subst hu; rfl) (by unfold maxLen; omega) (by omega) (by have := hb.size; have := yy.size; simp; omega) ?_; intro v' w1 own1 gr1 _ hat1))
            have HB1 : Hid (Below W.heap.size W w1) := (((hb.trans (yy.below.mono hb.size)).alloc (by have := hb.size; have := yy.size; omega) _).grown gr1 (by have := hb.size; have := yy.size; simp; omega) (fun k hk => (hown.lt k hk).1))
            have HO1 := Lib.hid own1
            clear own1 gr1 hat1
            go_roundw
            case rel =>
              have own1 := HO1.out
              refine ⟨k + 1, xs ++ [2], _, by go_num, rfl, by omega, mapL_step HC.out HXS.out (mapC_plain (by decide)), ?_, HB1.out⟩
              simpa using own1
            case measure => simp [intOf]; omega
      · have hke : k = l.length := by omega
        have hlt' : ¬ (k : Int) < (l.length : Int) := by omega
        have HK := Lib.hid hke
        clear hke
        go_wp2
        go_ret
        have XS : mapL f l = some xs := by have := HXS.out; rw [HK.out, List.take_length] at this; exact this
        have e : o = xs := by
          rcases HO.out with ⟨_, h⟩ | ⟨h, _⟩
          · rw [XS] at h; cases h; rfl
          · exact absurd ⟨HW.out, xs, XS⟩ h
        subst e
        exact ⟨_, ⟨wr, hb⟩, rfl, rfl, hown⟩
  · have C : ∀ y : Ext W, Calls Tryd.prog 30 #[.slice al l.length cl] y.w (Ans W (.bool false)) := fun y => l2Type_ans hr hll false (by simp [hw]) y
    have HW := Lib.hid hw
    clear hw
    go_enter Tryd.func25, Tryd.ntmps25
    go_wp2_with fail
    refine Calls.mono (C _) ?_
    rintro e w' ⟨rfl, yy, rfl⟩
    go_wp2
    go_ret
    have e : o = [] := by
      rcases HO.out with ⟨h, _⟩ | ⟨_, h⟩
      · exact absurd h HW.out
      · exact h
    subst e
    exact ⟨_, yy, rfl, rfl, World.ownsRow_nil _ _ _ _⟩

end Go.Proofs.YtiekppegfocejaaDoor
