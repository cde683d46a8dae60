
/- The program's types with other grades. -/
import Derived.Test.YtiekppegfocejaaDoorMapTyI
import Derived.Test.YtiekppegfocejaaDoorNumRet
import Derived.Maps.AppendAt
namespace Go.Proofs.YtiekppegfocejaaDoor
open Go.RowKit

def NewMap (W : World) (o : Option (List Int)) : Ending → World → Prop := fun e w' =>
  (∃ (xs : List Int) (v : Value) (y : Ext W), o = some xs ∧ e = .returned (.tuple #[v, .bool true]) ∧ w' = y.w ∧ y.w.ownsRow W.heap.size 3 1 v xs.length (xs.map (Value.int .i64))) ∨
  (o = none ∧ ∃ y : Ext W, e = .returned (.tuple #[.slice none 0 0, .bool false]) ∧ w' = y.w)
theorem cell_one_at (w : World) (x : Value) (t : TypeId) (n : Nat) (hn : n = w.heap.size) : ∀ j u, [x][j]? = some u → (w.alloc (.cells #[x] t)).cell? ((⟨n, 0, none⟩ : Addr).add j) = some u := by
  subst hn
  exact cell_one_new w x t

set_option maxRecDepth 100000 in
set_option maxHeartbeats 8000000 in
theorem mapType_ans {W : World} (F : Forms W) {af al : Option Addr} {cf cl : Nat} {f l : List Int} (hf : Row W (Value.int .i64) af f) (hfl : f.length ≤ 9223372036854775807) (hr : Row W (Value.int .i64) al l) (hl : l.length ≤ 1000) (x : Ext W) :
    Calls Tryd.prog 58 #[.slice af f.length cf, .slice al l.length cl] x.w (NewMap W (mapL f l)) := by
  obtain ⟨i0, hi0, hz0, hz1, hz2⟩ := info_parts info_int
  go_enter Tryd.func58, Tryd.ntmps58
  go_wp2_with fail
  go_loopw [16, 6] (fun i q wr => ∃ (k : Nat) (xs : List Int) (v : Value), i = .int .i64 k ∧ v = q ∧ k ≤ l.length ∧ Hid (mapL f (l.take k) = some xs) ∧ wr.ownsRow W.heap.size 3 1 v xs.length (xs.map (Value.int .i64)) ∧ Below W.heap.size W wr) (fun i _ _ => l.length - (intOf i).toNat)
  case atStart => exact ⟨0, [], _, rfl, rfl, by omega, by show _ = _; simp [mapL], World.ownsRow_nil _ _ _ _, x.below⟩
  case round =>
    obtain ⟨k, xs, v, rfl, rfl, hk, HXS, hown, hb⟩ := hrel
    have hxl : xs.length ≤ 1000 := by have := mapL_len HXS.out; simp at this; omega
    by_cases hlt : k < l.length
    · have hlt' : (k : Int) < (l.length : Int) := by omega
      obtain ⟨b1, o1, rfl, hc⟩ := hr.at hlt
      obtain ⟨c, hcc⟩ : ∃ c, l[k]? = some c := ⟨_, List.getElem?_eq_getElem hlt⟩
      have c1 : wr.cell? ⟨b1, o1 + k, none⟩ = some (.int .i64 c) := (Ext.mk wr hb).cell (hc k c hcc)
      have HC := Lib.hid hcc
      clear hc hcc
      by_cases hg : Graded c
      · by_cases ha : Arr c
        · clear hg
          have FO : Calls Tryd.prog 66 #[.int .i64 c] wr (Ans wr (.tuple #[.agg #[.string ⟨#[62]⟩, .int .i64 3, .int .i64 35, .int .i64 2, .bool true], .int .i64 (gradeOf c), .bool true])) := by
            have := formOf_ans (W := wr) (F.ext ⟨wr, hb⟩) c (Ext.self wr)
            rw [formV_arr ha] at this
            exact this
          have hG : Graded c := .inl ha
          have gge := gradeOf_ge hG
          have gle := gradeOf_le hG
          have hce : gradeOf c < 0 → c = 35 := fun q => by unfold gradeOf at q; unfold Arr at ha; split at q <;> (try split at q) <;> omega
          have hcf : ∀ u, codeOf c u = 3 + u := fun u => by unfold codeOf; rw [if_pos ha]
          have HCE := Lib.hid hce
          have HCF := Lib.hid hcf
          have HGR := Lib.hid hG
          have HA := Lib.hid ha
          clear hG hce hcf ha
          by_cases hop : 0 ≤ gradeOf c
          · cases him : imgOf f (gradeOf c) with
            | none =>
              have HIM := Lib.hid him
              clear him
              go_wp2_with ((go_at_call 66; (with_reducible refine Calls.mono FO ?_); rintro e w' ⟨rfl, yy, rfl⟩))
              generalize hY : yy.w.alloc _ = Y1
              have bY := new_blk hY
              have szy := yy.size
              obtain ⟨y1, hy1⟩ : ∃ y : Ext W, y.w = Y1 := ⟨⟨Y1, by rw [← hY]; exact (hb.trans (yy.below.mono hb.size)).alloc (by have := hb.size; omega) _⟩, rfl⟩
              have ownY : Y1.ownsRow W.heap.size 3 1 v xs.length (xs.map (Value.int .i64)) := by rw [← hY]; exact (owns_ext hown yy).alloc _
              generalize yy.w.heap.size = B1 at *
              have e0 : ∀ y : Ext Y1, y.w.cell? ⟨B1, 0, none⟩ = some (.string ⟨#[62]⟩) := fun y => blk_cell (y.blk bY) 0
              have e1 : ∀ y : Ext Y1, y.w.cell? ⟨B1, 1, none⟩ = some (.int .i64 3) := fun y => blk_cell (y.blk bY) 1
              have e2 : ∀ y : Ext Y1, y.w.cell? ⟨B1, 2, none⟩ = some (.int .i64 35) := fun y => blk_cell (y.blk bY) 2
              have e3 : ∀ y : Ext Y1, y.w.cell? ⟨B1, 3, none⟩ = some (.int .i64 2) := fun y => blk_cell (y.blk bY) 3
              have e4 : ∀ y : Ext Y1, y.w.cell? ⟨B1, 4, none⟩ = some (.bool true) := fun y => blk_cell (y.blk bY) 4
              have hfY : Row Y1 (Value.int .i64) af f := by rw [← hy1]; exact hf.ext y1
              have belY : Below W.heap.size W Y1 := by rw [← hy1]; exact y1.below
              clear hY bY FO szy y1 hy1
              refine Calls.mono (imageOf_bad (W := Y1) (c := cf) hfY hfl (gradeOf c) hop (by omega) HIM.out (Ext.self Y1)) ?_
              rintro e w' ⟨rfl, zz, rfl⟩
              clear e0 e1 e2 e3
              go_wp2
              go_ret2
              exact .inr ⟨mapL_none HC.out (mapC_bad HGR.out hop HIM.out), ⟨zz.w, belY.trans (zz.below.mono belY.size)⟩, rfl, rfl⟩
            | some u =>
              have HIM := Lib.hid him
              have him2 := imgOf_some him
              obtain ⟨_, hu0, hu1⟩ := him2
              clear him
              go_wp2_with ((go_at_call 66; (with_reducible refine Calls.mono FO ?_); rintro e w' ⟨rfl, yy, rfl⟩))
              generalize hY : yy.w.alloc _ = Y1
              have bY := new_blk hY
              have szy := yy.size
              obtain ⟨y1, hy1⟩ : ∃ y : Ext W, y.w = Y1 := ⟨⟨Y1, by rw [← hY]; exact (hb.trans (yy.below.mono hb.size)).alloc (by have := hb.size; omega) _⟩, rfl⟩
              have ownY : Y1.ownsRow W.heap.size 3 1 v xs.length (xs.map (Value.int .i64)) := by rw [← hY]; exact (owns_ext hown yy).alloc _
              generalize yy.w.heap.size = B1 at *
              have e0 : ∀ y : Ext Y1, y.w.cell? ⟨B1, 0, none⟩ = some (.string ⟨#[62]⟩) := fun y => blk_cell (y.blk bY) 0
              have e1 : ∀ y : Ext Y1, y.w.cell? ⟨B1, 1, none⟩ = some (.int .i64 3) := fun y => blk_cell (y.blk bY) 1
              have e2 : ∀ y : Ext Y1, y.w.cell? ⟨B1, 2, none⟩ = some (.int .i64 35) := fun y => blk_cell (y.blk bY) 2
              have e3 : ∀ y : Ext Y1, y.w.cell? ⟨B1, 3, none⟩ = some (.int .i64 2) := fun y => blk_cell (y.blk bY) 3
              have e4 : ∀ y : Ext Y1, y.w.cell? ⟨B1, 4, none⟩ = some (.bool true) := fun y => blk_cell (y.blk bY) 4
              have hfY : Row Y1 (Value.int .i64) af f := by rw [← hy1]; exact hf.ext y1
              have belY : Below W.heap.size W Y1 := by rw [← hy1]; exact y1.below
              clear hY bY FO szy y1 hy1
              refine Calls.mono (imageOf_ok (W := Y1) (c := cf) hfY hfl (gradeOf c) u hop HIM.out (Ext.self Y1)) ?_
              rintro e w' ⟨rfl, zz, rfl⟩
              go_wp2_with fail
              refine Calls.mono (codeFor_ans (W := Y1) ⟨#[62]⟩ 3 35 2 u (by omega) (by omega) (by omega) zz) ?_
              rintro e w' ⟨rfl, zz, rfl⟩
              rw [if_neg (by omega)]
              clear e0 e1 e2 e3 e4
              go_wp2_with ((at_builtin; refine wpList_append_own_at _ rfl (.tmp 39) (.tmp 41) 22 rfl W.heap.size 3 i0 (.int .i64 0) 1 8 Tryd.underlying22 hi0 hz0 hz1 hz2 rfl (by decide) v xs.length (xs.map (Value.int .i64)) rfl ((owns_ext ownY zz).alloc _) _ 1 1 [.int .i64 (3 + u)] rfl rfl (cell_one_at _ _ _ _ (by simp)) (by intro u hu; simp at hu; subst hu; rfl) (by unfold maxLen; omega) (by omega) (by have := belY.size; have := zz.size; simp; omega) ?_; intro v' w1 own1 gr1 _ hat1))
              have HB1 : Hid (Below W.heap.size W w1) := ((((belY.trans (zz.below.mono belY.size))).alloc (by have := belY.size; have := zz.size; omega) _).grown gr1 (by have := belY.size; have := zz.size; simp; omega) (fun k hk => (ownY.lt k hk).1))
              have HO1 := Lib.hid own1
              clear own1 gr1 hat1
              go_roundw
              case rel =>
                have own1 := HO1.out
                refine ⟨k + 1, xs ++ [3 + u], _, by go_num, rfl, by omega, mapL_step HC.out HXS.out (by rw [mapC_ok HGR.out hop HIM.out, HCF.out]), ?_, HB1.out⟩
                simpa using own1
              case measure => simp [intOf]; omega
          · skip
            have hopn : gradeOf c = -1 := by omega
            rw [hopn] at FO
            have HOP := Lib.hid hopn
            clear hopn
            go_wp2_with ((go_at_call 66; (with_reducible refine Calls.mono FO ?_); rintro e w' ⟨rfl, yy, rfl⟩))
            generalize hY : yy.w.alloc _ = Y1
            have bY := new_blk hY
            have szy := yy.size
            obtain ⟨y1, hy1⟩ : ∃ y : Ext W, y.w = Y1 := ⟨⟨Y1, by rw [← hY]; exact (hb.trans (yy.below.mono hb.size)).alloc (by have := hb.size; omega) _⟩, rfl⟩
            have ownY : Y1.ownsRow W.heap.size 3 1 v xs.length (xs.map (Value.int .i64)) := by rw [← hY]; exact (owns_ext hown yy).alloc _
            generalize yy.w.heap.size = B1 at *
            have e0 : ∀ y : Ext Y1, y.w.cell? ⟨B1, 0, none⟩ = some (.string ⟨#[62]⟩) := fun y => blk_cell (y.blk bY) 0
            have e1 : ∀ y : Ext Y1, y.w.cell? ⟨B1, 1, none⟩ = some (.int .i64 3) := fun y => blk_cell (y.blk bY) 1
            have e2 : ∀ y : Ext Y1, y.w.cell? ⟨B1, 2, none⟩ = some (.int .i64 35) := fun y => blk_cell (y.blk bY) 2
            have e3 : ∀ y : Ext Y1, y.w.cell? ⟨B1, 3, none⟩ = some (.int .i64 2) := fun y => blk_cell (y.blk bY) 3
            have e4 : ∀ y : Ext Y1, y.w.cell? ⟨B1, 4, none⟩ = some (.bool true) := fun y => blk_cell (y.blk bY) 4
            have hfY : Row Y1 (Value.int .i64) af f := by rw [← hy1]; exact hf.ext y1
            have belY : Below W.heap.size W Y1 := by rw [← hy1]; exact y1.below
            clear hY bY FO szy y1 hy1
            refine Calls.mono (imageOf_open (W := Y1) af f.length cf (Ext.self Y1)) ?_
            rintro e w' ⟨rfl, zz, rfl⟩
            go_wp2_with fail
            refine Calls.mono (codeFor_ans (W := Y1) ⟨#[62]⟩ 3 35 2 (-1) (by omega) (by omega) (by omega) zz) ?_
            rintro e w' ⟨rfl, zz, rfl⟩
            rw [if_pos rfl]
            clear e0 e1 e2 e3 e4
            go_wp2_with ((at_builtin; refine wpList_append_own_at _ rfl (.tmp 39) (.tmp 41) 22 rfl W.heap.size 3 i0 (.int .i64 0) 1 8 Tryd.underlying22 hi0 hz0 hz1 hz2 rfl (by decide) v xs.length (xs.map (Value.int .i64)) rfl ((owns_ext ownY zz).alloc _) _ 1 1 [.int .i64 35] rfl rfl (cell_one_at _ _ _ _ (by simp)) (by intro u hu; simp at hu; subst hu; rfl) (by unfold maxLen; omega) (by omega) (by have := belY.size; have := zz.size; simp; omega) ?_; intro v' w1 own1 gr1 _ hat1))
            have HB1 : Hid (Below W.heap.size W w1) := ((((belY.trans (zz.below.mono belY.size))).alloc (by have := belY.size; have := zz.size; omega) _).grown gr1 (by have := belY.size; have := zz.size; simp; omega) (fun k hk => (ownY.lt k hk).1))
            have HO1 := Lib.hid own1
            clear own1 gr1 hat1
            go_roundw
            case rel =>
              have own1 := HO1.out
              refine ⟨k + 1, xs ++ [35], _, by go_num, rfl, by omega, mapL_step HC.out HXS.out (by rw [mapC_open (by rw [HOP.out]; omega), HCE.out (by rw [HOP.out]; omega)]), ?_, HB1.out⟩
              simpa using own1
            case measure => simp [intOf]; omega
        · have ha : Bx c := by rcases hg with h | h; exact absurd h ha; exact h
          clear hg
          have FO : Calls Tryd.prog 66 #[.int .i64 c] wr (Ans wr (.tuple #[.agg #[.string ⟨#[33]⟩, .int .i64 19, .int .i64 36, .int .i64 1, .bool true], .int .i64 (gradeOf c), .bool true])) := by
            have := formOf_ans (W := wr) (F.ext ⟨wr, hb⟩) c (Ext.self wr)
            rw [formV_bx ha] at this
            exact this
          have hG : Graded c := .inr ha
          have gge := gradeOf_ge hG
          have gle := gradeOf_le hG
          have hce : gradeOf c < 0 → c = 36 := fun q => by unfold gradeOf at q; unfold Bx at ha; split at q <;> (try split at q) <;> omega
          have hcf : ∀ u, codeOf c u = 19 + u := fun u => by unfold codeOf; rw [if_neg (by unfold Arr; unfold Bx at ha; omega)]
          have HCE := Lib.hid hce
          have HCF := Lib.hid hcf
          have HGR := Lib.hid hG
          have HA := Lib.hid ha
          clear hG hce hcf ha
          by_cases hop : 0 ≤ gradeOf c
          · cases him : imgOf f (gradeOf c) with
            | none =>
              have HIM := Lib.hid him
              clear him
              go_wp2_with ((go_at_call 66; (with_reducible refine Calls.mono FO ?_); rintro e w' ⟨rfl, yy, rfl⟩))
              generalize hY : yy.w.alloc _ = Y1
              have bY := new_blk hY
              have szy := yy.size
              obtain ⟨y1, hy1⟩ : ∃ y : Ext W, y.w = Y1 := ⟨⟨Y1, by rw [← hY]; exact (hb.trans (yy.below.mono hb.size)).alloc (by have := hb.size; omega) _⟩, rfl⟩
              have ownY : Y1.ownsRow W.heap.size 3 1 v xs.length (xs.map (Value.int .i64)) := by rw [← hY]; exact (owns_ext hown yy).alloc _
              generalize yy.w.heap.size = B1 at *
              have e0 : ∀ y : Ext Y1, y.w.cell? ⟨B1, 0, none⟩ = some (.string ⟨#[33]⟩) := fun y => blk_cell (y.blk bY) 0
              have e1 : ∀ y : Ext Y1, y.w.cell? ⟨B1, 1, none⟩ = some (.int .i64 19) := fun y => blk_cell (y.blk bY) 1
              have e2 : ∀ y : Ext Y1, y.w.cell? ⟨B1, 2, none⟩ = some (.int .i64 36) := fun y => blk_cell (y.blk bY) 2
              have e3 : ∀ y : Ext Y1, y.w.cell? ⟨B1, 3, none⟩ = some (.int .i64 1) := fun y => blk_cell (y.blk bY) 3
              have e4 : ∀ y : Ext Y1, y.w.cell? ⟨B1, 4, none⟩ = some (.bool true) := fun y => blk_cell (y.blk bY) 4
              have hfY : Row Y1 (Value.int .i64) af f := by rw [← hy1]; exact hf.ext y1
              have belY : Below W.heap.size W Y1 := by rw [← hy1]; exact y1.below
              clear hY bY FO szy y1 hy1
              refine Calls.mono (imageOf_bad (W := Y1) (c := cf) hfY hfl (gradeOf c) hop (by omega) HIM.out (Ext.self Y1)) ?_
              rintro e w' ⟨rfl, zz, rfl⟩
              clear e0 e1 e2 e3
              go_wp2
              go_ret2
              exact .inr ⟨mapL_none HC.out (mapC_bad HGR.out hop HIM.out), ⟨zz.w, belY.trans (zz.below.mono belY.size)⟩, rfl, rfl⟩
            | some u =>
              have HIM := Lib.hid him
              have him2 := imgOf_some him
              obtain ⟨_, hu0, hu1⟩ := him2
              clear him
              go_wp2_with ((go_at_call 66; (with_reducible refine Calls.mono FO ?_); rintro e w' ⟨rfl, yy, rfl⟩))
              generalize hY : yy.w.alloc _ = Y1
              have bY := new_blk hY
              have szy := yy.size
              obtain ⟨y1, hy1⟩ : ∃ y : Ext W, y.w = Y1 := ⟨⟨Y1, by rw [← hY]; exact (hb.trans (yy.below.mono hb.size)).alloc (by have := hb.size; omega) _⟩, rfl⟩
              have ownY : Y1.ownsRow W.heap.size 3 1 v xs.length (xs.map (Value.int .i64)) := by rw [← hY]; exact (owns_ext hown yy).alloc _
              generalize yy.w.heap.size = B1 at *
              have e0 : ∀ y : Ext Y1, y.w.cell? ⟨B1, 0, none⟩ = some (.string ⟨#[33]⟩) := fun y => blk_cell (y.blk bY) 0
              have e1 : ∀ y : Ext Y1, y.w.cell? ⟨B1, 1, none⟩ = some (.int .i64 19) := fun y => blk_cell (y.blk bY) 1
              have e2 : ∀ y : Ext Y1, y.w.cell? ⟨B1, 2, none⟩ = some (.int .i64 36) := fun y => blk_cell (y.blk bY) 2
              have e3 : ∀ y : Ext Y1, y.w.cell? ⟨B1, 3, none⟩ = some (.int .i64 1) := fun y => blk_cell (y.blk bY) 3
              have e4 : ∀ y : Ext Y1, y.w.cell? ⟨B1, 4, none⟩ = some (.bool true) := fun y => blk_cell (y.blk bY) 4
              have hfY : Row Y1 (Value.int .i64) af f := by rw [← hy1]; exact hf.ext y1
              have belY : Below W.heap.size W Y1 := by rw [← hy1]; exact y1.below
              clear hY bY FO szy y1 hy1
              refine Calls.mono (imageOf_ok (W := Y1) (c := cf) hfY hfl (gradeOf c) u hop HIM.out (Ext.self Y1)) ?_
              rintro e w' ⟨rfl, zz, rfl⟩
              go_wp2_with fail
              refine Calls.mono (codeFor_ans (W := Y1) ⟨#[33]⟩ 19 36 1 u (by omega) (by omega) (by omega) zz) ?_
              rintro e w' ⟨rfl, zz, rfl⟩
              rw [if_neg (by omega)]
              clear e0 e1 e2 e3 e4
              go_wp2_with ((at_builtin; refine wpList_append_own_at _ rfl (.tmp 39) (.tmp 41) 22 rfl W.heap.size 3 i0 (.int .i64 0) 1 8 Tryd.underlying22 hi0 hz0 hz1 hz2 rfl (by decide) v xs.length (xs.map (Value.int .i64)) rfl ((owns_ext ownY zz).alloc _) _ 1 1 [.int .i64 (19 + u)] rfl rfl (cell_one_at _ _ _ _ (by simp)) (by intro u hu; simp at hu; subst hu; rfl) (by unfold maxLen; omega) (by omega) (by have := belY.size; have := zz.size; simp; omega) ?_; intro v' w1 own1 gr1 _ hat1))
              have HB1 : Hid (Below W.heap.size W w1) := ((((belY.trans (zz.below.mono belY.size))).alloc (by have := belY.size; have := zz.size; omega) _).grown gr1 (by have := belY.size; have := zz.size; simp; omega) (fun k hk => (ownY.lt k hk).1))
              have HO1 := Lib.hid own1
              clear own1 gr1 hat1
              go_roundw
              case rel =>
                have own1 := HO1.out
                refine ⟨k + 1, xs ++ [19 + u], _, by go_num, rfl, by omega, mapL_step HC.out HXS.out (by rw [mapC_ok HGR.out hop HIM.out, HCF.out]), ?_, HB1.out⟩
                simpa using own1
              case measure => simp [intOf]; omega
          · skip
            have hopn : gradeOf c = -1 := by omega
            rw [hopn] at FO
            have HOP := Lib.hid hopn
            clear hopn
            go_wp2_with ((go_at_call 66; (with_reducible refine Calls.mono FO ?_); rintro e w' ⟨rfl, yy, rfl⟩))
            generalize hY : yy.w.alloc _ = Y1
            have bY := new_blk hY
            have szy := yy.size
            obtain ⟨y1, hy1⟩ : ∃ y : Ext W, y.w = Y1 := ⟨⟨Y1, by rw [← hY]; exact (hb.trans (yy.below.mono hb.size)).alloc (by have := hb.size; omega) _⟩, rfl⟩
            have ownY : Y1.ownsRow W.heap.size 3 1 v xs.length (xs.map (Value.int .i64)) := by rw [← hY]; exact (owns_ext hown yy).alloc _
            generalize yy.w.heap.size = B1 at *
            have e0 : ∀ y : Ext Y1, y.w.cell? ⟨B1, 0, none⟩ = some (.string ⟨#[33]⟩) := fun y => blk_cell (y.blk bY) 0
            have e1 : ∀ y : Ext Y1, y.w.cell? ⟨B1, 1, none⟩ = some (.int .i64 19) := fun y => blk_cell (y.blk bY) 1
            have e2 : ∀ y : Ext Y1, y.w.cell? ⟨B1, 2, none⟩ = some (.int .i64 36) := fun y => blk_cell (y.blk bY) 2
            have e3 : ∀ y : Ext Y1, y.w.cell? ⟨B1, 3, none⟩ = some (.int .i64 1) := fun y => blk_cell (y.blk bY) 3
            have e4 : ∀ y : Ext Y1, y.w.cell? ⟨B1, 4, none⟩ = some (.bool true) := fun y => blk_cell (y.blk bY) 4
            have hfY : Row Y1 (Value.int .i64) af f := by rw [← hy1]; exact hf.ext y1
            have belY : Below W.heap.size W Y1 := by rw [← hy1]; exact y1.below
            clear hY bY FO szy y1 hy1
            refine Calls.mono (imageOf_open (W := Y1) af f.length cf (Ext.self Y1)) ?_
            rintro e w' ⟨rfl, zz, rfl⟩
            go_wp2_with fail
            refine Calls.mono (codeFor_ans (W := Y1) ⟨#[33]⟩ 19 36 1 (-1) (by omega) (by omega) (by omega) zz) ?_
            rintro e w' ⟨rfl, zz, rfl⟩
            rw [if_pos rfl]
            clear e0 e1 e2 e3 e4
            go_wp2_with ((at_builtin; refine wpList_append_own_at _ rfl (.tmp 39) (.tmp 41) 22 rfl W.heap.size 3 i0 (.int .i64 0) 1 8 Tryd.underlying22 hi0 hz0 hz1 hz2 rfl (by decide) v xs.length (xs.map (Value.int .i64)) rfl ((owns_ext ownY zz).alloc _) _ 1 1 [.int .i64 36] rfl rfl (cell_one_at _ _ _ _ (by simp)) (by intro u hu; simp at hu; subst hu; rfl) (by unfold maxLen; omega) (by omega) (by have := belY.size; have := zz.size; simp; omega) ?_; intro v' w1 own1 gr1 _ hat1))
            have HB1 : Hid (Below W.heap.size W w1) := ((((belY.trans (zz.below.mono belY.size))).alloc (by have := belY.size; have := zz.size; omega) _).grown gr1 (by have := belY.size; have := zz.size; simp; omega) (fun k hk => (ownY.lt k hk).1))
            have HO1 := Lib.hid own1
            clear own1 gr1 hat1
            go_roundw
            case rel =>
              have own1 := HO1.out
              refine ⟨k + 1, xs ++ [36], _, by go_num, rfl, by omega, mapL_step HC.out HXS.out (by rw [mapC_open (by rw [HOP.out]; omega), HCE.out (by rw [HOP.out]; omega)]), ?_, HB1.out⟩
              simpa using own1
            case measure => simp [intOf]; omega
      · skip
        have FO : Calls Tryd.prog 66 #[.int .i64 c] wr (Ans wr (.tuple #[.agg #[.string (markF c), .int .i64 (codeF c), .int .i64 (openF c), .int .i64 (partsF c), .bool false], .int .i64 (gF c), .bool (decide (0 ≤ kidsOf c))])) := by
          have := formOf_ans (W := wr) (F.ext ⟨wr, hb⟩) c (Ext.self wr)
          rw [formV, decide_eq_false hg] at this
          exact this
        have hx : mapC f c = some c := mapC_plain hg
        have HX := Lib.hid hx
        have HGG := Lib.hid hg
        clear hx hg
        go_wp2_with (first | (go_at_call 66; (with_reducible refine Calls.mono FO ?_); rintro e w' ⟨rfl, yy, rfl⟩) | (at_builtin; refine wpList_append_own_at _ rfl (.tmp 39) (.tmp 41) 22 rfl W.heap.size 3 i0 (.int .i64 0) 1 8 Tryd.underlying22 hi0 hz0 hz1 hz2 rfl (by decide) v xs.length (xs.map (Value.int .i64)) rfl (((owns_ext hown yy).alloc _).alloc _) _ 1 1 [.int .i64 (c)] rfl rfl (cell_one_at _ _ _ _ (by simp)) (by intro u hu; simp at hu; subst hu; rfl) (by unfold maxLen; omega) (by omega) (by have := hb.size; have := yy.size; simp; omega) ?_; intro v' w1 own1 gr1 _ hat1))
        have HB1 : Hid (Below W.heap.size W w1) := ((((hb.trans (yy.below.mono hb.size)).alloc (by have := hb.size; have := yy.size; omega) _).alloc (by have := hb.size; have := yy.size; simp; omega) _).grown gr1 (by have := hb.size; have := yy.size; simp; omega) (fun k hk => (hown.lt k hk).1))
        have HO1 := Lib.hid own1
        clear own1 gr1 hat1
        go_roundw
        case rel =>
          have own1 := HO1.out
          refine ⟨k + 1, xs ++ [c], _, by go_num, rfl, by omega, mapL_step HC.out HXS.out HX.out, ?_, HB1.out⟩
          simpa using own1
        case measure => simp [intOf]; omega
    · have hke : k = l.length := by omega
      have hlt' : ¬ (k : Int) < (l.length : Int) := by omega
      have HK := Lib.hid hke
      clear hke
      go_wp2
      go_ret2
      refine .inl ⟨xs, _, ⟨wr, hb⟩, ?_, rfl, rfl, hown⟩
      have := HXS.out
      rw [HK.out, List.take_length] at this
      exact this

end Go.Proofs.YtiekppegfocejaaDoor
