
/- The program's other languages: types with boxes. -/
import Derived.Test.YteffcfaoganciaaDoorKFlatP
set_option linter.unusedVariables false
set_option linter.unusedSimpArgs false
namespace Go.Proofs.YteffcfaoganciaaDoor
open Go.RowKit

theorem codeFor19_ans {W : World} (g : Int) (h0 : -1 ≤ g) (h1 : g ≤ 15) (v : Int) (hv : v = if g = -1 then 36 else 19 + g) (x : Ext W) :
    Calls Tryd.prog 156 #[.agg #[.string ⟨#[33]⟩, .int .i64 19, .int .i64 36, .int .i64 1, .bool true], .int .i64 g] x.w (Ans W (.int .i64 v)) := by
  obtain ⟨yy, hyy⟩ : ∃ y : Ext W, x = y := ⟨x, rfl⟩
  rw [hyy]
  clear hyy
  have HV := Lib.hid hv
  clear hv
  by_cases e : g = -1
  · subst e
    go_enter Tryd.func156, Tryd.ntmps156
    go_wp2
    go_ret
    exact fin_int (by rw [HV.out]; rfl) ⟨yy.alloc _, rfl⟩
  · have f1 : (g == -1) = false := by simpa using e
    have E := Lib.hid e
    clear e
    have f2 : ¬ 16 ≤ g := by omega
    have f3 : 0 ≤ g := by have := E.out; omega
    go_enter Tryd.func156, Tryd.ntmps156
    go_wp2
    go_ret
    exact fin_int (by rw [HV.out, if_neg E.out]) ⟨yy.alloc _, rfl⟩
theorem withGrade19_ans {W : World} (F : Forms W) (g : Int) (h0 : -1 ≤ g) (h1 : g ≤ 15) (v : Int) (hv : v = if g = -1 then 36 else 19 + g) (x : Ext W) :
    Calls Tryd.prog 168 #[.int .i64 19, .int .i64 g] x.w (Ans W (.int .i64 v)) := by
  obtain ⟨yy, hyy⟩ : ∃ y : Ext W, x = y := ⟨x, rfl⟩
  rw [hyy]
  clear hyy
  have HV := Lib.hid hv
  clear hv
  have FOC : ∀ y : Ext W, Calls Tryd.prog 59 #[.int .i64 19] y.w (Ans W (.tuple #[.agg #[.string ⟨#[33]⟩, .int .i64 19, .int .i64 36, .int .i64 1, .bool true], .int .i64 (gradeOf 19), .bool true])) := fun y => by
    have := formOf_ans F 19 (by omega) y
    rw [formV_bx (by unfold Bx; omega)] at this
    exact this
  go_enter Tryd.func168, Tryd.ntmps168
  go_wp2_with ((go_at_call 59; (with_reducible refine Calls.mono (FOC _) ?_); rintro e w' ⟨rfl, yy, rfl⟩))
  refine Calls.mono (codeFor19_ans g h0 h1 v HV.out (yy.alloc _)) ?_
  rintro e w' ⟨rfl, yz, rfl⟩
  go_wp2_with fail
  go_ret
  exact ⟨rfl, yz, rfl⟩
set_option maxHeartbeats 1600000 in
theorem boxedCodes_ans {W : World} (F : Forms W) (c : Int) (h0 : 0 ≤ c) (hc : c ≤ 36) (x : Ext W) : Calls Tryd.prog 127 #[.int .i64 c] x.w (GetR W (boxC c)) := by
  obtain ⟨yy, hyy⟩ : ∃ y : Ext W, x = y := ⟨x, rfl⟩
  rw [hyy]
  clear hyy
  by_cases ha : Arr c
  · obtain ⟨v, hv⟩ : ∃ v : Int, v = if gradeOf c = -1 then 36 else 19 + gradeOf c := ⟨_, rfl⟩
    have e : boxC c = [4, v] := by unfold boxC; rw [if_pos ha, hv]
    rw [e]
    have hgf : gF c = gradeOf c := by unfold gF; rw [if_pos (.inl ha)]
    have g0 := gradeOf_ge (c := c) (.inl ha)
    have g1 := gradeOf_le (c := c) (.inl ha)
    have IA := isArrow_ans F c hc true (by simpa using ha) yy
    obtain ⟨k, hk⟩ : ∃ k, codeF c = k := ⟨_, rfl⟩
    obtain ⟨f0, f2, f3, f4, f6, FOC⟩ := form_code F c hc hk
    rw [hgf] at FOC
    have WG : ∀ y : Ext W, Calls Tryd.prog 168 #[.int .i64 19, .int .i64 (gradeOf c)] y.w (Ans W (.int .i64 v)) := fun y => withGrade19_ans F (gradeOf c) g0 g1 v hv y
    generalize gradeOf c = g at *
    clear e hk ha hv hgf
    go_enter Tryd.func127, Tryd.ntmps127
    go_wp2_with fail
    refine Calls.mono IA ?_
    rintro e w' ⟨rfl, yy, rfl⟩
    go_wp2_with ((go_at_call 59; (with_reducible refine Calls.mono (FOC _) ?_); rintro e w' ⟨rfl, yy, rfl⟩))
    refine Calls.mono (WG (yy.alloc _)) ?_
    rintro e w' ⟨rfl, yz, rfl⟩
    go_wp2_with fail
    go_ret
    refine ⟨_, _, (yz.alloc _), rfl, rfl, ?_⟩
    exact row_new2 _ 4 v _ _ (by simp)
  · have e : boxC c = [c] := by unfold boxC; rw [if_neg ha]
    rw [e]
    have IA := isArrow_ans F c hc false (by simpa using ha) yy
    clear e ha
    go_enter Tryd.func127, Tryd.ntmps127
    go_wp2_with fail
    refine Calls.mono IA ?_
    rintro e w' ⟨rfl, yy, rfl⟩
    go_wp2_with fail
    go_ret
    refine ⟨_, _, (yy.alloc _), rfl, rfl, ?_⟩
    exact row_new1 _ c _ _ (by simp)

set_option maxHeartbeats 4000000 in
theorem boxMove_ans {W : World} (F : Forms W) {a : Option Addr} {c : Nat} {l : List Int} (hr : Row W (Value.int .i64) a l) (hl : l.length ≤ 40) (h36 : ∀ u ∈ l, 0 ≤ u ∧ u ≤ 36) (x : Ext W) :
    Calls Tryd.prog 130 #[.agg #[.func (.func 127) #[] #[], .func (.func 128) #[] #[]], .slice a l.length c] x.w (NewR W (boxL l)) := by
  have H36 := Lib.hid h36
  clear h36
  go_enter Tryd.func130, Tryd.ntmps130
  go_wp2_with fail
  generalize hW : x.w.alloc _ = W1
  have bB := new_blk hW
  have belW : Below W.heap.size W W1 := by rw [← hW]; exact x.below.alloc x.size _
  generalize x.w.heap.size = B at *
  clear hW
  have c0 : ∀ y : Ext W1, y.w.cell? ⟨B, 0, none⟩ = some (.func (.func 127) #[] #[]) := fun y => blk_cell (y.blk bB) 0
  have hr1 : Row W1 (Value.int .i64) a l := hr.ext ⟨W1, belW⟩
  have F1 : Forms W1 := F.ext ⟨W1, belW⟩
  have st0 : Grow W1 W1 none 0 [] := Grow.nil (Below.refl _ _)
  clear bB hr F
  go_wp2_with fail
  go_loopw [10, 5] (fun i v wr => ∃ (k : Nat) (a' : Option Addr) (c' : Nat) (n : Nat), i = .int .i64 k ∧ v = .slice a' n c' ∧ k ≤ l.length ∧ n ≤ 2 * k ∧ Hid (n = ((l.take k).flatMap boxC).length ∧ Grow W1 wr a' c' ((l.take k).flatMap boxC))) (fun i _ _ => l.length - (intOf i).toNat)
  case atStart => exact ⟨0, none, 0, 0, rfl, rfl, by omega, by omega, rfl, st0⟩
  case round =>
    obtain ⟨k, a', c', n, rfl, rfl, hk, hn, HG⟩ := hrel
    by_cases hlt : k < l.length
    · have hlt' : (k : Int) < (l.length : Int) := by omega
      obtain ⟨b1, o1, rfl, hc⟩ := hr1.at hlt
      have HC : Hid (l[k]? = some l[k]) := List.getElem?_eq_getElem hlt
      have d1 : ∀ y : Ext W1, y.w.cell? ⟨b1, o1 + k, none⟩ = some (.int .i64 l[k]) := fun y => y.cell (hc k _ HC.out)
      have hcc := H36.out _ (List.getElem_mem hlt)
      clear hc
      generalize l[k] = u at *
      have hb := HG.out.2.bel
      have d2 := d1 ⟨wr, hb⟩
      have c2 := c0 ⟨wr, hb⟩
      have C := boxedCodes_ans (W := wr) (F1.ext ⟨wr, hb⟩) u hcc.1 hcc.2 (Ext.self wr)
      dsimp only at d2 c2
      go_wp2_with fail
      refine Calls.mono C ?_
      rintro e w' ⟨sa, sc, y, rfl, rfl, rs⟩
      have HG2 : Hid (n = ((l.take k).flatMap boxC).length ∧ Grow W1 y.w a' c' ((l.take k).flatMap boxC)) := ⟨HG.out.1, HG.out.2.ext y⟩
      have hfl := boxC_len  u
      have RS := Lib.hid rs
      clear C d2 c2 hb HG rs
      obtain ⟨q, hq⟩ : ∃ q, q = (l.take k).flatMap boxC := ⟨_, rfl⟩
      rw [← hq] at HG2
      have HQ := Lib.hid hq
      have hnq : n = q.length := HG2.out.1
      subst hnq
      clear hq
      go_wp2_with (at_builtin; refine wpList_grow rfl (.tmp 14) (.tmp 18) rfl HG2.out.2 rfl rfl RS.out (by omega) ?_; intro a2 c2 w2 g2)
      have HG3 := Lib.hid g2
      clear g2
      go_roundw
      case rel =>
        have e := flat_take_succ (f := boxC) HC.out
        rw [← HQ.out] at e
        refine ⟨k + 1, a2, c2, _, by go_num, rfl, by omega, by omega, ?_⟩
        rw [e]
        exact ⟨by rw [List.length_append] <;> rfl, HG3.out⟩
      case measure => simp [intOf]; omega
    · have e : l.take k = l := List.take_of_length_le (by omega)
      have HG2 : Hid (n = (l.flatMap boxC).length ∧ Grow W1 wr a' c' (l.flatMap boxC)) := by have := HG.out; rw [e] at this; exact this
      clear e HG
      go_wp2
      go_ret
      obtain ⟨rfl, g⟩ := HG2.out
      exact ⟨a', c', ⟨wr, belW.trans (g.bel.mono belW.size)⟩, rfl, rfl, owns_lower g.own belW.size⟩

theorem boxLang_ans {W : World} (x : Ext W) : Calls Tryd.prog 82 #[] x.w (Ans W (.agg #[.func (.func 127) #[] #[], .func (.func 128) #[] #[]])) := by
  go_enter Tryd.func82, Tryd.ntmps82
  go_wp2
  generalize hY : x.w.alloc _ = Y
  have b2 := new_blk hY
  have bel : Below W.heap.size W Y := by rw [← hY]; exact x.below.alloc x.size _
  have r0 := blk_cell b2 0
  have r1 := blk_cell b2 1
  clear hY b2
  simp at r0 r1
  refine bodyPost_ret (v := .agg #[.func (.func 127) #[] #[], .func (.func 128) #[] #[]]) (by simp [results, Tryd.results82, go_sem, r0, r1]) rfl ⟨rfl, ⟨Y, bel⟩, rfl⟩

set_option maxHeartbeats 4000000 in
theorem boxTrans_ans {W : World} (F : Forms W) {a : Option Addr} {c : Nat} {l : List Int} (hr : Row W (Value.int .i64) a l) (hw : CodesB l) (o : List Int) (ho : BoxV l o) (x : Ext W) :
    Calls Tryd.prog 83 #[.agg #[.func (.func 127) #[] #[], .func (.func 128) #[] #[]], .slice a l.length c] x.w (NewR W o) := by
  obtain ⟨yy, hyy⟩ : ∃ y : Ext W, x = y := ⟨x, rfl⟩
  rw [hyy]
  clear hyy
  have HO := Lib.hid ho
  clear ho
  by_cases hwt : WT l
  · have HW := Lib.hid hwt
    clear hwt
    by_cases h40 : (boxL l).length ≤ 40
    · have H40 := Lib.hid h40
      have h41 : ¬ 40 < ((boxL l).length : Int) := by omega
      clear h40
      go_enter Tryd.func83, Tryd.ntmps83
      go_wp2_with fail
      generalize hW : yy.w.alloc _ = W1
      have bB := new_blk hW
      have belW : Below W.heap.size W W1 := by rw [← hW]; exact yy.below.alloc yy.size _
      generalize yy.w.heap.size = B at *
      clear hW yy
      have c0 : ∀ y : Ext W1, y.w.cell? ⟨B, 0, none⟩ = some (.func (.func 127) #[] #[]) := fun y => blk_cell (y.blk bB) 0
      have c1 : ∀ y : Ext W1, y.w.cell? ⟨B, 1, none⟩ = some (.func (.func 128) #[] #[]) := fun y => blk_cell (y.blk bB) 1
      have hr1 : Row W1 (Value.int .i64) a l := hr.ext ⟨W1, belW⟩
      have F1 : Forms W1 := F.ext ⟨W1, belW⟩
      obtain ⟨zz, hzz⟩ : ∃ z : Ext W1, z.w = W1 := ⟨Ext.self _, rfl⟩
      rw [← hzz]
      clear hzz bB hr F
      refine Calls.mono (isWrittenType_ok F1 hr1 hw true (by simpa using HW.out) zz) ?_
      rintro e w' ⟨rfl, yy, rfl⟩
      go_wp2_with fail
      refine Calls.mono (boxMove_ans (W := yy.w) (F1.ext yy) (hr1.ext yy) HW.out.1 HW.out.codes (Ext.self yy.w)) ?_
      rintro e w' ⟨sa, sc, y, rfl, rfl, own⟩
      have HOWN := Lib.hid own
      clear own
      go_wp2_with fail
      go_ret
      have e : o = boxL l := by rcases HO.out with ⟨_, h⟩ | ⟨h, _⟩; exact h; exact absurd ⟨HW.out, H40.out⟩ h
      subst e
      exact ⟨sa, sc, ⟨y.w, belW.trans ((yy.below.trans (y.below.mono yy.size)).mono belW.size)⟩, rfl, rfl, owns_lower HOWN.out (Nat.le_trans belW.size yy.size)⟩
    · have H40 := Lib.hid h40
      have h41 : 40 < ((boxL l).length : Int) := by omega
      clear h40
      go_enter Tryd.func83, Tryd.ntmps83
      go_wp2_with fail
      generalize hW : yy.w.alloc _ = W1
      have bB := new_blk hW
      have belW : Below W.heap.size W W1 := by rw [← hW]; exact yy.below.alloc yy.size _
      generalize yy.w.heap.size = B at *
      clear hW yy
      have c0 : ∀ y : Ext W1, y.w.cell? ⟨B, 0, none⟩ = some (.func (.func 127) #[] #[]) := fun y => blk_cell (y.blk bB) 0
      have c1 : ∀ y : Ext W1, y.w.cell? ⟨B, 1, none⟩ = some (.func (.func 128) #[] #[]) := fun y => blk_cell (y.blk bB) 1
      have hr1 : Row W1 (Value.int .i64) a l := hr.ext ⟨W1, belW⟩
      have F1 : Forms W1 := F.ext ⟨W1, belW⟩
      obtain ⟨zz, hzz⟩ : ∃ z : Ext W1, z.w = W1 := ⟨Ext.self _, rfl⟩
      rw [← hzz]
      clear hzz bB hr F
      refine Calls.mono (isWrittenType_ok F1 hr1 hw true (by simpa using HW.out) zz) ?_
      rintro e w' ⟨rfl, yy, rfl⟩
      go_wp2_with fail
      refine Calls.mono (boxMove_ans (W := yy.w) (F1.ext yy) (hr1.ext yy) HW.out.1 HW.out.codes (Ext.self yy.w)) ?_
      rintro e w' ⟨sa, sc, y, rfl, rfl, own⟩
      have HOWN := Lib.hid own
      clear own
      go_wp2_with fail
      go_ret
      have e : o = [] := by rcases HO.out with ⟨h, _⟩ | ⟨_, h⟩; exact absurd h.2 H40.out; exact h
      subst e
      exact ⟨none, 0, ⟨y.w, belW.trans ((yy.below.trans (y.below.mono yy.size)).mono belW.size)⟩, rfl, rfl, World.ownsRow_nil _ _ _ _⟩
  · have HW := Lib.hid hwt
    clear hwt
    go_enter Tryd.func83, Tryd.ntmps83
    go_wp2_with fail
    generalize hW : yy.w.alloc _ = W1
    have bB := new_blk hW
    have belW : Below W.heap.size W W1 := by rw [← hW]; exact yy.below.alloc yy.size _
    generalize yy.w.heap.size = B at *
    clear hW yy
    have c0 : ∀ y : Ext W1, y.w.cell? ⟨B, 0, none⟩ = some (.func (.func 127) #[] #[]) := fun y => blk_cell (y.blk bB) 0
    have c1 : ∀ y : Ext W1, y.w.cell? ⟨B, 1, none⟩ = some (.func (.func 128) #[] #[]) := fun y => blk_cell (y.blk bB) 1
    have hr1 : Row W1 (Value.int .i64) a l := hr.ext ⟨W1, belW⟩
    have F1 : Forms W1 := F.ext ⟨W1, belW⟩
    obtain ⟨zz, hzz⟩ : ∃ z : Ext W1, z.w = W1 := ⟨Ext.self _, rfl⟩
    rw [← hzz]
    clear hzz bB hr F
    refine Calls.mono (isWrittenType_ok F1 hr1 hw false (by simpa using HW.out) zz) ?_
    rintro e w' ⟨rfl, yy, rfl⟩
    go_wp2_with fail
    go_ret
    have e : o = [] := by rcases HO.out with ⟨h, _⟩ | ⟨_, h⟩; exact absurd (h.1) HW.out; exact h
    subst e
    exact ⟨none, 0, ⟨yy.w, belW.trans (yy.below.mono belW.size)⟩, rfl, rfl, World.ownsRow_nil _ _ _ _⟩
theorem boxTop_ans {W : World} (F : Forms W) {a : Option Addr} {c : Nat} {l : List Int} (hr : Row W (Value.int .i64) a l) (hw : CodesB l) (o : List Int) (ho : BoxV l o) (x : Ext W) :
    Calls Tryd.prog 37 #[.slice a l.length c] x.w (NewR W o) := by
  obtain ⟨yy, hyy⟩ : ∃ y : Ext W, x = y := ⟨x, rfl⟩
  rw [hyy]
  clear hyy
  go_enter Tryd.func37, Tryd.ntmps37
  go_wp2_with fail
  refine Calls.mono (boxLang_ans yy) ?_
  rintro e w' ⟨rfl, yy, rfl⟩
  go_wp2_with fail
  refine Calls.mono (boxTrans_ans F hr hw o ho yy) ?_
  rintro e w' ⟨sa, sc, y, rfl, rfl, own⟩
  go_wp2_with fail
  go_ret
  exact ⟨sa, sc, y, rfl, rfl, own⟩

end Go.Proofs.YteffcfaoganciaaDoor
