
/- The program's other languages: types without grades. -/
import Derived.Test.YteffcfaoganciaaDoorKFlatSpec
import Derived.Test.YteffcfaoganciaaDoorKGrow
import Derived.Test.YteffcfaoganciaaDoorKHoldL
import Derived.Test.YteffcfaoganciaaDoorGH
import Derived.Laws.EntriesVeiled
set_option linter.unusedVariables false
set_option linter.unusedSimpArgs false
namespace Go.Proofs.YteffcfaoganciaaDoor
open Go.RowKit

theorem rule16' {l : List Int} : RuleP 16 true l ↔ WT l := by
  unfold RuleP
  refine ⟨fun h => h.1, fun h => ⟨h, fun u _ hg => ?_⟩⟩
  have h1 := gradeOf_ge hg
  have h2 := gradeOf_le hg
  unfold Allows
  by_cases h : gradeOf u = -1
  · exact .inr ⟨rfl, h⟩
  · exact .inl (by omega)
theorem isWrittenType_ok {W : World} (F : Forms W) {a : Option Addr} {c : Nat} {l : List Int} (hr : Row W (Value.int .i64) a l) (hw : CodesB l) (p : Bool) (hp : p = true ↔ WT l) (x : Ext W) :
    Calls Tryd.prog 129 #[.slice a l.length c] x.w (Ans W (.bool p)) := by
  obtain ⟨yy, hyy⟩ : ∃ y : Ext W, x = y := ⟨x, rfl⟩
  rw [hyy]
  clear hyy
  have C : ∀ y : Ext W, Calls Tryd.prog 154 #[.agg #[.int .i64 16, .bool true], .slice a l.length c] y.w (Ans W (.bool p)) := fun y => allowsType_ans F hr hw 16 (by omega) true p (hp.trans rule16'.symm) y
  clear hp
  go_enter Tryd.func129, Tryd.ntmps129
  go_wp2_with (first | (go_at_call 105; with_reducible refine Calls.mono (writtenRule_ans _) ?_; rintro e w' ⟨rfl, yy, rfl⟩) | (go_at_call 154; with_reducible refine Calls.mono (C _) ?_; rintro e w' ⟨rfl, yy, rfl⟩))
  go_ret
  exact ⟨rfl, yy, rfl⟩

theorem form_code {W : World} (F : Forms W) (c : Int) (hc : c ≤ 36) {k : Int} (hk : codeF c = k) : ∃ (f0 : ByteArray) (f2 f3 : Int) (f4 f6 : Bool), ∀ y : Ext W, Calls Tryd.prog 59 #[.int .i64 c] y.w (Ans W (.tuple #[.agg #[.string f0, .int .i64 k, .int .i64 f2, .int .i64 f3, .bool f4], .int .i64 (gF c), .bool f6])) := by
  subst hk
  exact ⟨_, _, _, _, _, fun y => formOf_ans F c hc y⟩
set_option maxHeartbeats 1600000 in
theorem plainCodes_ans {W : World} (F : Forms W) (c : Int) (hc : c ≤ 36) (x : Ext W) : Calls Tryd.prog 131 #[.int .i64 c] x.w (GetR W (plainC c)) := by
  obtain ⟨yy, hyy⟩ : ∃ y : Ext W, x = y := ⟨x, rfl⟩
  rw [hyy]
  clear hyy
  by_cases ha : Arr c
  · have e : plainC c = [4] := by unfold plainC; rw [if_pos ha]
    rw [e]
    have hcf : codeF c = 3 := by unfold Arr at ha; unfold codeF; rw [if_neg (by omega), if_neg (by omega), if_pos (by unfold Arr; omega)]
    obtain ⟨f0, f2, f3, f4, f6, FOC⟩ := form_code F c hc hcf
    clear e hcf ha
    go_enter Tryd.func131, Tryd.ntmps131
    go_wp2_with ((go_at_call 59; (with_reducible refine Calls.mono (FOC _) ?_); rintro e w' ⟨rfl, yy, rfl⟩))
    go_ret
    refine ⟨_, _, ((yy.alloc _).alloc _), rfl, rfl, ?_⟩
    exact row_new1 _ 4 _ _ (by simp)
  · by_cases hb : Bx c
    · have e : plainC c = [] := by unfold plainC; rw [if_neg ha, if_pos hb]
      rw [e]
      have hcf : codeF c = 19 := by unfold Bx at hb; unfold codeF; rw [if_neg (by omega), if_neg (by omega), if_neg ha, if_pos (by unfold Bx; omega)]
      obtain ⟨f0, f2, f3, f4, f6, FOC⟩ := form_code F c hc hcf
      clear e hcf ha hb
      go_enter Tryd.func131, Tryd.ntmps131
      go_wp2_with ((go_at_call 59; (with_reducible refine Calls.mono (FOC _) ?_); rintro e w' ⟨rfl, yy, rfl⟩))
      go_ret
      exact ⟨none, 0, (yy.alloc _), rfl, rfl, .inl rfl⟩
    · have e : plainC c = [c] := by unfold plainC; rw [if_neg ha, if_neg hb]
      rw [e]
      obtain ⟨k, hk⟩ : ∃ k, codeF c = k := ⟨_, rfl⟩
      have hk3 : (k == 3) = false ∧ (k == 19) = false := by
        rw [← hk]
        unfold codeF
        rw [if_neg ha, if_neg hb]
        split
        · decide
        · split <;> decide
      obtain ⟨hk3, hk19⟩ := hk3
      obtain ⟨f0, f2, f3, f4, f6, FOC⟩ := form_code F c hc hk
      clear e hk ha hb
      go_enter Tryd.func131, Tryd.ntmps131
      go_wp2_with ((go_at_call 59; (with_reducible refine Calls.mono (FOC _) ?_); rintro e w' ⟨rfl, yy, rfl⟩))
      go_ret
      refine ⟨_, _, ((yy.alloc _).alloc _), rfl, rfl, ?_⟩
      exact row_new1 _ c _ _ (by simp)

set_option maxHeartbeats 4000000 in
theorem plainMove_ans {W : World} (F : Forms W) {a : Option Addr} {c : Nat} {l : List Int} (hr : Row W (Value.int .i64) a l) (hl : l.length ≤ 40) (h36 : ∀ u ∈ l, 0 ≤ u ∧ u ≤ 36) (x : Ext W) :
    Calls Tryd.prog 130 #[.agg #[.func (.func 131) #[] #[], .func (.func 132) #[] #[]], .slice a l.length c] x.w (NewR W (plainL l)) := by
  have H36 := Lib.hid h36
  clear h36
  go_enter Tryd.func130, Tryd.ntmps130
  go_wp2_with fail
  generalize hW : x.w.alloc _ = W1
  have bB := new_blk hW
  have belW : Below W.heap.size W W1 := by rw [← hW]; exact x.below.alloc x.size _
  generalize x.w.heap.size = B at *
  clear hW
  have c0 : ∀ y : Ext W1, y.w.cell? ⟨B, 0, none⟩ = some (.func (.func 131) #[] #[]) := fun y => blk_cell (y.blk bB) 0
  have hr1 : Row W1 (Value.int .i64) a l := hr.ext ⟨W1, belW⟩
  have F1 : Forms W1 := F.ext ⟨W1, belW⟩
  have st0 : Grow W1 W1 none 0 [] := Grow.nil (Below.refl _ _)
  clear bB hr F
  go_wp2_with fail
  go_loopw [10, 5] (fun i v wr => ∃ (k : Nat) (a' : Option Addr) (c' : Nat) (n : Nat), i = .int .i64 k ∧ v = .slice a' n c' ∧ k ≤ l.length ∧ n ≤ 2 * k ∧ Hid (n = ((l.take k).flatMap plainC).length ∧ Grow W1 wr a' c' ((l.take k).flatMap plainC))) (fun i _ _ => l.length - (intOf i).toNat)
  case atStart => exact ⟨0, none, 0, 0, rfl, rfl, by omega, by omega, rfl, st0⟩
  case round =>
    obtain ⟨k, a', c', n, rfl, rfl, hk, hn, HG⟩ := hrel
    by_cases hlt : k < l.length
    · have hlt' : (k : Int) < (l.length : Int) := by omega
      obtain ⟨b1, o1, rfl, hc⟩ := hr1.at hlt
      have HC : Hid (l[k]? = some l[k]) := List.getElem?_eq_getElem hlt
      have d1 : ∀ y : Ext W1, y.w.cell? ⟨b1, o1 + k, none⟩ = some (.int .i64 l[k]) := fun y => y.cell (hc k _ HC.out)
      have hcc := H36.out _ (List.getElem_mem hlt)
      clear hc
      generalize l[k] = u at *
      have hb := HG.out.2.bel
      have d2 := d1 ⟨wr, hb⟩
      have c2 := c0 ⟨wr, hb⟩
      have C := plainCodes_ans (W := wr) (F1.ext ⟨wr, hb⟩) u hcc.2 (Ext.self wr)
      dsimp only at d2 c2
      go_wp2_with fail
      refine Calls.mono C ?_
      rintro e w' ⟨sa, sc, y, rfl, rfl, rs⟩
      have HG2 : Hid (n = ((l.take k).flatMap plainC).length ∧ Grow W1 y.w a' c' ((l.take k).flatMap plainC)) := ⟨HG.out.1, HG.out.2.ext y⟩
      have hfl := (fun u => Nat.le_trans (plainC_len u) (by omega : 1 ≤ 2))  u
      have RS := Lib.hid rs
      clear C d2 c2 hb HG rs
      obtain ⟨q, hq⟩ : ∃ q, q = (l.take k).flatMap plainC := ⟨_, rfl⟩
      rw [← hq] at HG2
      have HQ := Lib.hid hq
      have hnq : n = q.length := HG2.out.1
      subst hnq
      clear hq
      go_wp2_with (at_builtin; refine wpList_grow rfl (.tmp 14) (.tmp 18) rfl HG2.out.2 rfl rfl RS.out (by omega) ?_; intro a2 c2 w2 g2)
      have HG3 := Lib.hid g2
      clear g2
      go_roundw
      case rel =>
        have e := flat_take_succ (f := plainC) HC.out
        rw [← HQ.out] at e
        refine ⟨k + 1, a2, c2, _, by go_num, rfl, by omega, by omega, ?_⟩
        rw [e]
        exact ⟨by rw [List.length_append] <;> rfl, HG3.out⟩
      case measure => simp [intOf]; omega
    · have e : l.take k = l := List.take_of_length_le (by omega)
      have HG2 : Hid (n = (l.flatMap plainC).length ∧ Grow W1 wr a' c' (l.flatMap plainC)) := by have := HG.out; rw [e] at this; exact this
      clear e HG
      go_wp2
      go_ret
      obtain ⟨rfl, g⟩ := HG2.out
      exact ⟨a', c', ⟨wr, belW.trans (g.bel.mono belW.size)⟩, rfl, rfl, owns_lower g.own belW.size⟩

theorem plainLang_ans {W : World} (x : Ext W) : Calls Tryd.prog 86 #[] x.w (Ans W (.agg #[.func (.func 131) #[] #[], .func (.func 132) #[] #[]])) := by
  go_enter Tryd.func86, Tryd.ntmps86
  go_wp2
  generalize hY : x.w.alloc _ = Y
  have b2 := new_blk hY
  have bel : Below W.heap.size W Y := by rw [← hY]; exact x.below.alloc x.size _
  have r0 := blk_cell b2 0
  have r1 := blk_cell b2 1
  clear hY b2
  simp at r0 r1
  refine bodyPost_ret (v := .agg #[.func (.func 131) #[] #[], .func (.func 132) #[] #[]]) (by simp [results, Tryd.results86, go_sem, r0, r1]) rfl ⟨rfl, ⟨Y, bel⟩, rfl⟩

set_option maxHeartbeats 4000000 in
theorem plainTrans_ans {W : World} (F : Forms W) {a : Option Addr} {c : Nat} {l : List Int} (hr : Row W (Value.int .i64) a l) (hw : CodesB l) (o : List Int) (ho : ForgetV l o) (x : Ext W) :
    Calls Tryd.prog 83 #[.agg #[.func (.func 131) #[] #[], .func (.func 132) #[] #[]], .slice a l.length c] x.w (NewR W o) := by
  obtain ⟨yy, hyy⟩ : ∃ y : Ext W, x = y := ⟨x, rfl⟩
  rw [hyy]
  clear hyy
  have HO := Lib.hid ho
  clear ho
  by_cases hwt : WT l
  · have HW := Lib.hid hwt
    clear hwt
    have hln := plainL_len l
    have h40 : ¬ 40 < ((plainL l).length : Int) := by have := HW.out.1; omega
    go_enter Tryd.func83, Tryd.ntmps83
    go_wp2_with fail
    generalize hW : yy.w.alloc _ = W1
    have bB := new_blk hW
    have belW : Below W.heap.size W W1 := by rw [← hW]; exact yy.below.alloc yy.size _
    generalize yy.w.heap.size = B at *
    clear hW yy
    have c0 : ∀ y : Ext W1, y.w.cell? ⟨B, 0, none⟩ = some (.func (.func 131) #[] #[]) := fun y => blk_cell (y.blk bB) 0
    have c1 : ∀ y : Ext W1, y.w.cell? ⟨B, 1, none⟩ = some (.func (.func 132) #[] #[]) := fun y => blk_cell (y.blk bB) 1
    have hr1 : Row W1 (Value.int .i64) a l := hr.ext ⟨W1, belW⟩
    have F1 : Forms W1 := F.ext ⟨W1, belW⟩
    obtain ⟨zz, hzz⟩ : ∃ z : Ext W1, z.w = W1 := ⟨Ext.self _, rfl⟩
    rw [← hzz]
    clear hzz bB hr F
    refine Calls.mono (isWrittenType_ok F1 hr1 hw true (by simpa using HW.out) zz) ?_
    rintro e w' ⟨rfl, yy, rfl⟩
    go_wp2_with fail
    refine Calls.mono (plainMove_ans (W := yy.w) (F1.ext yy) (hr1.ext yy) HW.out.1 HW.out.codes (Ext.self yy.w)) ?_
    rintro e w' ⟨sa, sc, y, rfl, rfl, own⟩
    have HOWN := Lib.hid own
    clear own
    go_wp2_with fail
    go_ret
    have e : o = plainL l := by rcases HO.out with ⟨_, h⟩ | ⟨h, _⟩; exact h; exact absurd HW.out h
    subst e
    exact ⟨sa, sc, ⟨y.w, belW.trans ((yy.below.trans (y.below.mono yy.size)).mono belW.size)⟩, rfl, rfl, owns_lower HOWN.out (Nat.le_trans belW.size yy.size)⟩
  · have HW := Lib.hid hwt
    clear hwt
    go_enter Tryd.func83, Tryd.ntmps83
    go_wp2_with fail
    generalize hW : yy.w.alloc _ = W1
    have bB := new_blk hW
    have belW : Below W.heap.size W W1 := by rw [← hW]; exact yy.below.alloc yy.size _
    generalize yy.w.heap.size = B at *
    clear hW yy
    have c0 : ∀ y : Ext W1, y.w.cell? ⟨B, 0, none⟩ = some (.func (.func 131) #[] #[]) := fun y => blk_cell (y.blk bB) 0
    have c1 : ∀ y : Ext W1, y.w.cell? ⟨B, 1, none⟩ = some (.func (.func 132) #[] #[]) := fun y => blk_cell (y.blk bB) 1
    have hr1 : Row W1 (Value.int .i64) a l := hr.ext ⟨W1, belW⟩
    have F1 : Forms W1 := F.ext ⟨W1, belW⟩
    obtain ⟨zz, hzz⟩ : ∃ z : Ext W1, z.w = W1 := ⟨Ext.self _, rfl⟩
    rw [← hzz]
    clear hzz bB hr F
    refine Calls.mono (isWrittenType_ok F1 hr1 hw false (by simpa using HW.out) zz) ?_
    rintro e w' ⟨rfl, yy, rfl⟩
    go_wp2_with fail
    go_ret
    have e : o = [] := by rcases HO.out with ⟨h, _⟩ | ⟨_, h⟩; exact absurd (h) HW.out; exact h
    subst e
    exact ⟨none, 0, ⟨yy.w, belW.trans (yy.below.mono belW.size)⟩, rfl, rfl, World.ownsRow_nil _ _ _ _⟩
theorem plainTop_ans {W : World} (F : Forms W) {a : Option Addr} {c : Nat} {l : List Int} (hr : Row W (Value.int .i64) a l) (hw : CodesB l) (o : List Int) (ho : ForgetV l o) (x : Ext W) :
    Calls Tryd.prog 40 #[.slice a l.length c] x.w (NewR W o) := by
  obtain ⟨yy, hyy⟩ : ∃ y : Ext W, x = y := ⟨x, rfl⟩
  rw [hyy]
  clear hyy
  go_enter Tryd.func40, Tryd.ntmps40
  go_wp2_with fail
  refine Calls.mono (plainLang_ans yy) ?_
  rintro e w' ⟨rfl, yy, rfl⟩
  go_wp2_with fail
  refine Calls.mono (plainTrans_ans F hr hw o ho yy) ?_
  rintro e w' ⟨sa, sc, y, rfl, rfl, own⟩
  go_wp2_with fail
  go_ret
  exact ⟨sa, sc, y, rfl, rfl, own⟩

end Go.Proofs.YteffcfaoganciaaDoor
