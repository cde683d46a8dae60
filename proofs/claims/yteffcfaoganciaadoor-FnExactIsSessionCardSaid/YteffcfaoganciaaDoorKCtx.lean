
/- Contexts: lists of types of a system; by the program and by the model. -/
import Derived.Test.YteffcfaoganciaaDoorGD
import Derived.Test.YteffcfaoganciaaDoorKLists
set_option linter.unusedVariables false
set_option linter.unusedSimpArgs false
namespace Go.Proofs.YteffcfaoganciaaDoor
open Go.RowKit

def CtxL (n : Int) (ls : List (List Int)) : Prop := ls.length ≤ 8 ∧ ∀ l ∈ ls, WT l ∧ Grs n true l
def IsCtxP (s : Sys) (ls : List (List Int)) : Prop := IsSys s ∧ CtxL s.n ls
theorem rule_wt {n : Int} (hn : 0 ≤ n) (l : List Int) : RuleP n false l ↔ (WT l ∧ Grs n true l) := by
  unfold RuleP
  rw [ruleP_grs hn]
  rfl
theorem ctx_all {n : Int} {ls : List (List Int)} {k : Nat} (h : ∀ i, i < k → ∀ l, ls[i]? = some l → WT l ∧ Grs n true l) (hk : k = ls.length) : ∀ l ∈ ls, WT l ∧ Grs n true l := fun l hl => by
  obtain ⟨i, hi, e⟩ := List.mem_iff_getElem.1 hl
  exact h i (by omega) l (by rw [List.getElem?_eq_getElem hi, e])

set_option maxHeartbeats 4000000 in
theorem allowsContext_ans {W : World} (F : Forms W) {a : Option Addr} {c : Nat} {ls : List (List Int)} {hd : Nat → Option Addr × Nat} (h : LsIn W a ls hd) (hw : ∀ l ∈ ls, CodesB l) (n : Int) (hn0 : 0 ≤ n) (hn16 : n ≤ 16) (p : Bool) (hp : p = true ↔ CtxL n ls) (x : Ext W) :
    Calls Tryd.prog 104 #[.agg #[.int .i64 n, .bool false], .slice a ls.length c, .int .i64 8] x.w (Ans W (.bool p)) := by
  have HP := Lib.hid hp
  clear hp
  have hall := h.all
  by_cases h8 : (8 : Int) < (ls.length : Int)
  · go_enter Tryd.func104, Tryd.ntmps104
    go_wp2
    go_ret
    exact fin_false HP (fun q => by have := q.1; omega) ⟨x.alloc _, rfl⟩
  · go_enter Tryd.func104, Tryd.ntmps104
    go_wp2
    have hxW := x.size
    generalize hWb : x.w.alloc _ = Wb
    generalize hB : x.w.heap.size = B at *
    obtain ⟨b0, sB, bel⟩ := blocks1 hB hWb
    have belW : Below W.heap.size W Wb := x.below.trans (bel.mono (by omega))
    clear hWb bel
    have r0 : ∀ y : Ext Wb, y.w.cell? ⟨B, 0, none⟩ = some (.int .i64 n) := fun y => blk_cell (y.blk b0) 0
    have r1 : ∀ y : Ext Wb, y.w.cell? ⟨B, 1, none⟩ = some (.bool false) := fun y => blk_cell (y.blk b0) 1
    have FF : Forms Wb := F.ext ⟨Wb, belW⟩
    have h1 : LsIn Wb a ls hd := h.ext ⟨Wb, belW⟩
    have hback : ∀ y : Ext Wb, ∃ z : Ext W, y.w = z.w := fun y => ⟨⟨y.w, belW.trans (y.below.mono belW.size)⟩, rfl⟩
    have HW := Lib.hid hw
    clear hw b0 h hxW
    obtain ⟨yy, hyy⟩ : ∃ y : Ext Wb, y.w = Wb := ⟨Ext.self _, rfl⟩
    rw [← hyy]
    clear hyy
    go_loopw [15] (fun i wr => ∃ k : Nat, i = .int .i64 k ∧ k ≤ ls.length ∧ (∃ y : Ext Wb, wr = y.w) ∧ Hid (∀ i, i < k → ∀ l, ls[i]? = some l → WT l ∧ Grs n true l)) (fun i _ => ls.length - (intOf i).toNat)
    case atStart => exact ⟨0, rfl, by omega, ⟨yy, rfl⟩, fun i hi => by omega⟩
    case round =>
      obtain ⟨k, rfl, hk, ⟨yy, rfl⟩, HU⟩ := hrel
      by_cases hlt : k < ls.length
      · have hlt' : (k : Int) < (ls.length : Int) := by omega
        obtain ⟨l, hl⟩ : ∃ l, ls[k]? = some l := ⟨_, List.getElem?_eq_getElem hlt⟩
        have HL := Lib.hid hl
        obtain ⟨b1, o1, rfl, hc⟩ := h1.row.at (i := k) (by rw [hds_len]; exact hlt)
        have c1 : ∀ y : Ext Wb, y.w.cell? ⟨b1, o1 + k, none⟩ = some (.slice (hd k).1 l.length (hd k).2) := fun y => y.cell (hc k _ (hds_at hl hd))
        obtain ⟨q, hq⟩ := bool_of (RuleP n false l)
        have C : ∀ y : Ext Wb, Calls Tryd.prog 154 #[.agg #[.int .i64 n, .bool false], .slice (hd k).1 l.length (hd k).2] y.w (Ans Wb (.bool q)) := fun y => allowsType_ans FF (h1.sub k l hl) (HW.out l (List.mem_of_getElem? hl)) n hn16 false q hq y
        have HQ := Lib.hid hq
        clear hc hl hq
        cases q with
        | true =>
          go_wp2_with (go_at_call 154; with_reducible refine Calls.mono (C _) ?_; rintro e w' ⟨rfl, yy, rfl⟩)
          go_roundw
          case rel =>
            refine ⟨k + 1, by go_num, by omega, ⟨yy, rfl⟩, fun i hi u hu => ?_⟩
            by_cases e : i = k
            · subst e
              rw [HL.out] at hu
              cases hu
              exact (rule_wt hn0 _).1 (by have q9 := HQ.out; simpa using q9)
            · exact HU.out i (by omega) u hu
          case measure => simp [intOf]; omega
        | false =>
          go_wp2_with (go_at_call 154; with_reducible refine Calls.mono (C _) ?_; rintro e w' ⟨rfl, yy, rfl⟩)
          go_ret
          refine fin_false HP (fun z => ?_) (hback yy)
          exact absurd ((rule_wt hn0 _).2 (z.2 _ (List.mem_of_getElem? HL.out))) (by have q9 := HQ.out; simpa using q9)
      · have hke : k = ls.length := by omega
        have HK := Lib.hid hke
        clear hke
        go_wp2
        go_ret
        exact fin_true HP ⟨by omega, ctx_all HU.out HK.out⟩ (hback yy)

set_option maxHeartbeats 1600000 in
theorem isContext_ans {W : World} {r : Ref} {s : Sys} (h : SysIn W r s) (F : Forms W) {a : Option Addr} {c : Nat} {ls : List (List Int)} {hd : Nat → Option Addr × Nat} (hl : LsIn W a ls hd) (hw : ∀ l ∈ ls, CodesB l) (p : Bool) (hp : p = true ↔ IsCtxP s ls) (x : Ext W) :
    Calls Tryd.prog 50 #[r.val s, .slice a ls.length c] x.w (Ans W (.bool p)) := by
  have HP := Lib.hid hp
  clear hp
  unfold Ref.val
  by_cases is : IsSys s
  · have IS := Lib.hid is
    have hn0 : 0 ≤ s.n := by have := is.tab.lo; omega
    have hn16 : s.n ≤ 16 := by have := is.tab.hi; omega
    clear is
    obtain ⟨q, hq⟩ := bool_of (CtxL s.n ls)
    have HQ := Lib.hid hq
    clear hq
    go_enter Tryd.func50, Tryd.ntmps50
    go_wp2_with fail
    generalize hW : x.w.alloc _ = W1
    generalize hB : x.w.heap.size = B
    obtain ⟨c0, c1, c2, c3, h1, hback, yy, hy0⟩ := boxed h x hB hW
    have hls : LsIn W1 a ls hd := by rw [← hW]; exact hl.ext (x.alloc _)
    have FF : Forms W1 := by rw [← hW]; exact F.ext (x.alloc _)
    clear hW hB
    rw [← hy0]
    clear hy0
    go_wp2_with (first | (go_at_call 102; with_reducible refine Calls.mono (isSystem_ans h1 true (by refine iff_tf ?_; dsimp only; exact IS.out) _) ?_; rintro e w' ⟨rfl, yy, rfl⟩) | (go_at_call 103; with_reducible refine Calls.mono (ruleOf_ans h1 _) ?_; rintro e w' ⟨rfl, yy, rfl⟩) | (go_at_call 104; with_reducible refine Calls.mono (allowsContext_ans FF hls hw s.n hn0 hn16 q HQ.out _) ?_; rintro e w' ⟨rfl, yy, rfl⟩))
    go_ret
    cases q with
    | true => exact fin_true HP ⟨IS.out, HQ.out.1 rfl⟩ (hback yy)
    | false => exact fin_false HP (fun z => by have := HQ.out.2 z.2; cases this) (hback yy)
  · have IS := Lib.hid is
    clear is
    go_enter Tryd.func50, Tryd.ntmps50
    go_wp2_with fail
    generalize hW : x.w.alloc _ = W1
    generalize hB : x.w.heap.size = B
    obtain ⟨c0, c1, c2, c3, h1, hback, yy, hy0⟩ := boxed h x hB hW
    clear hW hB
    rw [← hy0]
    clear hy0
    go_wp2_with (go_at_call 102; with_reducible refine Calls.mono (isSystem_ans h1 false (by refine iff_tf ?_; dsimp only; exact IS.out) _) ?_; rintro e w' ⟨rfl, yy, rfl⟩)
    go_ret
    exact fin_false HP (fun z => IS.out z.1) (hback yy)

set_option maxHeartbeats 4000000 in
theorem l3Context_ans {W : World} {r : Ref} {s : Sys} (h : SysIn W r s) {a : Option Addr} {c : Nat} {ls : List (List Int)} {hd : Nat → Option Addr × Nat} (hl : LsIn W a ls hd) (p : Bool) (hp : p = true ↔ CtxL s.n ls) (x : Ext W) :
    Calls Tryd.prog 47 #[r.val s, .slice a ls.length c] x.w (Ans W (.bool p)) := by
  have HP := Lib.hid hp
  clear hp
  have hall := hl.all
  unfold Ref.val
  by_cases h8 : (8 : Int) < (ls.length : Int)
  · go_enter Tryd.func47, Tryd.ntmps47
    go_wp2
    go_ret
    exact fin_false HP (fun q => by have := q.1; omega) ⟨x.alloc _, rfl⟩
  · go_enter Tryd.func47, Tryd.ntmps47
    go_wp2
    generalize hW : x.w.alloc _ = W1
    generalize hB : x.w.heap.size = B
    obtain ⟨c0, c1, c2, c3, h1, hback, yy, hy0⟩ := boxed h x hB hW
    have hls : LsIn W1 a ls hd := by rw [← hW]; exact hl.ext (x.alloc _)
    clear hW hB hl
    rw [← hy0]
    clear hy0
    go_loopw [5] (fun i wr => ∃ k : Nat, i = .int .i64 k ∧ k ≤ ls.length ∧ (∃ y : Ext W1, wr = y.w) ∧ Hid (∀ i, i < k → ∀ l, ls[i]? = some l → WT l ∧ Grs s.n true l)) (fun i _ => ls.length - (intOf i).toNat)
    case atStart => exact ⟨0, rfl, by omega, ⟨yy, rfl⟩, fun i hi => by omega⟩
    case round =>
      obtain ⟨k, rfl, hk, ⟨yy, rfl⟩, HU⟩ := hrel
      by_cases hlt : k < ls.length
      · have hlt' : (k : Int) < (ls.length : Int) := by omega
        obtain ⟨l, hl⟩ : ∃ l, ls[k]? = some l := ⟨_, List.getElem?_eq_getElem hlt⟩
        have HL := Lib.hid hl
        obtain ⟨b1, o1, rfl, hc⟩ := hls.row.at (i := k) (by rw [hds_len]; exact hlt)
        have cl : ∀ y : Ext W1, y.w.cell? ⟨b1, o1 + k, none⟩ = some (.slice (hd k).1 l.length (hd k).2) := fun y => y.cell (hc k _ (hds_at hl hd))
        have hln := hls.len k l hl
        have hsb := hls.sub k l hl
        clear hc hl
        by_cases iw : WT l
        · have CT : ∀ y : Ext W1, Calls Tryd.prog 80 #[.slice (hd k).1 l.length (hd k).2] y.w (Ans W1 (.bool true)) := fun y => l2Type_ans hsb hln true (by simpa using iw) y
          have IW := Lib.hid iw
          clear iw
          by_cases ig : Grs s.n true l
          · have CG : ∀ y : Ext W1, Calls Tryd.prog 99 #[.slice (hd k).1 l.length (hd k).2, .int .i64 s.n, .bool true] y.w (Ans W1 (.bool true)) := fun y => l2Graded_ans hsb hln s.n true true (by simpa using ig) y
            have IG := Lib.hid ig
            clear ig hsb
            go_wp2
            refine region_ext yy (by kernel_rfl) (by kernel_rfl) ?_
            repeat (go_big_quiet_step (first | (go_at_call 80; with_reducible exact CT _) | (go_at_call 99; with_reducible exact CG _)))
            refine wpQuiet_nil ?_
            rintro _ ⟨yy, rfl⟩
            go_wp2
            go_roundw
            case rel =>
              refine ⟨k + 1, by go_num, by omega, ⟨yy, rfl⟩, fun i hi u hu => ?_⟩
              by_cases e : i = k
              · subst e
                rw [HL.out] at hu
                cases hu
                exact ⟨IW.out, IG.out⟩
              · exact HU.out i (by omega) u hu
            case measure => simp [intOf]; omega
          · have CG : ∀ y : Ext W1, Calls Tryd.prog 99 #[.slice (hd k).1 l.length (hd k).2, .int .i64 s.n, .bool true] y.w (Ans W1 (.bool false)) := fun y => l2Graded_ans hsb hln s.n true false (by simpa using ig) y
            have IG := Lib.hid ig
            clear ig hsb
            go_wp2
            refine region_ext yy (by kernel_rfl) (by kernel_rfl) ?_
            repeat (go_big_quiet_step (first | (go_at_call 80; with_reducible exact CT _) | (go_at_call 99; with_reducible exact CG _)))
            refine wpQuiet_nil ?_
            rintro _ ⟨yy, rfl⟩
            go_wp2
            go_ret
            exact fin_false HP (fun z => IG.out (z.2 _ (List.mem_of_getElem? HL.out)).2) (hback yy)
        · have CT : ∀ y : Ext W1, Calls Tryd.prog 80 #[.slice (hd k).1 l.length (hd k).2] y.w (Ans W1 (.bool false)) := fun y => l2Type_ans hsb hln false (by simpa using iw) y
          have IW := Lib.hid iw
          clear iw hsb
          go_wp2
          refine region_ext yy (by kernel_rfl) (by kernel_rfl) ?_
          repeat (go_big_quiet_step ((go_at_call 80; with_reducible exact CT _)))
          refine wpQuiet_nil ?_
          rintro _ ⟨yy, rfl⟩
          go_wp2
          go_ret
          exact fin_false HP (fun z => IW.out (z.2 _ (List.mem_of_getElem? HL.out)).1) (hback yy)
      · have hke : k = ls.length := by omega
        have HK := Lib.hid hke
        clear hke
        go_wp2
        go_ret
        exact fin_true HP ⟨by omega, ctx_all HU.out HK.out⟩ (hback yy)
end Go.Proofs.YteffcfaoganciaaDoor
