
/- The program's IsType and IsData. -/
import Derived.Test.YtmifnhblhggflaaDoorTypeI
namespace Go.Proofs.YtmifnhblhggflaaDoor
open Go.RowKit

theorem ruleOf_ans {W : World} {r : Ref} {s : Sys} (h : SysIn W r s) (x : Ext W) :
    Calls Tryd.prog 128 #[r.val s] x.w (Ans W (.agg #[.int .i64 s.n, .bool false])) := by
  unfold Ref.val
  go_enter Tryd.func128, Tryd.ntmps128
  go_wp2
  generalize hY : (x.w.alloc _).alloc _ = Y
  obtain ⟨_, q2, _, bel⟩ := blocks2 rfl hY
  have r0 := blk_cell q2 0
  have r1 := blk_cell q2 1
  simp at r0 r1
  refine bodyPost_ret (v := .agg #[.int .i64 s.n, .bool false]) (by simp [results, Tryd.results128, go_sem, r0, r1]) rfl ?_
  exact ⟨rfl, x.on bel, rfl⟩
theorem isType_iff {s : Sys} {l : List Int} (hn : 0 ≤ s.n) : (IsSys s ∧ RuleP s.n false l) ↔ IsTypeP s l := by
  unfold IsTypeP RuleP
  rw [ruleP_grs hn]
  rfl

set_option maxHeartbeats 1600000 in
theorem isType_ans {W : World} {r : Ref} {s : Sys} (h : SysIn W r s) (F : Forms W) {a : Option Addr} {c : Nat} {l : List Int} (hr : Row W (Value.int .i64) a l) (p : Bool) (hp : p = true ↔ IsTypeP s l) (x : Ext W) :
    Calls Tryd.prog 99 #[r.val s, .slice a l.length c] x.w (Ans W (.bool p)) := by
  have HP := Lib.hid hp
  clear hp
  unfold Ref.val
  by_cases is : IsSys s
  · have IS := Lib.hid is
    clear is
    by_cases ir : RuleP s.n false l
    · have IR := Lib.hid ir
      clear ir
      go_enter Tryd.func99, Tryd.ntmps99
      go_wp2_with fail
      generalize hW : x.w.alloc _ = W1
      generalize hB : x.w.heap.size = B
      obtain ⟨c0, c1, c2, c3, h1, hback, yy, hy0⟩ := boxed h x hB hW
      have hrow : Row W1 (Value.int .i64) a l := by rw [← hW]; exact hr.ext (x.alloc _)
      have FF : Forms W1 := by rw [← hW]; exact F.ext (x.alloc _)
      clear hW hB
      rw [← hy0]
      clear hy0
      go_wp2_with (first | (go_at_call 127; with_reducible refine Calls.mono (isSystem_ans h1 true (by refine iff_tf ?_; dsimp only; exact IS.out) _) ?_; rintro e w' ⟨rfl, yy, rfl⟩) | (go_at_call 128; with_reducible refine Calls.mono (ruleOf_ans h1 _) ?_; rintro e w' ⟨rfl, yy, rfl⟩) | (go_at_call 106; with_reducible refine Calls.mono (allowsType_ans FF hrow s.n false true (by refine iff_tf ?_; dsimp only; exact IR.out) _) ?_; rintro e w' ⟨rfl, yy, rfl⟩))
      go_ret
      exact fin_true HP ((isType_iff (by have := IS.out.tab.lo; omega)).1 ⟨IS.out, IR.out⟩) (hback yy)
    · have IR := Lib.hid ir
      clear ir
      go_enter Tryd.func99, Tryd.ntmps99
      go_wp2_with fail
      generalize hW : x.w.alloc _ = W1
      generalize hB : x.w.heap.size = B
      obtain ⟨c0, c1, c2, c3, h1, hback, yy, hy0⟩ := boxed h x hB hW
      have hrow : Row W1 (Value.int .i64) a l := by rw [← hW]; exact hr.ext (x.alloc _)
      have FF : Forms W1 := by rw [← hW]; exact F.ext (x.alloc _)
      clear hW hB
      rw [← hy0]
      clear hy0
      go_wp2_with (first | (go_at_call 127; with_reducible refine Calls.mono (isSystem_ans h1 true (by refine iff_tf ?_; dsimp only; exact IS.out) _) ?_; rintro e w' ⟨rfl, yy, rfl⟩) | (go_at_call 128; with_reducible refine Calls.mono (ruleOf_ans h1 _) ?_; rintro e w' ⟨rfl, yy, rfl⟩) | (go_at_call 106; with_reducible refine Calls.mono (allowsType_ans FF hrow s.n false false (by refine iff_tf ?_; dsimp only; exact IR.out) _) ?_; rintro e w' ⟨rfl, yy, rfl⟩))
      go_ret
      exact fin_false HP (fun q => IR.out ((isType_iff (by have := IS.out.tab.lo; omega)).2 q).2) (hback yy)
  · have IS := Lib.hid is
    clear is
    go_enter Tryd.func99, Tryd.ntmps99
    go_wp2_with fail
    generalize hW : x.w.alloc _ = W1
    generalize hB : x.w.heap.size = B
    obtain ⟨c0, c1, c2, c3, h1, hback, yy, hy0⟩ := boxed h x hB hW
    have hrow : Row W1 (Value.int .i64) a l := by rw [← hW]; exact hr.ext (x.alloc _)
    have FF : Forms W1 := by rw [← hW]; exact F.ext (x.alloc _)
    clear hW hB
    rw [← hy0]
    clear hy0
    go_wp2_with ((go_at_call 127; with_reducible refine Calls.mono (isSystem_ans h1 false (by refine iff_tf ?_; dsimp only; exact IS.out) _) ?_; rintro e w' ⟨rfl, yy, rfl⟩))
    go_ret
    exact fin_false HP (fun q => IS.out q.1) (hback yy)

theorem fin_dec {W : World} {p : Bool} {Q : Prop} {v : Int} (HP : Hid (p = true ↔ Q)) (hv : 0 ≤ v ↔ Q) {w : World} (hz : ∃ z : Ext W, w = z.w) : Ans W (.bool p) (.returned (.bool (decide (0 ≤ v)))) w := by
  have : p = decide (0 ≤ v) := by
    rw [Bool.eq_iff_iff, HP.out, ← hv]
    simp
  subst this
  exact ⟨rfl, hz⟩

set_option maxHeartbeats 1600000 in
theorem indexArrow_ans {W : World} (F : Forms W) {a : Option Addr} {c : Nat} {l : List Int} (hr : Row W (Value.int .i64) a l) (hl : l.length ≤ 1099511627776) (x : Ext W) :
    Calls Tryd.prog 137 #[.slice a l.length c, (.func (.func 122) #[] #[])] x.w (fun e w' => ∃ v : Int, (0 ≤ v ↔ ∃ u ∈ l, Arr u) ∧ e = .returned (.int .i64 v) ∧ ∃ y : Ext W, w' = y.w) := by
  obtain ⟨yy, hyy⟩ : ∃ y : Ext W, x = y := ⟨x, rfl⟩
  rw [hyy]
  clear hyy
  go_enter Tryd.func137, Tryd.ntmps137
  go_wp2
  go_loopw [8] (fun i wr => ∃ k : Nat, i = .int .i64 k ∧ k ≤ l.length ∧ (∃ y : Ext W, wr = y.w) ∧ Hid (∀ j u, j < k → l[j]? = some u → ¬ Arr u)) (fun i _ => l.length - (intOf i).toNat)
  case atStart => exact ⟨0, rfl, by omega, ⟨yy, rfl⟩, upto_none _ _⟩
  case round =>
    obtain ⟨k, rfl, hk, ⟨yy, rfl⟩, HU⟩ := hrel
    by_cases hlt : k < l.length
    · have hlt' : (k : Int) < (l.length : Int) := by omega
      obtain ⟨b0, o0, rfl, hc⟩ := hr.at hlt
      have HC : Hid (l[k]? = some l[k]) := List.getElem?_eq_getElem hlt
      have cc : ∀ y : Ext W, y.w.cell? ⟨b0, o0 + k, none⟩ = some (.int .i64 l[k]) := fun y => y.cell (hc k _ HC.out)
      clear hc
      generalize l[k] = c at *
      by_cases ha : Arr c
      · have HG := Lib.hid ha
        clear ha
        go_wp2_with (go_at_call 122; with_reducible refine Calls.mono (isArrow_ans F c true (by refine iff_tf ?_; dsimp only; exact HG.out) _) ?_; rintro e w' ⟨rfl, yy, rfl⟩)
        go_ret
        exact ⟨_, ⟨fun _ => ⟨c, List.mem_of_getElem? HC.out, HG.out⟩, fun _ => by omega⟩, rfl, yy, rfl⟩
      · have HG := Lib.hid ha
        clear ha
        go_wp2_with (go_at_call 122; with_reducible refine Calls.mono (isArrow_ans F c false (by refine iff_tf ?_; dsimp only; exact HG.out) _) ?_; rintro e w' ⟨rfl, yy, rfl⟩)
        go_roundw
        case rel => exact ⟨k + 1, by go_num, by omega, ⟨yy, rfl⟩, upto_next HU HC HG⟩
        case measure => simp [intOf]; omega
    · go_wp2
      go_ret
      exact ⟨_, ⟨fun q => by omega, fun ⟨u, hu, hq⟩ => absurd hq (upto_all HU (by omega) u hu)⟩, rfl, yy, rfl⟩

set_option maxHeartbeats 1600000 in
theorem containsArrow_ans {W : World} (F : Forms W) {a : Option Addr} {c : Nat} {l : List Int} (hr : Row W (Value.int .i64) a l) (hl : l.length ≤ 1099511627776) (p : Bool) (hp : p = true ↔ ∃ u ∈ l, Arr u) (x : Ext W) :
    Calls Tryd.prog 121 #[.slice a l.length c, (.func (.func 122) #[] #[])] x.w (Ans W (.bool p)) := by
  have HP := Lib.hid hp
  clear hp
  obtain ⟨yy, hyy⟩ : ∃ y : Ext W, x = y := ⟨x, rfl⟩
  rw [hyy]
  clear hyy
  go_enter Tryd.func121, Tryd.ntmps121
  go_wp2_with (go_at_call 137; with_reducible refine Calls.mono (indexArrow_ans F hr hl _) ?_; rintro e w' ⟨v, hv, rfl, yy, rfl⟩; have HV := Lib.hid hv; clear hv)
  go_ret
  exact fin_dec HP HV.out ⟨yy, rfl⟩

set_option maxHeartbeats 1600000 in
theorem isData_ans {W : World} {r : Ref} {s : Sys} (h : SysIn W r s) (F : Forms W) {a : Option Addr} {c : Nat} {l : List Int} (hr : Row W (Value.int .i64) a l) (hl : l.length ≤ 1099511627776) (p : Bool) (hp : p = true ↔ IsDataP s l) (x : Ext W) :
    Calls Tryd.prog 85 #[r.val s, .slice a l.length c] x.w (Ans W (.bool p)) := by
  have HP := Lib.hid hp
  clear hp
  unfold Ref.val
  by_cases it : IsTypeP s l
  · have IT := Lib.hid it
    clear it
    by_cases ia : ∃ u ∈ l, Arr u
    · have IA := Lib.hid ia
      clear ia
      go_enter Tryd.func85, Tryd.ntmps85
      go_wp2_with fail
      generalize hW : x.w.alloc _ = W1
      generalize hB : x.w.heap.size = B
      obtain ⟨c0, c1, c2, c3, h1, hback, yy, hy0⟩ := boxed h x hB hW
      have hrow : Row W1 (Value.int .i64) a l := by rw [← hW]; exact hr.ext (x.alloc _)
      have FF : Forms W1 := by rw [← hW]; exact F.ext (x.alloc _)
      clear hW hB
      rw [← hy0]
      clear hy0
      go_wp2_with (first | (go_at_call 99; with_reducible refine Calls.mono (isType_ans h1 FF hrow true (by refine iff_tf ?_; dsimp only; exact IT.out) _) ?_; rintro e w' ⟨rfl, yy, rfl⟩) | (go_at_call 121; with_reducible refine Calls.mono (containsArrow_ans FF hrow hl true (by refine iff_tf ?_; dsimp only; exact IA.out) _) ?_; rintro e w' ⟨rfl, yy, rfl⟩))
      go_ret
      exact fin_false HP (fun q => IA.out.elim fun u hu => q.2 u hu.1 hu.2) (hback yy)
    · have IA := Lib.hid ia
      clear ia
      go_enter Tryd.func85, Tryd.ntmps85
      go_wp2_with fail
      generalize hW : x.w.alloc _ = W1
      generalize hB : x.w.heap.size = B
      obtain ⟨c0, c1, c2, c3, h1, hback, yy, hy0⟩ := boxed h x hB hW
      have hrow : Row W1 (Value.int .i64) a l := by rw [← hW]; exact hr.ext (x.alloc _)
      have FF : Forms W1 := by rw [← hW]; exact F.ext (x.alloc _)
      clear hW hB
      rw [← hy0]
      clear hy0
      go_wp2_with (first | (go_at_call 99; with_reducible refine Calls.mono (isType_ans h1 FF hrow true (by refine iff_tf ?_; dsimp only; exact IT.out) _) ?_; rintro e w' ⟨rfl, yy, rfl⟩) | (go_at_call 121; with_reducible refine Calls.mono (containsArrow_ans FF hrow hl false (by refine iff_tf ?_; dsimp only; exact IA.out) _) ?_; rintro e w' ⟨rfl, yy, rfl⟩))
      go_ret
      exact fin_true HP (⟨IT.out, fun u hu ha => IA.out ⟨u, hu, ha⟩⟩) (hback yy)
  · have IT := Lib.hid it
    clear it
    go_enter Tryd.func85, Tryd.ntmps85
    go_wp2_with fail
    generalize hW : x.w.alloc _ = W1
    generalize hB : x.w.heap.size = B
    obtain ⟨c0, c1, c2, c3, h1, hback, yy, hy0⟩ := boxed h x hB hW
    have hrow : Row W1 (Value.int .i64) a l := by rw [← hW]; exact hr.ext (x.alloc _)
    have FF : Forms W1 := by rw [← hW]; exact F.ext (x.alloc _)
    clear hW hB
    rw [← hy0]
    clear hy0
    go_wp2_with ((go_at_call 99; with_reducible refine Calls.mono (isType_ans h1 FF hrow false (by refine iff_tf ?_; dsimp only; exact IT.out) _) ?_; rintro e w' ⟨rfl, yy, rfl⟩))
    go_ret
    exact fin_false HP (fun q => IT.out q.1) (hback yy)

end Go.Proofs.YtmifnhblhggflaaDoor
