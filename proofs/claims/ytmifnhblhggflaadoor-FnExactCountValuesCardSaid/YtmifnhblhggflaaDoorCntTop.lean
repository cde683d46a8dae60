
/- CountValues, of the program and of the model. -/
import Derived.Test.YtmifnhblhggflaaDoorCntP
import Derived.Test.YtmifnhblhggflaaDoorTypeT
namespace Go.Proofs.YtmifnhblhggflaaDoor
open Go.RowKit

/-- What CountValues answers. -/
def CntV (s : Sys) (l : List Int) (v : Int) : Prop := (IsDataP s l ∧ ∃ T : Ty, T.Ok ∧ T.Data ∧ l = T.enc ∧ ((T.cnt ≤ 300 ∧ v = T.cnt) ∨ (300 < T.cnt ∧ v = -1))) ∨ (¬ IsDataP s l ∧ v = -1)
theorem IsDataP.tree {s : Sys} {l : List Int} (h : IsDataP s l) : ∃ T : Ty, T.Ok ∧ T.Data ∧ l = T.enc ∧ T.enc.length ≤ 40 := by
  obtain ⟨T, h1, h2⟩ := h.1.2.1.tree
  refine ⟨T, h1, Ty.data_of h1 (by rw [← h2]; exact h.2), h2, ?_⟩
  rw [← h2]
  exact h.1.2.1.1
theorem cntV_ex (s : Sys) (l : List Int) : ∃ v, CntV s l v := by
  by_cases h : IsDataP s l
  · obtain ⟨T, h1, h2, h3, h4⟩ := h.tree
    by_cases hc : T.cnt ≤ 300
    · exact ⟨_, .inl ⟨h, T, h1, h2, h3, .inl ⟨hc, rfl⟩⟩⟩
    · exact ⟨_, .inl ⟨h, T, h1, h2, h3, .inr ⟨by omega, rfl⟩⟩⟩
  · exact ⟨-1, .inr ⟨h, rfl⟩⟩

set_option maxHeartbeats 4000000 in
theorem countValues_ans {W : World} (FO : Forms W) {r : Ref} {s : Sys} (h : SysIn W r s) {b o c : Nat} {l : List Int} (hl : l.length ≤ 1099511627776) {a : Option Addr} (hr : Row W (Value.int .i64) a l) (hc : l.length ≤ c) (ha : l ≠ [] → a = some ⟨b, o, none⟩) (v : Int) (hv : CntV s l v) (x : Ext W) :
    Calls Tryd.prog 45 #[r.val s, .slice a l.length c] x.w (Ans W (.int .i64 v)) := by
  unfold Ref.val
  rcases hv with ⟨hd, T, hok, hdt, rfl, hv⟩ | ⟨hd, rfl⟩
  · have HD := Lib.hid hd
    have hl40 : T.enc.length ≤ 40 := hd.1.2.1.1
    obtain rfl : a = some ⟨b, o, none⟩ := ha (by exact fun e => by have := T.enc_pos; rw [e] at this; simp at this)
    clear hd ha
    go_enter Tryd.func45, Tryd.ntmps45
    go_wp2_with fail
    generalize hW : x.w.alloc _ = W1
    generalize hB : x.w.heap.size = B
    obtain ⟨c0, c1, c2, c3, h1, hback, yy, hy0⟩ := boxed h x hB hW
    have hrow : Row W1 (Value.int .i64) (some ⟨b, o, none⟩) T.enc := by rw [← hW]; exact hr.ext (x.alloc _)
    have FF : Forms W1 := by rw [← hW]; exact FO.ext (x.alloc _)
    clear hW hB
    rw [← hy0]
    clear hy0
    have CT : ∀ y : Ext W1, Calls Tryd.prog 86 #[.slice (some ⟨b, o, none⟩) T.enc.length c] y.w (Ans W1 (.int .i64 (T.cnt : Nat))) := fun y => by
      exact Calls.mono (countOf_ans T hok hdt (FF.ext y) (hrow.ext y) hl40 hc (Ext.self y.w)) fun _ _ q => ans_lift (z := y) q
    have HOK := Lib.hid hok
    have HDT := Lib.hid hdt
    clear hok hdt hl40
    rcases hv with ⟨hv, rfl⟩ | ⟨hv, rfl⟩
    · have hv' : ¬ (300 : Int) < (T.cnt : Int) := by omega
      go_wp2_with (first | (go_at_call 85; with_reducible refine Calls.mono (isData_ans h1 FF hrow hl true (by refine iff_tf ?_; dsimp only; exact HD.out) _) ?_; rintro e w' ⟨rfl, yy, rfl⟩) | (go_at_call 86; (with_reducible refine Calls.mono (CT _) ?_); rintro e w' ⟨rfl, yy, rfl⟩))
      go_ret
      exact ⟨rfl, hback yy⟩
    · have hv' : (300 : Int) < (T.cnt : Int) := by omega
      go_wp2_with (first | (go_at_call 85; with_reducible refine Calls.mono (isData_ans h1 FF hrow hl true (by refine iff_tf ?_; dsimp only; exact HD.out) _) ?_; rintro e w' ⟨rfl, yy, rfl⟩) | (go_at_call 86; (with_reducible refine Calls.mono (CT _) ?_); rintro e w' ⟨rfl, yy, rfl⟩))
      go_ret
      exact ⟨rfl, hback yy⟩
  · have HD := Lib.hid hd
    clear hd
    go_enter Tryd.func45, Tryd.ntmps45
    go_wp2_with fail
    generalize hW : x.w.alloc _ = W1
    generalize hB : x.w.heap.size = B
    obtain ⟨c0, c1, c2, c3, h1, hback, yy, hy0⟩ := boxed h x hB hW
    have hrow : Row W1 (Value.int .i64) a l := by rw [← hW]; exact hr.ext (x.alloc _)
    have FF : Forms W1 := by rw [← hW]; exact FO.ext (x.alloc _)
    clear hW hB
    rw [← hy0]
    clear hy0
    go_wp2_with (go_at_call 85; with_reducible refine Calls.mono (isData_ans h1 FF hrow hl false (by refine iff_tf ?_; dsimp only; exact HD.out) _) ?_; rintro e w' ⟨rfl, yy, rfl⟩)
    go_ret
    exact ⟨rfl, hback yy⟩

set_option maxHeartbeats 4000000 in
theorem specCountValues_ans {W : World} {r : Ref} {s : Sys} (h : SysIn W r s) {b o c : Nat} {l : List Int} (hl : l.length ≤ 1099511627776) {a : Option Addr} (hr : Row W (Value.int .i64) a l) (hc : l.length ≤ c) (ha : l ≠ [] → a = some ⟨b, o, none⟩) (v : Int) (hv : CntV s l v) (x : Ext W) :
    Calls Tryd.prog 43 #[r.val s, .slice a l.length c] x.w (Ans W (.int .i64 v)) := by
  unfold Ref.val
  rcases hv with ⟨hd, T, hok, hdt, rfl, hv⟩ | ⟨hd, rfl⟩
  · have HD := Lib.hid hd
    have hl40 : T.enc.length ≤ 40 := hd.1.2.1.1
    obtain rfl : a = some ⟨b, o, none⟩ := ha (by exact fun e => by have := T.enc_pos; rw [e] at this; simp at this)
    clear hd ha
    go_enter Tryd.func43, Tryd.ntmps43
    go_wp2_with fail
    generalize hW : x.w.alloc _ = W1
    generalize hB : x.w.heap.size = B
    obtain ⟨c0, c1, c2, c3, h1, hback, yy, hy0⟩ := boxed h x hB hW
    have hrow : Row W1 (Value.int .i64) (some ⟨b, o, none⟩) T.enc := by rw [← hW]; exact hr.ext (x.alloc _)
    clear hW hB
    rw [← hy0]
    clear hy0
    have CT : ∀ y : Ext W1, Calls Tryd.prog 83 #[.slice (some ⟨b, o, none⟩) T.enc.length c] y.w (Ans W1 (.int .i64 (T.cap : Nat))) := fun y => by
      exact Calls.mono (l5Count_ans T hok hdt (hrow.ext y) hl40 hc (Ext.self y.w)) fun _ _ q => ans_lift (z := y) q
    have HOK := Lib.hid hok
    have HDT := Lib.hid hdt
    clear hok hdt hl40
    rcases hv with ⟨hv, rfl⟩ | ⟨hv, rfl⟩
    · have he : T.cap = T.cnt := by unfold Ty.cap; omega
      rw [he] at CT
      have hv' : ¬ (300 : Int) < (T.cnt : Int) := by omega
      clear he
      go_wp2_with (first | (go_at_call 82; with_reducible refine Calls.mono (specIsData_ans h1 hrow hl true (by refine iff_tf ?_; dsimp only; exact HD.out) _) ?_; rintro e w' ⟨rfl, yy, rfl⟩) | (go_at_call 83; (with_reducible refine Calls.mono (CT _) ?_); rintro e w' ⟨rfl, yy, rfl⟩))
      go_ret
      exact ⟨rfl, hback yy⟩
    · have he : T.cap = 301 := by unfold Ty.cap; omega
      rw [he] at CT
      clear he
      go_wp2_with (first | (go_at_call 82; with_reducible refine Calls.mono (specIsData_ans h1 hrow hl true (by refine iff_tf ?_; dsimp only; exact HD.out) _) ?_; rintro e w' ⟨rfl, yy, rfl⟩) | (go_at_call 83; (with_reducible refine Calls.mono (CT _) ?_); rintro e w' ⟨rfl, yy, rfl⟩))
      go_ret
      exact ⟨rfl, hback yy⟩
  · have HD := Lib.hid hd
    clear hd
    go_enter Tryd.func43, Tryd.ntmps43
    go_wp2_with fail
    generalize hW : x.w.alloc _ = W1
    generalize hB : x.w.heap.size = B
    obtain ⟨c0, c1, c2, c3, h1, hback, yy, hy0⟩ := boxed h x hB hW
    have hrow : Row W1 (Value.int .i64) a l := by rw [← hW]; exact hr.ext (x.alloc _)
    clear hW hB
    rw [← hy0]
    clear hy0
    go_wp2_with (go_at_call 82; with_reducible refine Calls.mono (specIsData_ans h1 hrow hl false (by refine iff_tf ?_; dsimp only; exact HD.out) _) ?_; rintro e w' ⟨rfl, yy, rfl⟩)
    go_ret
    exact ⟨rfl, hback yy⟩

end Go.Proofs.YtmifnhblhggflaaDoor
