
/- CountSeen, of the program and of the model. -/
import Derived.Test.YteffcfaoganciaaDoorKSeenM
import Derived.Test.YteffcfaoganciaaDoorKViewTop
set_option linter.unusedVariables false
set_option linter.unusedSimpArgs false
namespace Go.Proofs.YteffcfaoganciaaDoor
open Go.RowKit

set_option maxHeartbeats 4000000 in
theorem countSeen_ans {W : World} (FO : Forms W) {r : Ref} {s : Sys} (h : SysIn W r s) {aq : Option Addr} {cq : Nat} {q : List Int} (hq : Row W (Value.int .i64) aq q) (hql : q.length ≤ 1099511627776) {b o c : Nat} {l : List Int} (hl : l.length ≤ 1099511627776) {a : Option Addr} (hr : Row W (Value.int .i64) a l) (hw : CodesB l) (hc : l.length ≤ c) (ha : l ≠ [] → a = some ⟨b, o, none⟩) (v : Int) (hv : SeenV s q l v) (x : Ext W) :
    Calls Tryd.prog 34 #[r.val s, .slice aq q.length cq, .slice a l.length c] x.w (Ans W (.int .i64 v)) := by
  unfold Ref.val
  obtain ⟨n, hn, hv⟩ := hv
  have HN := Lib.hid hn
  clear hn
  rcases hv with ⟨hvw, h0, T, hok, hdt, hcl, rfl, hl40, rfl⟩ | ⟨hvw, rfl, rfl⟩ | ⟨hvw, rfl⟩
  · have HV := Lib.hid hvw
    clear hvw
    obtain rfl : a = some ⟨b, o, none⟩ := ha (by exact fun e => by have := T.enc_pos; rw [e] at this; simp at this)
    go_enter Tryd.func34, Tryd.ntmps34
    go_wp2_with fail
    generalize hW : x.w.alloc _ = W1
    generalize hB : x.w.heap.size = B
    obtain ⟨c0, c1, c2, c3, h1, hback, yy, hy0⟩ := boxed h x hB hW
    have hrow : Row W1 (Value.int .i64) (some ⟨b, o, none⟩) T.enc := by rw [← hW]; exact hr.ext (x.alloc _)
    have hqr : Row W1 (Value.int .i64) aq q := by rw [← hW]; exact hq.ext (x.alloc _)
    have FF : Forms W1 := by rw [← hW]; exact FO.ext (x.alloc _)
    clear hW hB
    rw [← hy0]
    clear hy0
    have IV : ∀ y : Ext W1, Calls Tryd.prog 75 #[.agg #[.int .i64 s.n, .slice r.pa s.plus.length r.pc, .slice r.ta s.times.length r.tc, .slice r.ba s.below.length r.bc], .slice aq q.length cq] y.w (Ans W1 (.bool true)) := fun y => isView_ans h1 hqr hql true (by simpa using HV.out) y
    have CV : ∀ y : Ext W1, Calls Tryd.prog 76 #[.agg #[.int .i64 s.n, .slice r.pa s.plus.length r.pc, .slice r.ta s.times.length r.tc, .slice r.ba s.below.length r.bc], .slice (some ⟨b, o, none⟩) T.enc.length c] y.w (Ans W1 (.int .i64 n)) := fun y => countValues_ans (b := b) (o := o) FF h1 hl hrow hw hc (fun _ => rfl) n HN.out y
    have hsm : ∀ g ∈ q, 0 ≤ g ∧ g < 16 := fun g hg => by
      have h2 := asc_range HV.out.2.1 g hg
      have h3 := HV.out.1.tab.hi
      omega
    have SO : ∀ y : Ext W1, Calls Tryd.prog 78 #[.slice aq q.length cq] y.w (Ans W1 (.int .u32 (setL q))) := fun y => setOf_ans hqr hql hsm y
    have CA : ∀ y : Ext W1, Calls Tryd.prog 77 #[.int .u32 (setL q), .slice (some ⟨b, o, none⟩) T.enc.length c] y.w (Ans W1 (.int .i64 (T.cntA (sees q) : Nat))) := fun y =>
      Calls.mono (countApart_ans (S := sees q) (sv := setL q) (fun g k0 k1 U z => has_is (setL_lt q hsm) ⟨k0, by omega⟩ (by
        have hb := setL_bit q (fun g hg => (hsm g hg).1) g.toNat
        unfold bitI sees
        rw [Bool.eq_iff_iff, hb, show ((g.toNat : Nat) : Int) = g by omega]
        simp) z) T hok hdt hcl (FF.ext y) (hrow.ext y) hl40 hc (Ext.self y.w)) fun _ _ p => ans_lift (z := y) p
    clear hsm
    have h0' : ¬ n < 0 := by omega
    go_wp2_with (first | (go_at_call 75; (with_reducible refine Calls.mono (IV _) ?_); rintro e w' ⟨rfl, yy, rfl⟩) | (go_at_call 76; (with_reducible refine Calls.mono (CV _) ?_); rintro e w' ⟨rfl, yy, rfl⟩) | (go_at_call 78; (with_reducible refine Calls.mono (SO _) ?_); rintro e w' ⟨rfl, yy, rfl⟩) | (go_at_call 77; (with_reducible refine Calls.mono (CA _) ?_); rintro e w' ⟨rfl, yy, rfl⟩))
    go_ret
    exact ⟨rfl, hback yy⟩
  · have HV := Lib.hid hvw
    clear hvw
    go_enter Tryd.func34, Tryd.ntmps34
    go_wp2_with fail
    generalize hW : x.w.alloc _ = W1
    generalize hB : x.w.heap.size = B
    obtain ⟨c0, c1, c2, c3, h1, hback, yy, hy0⟩ := boxed h x hB hW
    have hrow : Row W1 (Value.int .i64) a l := by rw [← hW]; exact hr.ext (x.alloc _)
    have hqr : Row W1 (Value.int .i64) aq q := by rw [← hW]; exact hq.ext (x.alloc _)
    have FF : Forms W1 := by rw [← hW]; exact FO.ext (x.alloc _)
    clear hW hB
    rw [← hy0]
    clear hy0
    have IV : ∀ y : Ext W1, Calls Tryd.prog 75 #[.agg #[.int .i64 s.n, .slice r.pa s.plus.length r.pc, .slice r.ta s.times.length r.tc, .slice r.ba s.below.length r.bc], .slice aq q.length cq] y.w (Ans W1 (.bool true)) := fun y => isView_ans h1 hqr hql true (by simpa using HV.out) y
    have CV : ∀ y : Ext W1, Calls Tryd.prog 76 #[.agg #[.int .i64 s.n, .slice r.pa s.plus.length r.pc, .slice r.ta s.times.length r.tc, .slice r.ba s.below.length r.bc], .slice a l.length c] y.w (Ans W1 (.int .i64 (-1))) := fun y => countValues_ans FF h1 hl hrow hw hc ha (-1) HN.out y
    go_wp2_with (first | (go_at_call 75; (with_reducible refine Calls.mono (IV _) ?_); rintro e w' ⟨rfl, yy, rfl⟩) | (go_at_call 76; (with_reducible refine Calls.mono (CV _) ?_); rintro e w' ⟨rfl, yy, rfl⟩))
    go_ret
    exact ⟨rfl, hback yy⟩
  · have HV := Lib.hid hvw
    clear hvw
    go_enter Tryd.func34, Tryd.ntmps34
    go_wp2_with fail
    generalize hW : x.w.alloc _ = W1
    generalize hB : x.w.heap.size = B
    obtain ⟨c0, c1, c2, c3, h1, hback, yy, hy0⟩ := boxed h x hB hW
    have hrow : Row W1 (Value.int .i64) a l := by rw [← hW]; exact hr.ext (x.alloc _)
    have hqr : Row W1 (Value.int .i64) aq q := by rw [← hW]; exact hq.ext (x.alloc _)
    have FF : Forms W1 := by rw [← hW]; exact FO.ext (x.alloc _)
    clear hW hB
    rw [← hy0]
    clear hy0
    have IV : ∀ y : Ext W1, Calls Tryd.prog 75 #[.agg #[.int .i64 s.n, .slice r.pa s.plus.length r.pc, .slice r.ta s.times.length r.tc, .slice r.ba s.below.length r.bc], .slice aq q.length cq] y.w (Ans W1 (.bool false)) := fun y => isView_ans h1 hqr hql false (by simpa using HV.out) y
    go_wp2_with (go_at_call 75; (with_reducible refine Calls.mono (IV _) ?_); rintro e w' ⟨rfl, yy, rfl⟩)
    go_ret
    exact ⟨rfl, hback yy⟩

set_option maxHeartbeats 4000000 in
theorem specCountSeen_ans {W : World} {r : Ref} {s : Sys} (h : SysIn W r s) {aq : Option Addr} {cq : Nat} {q : List Int} (hq : Row W (Value.int .i64) aq q) (hql : q.length ≤ 1099511627776) {b o c : Nat} {l : List Int} (hl : l.length ≤ 1099511627776) {a : Option Addr} (hr : Row W (Value.int .i64) a l) (hc : l.length ≤ c) (ha : l ≠ [] → a = some ⟨b, o, none⟩) (v : Int) (hv : SeenV s q l v) (x : Ext W) :
    Calls Tryd.prog 32 #[r.val s, .slice aq q.length cq, .slice a l.length c] x.w (Ans W (.int .i64 v)) := by
  unfold Ref.val
  obtain ⟨n, hn, hv⟩ := hv
  have HN := Lib.hid hn
  clear hn
  rcases hv with ⟨hvw, h0, T, hok, hdt, hcl, rfl, hl40, rfl⟩ | ⟨hvw, rfl, rfl⟩ | ⟨hvw, rfl⟩
  · have HV := Lib.hid hvw
    clear hvw
    obtain rfl : a = some ⟨b, o, none⟩ := ha (by exact fun e => by have := T.enc_pos; rw [e] at this; simp at this)
    go_enter Tryd.func32, Tryd.ntmps32
    go_wp2_with fail
    generalize hW : x.w.alloc _ = W1
    generalize hB : x.w.heap.size = B
    obtain ⟨c0, c1, c2, c3, h1, hback, yy, hy0⟩ := boxed h x hB hW
    have hrow : Row W1 (Value.int .i64) (some ⟨b, o, none⟩) T.enc := by rw [← hW]; exact hr.ext (x.alloc _)
    have hqr : Row W1 (Value.int .i64) aq q := by rw [← hW]; exact hq.ext (x.alloc _)
    clear hW hB
    rw [← hy0]
    clear hy0
    have IV : ∀ y : Ext W1, Calls Tryd.prog 71 #[.agg #[.int .i64 s.n, .slice r.pa s.plus.length r.pc, .slice r.ta s.times.length r.tc, .slice r.ba s.below.length r.bc], .slice aq q.length cq] y.w (Ans W1 (.bool true)) := fun y => specIsView_ans h1 hqr hql true (by simpa using HV.out) y
    have CV : ∀ y : Ext W1, Calls Tryd.prog 72 #[.agg #[.int .i64 s.n, .slice r.pa s.plus.length r.pc, .slice r.ta s.times.length r.tc, .slice r.ba s.below.length r.bc], .slice (some ⟨b, o, none⟩) T.enc.length c] y.w (Ans W1 (.int .i64 n)) := fun y => specCountValues_ans (b := b) (o := o) h1 hl hrow hc (fun _ => rfl) n HN.out y
    have CA : ∀ y : Ext W1, Calls Tryd.prog 73 #[.slice aq q.length cq, .slice (some ⟨b, o, none⟩) T.enc.length c] y.w (Ans W1 (.int .i64 (T.cntA (sees q) : Nat))) := fun y =>
      Calls.mono (l7Seen_ans hql T hok hdt (hqr.ext y) (hrow.ext y) hl40 hc (Ext.self y.w)) fun _ _ p => ans_lift (z := y) p
    have h0' : ¬ n < 0 := by omega
    go_wp2_with (first | (go_at_call 71; (with_reducible refine Calls.mono (IV _) ?_); rintro e w' ⟨rfl, yy, rfl⟩) | (go_at_call 72; (with_reducible refine Calls.mono (CV _) ?_); rintro e w' ⟨rfl, yy, rfl⟩) | (go_at_call 73; (with_reducible refine Calls.mono (CA _) ?_); rintro e w' ⟨rfl, yy, rfl⟩))
    go_ret
    exact ⟨rfl, hback yy⟩
  · have HV := Lib.hid hvw
    clear hvw
    go_enter Tryd.func32, Tryd.ntmps32
    go_wp2_with fail
    generalize hW : x.w.alloc _ = W1
    generalize hB : x.w.heap.size = B
    obtain ⟨c0, c1, c2, c3, h1, hback, yy, hy0⟩ := boxed h x hB hW
    have hrow : Row W1 (Value.int .i64) a l := by rw [← hW]; exact hr.ext (x.alloc _)
    have hqr : Row W1 (Value.int .i64) aq q := by rw [← hW]; exact hq.ext (x.alloc _)
    clear hW hB
    rw [← hy0]
    clear hy0
    have IV : ∀ y : Ext W1, Calls Tryd.prog 71 #[.agg #[.int .i64 s.n, .slice r.pa s.plus.length r.pc, .slice r.ta s.times.length r.tc, .slice r.ba s.below.length r.bc], .slice aq q.length cq] y.w (Ans W1 (.bool true)) := fun y => specIsView_ans h1 hqr hql true (by simpa using HV.out) y
    have CV : ∀ y : Ext W1, Calls Tryd.prog 72 #[.agg #[.int .i64 s.n, .slice r.pa s.plus.length r.pc, .slice r.ta s.times.length r.tc, .slice r.ba s.below.length r.bc], .slice a l.length c] y.w (Ans W1 (.int .i64 (-1))) := fun y => specCountValues_ans h1 hl hrow hc ha (-1) HN.out y
    go_wp2_with (first | (go_at_call 71; (with_reducible refine Calls.mono (IV _) ?_); rintro e w' ⟨rfl, yy, rfl⟩) | (go_at_call 72; (with_reducible refine Calls.mono (CV _) ?_); rintro e w' ⟨rfl, yy, rfl⟩))
    go_ret
    exact ⟨rfl, hback yy⟩
  · have HV := Lib.hid hvw
    clear hvw
    go_enter Tryd.func32, Tryd.ntmps32
    go_wp2_with fail
    generalize hW : x.w.alloc _ = W1
    generalize hB : x.w.heap.size = B
    obtain ⟨c0, c1, c2, c3, h1, hback, yy, hy0⟩ := boxed h x hB hW
    have hrow : Row W1 (Value.int .i64) a l := by rw [← hW]; exact hr.ext (x.alloc _)
    have hqr : Row W1 (Value.int .i64) aq q := by rw [← hW]; exact hq.ext (x.alloc _)
    clear hW hB
    rw [← hy0]
    clear hy0
    have IV : ∀ y : Ext W1, Calls Tryd.prog 71 #[.agg #[.int .i64 s.n, .slice r.pa s.plus.length r.pc, .slice r.ta s.times.length r.tc, .slice r.ba s.below.length r.bc], .slice aq q.length cq] y.w (Ans W1 (.bool false)) := fun y => specIsView_ans h1 hqr hql false (by simpa using HV.out) y
    go_wp2_with (go_at_call 71; (with_reducible refine Calls.mono (IV _) ?_); rintro e w' ⟨rfl, yy, rfl⟩)
    go_ret
    exact ⟨rfl, hback yy⟩

end Go.Proofs.YteffcfaoganciaaDoor
