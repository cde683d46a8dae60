
/- The accessors of the tables of a system: sum, product, below, of the program and of its model. -/
import Derived.Test.YtmifnhblhggflaaDoorBase
import Derived.Test.YtmifnhblhggflaaDoorProg
import Derived.BigQuiet
namespace Go.Proofs.YtmifnhblhggflaaDoor
open Go.RowKit

theorem wrap_in {x : Int} (h1 : 0 ≤ x) (h2 : x ≤ 100000) : IntKind.i64.wrap x = x := IntWalk.i64_in _ (by omega)

set_option maxHeartbeats 800000 in
theorem sumIn_ans {W : World} {r : Ref} {s : Sys} (h : SysIn W r s) (t : Tables s) {a b : Int} (ha : G s a) (hb : G s b) (x : Ext W) :
    Calls Tryd.prog 158 #[r.val s, .int .i64 a, .int .i64 b] x.w (Ans W (.int .i64 (s.add a b))) := by
  have hi := Sys.idx_lt t.lo t.hi ha hb t.lp
  obtain ⟨bp, op, hpa, hc⟩ := (h.ext x).plus.at hi
  obtain ⟨g1, g2, g3, g4, g5⟩ := idx_facts t.lo t.hi ha hb
  have hcell := hc (s.idx a b) (s.add a b) (by unfold Sys.add; rw [List.getD_eq_getElem?_getD, List.getElem?_eq_getElem hi]; rfl)
  have hlen : a * s.n + b < (s.plus.length : Int) := by rw [t.lp]; exact g4
  have hbk := cell_lt hcell
  unfold Sys.idx at hcell
  simp only at hbk
  have g6 : a * s.n + b ≤ 255 := by omega
  clear hc hi h t g4 g5 ha hb
  generalize s.add a b = v at *
  unfold Ref.val
  rw [hpa]
  go_enter Tryd.func158, Tryd.ntmps158
  go_wp2
  go_ret
  exact ⟨rfl, x.alloc _, rfl⟩

set_option maxHeartbeats 800000 in
theorem productIn_ans {W : World} {r : Ref} {s : Sys} (h : SysIn W r s) (t : Tables s) {a b : Int} (ha : G s a) (hb : G s b) (x : Ext W) :
    Calls Tryd.prog 159 #[r.val s, .int .i64 a, .int .i64 b] x.w (Ans W (.int .i64 (s.mul a b))) := by
  have hi := Sys.idx_lt t.lo t.hi ha hb t.lt
  obtain ⟨bp, op, hta, hc⟩ := (h.ext x).times.at hi
  obtain ⟨g1, g2, g3, g4, g5⟩ := idx_facts t.lo t.hi ha hb
  have hcell := hc (s.idx a b) (s.mul a b) (by unfold Sys.mul; rw [List.getD_eq_getElem?_getD, List.getElem?_eq_getElem hi]; rfl)
  have hlen : a * s.n + b < (s.times.length : Int) := by rw [t.lt]; exact g4
  have hbk := cell_lt hcell
  unfold Sys.idx at hcell
  simp only at hbk
  have g6 : a * s.n + b ≤ 255 := by omega
  clear hc hi h t g4 g5 ha hb
  generalize s.mul a b = v at *
  unfold Ref.val
  rw [hta]
  go_enter Tryd.func159, Tryd.ntmps159
  go_wp2
  go_ret
  exact ⟨rfl, x.alloc _, rfl⟩

set_option maxHeartbeats 800000 in
theorem belowIn_ans {W : World} {r : Ref} {s : Sys} (h : SysIn W r s) (t : Tables s) {a b : Int} (ha : G s a) (hb : G s b) (x : Ext W) :
    Calls Tryd.prog 160 #[r.val s, .int .i64 a, .int .i64 b] x.w (Ans W (.bool (s.le a b))) := by
  have hi := Sys.idx_lt t.lo t.hi ha hb t.lb
  obtain ⟨bp, op, hpa, hc⟩ := (h.ext x).below.at hi
  obtain ⟨g1, g2, g3, g4, g5⟩ := idx_facts t.lo t.hi ha hb
  have hcell := hc (s.idx a b) (s.le a b) (by unfold Sys.le; rw [List.getD_eq_getElem?_getD, List.getElem?_eq_getElem hi]; rfl)
  have hlen : a * s.n + b < (s.below.length : Int) := by rw [t.lb]; exact g4
  have hbk := cell_lt hcell
  unfold Sys.idx at hcell
  simp only at hbk
  have g6 : a * s.n + b ≤ 255 := by omega
  clear hc hi h t g4 g5 ha hb
  generalize s.le a b = v at *
  unfold Ref.val
  rw [hpa]
  go_enter Tryd.func160, Tryd.ntmps160
  go_wp2
  go_ret
  exact ⟨rfl, x.alloc _, rfl⟩

set_option maxHeartbeats 800000 in
theorem l1Add_ans {W : World} {r : Ref} {s : Sys} (h : SysIn W r s) (t : Tables s) {a b : Int} (ha : G s a) (hb : G s b) (x : Ext W) :
    Calls Tryd.prog 153 #[r.val s, .int .i64 a, .int .i64 b] x.w (Ans W (.int .i64 (s.add a b))) := by
  have hi := Sys.idx_lt t.lo t.hi ha hb t.lp
  obtain ⟨bp, op, hpa, hc⟩ := (h.ext x).plus.at hi
  obtain ⟨g1, g2, g3, g4, g5⟩ := idx_facts t.lo t.hi ha hb
  have hcell := hc (s.idx a b) (s.add a b) (by unfold Sys.add; rw [List.getD_eq_getElem?_getD, List.getElem?_eq_getElem hi]; rfl)
  have hlen : a * s.n + b < (s.plus.length : Int) := by rw [t.lp]; exact g4
  have hbk := cell_lt hcell
  unfold Sys.idx at hcell
  simp only at hbk
  have g6 : a * s.n + b ≤ 255 := by omega
  clear hc hi h t g4 g5 ha hb
  generalize s.add a b = v at *
  unfold Ref.val
  rw [hpa]
  go_enter Tryd.func153, Tryd.ntmps153
  go_wp2
  go_ret
  exact ⟨rfl, x.alloc _, rfl⟩

set_option maxHeartbeats 800000 in
theorem l1Mul_ans {W : World} {r : Ref} {s : Sys} (h : SysIn W r s) (t : Tables s) {a b : Int} (ha : G s a) (hb : G s b) (x : Ext W) :
    Calls Tryd.prog 154 #[r.val s, .int .i64 a, .int .i64 b] x.w (Ans W (.int .i64 (s.mul a b))) := by
  have hi := Sys.idx_lt t.lo t.hi ha hb t.lt
  obtain ⟨bp, op, hta, hc⟩ := (h.ext x).times.at hi
  obtain ⟨g1, g2, g3, g4, g5⟩ := idx_facts t.lo t.hi ha hb
  have hcell := hc (s.idx a b) (s.mul a b) (by unfold Sys.mul; rw [List.getD_eq_getElem?_getD, List.getElem?_eq_getElem hi]; rfl)
  have hlen : a * s.n + b < (s.times.length : Int) := by rw [t.lt]; exact g4
  have hbk := cell_lt hcell
  unfold Sys.idx at hcell
  simp only at hbk
  have g6 : a * s.n + b ≤ 255 := by omega
  clear hc hi h t g4 g5 ha hb
  generalize s.mul a b = v at *
  unfold Ref.val
  rw [hta]
  go_enter Tryd.func154, Tryd.ntmps154
  go_wp2
  go_ret
  exact ⟨rfl, x.alloc _, rfl⟩

set_option maxHeartbeats 800000 in
theorem l1Le_ans {W : World} {r : Ref} {s : Sys} (h : SysIn W r s) (t : Tables s) {a b : Int} (ha : G s a) (hb : G s b) (x : Ext W) :
    Calls Tryd.prog 155 #[r.val s, .int .i64 a, .int .i64 b] x.w (Ans W (.bool (s.le a b))) := by
  have hi := Sys.idx_lt t.lo t.hi ha hb t.lb
  obtain ⟨bp, op, hpa, hc⟩ := (h.ext x).below.at hi
  obtain ⟨g1, g2, g3, g4, g5⟩ := idx_facts t.lo t.hi ha hb
  have hcell := hc (s.idx a b) (s.le a b) (by unfold Sys.le; rw [List.getD_eq_getElem?_getD, List.getElem?_eq_getElem hi]; rfl)
  have hlen : a * s.n + b < (s.below.length : Int) := by rw [t.lb]; exact g4
  have hbk := cell_lt hcell
  unfold Sys.idx at hcell
  simp only at hbk
  have g6 : a * s.n + b ≤ 255 := by omega
  clear hc hi h t g4 g5 ha hb
  generalize s.le a b = v at *
  unfold Ref.val
  rw [hpa]
  go_enter Tryd.func155, Tryd.ntmps155
  go_wp2
  go_ret
  exact ⟨rfl, x.alloc _, rfl⟩

theorem belowIn_is {W : World} {r : Ref} {s : Sys} (h : SysIn W r s) (t : Tables s) {a b : Int} {v : Bool} (ha : G s a) (hb : G s b) (hv : s.le a b = v) (x : Ext W) :
    Calls Tryd.prog 160 #[r.val s, .int .i64 a, .int .i64 b] x.w (Ans W (.bool v)) := by
  subst hv
  exact belowIn_ans h t ha hb x

theorem l1Le_is {W : World} {r : Ref} {s : Sys} (h : SysIn W r s) (t : Tables s) {a b : Int} {v : Bool} (ha : G s a) (hb : G s b) (hv : s.le a b = v) (x : Ext W) :
    Calls Tryd.prog 155 #[r.val s, .int .i64 a, .int .i64 b] x.w (Ans W (.bool v)) := by
  subst hv
  exact l1Le_ans h t ha hb x

end Go.Proofs.YtmifnhblhggflaaDoor
