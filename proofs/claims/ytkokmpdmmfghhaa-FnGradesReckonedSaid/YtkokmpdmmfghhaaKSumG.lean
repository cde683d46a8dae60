
/- The program's sum of a list of grades. -/
import Derived.Test.YtkokmpdmmfghhaaKApiA
namespace Go.Proofs.Ytkokmpdmmfghhaa
open Go.RowKit

/-- The sum of a list of grades. -/
def Sys.sumL (s : Sys) (l : List Int) : Int := l.foldl (fun n g => s.add n g) 0
theorem sumL_snoc (s : Sys) (l : List Int) (g : Int) : s.sumL (l ++ [g]) = s.add (s.sumL l) g := by simp [Sys.sumL]
theorem sumL_take {s : Sys} {l : List Int} {k : Nat} {g : Int} (h : l[k]? = some g) : s.sumL (l.take (k + 1)) = s.add (s.sumL (l.take k)) g := by
  have hk : k < l.length := by
    by_cases hk : k < l.length
    · exact hk
    · rw [List.getElem?_eq_none (by omega)] at h; cases h
  rw [List.take_succ_eq_append_getElem hk, sumL_snoc]
  rw [List.getElem?_eq_getElem hk] at h
  cases h
  rfl
theorem sumL_G {s : Sys} (t : Tables s) : ∀ (l : List Int), (∀ g ∈ l, G s g) → G s (s.sumL l) := by
  intro l
  have : ∀ (l : List Int) (n : Int), G s n → (∀ g ∈ l, G s g) → G s (l.foldl (fun n g => s.add n g) n) := by
    intro l
    induction l with
    | nil => intro n hn _; exact hn
    | cons x l ih => intro n hn h; exact ih _ (t.addG hn (h x (by simp))) (fun g hg => h g (by simp [hg]))
  exact fun h => this l 0 ⟨by omega, by have := t.lo; omega⟩ h
def OutSum (s : Sys) (l : List Int) (v : Int) : Prop := (IsSys s ∧ (∀ g ∈ l, G s g) ∧ v = s.sumL l) ∨ (¬ (IsSys s ∧ ∀ g ∈ l, G s g) ∧ v = -1)
theorem outSum_ex (s : Sys) (l : List Int) : ∃ v, OutSum s l v := by
  by_cases h : IsSys s ∧ ∀ g ∈ l, G s g
  · exact ⟨_, .inl ⟨h.1, h.2, rfl⟩⟩
  · exact ⟨-1, .inr ⟨h, rfl⟩⟩

set_option maxHeartbeats 4000000 in
theorem sumGrades_ans {W : World} {r : Ref} {s : Sys} (h : SysIn W r s) {a : Option Addr} {c : Nat} {l : List Int} (hr : Row W (Value.int .i64) a l) (hl : l.length ≤ 1099511627776) (v : Int) (hv : OutSum s l v) (x : Ext W) :
    Calls Try.prog 18 #[r.val s, .slice a l.length c] x.w (Ans W (.int .i64 v)) := by
  unfold Ref.val
  rcases hv with ⟨is, hG, hv⟩ | ⟨hn, hv⟩
  · have t := is.tab
    have h2 := t.lo
    have h16 := t.hi
    have HV := Lib.hid hv
    have IS := Lib.hid is
    have HG := Lib.hid hG
    clear hv is hG
    go_enter Try.func18, Try.ntmps18
    go_wp2_with fail
    generalize hW : x.w.alloc _ = W1
    generalize hB : x.w.heap.size = B
    have hrow : Row W1 (Value.int .i64) a l := by rw [← hW]; exact hr.ext (x.alloc _)
    obtain ⟨c0, c1, c2, c3, h1, hback, yy, hy0⟩ := boxed h x hB hW
    clear hW hB
    rw [← hy0]
    clear hy0
    have HR : ∀ z : Ext W1, Row z.w (Value.int .i64) a l := fun z => by obtain ⟨u, hu⟩ := hback z; rw [hu]; exact hr.ext u
    (refine Calls.mono (areGrades_ans h1 hrow hl true (by refine iff_tf ?_; dsimp only; exact ⟨IS.out, HG.out⟩) yy) ?_)
    rintro e w' ⟨rfl, yy, rfl⟩
    go_wp2_with fail
    go_loopw [14, 5] (fun i v wr => ∃ k : Nat, i = .int .i64 k ∧ v = .int .i64 (s.sumL (l.take k)) ∧ k ≤ l.length ∧ ∃ y : Ext W1, wr = y.w) (fun i _ _ => l.length - (intOf i).toNat)
    case atStart => exact ⟨0, rfl, rfl, by omega, ⟨yy, rfl⟩⟩
    case round =>
      obtain ⟨k, rfl, rfl, hk, ⟨yy, rfl⟩⟩ := hrel
      by_cases hlt : k < l.length
      · obtain ⟨b1, o1, rfl, hc⟩ := (HR yy).at hlt
        have hcell0 := hc k _ (List.getElem?_eq_getElem hlt)
        have HK : Hid (l[k]? = some l[k]) := List.getElem?_eq_getElem hlt
        have hGk : G s l[k] := HG.out _ (List.getElem_mem hlt)
        have hGs : G s (s.sumL (l.take k)) := sumL_G t _ (fun g hg => HG.out g (List.mem_of_mem_take hg))
        clear hc
        generalize l[k] = u at *
        go_wp2_with (go_at_call 60; with_reducible refine Calls.mono (sumIn_ans h1 t hGs hGk _) ?_; rintro e w' ⟨rfl, yy, rfl⟩)
        go_roundw
        case rel => exact ⟨k + 1, by go_num, by rw [sumL_take HK.out], by omega, ⟨yy, rfl⟩⟩
        case measure => simp [intOf]; omega
      · go_wp2
        go_ret
        exact fin_int (by rw [HV.out, List.take_of_length_le (by omega)]) (hback yy)
  · have HV := Lib.hid hv
    have HN := Lib.hid hn
    clear hv hn
    go_enter Try.func18, Try.ntmps18
    go_wp2_with fail
    generalize hW : x.w.alloc _ = W1
    generalize hB : x.w.heap.size = B
    have hrow : Row W1 (Value.int .i64) a l := by rw [← hW]; exact hr.ext (x.alloc _)
    obtain ⟨c0, c1, c2, c3, h1, hback, yy, hy0⟩ := boxed h x hB hW
    clear hW hB
    rw [← hy0]
    clear hy0
    have HR : ∀ z : Ext W1, Row z.w (Value.int .i64) a l := fun z => by obtain ⟨u, hu⟩ := hback z; rw [hu]; exact hr.ext u
    (refine Calls.mono (areGrades_ans h1 hrow hl false (by refine iff_tf ?_; dsimp only; exact HN.out) yy) ?_)
    rintro e w' ⟨rfl, yy, rfl⟩
    go_wp2_with fail
    go_ret
    exact fin_int HV.out.symm (hback yy)

end Go.Proofs.Ytkokmpdmmfghhaa
