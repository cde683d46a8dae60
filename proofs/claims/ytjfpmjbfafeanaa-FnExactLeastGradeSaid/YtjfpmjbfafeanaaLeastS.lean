/- The model's least grade. -/
import Derived.Test.YtjfpmjbfafeanaaSysB
namespace Go.Proofs.Ytjfpmjbfafeanaa
open Go.RowKit

set_option maxHeartbeats 4000000 in
theorem specLeastGrade_ans {W : World} {r : Ref} {s : Sys} (h : SysIn W r s) (v : Int) (hv : (IsSys s ∧ v = s.least) ∨ (¬ IsSys s ∧ v = -1)) (x : Ext W) :
    Calls Try.prog 36 #[r.val s] x.w (Ans W (.int .i64 v)) := by
  unfold Ref.val
  rcases hv with ⟨is, hv⟩ | ⟨hn, hv⟩
  · have t := is.tab
    have HV := Lib.hid hv
    have IS := Lib.hid is
    clear hv is
    have h2 := t.lo
    have h16 := t.hi
    go_enter Try.func36, Try.ntmps36
    go_wp2_with fail
    generalize hW : x.w.alloc _ = W1
    generalize hB : x.w.heap.size = B
    obtain ⟨c0, c1, c2, c3, h1, hback, yy, hy0⟩ := boxed h x hB hW
    clear hW hB
    rw [← hy0]
    clear hy0
    (with_reducible refine Calls.mono (specIsSystem_ans h1 true (by refine iff_tf ?_; dsimp only; exact IS.out) _) ?_)
    rintro e w' ⟨rfl, yy, rfl⟩
    go_wp2_with fail
    go_loopw [3] (fun i wr => ∃ k : Nat, i = .int .i64 k ∧ (k : Int) ≤ s.n ∧ (∃ y : Ext W1, wr = y.w) ∧ Hid (Upto k (fun g => ¬ LeastAt s g))) (fun i _ => (s.n - intOf i).toNat)
    case atStart => exact ⟨0, rfl, by omega, ⟨yy, rfl⟩, Upto.zero _⟩
    case round =>
      obtain ⟨k, rfl, hk, ⟨yy, rfl⟩, hUk⟩ := hrel
      by_cases hltk : (k : Int) < s.n
      · have hGk : G s k := ⟨by omega, hltk⟩
        go_wp2_with fail
        go_loopw [4, 5] (fun v i wr => ∃ (o : Bool) (j : Nat), v = .bool o ∧ i = .int .i64 j ∧ (j : Int) ≤ s.n ∧ (∃ y : Ext W1, wr = y.w) ∧ Hid (o = true ↔ Upto j (fun u => s.le k u = true))) (fun _ i _ => (s.n - intOf i).toNat)
        case atStart => exact ⟨true, 0, rfl, rfl, by omega, ⟨yy, rfl⟩, ⟨fun _ => Upto.zero _, fun _ => rfl⟩⟩
        case round =>
          obtain ⟨o, j, rfl, rfl, hj, ⟨yy, rfl⟩, hO⟩ := hrel
          by_cases hltj : (j : Int) < s.n
          · have hGj : G s j := ⟨by omega, hltj⟩
            cases o
            · go_wp2
              go_roundw
              case rel => exact ⟨false, j + 1, rfl, by go_num, by omega, ⟨yy, rfl⟩, ⟨fun q => (by cases q), fun q => (hO.out.2 (fun u u0 u1 => q u u0 (by omega)))⟩⟩
              case measure => simp [intOf]; omega
            · have HU := Lib.hid (hO.out.1 rfl)
              cases hx : s.le k j
              · have HX := Lib.hid hx
                go_wp2_with ((go_at_call 67; with_reducible refine Calls.mono (l1Le_is h1 t (by assumption) (by assumption) (by assumption) _) ?_; rintro e w' ⟨rfl, yy, rfl⟩))
                go_roundw
                case rel => exact ⟨false, j + 1, rfl, by go_num, by omega, ⟨yy, rfl⟩, ⟨fun q => (by cases q), fun q => (by have this : s.le k j = true := q j (by omega) (by omega); rw [HX.out] at this; cases this)⟩⟩
                case measure => simp [intOf]; omega
              · have HX := Lib.hid hx
                go_wp2_with ((go_at_call 67; with_reducible refine Calls.mono (l1Le_is h1 t (by assumption) (by assumption) (by assumption) _) ?_; rintro e w' ⟨rfl, yy, rfl⟩))
                go_roundw
                case rel => exact ⟨true, j + 1, rfl, by go_num, by omega, ⟨yy, rfl⟩, ⟨fun _ => HU.out.succ HX.out, fun _ => rfl⟩⟩
                case measure => simp [intOf]; omega
          · cases o
            · go_wp2
              go_roundw
              case rel => exact ⟨k + 1, by go_num, by omega, ⟨yy, rfl⟩, hUk.out.succ (fun q => by have := hO.out.2 (fun u u0 u1 => q u ⟨u0, by omega⟩); cases this)⟩
              case measure => simp [intOf]; omega
            · have HU := Lib.hid (hO.out.1 rfl)
              go_wp2
              go_ret
              refine fin_int ?_ (hback yy)
              rw [HV.out]
              exact firstI_eq (.inl ⟨by omega, hltk, HU.out.all _ (by omega), hUk.out⟩)
      · go_wp2
        go_ret
        refine fin_int ?_ (hback yy)
        rw [HV.out]
        exact firstI_eq (.inr ⟨rfl, fun i h0 hi => hUk.out i h0 (by omega)⟩)
  · have HV := Lib.hid hv
    have HN := Lib.hid hn
    clear hv hn
    go_enter Try.func36, Try.ntmps36
    go_wp2_with fail
    generalize hW : x.w.alloc _ = W1
    generalize hB : x.w.heap.size = B
    obtain ⟨c0, c1, c2, c3, h1, hback, yy, hy0⟩ := boxed h x hB hW
    clear hW hB
    rw [← hy0]
    clear hy0
    (with_reducible refine Calls.mono (specIsSystem_ans h1 false (by refine iff_tf ?_; dsimp only; exact HN.out) _) ?_)
    rintro e w' ⟨rfl, yy, rfl⟩
    go_wp2_with fail
    go_ret
    exact fin_int HV.out.symm (hback yy)

end Go.Proofs.Ytjfpmjbfafeanaa
