
/- The model's checks of one grade; what is in range. -/
import Derived.Test.YtkokmpdmmfghhaaKBits
namespace Go.Proofs.Ytkokmpdmmfghhaa
open Go.RowKit

theorem l1In_ans {W : World} (g lo hi : Int) (p : Bool) (hp : p = true ↔ lo ≤ g ∧ g ≤ hi) (x : Ext W) :
    Calls Try.prog 91 #[.int .i64 g, .int .i64 lo, .int .i64 hi] x.w (Ans W (.bool p)) := by
  have HP := Lib.hid hp
  clear hp
  by_cases h0 : lo ≤ g
  · by_cases h1 : g ≤ hi
    · go_enter Try.func91, Try.ntmps91
      go_wp2
      go_ret
      exact fin_true HP ⟨h0, h1⟩ ⟨x, rfl⟩
    · go_enter Try.func91, Try.ntmps91
      go_wp2
      go_ret
      exact fin_false HP (by omega) ⟨x, rfl⟩
  · go_enter Try.func91, Try.ntmps91
    go_wp2
    go_ret
    exact fin_false HP (by omega) ⟨x, rfl⟩

set_option maxHeartbeats 4000000 in
theorem l1One_ans {W : World} {r : Ref} {s : Sys} (h : SysIn W r s) (t : Tables s) {a : Int} (hGa : G s a) (p : Bool) (hp : p = true ↔ One s a) (x : Ext W) :
    Calls Try.prog 81 #[r.val s, .int .i64 a] x.w (Ans W (.bool p)) := by
  have HP := Lib.hid hp
  clear hp
  have h2 := t.lo
  have h16 := t.hi
  unfold Ref.val
  go_enter Try.func81, Try.ntmps81
  go_wp2_with fail
  generalize hW : x.w.alloc _ = W1
  generalize hB : x.w.heap.size = B
  obtain ⟨c0, c1, c2, c3, h1, hback, yy, hy0⟩ := boxed h x hB hW
  clear hW hB
  rw [← hy0]
  clear hy0
  have hG0 : G s 0 := ⟨by omega, by omega⟩
  have hG1 : G s 1 := ⟨by omega, by omega⟩
  by_cases ea : s.add 0 a = a
  · have fa : (s.add 0 a == a) = true := by simpa using ea
    have Ea := Lib.hid ea
    clear ea
    by_cases eb : s.mul 1 a = a
    · have fb : (s.mul 1 a == a) = true := by simpa using eb
      have Eb := Lib.hid eb
      clear eb
      by_cases ec : s.mul a 1 = a
      · have fc : (s.mul a 1 == a) = true := by simpa using ec
        have Ec := Lib.hid ec
        clear ec
        by_cases ed : s.mul 0 a = 0
        · have fd : (s.mul 0 a == 0) = true := by simpa using ed
          have Ed := Lib.hid ed
          clear ed
          by_cases ee : s.mul a 0 = 0
          · have fe : (s.mul a 0 == 0) = true := by simpa using ee
            have Ee := Lib.hid ee
            clear ee
            by_cases ef : s.le a a = true
            · have ff : s.le a a = true := by simpa using ef
              have Ef := Lib.hid ef
              clear ef
              go_wp2_with (first | (go_at_call 92; with_reducible refine Calls.mono (l1Add_ans h1 t (by assumption) (by assumption) _) ?_; rintro e w' ⟨rfl, yy, rfl⟩) | (go_at_call 93; with_reducible refine Calls.mono (l1Mul_ans h1 t (by assumption) (by assumption) _) ?_; rintro e w' ⟨rfl, yy, rfl⟩) | (go_at_call 94; with_reducible refine Calls.mono (l1Le_is h1 t (by assumption) (by assumption) (by assumption) _) ?_; rintro e w' ⟨rfl, yy, rfl⟩))
              clear fa fb fc fd fe ff
              go_ret
              exact fin_true HP (⟨Ea.out, Eb.out, Ec.out, Ed.out, Ee.out, Ef.out⟩) (hback yy)
            · have ff : s.le a a = false := by simpa using ef
              have Ef := Lib.hid ef
              clear ef
              go_wp2_with (first | (go_at_call 92; with_reducible refine Calls.mono (l1Add_ans h1 t (by assumption) (by assumption) _) ?_; rintro e w' ⟨rfl, yy, rfl⟩) | (go_at_call 93; with_reducible refine Calls.mono (l1Mul_ans h1 t (by assumption) (by assumption) _) ?_; rintro e w' ⟨rfl, yy, rfl⟩) | (go_at_call 94; with_reducible refine Calls.mono (l1Le_is h1 t (by assumption) (by assumption) (by assumption) _) ?_; rintro e w' ⟨rfl, yy, rfl⟩))
              go_ret
              exact fin_false HP (fun q => Ef.out (q.rf)) (hback yy)
          · have fe : (s.mul a 0 == 0) = false := by simpa using ee
            have Ee := Lib.hid ee
            clear ee
            go_wp2_with (first | (go_at_call 92; with_reducible refine Calls.mono (l1Add_ans h1 t (by assumption) (by assumption) _) ?_; rintro e w' ⟨rfl, yy, rfl⟩) | (go_at_call 93; with_reducible refine Calls.mono (l1Mul_ans h1 t (by assumption) (by assumption) _) ?_; rintro e w' ⟨rfl, yy, rfl⟩) | (go_at_call 94; with_reducible refine Calls.mono (l1Le_is h1 t (by assumption) (by assumption) (by assumption) _) ?_; rintro e w' ⟨rfl, yy, rfl⟩))
            go_ret
            exact fin_false HP (fun q => Ee.out (q.z2)) (hback yy)
        · have fd : (s.mul 0 a == 0) = false := by simpa using ed
          have Ed := Lib.hid ed
          clear ed
          go_wp2_with (first | (go_at_call 92; with_reducible refine Calls.mono (l1Add_ans h1 t (by assumption) (by assumption) _) ?_; rintro e w' ⟨rfl, yy, rfl⟩) | (go_at_call 93; with_reducible refine Calls.mono (l1Mul_ans h1 t (by assumption) (by assumption) _) ?_; rintro e w' ⟨rfl, yy, rfl⟩) | (go_at_call 94; with_reducible refine Calls.mono (l1Le_is h1 t (by assumption) (by assumption) (by assumption) _) ?_; rintro e w' ⟨rfl, yy, rfl⟩))
          go_ret
          exact fin_false HP (fun q => Ed.out (q.z1)) (hback yy)
      · have fc : (s.mul a 1 == a) = false := by simpa using ec
        have Ec := Lib.hid ec
        clear ec
        go_wp2_with (first | (go_at_call 92; with_reducible refine Calls.mono (l1Add_ans h1 t (by assumption) (by assumption) _) ?_; rintro e w' ⟨rfl, yy, rfl⟩) | (go_at_call 93; with_reducible refine Calls.mono (l1Mul_ans h1 t (by assumption) (by assumption) _) ?_; rintro e w' ⟨rfl, yy, rfl⟩) | (go_at_call 94; with_reducible refine Calls.mono (l1Le_is h1 t (by assumption) (by assumption) (by assumption) _) ?_; rintro e w' ⟨rfl, yy, rfl⟩))
        go_ret
        exact fin_false HP (fun q => Ec.out (q.o2)) (hback yy)
    · have fb : (s.mul 1 a == a) = false := by simpa using eb
      have Eb := Lib.hid eb
      clear eb
      go_wp2_with (first | (go_at_call 92; with_reducible refine Calls.mono (l1Add_ans h1 t (by assumption) (by assumption) _) ?_; rintro e w' ⟨rfl, yy, rfl⟩) | (go_at_call 93; with_reducible refine Calls.mono (l1Mul_ans h1 t (by assumption) (by assumption) _) ?_; rintro e w' ⟨rfl, yy, rfl⟩) | (go_at_call 94; with_reducible refine Calls.mono (l1Le_is h1 t (by assumption) (by assumption) (by assumption) _) ?_; rintro e w' ⟨rfl, yy, rfl⟩))
      go_ret
      exact fin_false HP (fun q => Eb.out (q.o1)) (hback yy)
  · have fa : (s.add 0 a == a) = false := by simpa using ea
    have Ea := Lib.hid ea
    clear ea
    go_wp2_with (first | (go_at_call 92; with_reducible refine Calls.mono (l1Add_ans h1 t (by assumption) (by assumption) _) ?_; rintro e w' ⟨rfl, yy, rfl⟩) | (go_at_call 93; with_reducible refine Calls.mono (l1Mul_ans h1 t (by assumption) (by assumption) _) ?_; rintro e w' ⟨rfl, yy, rfl⟩) | (go_at_call 94; with_reducible refine Calls.mono (l1Le_is h1 t (by assumption) (by assumption) (by assumption) _) ?_; rintro e w' ⟨rfl, yy, rfl⟩))
    go_ret
    exact fin_false HP (fun q => Ea.out (q.z)) (hback yy)

set_option maxHeartbeats 4000000 in
theorem l1Join_ans {W : World} {r : Ref} {s : Sys} (h : SysIn W r s) (t : Tables s) {a b : Int} (hGa : G s a) (hGb : G s b) (x : Ext W) :
    Calls Try.prog 133 #[r.val s, .int .i64 a, .int .i64 b] x.w (Ans W (.int .i64 (s.join a b))) := by
  have h2 := t.lo
  have h16 := t.hi
  unfold Ref.val
  go_enter Try.func133, Try.ntmps133
  go_wp2_with fail
  generalize hW : x.w.alloc _ = W1
  generalize hB : x.w.heap.size = B
  obtain ⟨c0, c1, c2, c3, h1, hback, yy, hy0⟩ := boxed h x hB hW
  clear hW hB
  rw [← hy0]
  clear hy0
  go_loopw [7] (fun i wr => ∃ k : Nat, i = .int .i64 k ∧ (k : Int) ≤ s.n ∧ (∃ y : Ext W1, wr = y.w) ∧ Hid (Upto k (fun g => ¬ JoinAt s a b g))) (fun i _ => (s.n - intOf i).toNat)
  case atStart => exact ⟨0, rfl, by omega, ⟨yy, rfl⟩, Upto.zero _⟩
  case round =>
    obtain ⟨k, rfl, hk, ⟨yy, rfl⟩, hUk⟩ := hrel
    by_cases hltk : (k : Int) < s.n
    · have hGk : G s k := ⟨by omega, hltk⟩
      cases ha : s.le a k
      · have HA := Lib.hid ha
        go_wp2_with ((go_at_call 94; with_reducible refine Calls.mono (l1Le_is h1 t (by assumption) (by assumption) (by assumption) _) ?_; rintro e w' ⟨rfl, yy, rfl⟩))
        have hA : Hid (false = true ↔ (s.le a k = true ∧ s.le b k = true) ∧ Upto 0 (fun u => s.le a u = true → s.le b u = true → s.le k u = true)) := ⟨fun q => (by cases q), fun q => (by have := q.1.1; rw [HA.out] at this; cases this)⟩
        go_loopw [8, 9] (fun v i wr => ∃ (o : Bool) (j : Nat), v = .bool o ∧ i = .int .i64 j ∧ (j : Int) ≤ s.n ∧ (∃ y : Ext W1, wr = y.w) ∧ Hid (o = true ↔ (s.le a k = true ∧ s.le b k = true) ∧ Upto j (fun u => s.le a u = true → s.le b u = true → s.le k u = true))) (fun _ i _ => (s.n - intOf i).toNat)
        case atStart => exact ⟨false, 0, rfl, rfl, by omega, ⟨yy, rfl⟩, hA⟩
        case round =>
          obtain ⟨o, j, rfl, rfl, hj, ⟨yy, rfl⟩, hO⟩ := hrel
          clear hA
          by_cases hltj : (j : Int) < s.n
          · have hGj : G s j := ⟨by omega, hltj⟩
            cases o
            · go_wp2
              go_roundw
              case rel =>
                refine ⟨k + 1, by go_num, by omega, ⟨yy, rfl⟩, hUk.out.succ (fun q => ?_)⟩
                have := hO.out.2 ⟨⟨q.1, q.2.1⟩, fun u u0 u1 => q.2.2 u ⟨u0, by omega⟩⟩
                cases this
              case measure => simp [intOf]; omega
            · have hU := (hO.out.1 rfl)
              have HU := Lib.hid hU
              clear hU
              cases hx : s.le a j
              · have HX := Lib.hid hx
                go_wp2_with ((go_at_call 94; with_reducible refine Calls.mono (l1Le_is h1 t (by assumption) (by assumption) (by assumption) _) ?_; rintro e w' ⟨rfl, yy, rfl⟩))
                go_roundw
                case rel =>
                  refine ⟨true, j + 1, rfl, by go_num, by omega, ⟨yy, rfl⟩, ⟨fun _ => ⟨HU.out.1, HU.out.2.succ (fun hu hv => ?_)⟩, fun _ => rfl⟩⟩
                  rw [HX.out] at hu; cases hu
                case measure => simp [intOf]; omega
              · have HX := Lib.hid hx
                cases hy : s.le b j
                · have HY := Lib.hid hy
                  go_wp2_with ((go_at_call 94; with_reducible refine Calls.mono (l1Le_is h1 t (by assumption) (by assumption) (by assumption) _) ?_; rintro e w' ⟨rfl, yy, rfl⟩))
                  go_roundw
                  case rel =>
                    refine ⟨true, j + 1, rfl, by go_num, by omega, ⟨yy, rfl⟩, ⟨fun _ => ⟨HU.out.1, HU.out.2.succ (fun hu hv => ?_)⟩, fun _ => rfl⟩⟩
                    rw [HY.out] at hv; cases hv
                  case measure => simp [intOf]; omega
                · have HY := Lib.hid hy
                  cases hz : s.le k j
                  · have HZ := Lib.hid hz
                    go_wp2_with ((go_at_call 94; with_reducible refine Calls.mono (l1Le_is h1 t (by assumption) (by assumption) (by assumption) _) ?_; rintro e w' ⟨rfl, yy, rfl⟩))
                    go_roundw
                    case rel =>
                      refine ⟨false, j + 1, rfl, by go_num, by omega, ⟨yy, rfl⟩, ⟨fun q => (by cases q), fun q => ?_⟩⟩
                      have := q.2 j (by omega) (by omega) HX.out HY.out
                      rw [HZ.out] at this
                      cases this
                    case measure => simp [intOf]; omega
                  · have HZ := Lib.hid hz
                    go_wp2_with ((go_at_call 94; with_reducible refine Calls.mono (l1Le_is h1 t (by assumption) (by assumption) (by assumption) _) ?_; rintro e w' ⟨rfl, yy, rfl⟩))
                    go_roundw
                    case rel =>
                      refine ⟨true, j + 1, rfl, by go_num, by omega, ⟨yy, rfl⟩, ⟨fun _ => ⟨HU.out.1, HU.out.2.succ (fun hu hv => ?_)⟩, fun _ => rfl⟩⟩
                      exact HZ.out
                    case measure => simp [intOf]; omega
          · cases o
            · go_wp2
              go_roundw
              case rel =>
                refine ⟨k + 1, by go_num, by omega, ⟨yy, rfl⟩, hUk.out.succ (fun q => ?_)⟩
                have := hO.out.2 ⟨⟨q.1, q.2.1⟩, fun u u0 u1 => q.2.2 u ⟨u0, by omega⟩⟩
                cases this
              case measure => simp [intOf]; omega
            · have HU := Lib.hid (hO.out.1 rfl)
              go_wp2
              go_ret
              refine fin_int ?_ (hback yy)
              exact firstI_eq (.inl ⟨by omega, hltk, ⟨HU.out.1.1, HU.out.1.2, HU.out.2.all _ (by omega)⟩, hUk.out⟩)
      · have HA := Lib.hid ha
        cases hb : s.le b k
        · have HB := Lib.hid hb
          go_wp2_with ((go_at_call 94; with_reducible refine Calls.mono (l1Le_is h1 t (by assumption) (by assumption) (by assumption) _) ?_; rintro e w' ⟨rfl, yy, rfl⟩))
          have hA : Hid (false = true ↔ (s.le a k = true ∧ s.le b k = true) ∧ Upto 0 (fun u => s.le a u = true → s.le b u = true → s.le k u = true)) := ⟨fun q => (by cases q), fun q => (by have := q.1.2; rw [HB.out] at this; cases this)⟩
          go_loopw [8, 9] (fun v i wr => ∃ (o : Bool) (j : Nat), v = .bool o ∧ i = .int .i64 j ∧ (j : Int) ≤ s.n ∧ (∃ y : Ext W1, wr = y.w) ∧ Hid (o = true ↔ (s.le a k = true ∧ s.le b k = true) ∧ Upto j (fun u => s.le a u = true → s.le b u = true → s.le k u = true))) (fun _ i _ => (s.n - intOf i).toNat)
          case atStart => exact ⟨false, 0, rfl, rfl, by omega, ⟨yy, rfl⟩, hA⟩
          case round =>
            obtain ⟨o, j, rfl, rfl, hj, ⟨yy, rfl⟩, hO⟩ := hrel
            clear hA
            by_cases hltj : (j : Int) < s.n
            · have hGj : G s j := ⟨by omega, hltj⟩
              cases o
              · go_wp2
                go_roundw
                case rel =>
                  refine ⟨k + 1, by go_num, by omega, ⟨yy, rfl⟩, hUk.out.succ (fun q => ?_)⟩
                  have := hO.out.2 ⟨⟨q.1, q.2.1⟩, fun u u0 u1 => q.2.2 u ⟨u0, by omega⟩⟩
                  cases this
                case measure => simp [intOf]; omega
              · have hU := (hO.out.1 rfl)
                have HU := Lib.hid hU
                clear hU
                cases hx : s.le a j
                · have HX := Lib.hid hx
                  go_wp2_with ((go_at_call 94; with_reducible refine Calls.mono (l1Le_is h1 t (by assumption) (by assumption) (by assumption) _) ?_; rintro e w' ⟨rfl, yy, rfl⟩))
                  go_roundw
                  case rel =>
                    refine ⟨true, j + 1, rfl, by go_num, by omega, ⟨yy, rfl⟩, ⟨fun _ => ⟨HU.out.1, HU.out.2.succ (fun hu hv => ?_)⟩, fun _ => rfl⟩⟩
                    rw [HX.out] at hu; cases hu
                  case measure => simp [intOf]; omega
                · have HX := Lib.hid hx
                  cases hy : s.le b j
                  · have HY := Lib.hid hy
                    go_wp2_with ((go_at_call 94; with_reducible refine Calls.mono (l1Le_is h1 t (by assumption) (by assumption) (by assumption) _) ?_; rintro e w' ⟨rfl, yy, rfl⟩))
                    go_roundw
                    case rel =>
                      refine ⟨true, j + 1, rfl, by go_num, by omega, ⟨yy, rfl⟩, ⟨fun _ => ⟨HU.out.1, HU.out.2.succ (fun hu hv => ?_)⟩, fun _ => rfl⟩⟩
                      rw [HY.out] at hv; cases hv
                    case measure => simp [intOf]; omega
                  · have HY := Lib.hid hy
                    cases hz : s.le k j
                    · have HZ := Lib.hid hz
                      go_wp2_with ((go_at_call 94; with_reducible refine Calls.mono (l1Le_is h1 t (by assumption) (by assumption) (by assumption) _) ?_; rintro e w' ⟨rfl, yy, rfl⟩))
                      go_roundw
                      case rel =>
                        refine ⟨false, j + 1, rfl, by go_num, by omega, ⟨yy, rfl⟩, ⟨fun q => (by cases q), fun q => ?_⟩⟩
                        have := q.2 j (by omega) (by omega) HX.out HY.out
                        rw [HZ.out] at this
                        cases this
                      case measure => simp [intOf]; omega
                    · have HZ := Lib.hid hz
                      go_wp2_with ((go_at_call 94; with_reducible refine Calls.mono (l1Le_is h1 t (by assumption) (by assumption) (by assumption) _) ?_; rintro e w' ⟨rfl, yy, rfl⟩))
                      go_roundw
                      case rel =>
                        refine ⟨true, j + 1, rfl, by go_num, by omega, ⟨yy, rfl⟩, ⟨fun _ => ⟨HU.out.1, HU.out.2.succ (fun hu hv => ?_)⟩, fun _ => rfl⟩⟩
                        exact HZ.out
                      case measure => simp [intOf]; omega
            · cases o
              · go_wp2
                go_roundw
                case rel =>
                  refine ⟨k + 1, by go_num, by omega, ⟨yy, rfl⟩, hUk.out.succ (fun q => ?_)⟩
                  have := hO.out.2 ⟨⟨q.1, q.2.1⟩, fun u u0 u1 => q.2.2 u ⟨u0, by omega⟩⟩
                  cases this
                case measure => simp [intOf]; omega
              · have HU := Lib.hid (hO.out.1 rfl)
                go_wp2
                go_ret
                refine fin_int ?_ (hback yy)
                exact firstI_eq (.inl ⟨by omega, hltk, ⟨HU.out.1.1, HU.out.1.2, HU.out.2.all _ (by omega)⟩, hUk.out⟩)
        · have HB := Lib.hid hb
          go_wp2_with ((go_at_call 94; with_reducible refine Calls.mono (l1Le_is h1 t (by assumption) (by assumption) (by assumption) _) ?_; rintro e w' ⟨rfl, yy, rfl⟩))
          have hA : Hid (true = true ↔ (s.le a k = true ∧ s.le b k = true) ∧ Upto 0 (fun u => s.le a u = true → s.le b u = true → s.le k u = true)) := ⟨fun _ => ⟨⟨HA.out, HB.out⟩, Upto.zero _⟩, fun _ => rfl⟩
          go_loopw [8, 9] (fun v i wr => ∃ (o : Bool) (j : Nat), v = .bool o ∧ i = .int .i64 j ∧ (j : Int) ≤ s.n ∧ (∃ y : Ext W1, wr = y.w) ∧ Hid (o = true ↔ (s.le a k = true ∧ s.le b k = true) ∧ Upto j (fun u => s.le a u = true → s.le b u = true → s.le k u = true))) (fun _ i _ => (s.n - intOf i).toNat)
          case atStart => exact ⟨true, 0, rfl, rfl, by omega, ⟨yy, rfl⟩, hA⟩
          case round =>
            obtain ⟨o, j, rfl, rfl, hj, ⟨yy, rfl⟩, hO⟩ := hrel
            clear hA
            by_cases hltj : (j : Int) < s.n
            · have hGj : G s j := ⟨by omega, hltj⟩
              cases o
              · go_wp2
                go_roundw
                case rel =>
                  refine ⟨k + 1, by go_num, by omega, ⟨yy, rfl⟩, hUk.out.succ (fun q => ?_)⟩
                  have := hO.out.2 ⟨⟨q.1, q.2.1⟩, fun u u0 u1 => q.2.2 u ⟨u0, by omega⟩⟩
                  cases this
                case measure => simp [intOf]; omega
              · have hU := (hO.out.1 rfl)
                have HU := Lib.hid hU
                clear hU
                cases hx : s.le a j
                · have HX := Lib.hid hx
                  go_wp2_with ((go_at_call 94; with_reducible refine Calls.mono (l1Le_is h1 t (by assumption) (by assumption) (by assumption) _) ?_; rintro e w' ⟨rfl, yy, rfl⟩))
                  go_roundw
                  case rel =>
                    refine ⟨true, j + 1, rfl, by go_num, by omega, ⟨yy, rfl⟩, ⟨fun _ => ⟨HU.out.1, HU.out.2.succ (fun hu hv => ?_)⟩, fun _ => rfl⟩⟩
                    rw [HX.out] at hu; cases hu
                  case measure => simp [intOf]; omega
                · have HX := Lib.hid hx
                  cases hy : s.le b j
                  · have HY := Lib.hid hy
                    go_wp2_with ((go_at_call 94; with_reducible refine Calls.mono (l1Le_is h1 t (by assumption) (by assumption) (by assumption) _) ?_; rintro e w' ⟨rfl, yy, rfl⟩))
                    go_roundw
                    case rel =>
                      refine ⟨true, j + 1, rfl, by go_num, by omega, ⟨yy, rfl⟩, ⟨fun _ => ⟨HU.out.1, HU.out.2.succ (fun hu hv => ?_)⟩, fun _ => rfl⟩⟩
                      rw [HY.out] at hv; cases hv
                    case measure => simp [intOf]; omega
                  · have HY := Lib.hid hy
                    cases hz : s.le k j
                    · have HZ := Lib.hid hz
                      go_wp2_with ((go_at_call 94; with_reducible refine Calls.mono (l1Le_is h1 t (by assumption) (by assumption) (by assumption) _) ?_; rintro e w' ⟨rfl, yy, rfl⟩))
                      go_roundw
                      case rel =>
                        refine ⟨false, j + 1, rfl, by go_num, by omega, ⟨yy, rfl⟩, ⟨fun q => (by cases q), fun q => ?_⟩⟩
                        have := q.2 j (by omega) (by omega) HX.out HY.out
                        rw [HZ.out] at this
                        cases this
                      case measure => simp [intOf]; omega
                    · have HZ := Lib.hid hz
                      go_wp2_with ((go_at_call 94; with_reducible refine Calls.mono (l1Le_is h1 t (by assumption) (by assumption) (by assumption) _) ?_; rintro e w' ⟨rfl, yy, rfl⟩))
                      go_roundw
                      case rel =>
                        refine ⟨true, j + 1, rfl, by go_num, by omega, ⟨yy, rfl⟩, ⟨fun _ => ⟨HU.out.1, HU.out.2.succ (fun hu hv => ?_)⟩, fun _ => rfl⟩⟩
                        exact HZ.out
                      case measure => simp [intOf]; omega
            · cases o
              · go_wp2
                go_roundw
                case rel =>
                  refine ⟨k + 1, by go_num, by omega, ⟨yy, rfl⟩, hUk.out.succ (fun q => ?_)⟩
                  have := hO.out.2 ⟨⟨q.1, q.2.1⟩, fun u u0 u1 => q.2.2 u ⟨u0, by omega⟩⟩
                  cases this
                case measure => simp [intOf]; omega
              · have HU := Lib.hid (hO.out.1 rfl)
                go_wp2
                go_ret
                refine fin_int ?_ (hback yy)
                exact firstI_eq (.inl ⟨by omega, hltk, ⟨HU.out.1.1, HU.out.1.2, HU.out.2.all _ (by omega)⟩, hUk.out⟩)
    · go_wp2
      go_ret
      refine fin_int ?_ (hback yy)
      exact firstI_eq (.inr ⟨rfl, fun i h0 hi => hUk.out i h0 (by omega)⟩)

end Go.Proofs.Ytkokmpdmmfghhaa
