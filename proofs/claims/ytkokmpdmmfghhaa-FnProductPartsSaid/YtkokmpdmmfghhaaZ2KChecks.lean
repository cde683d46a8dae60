/- The program's checks of a system. -/
import Derived.Test.YtkokmpdmmfghhaaZ2KBits
set_option linter.unusedVariables false
set_option linter.unusedSimpArgs false
namespace Go.Proofs.Ytkokmpdmmfghhaa
open Go.RowKit

theorem joinIn_ans {W : World} {r : Ref} {s : Sys} (h : SysIn W r s) (t : Tables s) {a b : Int} (ha : G s a) (hb : G s b) (x : Ext W) :
    Calls Try.prog 61 #[r.val s, .int .i64 a, .int .i64 b] x.w (Ans W (.int .i64 (s.join a b))) := by
  have h16 := t.hi
  have hA := above_lt s h16 a
  have hA' := above_lt s h16 b
  have hand := u32_and_nat (s.above a) (s.above b) (by omega) (by omega)
  have hAB : s.above a &&& s.above b < 65536 := and_lt16 hA
  unfold Ref.val
  go_enter Try.func61, Try.ntmps61
  go_wp2_with fail
  generalize hW : x.w.alloc _ = W1
  generalize hB : x.w.heap.size = B
  obtain ⟨c0, c1, c2, c3, h1, hback, yy, hy0⟩ := boxed h x hB hW
  clear hW hB
  rw [← hy0]
  clear hy0
  refine region_ext yy (by kernel_rfl) (by kernel_rfl) ?_
  repeat (go_big_quiet_step (first | (go_at_call 128; with_reducible exact gradesAbove_ans h1 t (by assumption) _) | (go_at_call 108; with_reducible exact leastOf_ans h1 t hAB (s.join a b) (join_bits s a b) _)))
  refine wpQuiet_nil ?_
  rintro _ ⟨yy, rfl⟩
  go_wp2_with fail
  go_ret
  exact fin_int rfl (hback yy)

set_option maxHeartbeats 4000000 in
theorem productsHold_ans {W : World} {r : Ref} {s : Sys} (h : SysIn W r s) (t : Tables s) (p : Bool) (hp : p = true ↔ Prods s) (x : Ext W) :
    Calls Try.prog 54 #[r.val s] x.w (Ans W (.bool p)) := by
  have HP := Lib.hid hp
  clear hp
  have h2 := t.lo
  have h16 := t.hi
  unfold Ref.val
  go_enter Try.func54, Try.ntmps54
  go_wp2_with fail
  generalize hW : x.w.alloc _ = W1
  generalize hB : x.w.heap.size = B
  obtain ⟨c0, c1, c2, c3, h1, hback, yy, hy0⟩ := boxed h x hB hW
  clear hW hB
  rw [← hy0]
  clear hy0
  go_loopw [8] (fun i wr => ∃ k : Nat, i = .int .i64 k ∧ (k : Int) ≤ s.n ∧ (∃ y : Ext W1, wr = y.w) ∧ Hid (Upto k (ProdAt s))) (fun i _ => (s.n - intOf i).toNat)
  case atStart => exact ⟨0, rfl, by omega, ⟨yy, rfl⟩, Upto.zero _⟩
  case round =>
    obtain ⟨k, rfl, hk, ⟨yy, rfl⟩, hUk⟩ := hrel
    by_cases hltk : (k : Int) < s.n
    · have hGk : G s k := ⟨by omega, hltk⟩
      have hG0 : G s 0 := ⟨by omega, by omega⟩
      have hG1 : G s 1 := ⟨by omega, by omega⟩
      by_cases ea : s.mul 1 k = (k : Int)
      · have fa : (s.mul 1 k != (k : Int)) = false := by simpa using ea
        have Ea := Lib.hid ea
        clear ea
        by_cases eb : s.mul k 1 = (k : Int)
        · have fb : (s.mul k 1 != (k : Int)) = false := by simpa using eb
          have Eb := Lib.hid eb
          clear eb
          by_cases ec : s.mul 0 k = 0
          · have fc : (s.mul 0 k != 0) = false := by simpa using ec
            have Ec := Lib.hid ec
            clear ec
            by_cases ed : s.mul k 0 = 0
            · have fd : (s.mul k 0 != 0) = false := by simpa using ed
              have Ed := Lib.hid ed
              clear ed
              go_wp2_with ((go_at_call 62; with_reducible refine Calls.mono (productIn_ans h1 t (by assumption) (by assumption) _) ?_; rintro e w' ⟨rfl, yy, rfl⟩))
              clear fa fb fc fd
              go_loopw [35] (fun i wr => ∃ j : Nat, i = .int .i64 j ∧ (j : Int) ≤ s.n ∧ (∃ y : Ext W1, wr = y.w) ∧ Hid (Upto j (ProdAt1 s k))) (fun i _ => (s.n - intOf i).toNat)
              case atStart => exact ⟨0, rfl, by omega, ⟨yy, rfl⟩, Upto.zero _⟩
              case round =>
                obtain ⟨j, rfl, hj, ⟨yy, rfl⟩, hUj⟩ := hrel
                by_cases hltj : (j : Int) < s.n
                · have hGj : G s j := ⟨by omega, hltj⟩
                  have hGs := t.mulG hGk hGj
                  go_wp2
                  go_loopw [40] (fun i wr => ∃ l : Nat, i = .int .i64 l ∧ (l : Int) ≤ s.n ∧ (∃ y : Ext W1, wr = y.w) ∧ Hid (Upto l (ProdAt2 s k j))) (fun i _ => (s.n - intOf i).toNat)
                  case atStart => exact ⟨0, rfl, by omega, ⟨yy, rfl⟩, Upto.zero _⟩
                  case round =>
                    obtain ⟨l, rfl, hl, ⟨yy, rfl⟩, hUl⟩ := hrel
                    by_cases hltl : (l : Int) < s.n
                    · have hGl : G s l := ⟨by omega, hltl⟩
                      have hGt := t.mulG hGj hGl
                      by_cases ez : s.mul (s.mul k j) l = s.mul k (s.mul j l)
                      · have fz : (s.mul (s.mul k j) l != s.mul k (s.mul j l)) = false := by simpa using ez
                        have Ez := Lib.hid ez
                        clear ez
                        go_wp2
                        refine region_ext yy (by kernel_rfl) (by kernel_rfl) ?_
                        repeat (go_big_quiet_step ((go_at_call 62; with_reducible exact productIn_ans h1 t (by assumption) (by assumption) _)))
                        refine wpQuiet_nil ?_
                        rintro _ ⟨yy, rfl⟩
                        go_wp2_with fail
                        clear fz
                        go_roundw
                        case rel => exact ⟨l + 1, by go_num, by omega, ⟨yy, rfl⟩, hUl.out.succ (Ez.out)⟩
                        case measure => simp [intOf]; omega
                      · have fz : (s.mul (s.mul k j) l != s.mul k (s.mul j l)) = true := by simpa using ez
                        have Ez := Lib.hid ez
                        clear ez
                        go_wp2
                        refine region_ext yy (by kernel_rfl) (by kernel_rfl) ?_
                        repeat (go_big_quiet_step ((go_at_call 62; with_reducible exact productIn_ans h1 t (by assumption) (by assumption) _)))
                        refine wpQuiet_nil ?_
                        rintro _ ⟨yy, rfl⟩
                        go_wp2_with fail
                        go_ret
                        exact fin_false HP (fun q => Ez.out ((q k hGk).2.2.2.2 j hGj l hGl)) (hback yy)
                    · go_wp2
                      go_roundw
                      case rel => exact ⟨j + 1, by go_num, by omega, ⟨yy, rfl⟩, hUj.out.succ (hUl.out.all _ (by omega))⟩
                      case measure => simp [intOf]; omega
                · go_wp2
                  go_roundw
                  case rel => exact ⟨k + 1, by go_num, by omega, ⟨yy, rfl⟩, hUk.out.succ (⟨Ea.out, Eb.out, Ec.out, Ed.out, hUj.out.all _ (by omega)⟩)⟩
                  case measure => simp [intOf]; omega
            · have fd : (s.mul k 0 != 0) = true := by simpa using ed
              have Ed := Lib.hid ed
              clear ed
              go_wp2_with ((go_at_call 62; with_reducible refine Calls.mono (productIn_ans h1 t (by assumption) (by assumption) _) ?_; rintro e w' ⟨rfl, yy, rfl⟩))
              go_ret
              exact fin_false HP (fun q => Ed.out ((q k hGk).2.2.2.1)) (hback yy)
          · have fc : (s.mul 0 k != 0) = true := by simpa using ec
            have Ec := Lib.hid ec
            clear ec
            go_wp2_with ((go_at_call 62; with_reducible refine Calls.mono (productIn_ans h1 t (by assumption) (by assumption) _) ?_; rintro e w' ⟨rfl, yy, rfl⟩))
            go_ret
            exact fin_false HP (fun q => Ec.out ((q k hGk).2.2.1)) (hback yy)
        · have fb : (s.mul k 1 != (k : Int)) = true := by simpa using eb
          have Eb := Lib.hid eb
          clear eb
          go_wp2_with ((go_at_call 62; with_reducible refine Calls.mono (productIn_ans h1 t (by assumption) (by assumption) _) ?_; rintro e w' ⟨rfl, yy, rfl⟩))
          go_ret
          exact fin_false HP (fun q => Eb.out ((q k hGk).2.1)) (hback yy)
      · have fa : (s.mul 1 k != (k : Int)) = true := by simpa using ea
        have Ea := Lib.hid ea
        clear ea
        go_wp2_with ((go_at_call 62; with_reducible refine Calls.mono (productIn_ans h1 t (by assumption) (by assumption) _) ?_; rintro e w' ⟨rfl, yy, rfl⟩))
        go_ret
        exact fin_false HP (fun q => Ea.out ((q k hGk).1)) (hback yy)
    · go_wp2
      go_ret
      exact fin_true HP (hUk.out.all _ (by omega)) (hback yy)

set_option maxHeartbeats 4000000 in
theorem sumsAndProductsHold_ans {W : World} {r : Ref} {s : Sys} (h : SysIn W r s) (t : Tables s) (p : Bool) (hp : p = true ↔ Dists s) (x : Ext W) :
    Calls Try.prog 55 #[r.val s] x.w (Ans W (.bool p)) := by
  have HP := Lib.hid hp
  clear hp
  have h2 := t.lo
  have h16 := t.hi
  unfold Ref.val
  go_enter Try.func55, Try.ntmps55
  go_wp2_with fail
  generalize hW : x.w.alloc _ = W1
  generalize hB : x.w.heap.size = B
  obtain ⟨c0, c1, c2, c3, h1, hback, yy, hy0⟩ := boxed h x hB hW
  clear hW hB
  rw [← hy0]
  clear hy0
  go_loopw [8] (fun i wr => ∃ k : Nat, i = .int .i64 k ∧ (k : Int) ≤ s.n ∧ (∃ y : Ext W1, wr = y.w) ∧ Hid (Upto k (DistAt s))) (fun i _ => (s.n - intOf i).toNat)
  case atStart => exact ⟨0, rfl, by omega, ⟨yy, rfl⟩, Upto.zero _⟩
  case round =>
    obtain ⟨k, rfl, hk, ⟨yy, rfl⟩, hUk⟩ := hrel
    by_cases hltk : (k : Int) < s.n
    · have hGk : G s k := ⟨by omega, hltk⟩
      go_wp2
      go_loopw [13] (fun i wr => ∃ j : Nat, i = .int .i64 j ∧ (j : Int) ≤ s.n ∧ (∃ y : Ext W1, wr = y.w) ∧ Hid (Upto j (DistAt1 s k))) (fun i _ => (s.n - intOf i).toNat)
      case atStart => exact ⟨0, rfl, by omega, ⟨yy, rfl⟩, Upto.zero _⟩
      case round =>
        obtain ⟨j, rfl, hj, ⟨yy, rfl⟩, hUj⟩ := hrel
        by_cases hltj : (j : Int) < s.n
        · have hGj : G s j := ⟨by omega, hltj⟩
          have hGs := t.addG hGk hGj
          have hGm := t.mulG hGk hGj
          go_wp2
          go_loopw [18] (fun i wr => ∃ l : Nat, i = .int .i64 l ∧ (l : Int) ≤ s.n ∧ (∃ y : Ext W1, wr = y.w) ∧ Hid (Upto l (DistAt2 s k j))) (fun i _ => (s.n - intOf i).toNat)
          case atStart => exact ⟨0, rfl, by omega, ⟨yy, rfl⟩, Upto.zero _⟩
          case round =>
            obtain ⟨l, rfl, hl, ⟨yy, rfl⟩, hUl⟩ := hrel
            by_cases hltl : (l : Int) < s.n
            · have hGl : G s l := ⟨by omega, hltl⟩
              have hGt := t.addG hGj hGl
              have hGu := t.mulG hGk hGl
              have hGv := t.mulG hGj hGl
              by_cases ey : s.mul k (s.add j l) = s.add (s.mul k j) (s.mul k l)
              · have fy : (s.mul k (s.add j l) != s.add (s.mul k j) (s.mul k l)) = false := by simpa using ey
                have Ey := Lib.hid ey
                clear ey
                go_wp2
                refine region_ext yy (by kernel_rfl) (by kernel_rfl) ?_
                repeat (go_big_quiet_step (first | (go_at_call 60; with_reducible exact sumIn_ans h1 t (by assumption) (by assumption) _) | (go_at_call 62; with_reducible exact productIn_ans h1 t (by assumption) (by assumption) _)))
                refine wpQuiet_nil ?_
                rintro _ ⟨yy, rfl⟩
                go_wp2_with fail
                clear fy
                by_cases ez : s.mul (s.add k j) l = s.add (s.mul k l) (s.mul j l)
                · have fz : (s.mul (s.add k j) l != s.add (s.mul k l) (s.mul j l)) = false := by simpa using ez
                  have Ez := Lib.hid ez
                  clear ez
                  refine region_ext yy (by kernel_rfl) (by kernel_rfl) ?_
                  repeat (go_big_quiet_step (first | (go_at_call 60; with_reducible exact sumIn_ans h1 t (by assumption) (by assumption) _) | (go_at_call 62; with_reducible exact productIn_ans h1 t (by assumption) (by assumption) _)))
                  refine wpQuiet_nil ?_
                  rintro _ ⟨yy, rfl⟩
                  go_wp2_with fail
                  clear fz
                  go_roundw
                  case rel => exact ⟨l + 1, by go_num, by omega, ⟨yy, rfl⟩, hUl.out.succ (⟨Ey.out, Ez.out⟩)⟩
                  case measure => simp [intOf]; omega
                · have fz : (s.mul (s.add k j) l != s.add (s.mul k l) (s.mul j l)) = true := by simpa using ez
                  have Ez := Lib.hid ez
                  clear ez
                  refine region_ext yy (by kernel_rfl) (by kernel_rfl) ?_
                  repeat (go_big_quiet_step (first | (go_at_call 60; with_reducible exact sumIn_ans h1 t (by assumption) (by assumption) _) | (go_at_call 62; with_reducible exact productIn_ans h1 t (by assumption) (by assumption) _)))
                  refine wpQuiet_nil ?_
                  rintro _ ⟨yy, rfl⟩
                  go_wp2_with fail
                  go_ret
                  exact fin_false HP (fun q => Ez.out ((q k hGk j hGj l hGl).2)) (hback yy)
              · have fy : (s.mul k (s.add j l) != s.add (s.mul k j) (s.mul k l)) = true := by simpa using ey
                have Ey := Lib.hid ey
                clear ey
                go_wp2
                refine region_ext yy (by kernel_rfl) (by kernel_rfl) ?_
                repeat (go_big_quiet_step (first | (go_at_call 60; with_reducible exact sumIn_ans h1 t (by assumption) (by assumption) _) | (go_at_call 62; with_reducible exact productIn_ans h1 t (by assumption) (by assumption) _)))
                refine wpQuiet_nil ?_
                rintro _ ⟨yy, rfl⟩
                go_wp2_with fail
                go_ret
                exact fin_false HP (fun q => Ey.out ((q k hGk j hGj l hGl).1)) (hback yy)
            · go_wp2
              go_roundw
              case rel => exact ⟨j + 1, by go_num, by omega, ⟨yy, rfl⟩, hUj.out.succ (hUl.out.all _ (by omega))⟩
              case measure => simp [intOf]; omega
        · go_wp2
          go_roundw
          case rel => exact ⟨k + 1, by go_num, by omega, ⟨yy, rfl⟩, hUk.out.succ (hUj.out.all _ (by omega))⟩
          case measure => simp [intOf]; omega
    · go_wp2
      go_ret
      exact fin_true HP (hUk.out.all _ (by omega)) (hback yy)

theorem sub_order (s : Sys) (a b : Int) : SubSet (s.above b) (s.above a) ↔ ∀ c, G s c → s.le b c = true → s.le a c = true := by
  unfold SubSet
  simp only [above_bit, Bool.and_eq_true, decide_eq_true_eq]
  constructor
  · intro h c hc hb
    have e : ((c.toNat : Nat) : Int) = c := by have := hc.1; omega
    have := (h c.toNat ⟨by rw [e]; exact hc.2, by rw [e]; exact hb⟩).2
    rwa [e] at this
  · exact fun h i hi => ⟨hi.1, h i ⟨by omega, hi.1⟩ hi.2⟩

set_option maxHeartbeats 4000000 in
theorem orderHolds_ans {W : World} {r : Ref} {s : Sys} (h : SysIn W r s) (t : Tables s) (p : Bool) (hp : p = true ↔ Ords s) (x : Ext W) :
    Calls Try.prog 56 #[r.val s] x.w (Ans W (.bool p)) := by
  have HP := Lib.hid hp
  clear hp
  have h2 := t.lo
  have h16 := t.hi
  unfold Ref.val
  go_enter Try.func56, Try.ntmps56
  go_wp2_with fail
  generalize hW : x.w.alloc _ = W1
  generalize hB : x.w.heap.size = B
  obtain ⟨c0, c1, c2, c3, h1, hback, yy, hy0⟩ := boxed h x hB hW
  clear hW hB
  rw [← hy0]
  clear hy0
  go_loopw [7] (fun i wr => ∃ k : Nat, i = .int .i64 k ∧ (k : Int) ≤ s.n ∧ (∃ y : Ext W1, wr = y.w) ∧ Hid (Upto k (OrdAt s))) (fun i _ => (s.n - intOf i).toNat)
  case atStart => exact ⟨0, rfl, by omega, ⟨yy, rfl⟩, Upto.zero _⟩
  case round =>
    obtain ⟨k, rfl, hk, ⟨yy, rfl⟩, hUk⟩ := hrel
    by_cases hltk : (k : Int) < s.n
    · have hGk : G s k := ⟨by omega, hltk⟩
      by_cases ea : s.le k k = true
      · have fa : s.le k k = true := by simpa using ea
        have Ea := Lib.hid ea
        clear ea
        go_wp2_with ((go_at_call 63; with_reducible refine Calls.mono (belowIn_ans h1 t (by assumption) (by assumption) _) ?_; rintro e w' ⟨rfl, yy, rfl⟩))
        clear fa
        go_loopw [17] (fun i wr => ∃ j : Nat, i = .int .i64 j ∧ (j : Int) ≤ s.n ∧ (∃ y : Ext W1, wr = y.w) ∧ Hid (Upto j (OrdAt1 s k))) (fun i _ => (s.n - intOf i).toNat)
        case atStart => exact ⟨0, rfl, by omega, ⟨yy, rfl⟩, Upto.zero _⟩
        case round =>
          obtain ⟨j, rfl, hj, ⟨yy, rfl⟩, hUj⟩ := hrel
          by_cases hltj : (j : Int) < s.n
          · have hGj : G s j := ⟨by omega, hltj⟩
            cases hle : s.le k j
            · have HL := Lib.hid hle
              go_wp2_with ((go_at_call 63; with_reducible refine Calls.mono (belowIn_ans h1 t (by assumption) (by assumption) _) ?_; rintro e w' ⟨rfl, yy, rfl⟩))
              go_roundw
              case rel => exact ⟨j + 1, by go_num, by omega, ⟨yy, rfl⟩, hUj.out.succ (fun q => by rw [HL.out] at q; cases q)⟩
              case measure => simp [intOf]; omega
            · have HL := Lib.hid hle
              have hA := above_lt s h16 (k : Int)
              have hA' := above_lt s h16 (j : Int)
              by_cases ey : (k : Int) = j ∨ s.le j k = false
              · have Ey := Lib.hid ey
                have fy' : ((k : Int) != (j : Int)) = false ∨ (((k : Int) != (j : Int)) = true ∧ s.le j k = false) := by
                  by_cases e : (k : Int) = j
                  · exact .inl (by simpa using e)
                  · exact .inr ⟨by simpa using e, by rcases ey with h | h; exact absurd h e; exact h⟩
                clear ey
                rcases fy' with fy1 | ⟨fy1, fy2⟩
                · skip
                  by_cases ez : SubSet (s.above j) (s.above k)
                  · have fz : (bits .andNot .u32 (s.above j : Int) (s.above k : Int) != 0) = false := by have := andNot_zero hA' hA; simpa [this] using ez
                    have Ez := Lib.hid ez
                    clear ez
                    go_wp2_with ((go_at_call 63; with_reducible refine Calls.mono (belowIn_ans h1 t (by assumption) (by assumption) _) ?_; rintro e w' ⟨rfl, yy, rfl⟩))
                    refine region_ext yy (by kernel_rfl) (by kernel_rfl) ?_
                    repeat (go_big_quiet_step ((go_at_call 128; with_reducible exact gradesAbove_ans h1 t (by assumption) _)))
                    refine wpQuiet_nil ?_
                    rintro _ ⟨yy, rfl⟩
                    go_wp2_with fail
                    clear fz
                    go_roundw
                    case rel => exact ⟨j + 1, by go_num, by omega, ⟨yy, rfl⟩, hUj.out.succ (fun _ => ⟨Ey.out, fun c hc hbc => (sub_order s k j).1 Ez.out c hc hbc⟩)⟩
                    case measure => simp [intOf]; omega
                  · have fz : (bits .andNot .u32 (s.above j : Int) (s.above k : Int) != 0) = true := by have := andNot_zero hA' hA; simpa [this] using ez
                    have Ez := Lib.hid ez
                    clear ez
                    go_wp2_with ((go_at_call 63; with_reducible refine Calls.mono (belowIn_ans h1 t (by assumption) (by assumption) _) ?_; rintro e w' ⟨rfl, yy, rfl⟩))
                    refine region_ext yy (by kernel_rfl) (by kernel_rfl) ?_
                    repeat (go_big_quiet_step ((go_at_call 128; with_reducible exact gradesAbove_ans h1 t (by assumption) _)))
                    refine wpQuiet_nil ?_
                    rintro _ ⟨yy, rfl⟩
                    go_wp2_with fail
                    go_ret
                    exact fin_false HP (fun q => Ez.out ((sub_order s k j).2 (((q k hGk).2 j hGj HL.out).2))) (hback yy)
                · skip
                  by_cases ez : SubSet (s.above j) (s.above k)
                  · have fz : (bits .andNot .u32 (s.above j : Int) (s.above k : Int) != 0) = false := by have := andNot_zero hA' hA; simpa [this] using ez
                    have Ez := Lib.hid ez
                    clear ez
                    go_wp2_with ((go_at_call 63; with_reducible refine Calls.mono (belowIn_ans h1 t (by assumption) (by assumption) _) ?_; rintro e w' ⟨rfl, yy, rfl⟩))
                    refine region_ext yy (by kernel_rfl) (by kernel_rfl) ?_
                    repeat (go_big_quiet_step ((go_at_call 128; with_reducible exact gradesAbove_ans h1 t (by assumption) _)))
                    refine wpQuiet_nil ?_
                    rintro _ ⟨yy, rfl⟩
                    go_wp2_with fail
                    clear fz
                    go_roundw
                    case rel => exact ⟨j + 1, by go_num, by omega, ⟨yy, rfl⟩, hUj.out.succ (fun _ => ⟨Ey.out, fun c hc hbc => (sub_order s k j).1 Ez.out c hc hbc⟩)⟩
                    case measure => simp [intOf]; omega
                  · have fz : (bits .andNot .u32 (s.above j : Int) (s.above k : Int) != 0) = true := by have := andNot_zero hA' hA; simpa [this] using ez
                    have Ez := Lib.hid ez
                    clear ez
                    go_wp2_with ((go_at_call 63; with_reducible refine Calls.mono (belowIn_ans h1 t (by assumption) (by assumption) _) ?_; rintro e w' ⟨rfl, yy, rfl⟩))
                    refine region_ext yy (by kernel_rfl) (by kernel_rfl) ?_
                    repeat (go_big_quiet_step ((go_at_call 128; with_reducible exact gradesAbove_ans h1 t (by assumption) _)))
                    refine wpQuiet_nil ?_
                    rintro _ ⟨yy, rfl⟩
                    go_wp2_with fail
                    go_ret
                    exact fin_false HP (fun q => Ez.out ((sub_order s k j).2 (((q k hGk).2 j hGj HL.out).2))) (hback yy)
              · have fy1 : ((k : Int) != (j : Int)) = true := by simp only [not_or] at ey; simpa using ey.1
                have fy2 : s.le j k = true := by simp only [not_or, Bool.not_eq_false] at ey; exact ey.2
                have Ey := Lib.hid ey
                clear ey
                go_wp2_with ((go_at_call 63; with_reducible refine Calls.mono (belowIn_ans h1 t (by assumption) (by assumption) _) ?_; rintro e w' ⟨rfl, yy, rfl⟩))
                go_ret
                exact fin_false HP (fun q => Ey.out ((q k hGk).2 j hGj HL.out).1) (hback yy)
          · go_wp2
            go_roundw
            case rel => exact ⟨k + 1, by go_num, by omega, ⟨yy, rfl⟩, hUk.out.succ (⟨Ea.out, hUj.out.all _ (by omega)⟩)⟩
            case measure => simp [intOf]; omega
      · have fa : s.le k k = false := by simpa using ea
        have Ea := Lib.hid ea
        clear ea
        go_wp2_with ((go_at_call 63; with_reducible refine Calls.mono (belowIn_ans h1 t (by assumption) (by assumption) _) ?_; rintro e w' ⟨rfl, yy, rfl⟩))
        go_ret
        exact fin_false HP (fun q => Ea.out ((q k hGk).1)) (hback yy)
    · go_wp2
      go_ret
      exact fin_true HP (hUk.out.all _ (by omega)) (hback yy)

set_option maxHeartbeats 4000000 in
theorem orderIsKept_ans {W : World} {r : Ref} {s : Sys} (h : SysIn W r s) (t : Tables s) (p : Bool) (hp : p = true ↔ Kepts s) (x : Ext W) :
    Calls Try.prog 57 #[r.val s] x.w (Ans W (.bool p)) := by
  have HP := Lib.hid hp
  clear hp
  have h2 := t.lo
  have h16 := t.hi
  unfold Ref.val
  go_enter Try.func57, Try.ntmps57
  go_wp2_with fail
  generalize hW : x.w.alloc _ = W1
  generalize hB : x.w.heap.size = B
  obtain ⟨c0, c1, c2, c3, h1, hback, yy, hy0⟩ := boxed h x hB hW
  clear hW hB
  rw [← hy0]
  clear hy0
  go_loopw [8] (fun i wr => ∃ k : Nat, i = .int .i64 k ∧ (k : Int) ≤ s.n ∧ (∃ y : Ext W1, wr = y.w) ∧ Hid (Upto k (KeptAt s))) (fun i _ => (s.n - intOf i).toNat)
  case atStart => exact ⟨0, rfl, by omega, ⟨yy, rfl⟩, Upto.zero _⟩
  case round =>
    obtain ⟨k, rfl, hk, ⟨yy, rfl⟩, hUk⟩ := hrel
    by_cases hltk : (k : Int) < s.n
    · have hGk : G s k := ⟨by omega, hltk⟩
      go_wp2
      go_loopw [13] (fun i wr => ∃ j : Nat, i = .int .i64 j ∧ (j : Int) ≤ s.n ∧ (∃ y : Ext W1, wr = y.w) ∧ Hid (Upto j (KeptAt1 s k))) (fun i _ => (s.n - intOf i).toNat)
      case atStart => exact ⟨0, rfl, by omega, ⟨yy, rfl⟩, Upto.zero _⟩
      case round =>
        obtain ⟨j, rfl, hj, ⟨yy, rfl⟩, hUj⟩ := hrel
        by_cases hltj : (j : Int) < s.n
        · have hGj : G s j := ⟨by omega, hltj⟩
          cases hle : s.le k j
          · have HL := Lib.hid hle
            go_wp2_with ((go_at_call 63; with_reducible refine Calls.mono (belowIn_ans h1 t (by assumption) (by assumption) _) ?_; rintro e w' ⟨rfl, yy, rfl⟩))
            go_roundw
            case rel => exact ⟨j + 1, by go_num, by omega, ⟨yy, rfl⟩, hUj.out.succ (fun q => by rw [HL.out] at q; cases q)⟩
            case measure => simp [intOf]; omega
          · have HL := Lib.hid hle
            go_wp2_with ((go_at_call 63; with_reducible refine Calls.mono (belowIn_ans h1 t (by assumption) (by assumption) _) ?_; rintro e w' ⟨rfl, yy, rfl⟩))
            go_loopw [23] (fun i wr => ∃ l : Nat, i = .int .i64 l ∧ (l : Int) ≤ s.n ∧ (∃ y : Ext W1, wr = y.w) ∧ Hid (Upto l (KeptAt2 s k j))) (fun i _ => (s.n - intOf i).toNat)
            case atStart => exact ⟨0, rfl, by omega, ⟨yy, rfl⟩, Upto.zero _⟩
            case round =>
              obtain ⟨l, rfl, hl, ⟨yy, rfl⟩, hUl⟩ := hrel
              by_cases hltl : (l : Int) < s.n
              · have hGl : G s l := ⟨by omega, hltl⟩
                have g1 := t.addG hGk hGl
                have g2 := t.addG hGj hGl
                have g3 := t.mulG hGk hGl
                have g4 := t.mulG hGj hGl
                have g5 := t.mulG hGl hGk
                have g6 := t.mulG hGl hGj
                by_cases ea : s.le (s.add k l) (s.add j l) = true
                · have fa : s.le (s.add k l) (s.add j l) = true := by simpa using ea
                  have Ea := Lib.hid ea
                  clear ea
                  by_cases eb : s.le (s.mul k l) (s.mul j l) = true
                  · have fb : s.le (s.mul k l) (s.mul j l) = true := by simpa using eb
                    have Eb := Lib.hid eb
                    clear eb
                    by_cases ec : s.le (s.mul l k) (s.mul l j) = true
                    · have fc : s.le (s.mul l k) (s.mul l j) = true := by simpa using ec
                      have Ec := Lib.hid ec
                      clear ec
                      go_wp2
                      refine region_ext yy (by kernel_rfl) (by kernel_rfl) ?_
                      repeat (go_big_quiet_step (first | (go_at_call 60; with_reducible exact sumIn_ans h1 t (by assumption) (by assumption) _) | (go_at_call 62; with_reducible exact productIn_ans h1 t (by assumption) (by assumption) _) | (go_at_call 63; with_reducible exact belowIn_ans h1 t (by assumption) (by assumption) _)))
                      refine wpQuiet_nil ?_
                      rintro _ ⟨yy, rfl⟩
                      go_wp2_with fail
                      clear fa fb fc
                      go_roundw
                      case rel => exact ⟨l + 1, by go_num, by omega, ⟨yy, rfl⟩, hUl.out.succ (⟨Ea.out, Eb.out, Ec.out⟩)⟩
                      case measure => simp [intOf]; omega
                    · have fc : s.le (s.mul l k) (s.mul l j) = false := by simpa using ec
                      have Ec := Lib.hid ec
                      clear ec
                      go_wp2
                      refine region_ext yy (by kernel_rfl) (by kernel_rfl) ?_
                      repeat (go_big_quiet_step (first | (go_at_call 60; with_reducible exact sumIn_ans h1 t (by assumption) (by assumption) _) | (go_at_call 62; with_reducible exact productIn_ans h1 t (by assumption) (by assumption) _) | (go_at_call 63; with_reducible exact belowIn_ans h1 t (by assumption) (by assumption) _)))
                      refine wpQuiet_nil ?_
                      rintro _ ⟨yy, rfl⟩
                      go_wp2_with fail
                      go_ret
                      exact fin_false HP (fun q => Ec.out ((q k hGk j hGj HL.out l hGl).2.2)) (hback yy)
                  · have fb : s.le (s.mul k l) (s.mul j l) = false := by simpa using eb
                    have Eb := Lib.hid eb
                    clear eb
                    go_wp2
                    refine region_ext yy (by kernel_rfl) (by kernel_rfl) ?_
                    repeat (go_big_quiet_step (first | (go_at_call 60; with_reducible exact sumIn_ans h1 t (by assumption) (by assumption) _) | (go_at_call 62; with_reducible exact productIn_ans h1 t (by assumption) (by assumption) _) | (go_at_call 63; with_reducible exact belowIn_ans h1 t (by assumption) (by assumption) _)))
                    refine wpQuiet_nil ?_
                    rintro _ ⟨yy, rfl⟩
                    go_wp2_with fail
                    go_ret
                    exact fin_false HP (fun q => Eb.out ((q k hGk j hGj HL.out l hGl).2.1)) (hback yy)
                · have fa : s.le (s.add k l) (s.add j l) = false := by simpa using ea
                  have Ea := Lib.hid ea
                  clear ea
                  go_wp2
                  refine region_ext yy (by kernel_rfl) (by kernel_rfl) ?_
                  repeat (go_big_quiet_step (first | (go_at_call 60; with_reducible exact sumIn_ans h1 t (by assumption) (by assumption) _) | (go_at_call 62; with_reducible exact productIn_ans h1 t (by assumption) (by assumption) _) | (go_at_call 63; with_reducible exact belowIn_ans h1 t (by assumption) (by assumption) _)))
                  refine wpQuiet_nil ?_
                  rintro _ ⟨yy, rfl⟩
                  go_wp2_with fail
                  go_ret
                  exact fin_false HP (fun q => Ea.out ((q k hGk j hGj HL.out l hGl).1)) (hback yy)
              · go_wp2
                go_roundw
                case rel => exact ⟨j + 1, by go_num, by omega, ⟨yy, rfl⟩, hUj.out.succ (fun _ => hUl.out.all _ (by omega))⟩
                case measure => simp [intOf]; omega
        · go_wp2
          go_roundw
          case rel => exact ⟨k + 1, by go_num, by omega, ⟨yy, rfl⟩, hUk.out.succ (hUj.out.all _ (by omega))⟩
          case measure => simp [intOf]; omega
    · go_wp2
      go_ret
      exact fin_true HP (hUk.out.all _ (by omega)) (hback yy)

set_option maxHeartbeats 4000000 in
theorem joinsExist_ans {W : World} {r : Ref} {s : Sys} (h : SysIn W r s) (t : Tables s) (p : Bool) (hp : p = true ↔ Joins s) (x : Ext W) :
    Calls Try.prog 58 #[r.val s] x.w (Ans W (.bool p)) := by
  have HP := Lib.hid hp
  clear hp
  have h2 := t.lo
  have h16 := t.hi
  unfold Ref.val
  go_enter Try.func58, Try.ntmps58
  go_wp2_with fail
  generalize hW : x.w.alloc _ = W1
  generalize hB : x.w.heap.size = B
  obtain ⟨c0, c1, c2, c3, h1, hback, yy, hy0⟩ := boxed h x hB hW
  clear hW hB
  rw [← hy0]
  clear hy0
  go_loopw [7] (fun i wr => ∃ k : Nat, i = .int .i64 k ∧ (k : Int) ≤ s.n ∧ (∃ y : Ext W1, wr = y.w) ∧ Hid (Upto k (JoinsAt s))) (fun i _ => (s.n - intOf i).toNat)
  case atStart => exact ⟨0, rfl, by omega, ⟨yy, rfl⟩, Upto.zero _⟩
  case round =>
    obtain ⟨k, rfl, hk, ⟨yy, rfl⟩, hUk⟩ := hrel
    by_cases hltk : (k : Int) < s.n
    · have hGk : G s k := ⟨by omega, hltk⟩
      go_wp2
      go_loopw [12] (fun i wr => ∃ j : Nat, i = .int .i64 j ∧ (j : Int) ≤ s.n ∧ (∃ y : Ext W1, wr = y.w) ∧ Hid (Upto j (fun b => 0 ≤ s.join k b))) (fun i _ => (s.n - intOf i).toNat)
      case atStart => exact ⟨0, rfl, by omega, ⟨yy, rfl⟩, Upto.zero _⟩
      case round =>
        obtain ⟨j, rfl, hj, ⟨yy, rfl⟩, hUj⟩ := hrel
        by_cases hltj : (j : Int) < s.n
        · have hGj : G s j := ⟨by omega, hltj⟩
          by_cases ea : 0 ≤ s.join k j
          · have fa : 0 ≤ s.join k j := by simpa using ea
            have Ea := Lib.hid ea
            clear ea
            go_wp2_with ((go_at_call 61; with_reducible refine Calls.mono (joinIn_ans h1 t (by assumption) (by assumption) _) ?_; rintro e w' ⟨rfl, yy, rfl⟩))
            clear fa
            go_roundw
            case rel => exact ⟨j + 1, by go_num, by omega, ⟨yy, rfl⟩, hUj.out.succ (Ea.out)⟩
            case measure => simp [intOf]; omega
          · have fa : s.join k j < 0 := by simpa using ea
            have Ea := Lib.hid ea
            clear ea
            go_wp2_with ((go_at_call 61; with_reducible refine Calls.mono (joinIn_ans h1 t (by assumption) (by assumption) _) ?_; rintro e w' ⟨rfl, yy, rfl⟩))
            go_ret
            exact fin_false HP (fun q => absurd (q k hGk j hGj) (by have := Ea.out; omega)) (hback yy)
        · go_wp2
          go_roundw
          case rel => exact ⟨k + 1, by go_num, by omega, ⟨yy, rfl⟩, hUk.out.succ (hUj.out.all _ (by omega))⟩
          case measure => simp [intOf]; omega
    · go_wp2
      go_ret
      exact fin_true HP (hUk.out.all _ (by omega)) (hback yy)

end Go.Proofs.Ytkokmpdmmfghhaa
