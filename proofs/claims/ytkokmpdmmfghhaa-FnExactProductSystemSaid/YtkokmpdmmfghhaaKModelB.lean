
/- The model's checks of two and three grades. -/
import Derived.Test.YtkokmpdmmfghhaaKModelA
namespace Go.Proofs.Ytkokmpdmmfghhaa
open Go.RowKit

set_option maxHeartbeats 4000000 in
theorem l1Two_ans {W : World} {r : Ref} {s : Sys} (h : SysIn W r s) (t : Tables s) {a b : Int} (hGa : G s a) (hGb : G s b) (p : Bool) (hp : p = true ↔ Two s a b) (x : Ext W) :
    Calls Try.prog 82 #[r.val s, .int .i64 a, .int .i64 b] x.w (Ans W (.bool p)) := by
  have HP := Lib.hid hp
  clear hp
  have h2 := t.lo
  have h16 := t.hi
  unfold Ref.val
  go_enter Try.func82, Try.ntmps82
  go_wp2_with fail
  generalize hW : x.w.alloc _ = W1
  generalize hB : x.w.heap.size = B
  obtain ⟨c0, c1, c2, c3, h1, hback, yy, hy0⟩ := boxed h x hB hW
  clear hW hB
  rw [← hy0]
  clear hy0
  by_cases ea : s.add a b = s.add b a
  · have fa : (s.add a b == s.add b a) = true := by simpa using ea
    have Ea := Lib.hid ea
    clear ea
    by_cases ey : a = b ∨ s.le a b = false ∨ s.le b a = false
    · have Ey := Lib.hid ey
      have fy : (a == b) = true ∨ ((a == b) = false ∧ s.le a b = false) ∨ ((a == b) = false ∧ s.le a b = true ∧ s.le b a = false) := by
        by_cases e : a = b
        · exact .inl (by simpa using e)
        · refine .inr ?_
          have e' : (a == b) = false := by simpa using e
          cases h1 : s.le a b
          · exact .inl ⟨e', rfl⟩
          · rcases ey with h | h | h
            · exact absurd h e
            · rw [h1] at h; cases h
            · exact .inr ⟨e', rfl, h⟩
      clear ey
      rcases fy with fy1 | ⟨fy1, fy2⟩ | ⟨fy1, fy2, fy3⟩
      · skip
        by_cases ez : 0 ≤ s.join a b
        · have fz : decide (0 ≤ s.join a b) = true := by simpa using ez
          have Ez := Lib.hid ez
          clear ez
          refine region_ext yy (by kernel_rfl) (by kernel_rfl) ?_
          repeat (go_big_quiet_step (first | (go_at_call 92; with_reducible exact l1Add_ans h1 t (by assumption) (by assumption) _) | (go_at_call 94; with_reducible exact l1Le_is h1 t (by assumption) (by assumption) (by assumption) _) | (go_at_call 133; with_reducible exact l1Join_ans h1 t (by assumption) (by assumption) _)))
          refine wpQuiet_nil ?_
          rintro _ ⟨yy, rfl⟩
          go_wp2_with fail
          clear fz
          go_ret
          exact fin_true HP (⟨Ea.out, Ey.out, Ez.out⟩) (hback yy)
        · have fz : decide (0 ≤ s.join a b) = false := by simpa using ez
          have Ez := Lib.hid ez
          clear ez
          refine region_ext yy (by kernel_rfl) (by kernel_rfl) ?_
          repeat (go_big_quiet_step (first | (go_at_call 92; with_reducible exact l1Add_ans h1 t (by assumption) (by assumption) _) | (go_at_call 94; with_reducible exact l1Le_is h1 t (by assumption) (by assumption) (by assumption) _) | (go_at_call 133; with_reducible exact l1Join_ans h1 t (by assumption) (by assumption) _)))
          refine wpQuiet_nil ?_
          rintro _ ⟨yy, rfl⟩
          go_wp2_with fail
          go_ret
          exact fin_false HP (fun q => absurd q.join (by have := Ez.out; omega)) (hback yy)
      · skip
        by_cases ez : 0 ≤ s.join a b
        · have fz : decide (0 ≤ s.join a b) = true := by simpa using ez
          have Ez := Lib.hid ez
          clear ez
          refine region_ext yy (by kernel_rfl) (by kernel_rfl) ?_
          repeat (go_big_quiet_step (first | (go_at_call 92; with_reducible exact l1Add_ans h1 t (by assumption) (by assumption) _) | (go_at_call 94; with_reducible exact l1Le_is h1 t (by assumption) (by assumption) (by assumption) _) | (go_at_call 133; with_reducible exact l1Join_ans h1 t (by assumption) (by assumption) _)))
          refine wpQuiet_nil ?_
          rintro _ ⟨yy, rfl⟩
          go_wp2_with fail
          clear fz
          go_ret
          exact fin_true HP (⟨Ea.out, Ey.out, Ez.out⟩) (hback yy)
        · have fz : decide (0 ≤ s.join a b) = false := by simpa using ez
          have Ez := Lib.hid ez
          clear ez
          refine region_ext yy (by kernel_rfl) (by kernel_rfl) ?_
          repeat (go_big_quiet_step (first | (go_at_call 92; with_reducible exact l1Add_ans h1 t (by assumption) (by assumption) _) | (go_at_call 94; with_reducible exact l1Le_is h1 t (by assumption) (by assumption) (by assumption) _) | (go_at_call 133; with_reducible exact l1Join_ans h1 t (by assumption) (by assumption) _)))
          refine wpQuiet_nil ?_
          rintro _ ⟨yy, rfl⟩
          go_wp2_with fail
          go_ret
          exact fin_false HP (fun q => absurd q.join (by have := Ez.out; omega)) (hback yy)
      · skip
        by_cases ez : 0 ≤ s.join a b
        · have fz : decide (0 ≤ s.join a b) = true := by simpa using ez
          have Ez := Lib.hid ez
          clear ez
          refine region_ext yy (by kernel_rfl) (by kernel_rfl) ?_
          repeat (go_big_quiet_step (first | (go_at_call 92; with_reducible exact l1Add_ans h1 t (by assumption) (by assumption) _) | (go_at_call 94; with_reducible exact l1Le_is h1 t (by assumption) (by assumption) (by assumption) _) | (go_at_call 133; with_reducible exact l1Join_ans h1 t (by assumption) (by assumption) _)))
          refine wpQuiet_nil ?_
          rintro _ ⟨yy, rfl⟩
          go_wp2_with fail
          clear fz
          go_ret
          exact fin_true HP (⟨Ea.out, Ey.out, Ez.out⟩) (hback yy)
        · have fz : decide (0 ≤ s.join a b) = false := by simpa using ez
          have Ez := Lib.hid ez
          clear ez
          refine region_ext yy (by kernel_rfl) (by kernel_rfl) ?_
          repeat (go_big_quiet_step (first | (go_at_call 92; with_reducible exact l1Add_ans h1 t (by assumption) (by assumption) _) | (go_at_call 94; with_reducible exact l1Le_is h1 t (by assumption) (by assumption) (by assumption) _) | (go_at_call 133; with_reducible exact l1Join_ans h1 t (by assumption) (by assumption) _)))
          refine wpQuiet_nil ?_
          rintro _ ⟨yy, rfl⟩
          go_wp2_with fail
          go_ret
          exact fin_false HP (fun q => absurd q.join (by have := Ez.out; omega)) (hback yy)
    · have fy1 : (a == b) = false := by simp only [not_or] at ey; simpa using ey.1
      have fy2 : s.le a b = true := by simp only [not_or, Bool.not_eq_false] at ey; exact ey.2.1
      have fy3 : s.le b a = true := by simp only [not_or, Bool.not_eq_false] at ey; exact ey.2.2
      have Ey := Lib.hid ey
      clear ey
      refine region_ext yy (by kernel_rfl) (by kernel_rfl) ?_
      repeat (go_big_quiet_step (first | (go_at_call 92; with_reducible exact l1Add_ans h1 t (by assumption) (by assumption) _) | (go_at_call 94; with_reducible exact l1Le_is h1 t (by assumption) (by assumption) (by assumption) _) | (go_at_call 133; with_reducible exact l1Join_ans h1 t (by assumption) (by assumption) _)))
      refine wpQuiet_nil ?_
      rintro _ ⟨yy, rfl⟩
      go_wp2_with fail
      go_ret
      exact fin_false HP (fun q => Ey.out q.anti) (hback yy)
  · have fa : (s.add a b == s.add b a) = false := by simpa using ea
    have Ea := Lib.hid ea
    clear ea
    refine region_ext yy (by kernel_rfl) (by kernel_rfl) ?_
    repeat (go_big_quiet_step (first | (go_at_call 92; with_reducible exact l1Add_ans h1 t (by assumption) (by assumption) _) | (go_at_call 94; with_reducible exact l1Le_is h1 t (by assumption) (by assumption) (by assumption) _) | (go_at_call 133; with_reducible exact l1Join_ans h1 t (by assumption) (by assumption) _)))
    refine wpQuiet_nil ?_
    rintro _ ⟨yy, rfl⟩
    go_wp2_with fail
    go_ret
    exact fin_false HP (fun q => Ea.out q.comm) (hback yy)

set_option maxHeartbeats 8000000 in
theorem l1Three_ans {W : World} {r : Ref} {s : Sys} (h : SysIn W r s) (t : Tables s) {a b c : Int} (hGa : G s a) (hGb : G s b) (hGc : G s c) (p : Bool) (hp : p = true ↔ Three s a b c) (x : Ext W) :
    Calls Try.prog 83 #[r.val s, .int .i64 a, .int .i64 b, .int .i64 c] x.w (Ans W (.bool p)) := by
  have HP := Lib.hid hp
  clear hp
  have h2 := t.lo
  have h16 := t.hi
  unfold Ref.val
  go_enter Try.func83, Try.ntmps83
  go_wp2_with fail
  generalize hW : x.w.alloc _ = W1
  generalize hB : x.w.heap.size = B
  obtain ⟨c0, c1, c2, c3, h1, hback, yy, hy0⟩ := boxed h x hB hW
  clear hW hB
  rw [← hy0]
  clear hy0
  have g0 := t.addG hGa hGb
  have g1 := t.addG hGb hGc
  have g2 := t.mulG hGa hGb
  have g3 := t.mulG hGb hGc
  have g4 := t.mulG hGa hGc
  have g5 := t.addG hGa hGc
  have g6 := t.mulG hGc hGa
  have g7 := t.mulG hGc hGb
  by_cases ea : s.add (s.add a b) c = s.add a (s.add b c)
  · have fa : (s.add (s.add a b) c != s.add a (s.add b c)) = false := by simpa using ea
    have Ea := Lib.hid ea
    clear ea
    by_cases eb : s.mul (s.mul a b) c = s.mul a (s.mul b c)
    · have fb : (s.mul (s.mul a b) c != s.mul a (s.mul b c)) = false := by simpa using eb
      have Eb := Lib.hid eb
      clear eb
      refine region_ext yy (by kernel_rfl) (by kernel_rfl) ?_
      repeat (go_big_quiet_step (first | (go_at_call 92; with_reducible exact l1Add_ans h1 t (by assumption) (by assumption) _) | (go_at_call 93; with_reducible exact l1Mul_ans h1 t (by assumption) (by assumption) _)))
      refine wpQuiet_nil ?_
      rintro _ ⟨yy, rfl⟩
      go_wp2_with fail
      clear fa fb
      by_cases ec : s.mul a (s.add b c) = s.add (s.mul a b) (s.mul a c)
      · have fc : (s.mul a (s.add b c) != s.add (s.mul a b) (s.mul a c)) = false := by simpa using ec
        have Ec := Lib.hid ec
        clear ec
        by_cases ed : s.mul (s.add a b) c = s.add (s.mul a c) (s.mul b c)
        · have fd : (s.mul (s.add a b) c != s.add (s.mul a c) (s.mul b c)) = false := by simpa using ed
          have Ed := Lib.hid ed
          clear ed
          refine region_ext yy (by kernel_rfl) (by kernel_rfl) ?_
          repeat (go_big_quiet_step (first | (go_at_call 92; with_reducible exact l1Add_ans h1 t (by assumption) (by assumption) _) | (go_at_call 93; with_reducible exact l1Mul_ans h1 t (by assumption) (by assumption) _)))
          refine wpQuiet_nil ?_
          rintro _ ⟨yy, rfl⟩
          go_wp2_with fail
          clear fc fd
          cases hle : s.le a b
          · have HL := Lib.hid hle
            go_wp2_with ((go_at_call 94; with_reducible refine Calls.mono (l1Le_is h1 t (by assumption) (by assumption) (by assumption) _) ?_; rintro e w' ⟨rfl, yy, rfl⟩))
            go_ret
            exact fin_true HP (⟨Ea.out, Eb.out, Ec.out, Ed.out, fun u => (by rw [HL.out] at u; cases u), fun u => (by rw [HL.out] at u; cases u), fun u => (by rw [HL.out] at u; cases u), fun u => (by rw [HL.out] at u; cases u)⟩) (hback yy)
          · have HL := Lib.hid hle
            cases hbc : s.le b c
            · have HB := Lib.hid hbc
              go_wp2_with ((go_at_call 94; with_reducible refine Calls.mono (l1Le_is h1 t (by assumption) (by assumption) (by assumption) _) ?_; rintro e w' ⟨rfl, yy, rfl⟩))
              by_cases eh : s.le (s.add a c) (s.add b c) = true
              · have fh : s.le (s.add a c) (s.add b c) = true := by simpa using eh
                have Eh := Lib.hid eh
                clear eh
                by_cases ei : s.le (s.mul a c) (s.mul b c) = true
                · have fi : s.le (s.mul a c) (s.mul b c) = true := by simpa using ei
                  have Ei := Lib.hid ei
                  clear ei
                  by_cases ej : s.le (s.mul c a) (s.mul c b) = true
                  · have fj : s.le (s.mul c a) (s.mul c b) = true := by simpa using ej
                    have Ej := Lib.hid ej
                    clear ej
                    refine region_ext yy (by kernel_rfl) (by kernel_rfl) ?_
                    repeat (go_big_quiet_step (first | (go_at_call 92; with_reducible exact l1Add_ans h1 t (by assumption) (by assumption) _) | (go_at_call 93; with_reducible exact l1Mul_ans h1 t (by assumption) (by assumption) _) | (go_at_call 94; with_reducible exact l1Le_is h1 t (by assumption) (by assumption) (by assumption) _)))
                    refine wpQuiet_nil ?_
                    rintro _ ⟨yy, rfl⟩
                    go_wp2_with fail
                    clear fh fi fj
                    go_ret
                    exact fin_true HP (⟨Ea.out, Eb.out, Ec.out, Ed.out, fun _ u => (by rw [HB.out] at u; cases u), fun _ => Eh.out, fun _ => Ei.out, fun _ => Ej.out⟩) (hback yy)
                  · have fj : s.le (s.mul c a) (s.mul c b) = false := by simpa using ej
                    have Ej := Lib.hid ej
                    clear ej
                    refine region_ext yy (by kernel_rfl) (by kernel_rfl) ?_
                    repeat (go_big_quiet_step (first | (go_at_call 92; with_reducible exact l1Add_ans h1 t (by assumption) (by assumption) _) | (go_at_call 93; with_reducible exact l1Mul_ans h1 t (by assumption) (by assumption) _) | (go_at_call 94; with_reducible exact l1Le_is h1 t (by assumption) (by assumption) (by assumption) _)))
                    refine wpQuiet_nil ?_
                    rintro _ ⟨yy, rfl⟩
                    go_wp2_with fail
                    go_ret
                    exact fin_false HP (fun q => Ej.out (q.k2 HL.out)) (hback yy)
                · have fi : s.le (s.mul a c) (s.mul b c) = false := by simpa using ei
                  have Ei := Lib.hid ei
                  clear ei
                  refine region_ext yy (by kernel_rfl) (by kernel_rfl) ?_
                  repeat (go_big_quiet_step (first | (go_at_call 92; with_reducible exact l1Add_ans h1 t (by assumption) (by assumption) _) | (go_at_call 93; with_reducible exact l1Mul_ans h1 t (by assumption) (by assumption) _) | (go_at_call 94; with_reducible exact l1Le_is h1 t (by assumption) (by assumption) (by assumption) _)))
                  refine wpQuiet_nil ?_
                  rintro _ ⟨yy, rfl⟩
                  go_wp2_with fail
                  go_ret
                  exact fin_false HP (fun q => Ei.out (q.k1 HL.out)) (hback yy)
              · have fh : s.le (s.add a c) (s.add b c) = false := by simpa using eh
                have Eh := Lib.hid eh
                clear eh
                refine region_ext yy (by kernel_rfl) (by kernel_rfl) ?_
                repeat (go_big_quiet_step (first | (go_at_call 92; with_reducible exact l1Add_ans h1 t (by assumption) (by assumption) _) | (go_at_call 93; with_reducible exact l1Mul_ans h1 t (by assumption) (by assumption) _) | (go_at_call 94; with_reducible exact l1Le_is h1 t (by assumption) (by assumption) (by assumption) _)))
                refine wpQuiet_nil ?_
                rintro _ ⟨yy, rfl⟩
                go_wp2_with fail
                go_ret
                exact fin_false HP (fun q => Eh.out (q.ka HL.out)) (hback yy)
            · have HB := Lib.hid hbc
              by_cases eg : s.le a c = true
              · have fg : s.le a c = true := by simpa using eg
                have Eg := Lib.hid eg
                clear eg
                go_wp2_with ((go_at_call 94; with_reducible refine Calls.mono (l1Le_is h1 t (by assumption) (by assumption) (by assumption) _) ?_; rintro e w' ⟨rfl, yy, rfl⟩))
                clear fg
                by_cases eh : s.le (s.add a c) (s.add b c) = true
                · have fh : s.le (s.add a c) (s.add b c) = true := by simpa using eh
                  have Eh := Lib.hid eh
                  clear eh
                  by_cases ei : s.le (s.mul a c) (s.mul b c) = true
                  · have fi : s.le (s.mul a c) (s.mul b c) = true := by simpa using ei
                    have Ei := Lib.hid ei
                    clear ei
                    by_cases ej : s.le (s.mul c a) (s.mul c b) = true
                    · have fj : s.le (s.mul c a) (s.mul c b) = true := by simpa using ej
                      have Ej := Lib.hid ej
                      clear ej
                      refine region_ext yy (by kernel_rfl) (by kernel_rfl) ?_
                      repeat (go_big_quiet_step (first | (go_at_call 92; with_reducible exact l1Add_ans h1 t (by assumption) (by assumption) _) | (go_at_call 93; with_reducible exact l1Mul_ans h1 t (by assumption) (by assumption) _) | (go_at_call 94; with_reducible exact l1Le_is h1 t (by assumption) (by assumption) (by assumption) _)))
                      refine wpQuiet_nil ?_
                      rintro _ ⟨yy, rfl⟩
                      go_wp2_with fail
                      clear fh fi fj
                      go_ret
                      exact fin_true HP (⟨Ea.out, Eb.out, Ec.out, Ed.out, fun _ _ => Eg.out, fun _ => Eh.out, fun _ => Ei.out, fun _ => Ej.out⟩) (hback yy)
                    · have fj : s.le (s.mul c a) (s.mul c b) = false := by simpa using ej
                      have Ej := Lib.hid ej
                      clear ej
                      refine region_ext yy (by kernel_rfl) (by kernel_rfl) ?_
                      repeat (go_big_quiet_step (first | (go_at_call 92; with_reducible exact l1Add_ans h1 t (by assumption) (by assumption) _) | (go_at_call 93; with_reducible exact l1Mul_ans h1 t (by assumption) (by assumption) _) | (go_at_call 94; with_reducible exact l1Le_is h1 t (by assumption) (by assumption) (by assumption) _)))
                      refine wpQuiet_nil ?_
                      rintro _ ⟨yy, rfl⟩
                      go_wp2_with fail
                      go_ret
                      exact fin_false HP (fun q => Ej.out (q.k2 HL.out)) (hback yy)
                  · have fi : s.le (s.mul a c) (s.mul b c) = false := by simpa using ei
                    have Ei := Lib.hid ei
                    clear ei
                    refine region_ext yy (by kernel_rfl) (by kernel_rfl) ?_
                    repeat (go_big_quiet_step (first | (go_at_call 92; with_reducible exact l1Add_ans h1 t (by assumption) (by assumption) _) | (go_at_call 93; with_reducible exact l1Mul_ans h1 t (by assumption) (by assumption) _) | (go_at_call 94; with_reducible exact l1Le_is h1 t (by assumption) (by assumption) (by assumption) _)))
                    refine wpQuiet_nil ?_
                    rintro _ ⟨yy, rfl⟩
                    go_wp2_with fail
                    go_ret
                    exact fin_false HP (fun q => Ei.out (q.k1 HL.out)) (hback yy)
                · have fh : s.le (s.add a c) (s.add b c) = false := by simpa using eh
                  have Eh := Lib.hid eh
                  clear eh
                  refine region_ext yy (by kernel_rfl) (by kernel_rfl) ?_
                  repeat (go_big_quiet_step (first | (go_at_call 92; with_reducible exact l1Add_ans h1 t (by assumption) (by assumption) _) | (go_at_call 93; with_reducible exact l1Mul_ans h1 t (by assumption) (by assumption) _) | (go_at_call 94; with_reducible exact l1Le_is h1 t (by assumption) (by assumption) (by assumption) _)))
                  refine wpQuiet_nil ?_
                  rintro _ ⟨yy, rfl⟩
                  go_wp2_with fail
                  go_ret
                  exact fin_false HP (fun q => Eh.out (q.ka HL.out)) (hback yy)
              · have fg : s.le a c = false := by simpa using eg
                have Eg := Lib.hid eg
                clear eg
                go_wp2_with ((go_at_call 94; with_reducible refine Calls.mono (l1Le_is h1 t (by assumption) (by assumption) (by assumption) _) ?_; rintro e w' ⟨rfl, yy, rfl⟩))
                go_ret
                exact fin_false HP (fun q => Eg.out (q.tr HL.out HB.out)) (hback yy)
        · have fd : (s.mul (s.add a b) c != s.add (s.mul a c) (s.mul b c)) = true := by simpa using ed
          have Ed := Lib.hid ed
          clear ed
          refine region_ext yy (by kernel_rfl) (by kernel_rfl) ?_
          repeat (go_big_quiet_step (first | (go_at_call 92; with_reducible exact l1Add_ans h1 t (by assumption) (by assumption) _) | (go_at_call 93; with_reducible exact l1Mul_ans h1 t (by assumption) (by assumption) _)))
          refine wpQuiet_nil ?_
          rintro _ ⟨yy, rfl⟩
          go_wp2_with fail
          go_ret
          exact fin_false HP (fun q => Ed.out (q.dr)) (hback yy)
      · have fc : (s.mul a (s.add b c) != s.add (s.mul a b) (s.mul a c)) = true := by simpa using ec
        have Ec := Lib.hid ec
        clear ec
        refine region_ext yy (by kernel_rfl) (by kernel_rfl) ?_
        repeat (go_big_quiet_step (first | (go_at_call 92; with_reducible exact l1Add_ans h1 t (by assumption) (by assumption) _) | (go_at_call 93; with_reducible exact l1Mul_ans h1 t (by assumption) (by assumption) _)))
        refine wpQuiet_nil ?_
        rintro _ ⟨yy, rfl⟩
        go_wp2_with fail
        go_ret
        exact fin_false HP (fun q => Ec.out (q.dl)) (hback yy)
    · have fb : (s.mul (s.mul a b) c != s.mul a (s.mul b c)) = true := by simpa using eb
      have Eb := Lib.hid eb
      clear eb
      refine region_ext yy (by kernel_rfl) (by kernel_rfl) ?_
      repeat (go_big_quiet_step (first | (go_at_call 92; with_reducible exact l1Add_ans h1 t (by assumption) (by assumption) _) | (go_at_call 93; with_reducible exact l1Mul_ans h1 t (by assumption) (by assumption) _)))
      refine wpQuiet_nil ?_
      rintro _ ⟨yy, rfl⟩
      go_wp2_with fail
      go_ret
      exact fin_false HP (fun q => Eb.out (q.mm)) (hback yy)
  · have fa : (s.add (s.add a b) c != s.add a (s.add b c)) = true := by simpa using ea
    have Ea := Lib.hid ea
    clear ea
    refine region_ext yy (by kernel_rfl) (by kernel_rfl) ?_
    repeat (go_big_quiet_step (first | (go_at_call 92; with_reducible exact l1Add_ans h1 t (by assumption) (by assumption) _) | (go_at_call 93; with_reducible exact l1Mul_ans h1 t (by assumption) (by assumption) _)))
    refine wpQuiet_nil ?_
    rintro _ ⟨yy, rfl⟩
    go_wp2_with fail
    go_ret
    exact fin_false HP (fun q => Ea.out (q.aa)) (hback yy)

end Go.Proofs.Ytkokmpdmmfghhaa
