
/- The model's test of a system. -/
import Derived.Test.YtkokmpdmmfghhaaKSysA
import Derived.Test.YtkokmpdmmfghhaaKModelB
namespace Go.Proofs.Ytkokmpdmmfghhaa
open Go.RowKit

/-- What 'l1In' is asked, and its answer. -/
def InB (g lo hi : Int) (v : Bool) : Prop := v = true ↔ lo ≤ g ∧ g ≤ hi
def In0 (n g : Int) : Prop := 0 ≤ g ∧ g < n
theorem l1In_is {W : World} {g lo hi : Int} {p : Bool} (hp : InB g lo hi p) (x : Ext W) :
    Calls Try.prog 91 #[.int .i64 g, .int .i64 lo, .int .i64 hi] x.w (Ans W (.bool p)) := l1In_ans g lo hi p hp x

set_option maxHeartbeats 4000000 in
theorem l1Tables_ans {W : World} {r : Ref} {s : Sys} (h : SysIn W r s) (p : Bool) (hp : p = true ↔ Tables s) (x : Ext W) :
    Calls Try.prog 80 #[r.val s] x.w (Ans W (.bool p)) := by
  have HP := Lib.hid hp
  clear hp
  unfold Ref.val
  by_cases e1 : 2 ≤ s.n ∧ s.n ≤ 16
  · obtain ⟨h2, h16⟩ := e1
    obtain ⟨n0, n1⟩ := nn_facts h2 h16
    by_cases ea : (s.plus.length : Int) = s.n * s.n
    · have fa : ((s.plus.length : Int) != s.n * s.n) = false := by simpa using ea
      by_cases eb : (s.times.length : Int) = s.n * s.n
      · have fb : ((s.times.length : Int) != s.n * s.n) = false := by simpa using eb
        by_cases ec : (s.below.length : Int) = s.n * s.n
        · have fc : ((s.below.length : Int) != s.n * s.n) = false := by simpa using ec
          have hlen : s.times.length = s.plus.length := by omega
          have hmax : s.plus.length ≤ 256 := by omega
          have Ea := Lib.hid ea
          have Eb := Lib.hid eb
          have Ec := Lib.hid ec
          have HL := Lib.hid hlen
          have hl1 : s.times.length ≤ s.plus.length := by omega
          have hl2 : s.plus.length ≤ s.times.length := by omega
          clear ea eb ec hlen
          go_enter Try.func80, Try.ntmps80
          go_wp2_with fail
          generalize hW : x.w.alloc _ = W1
          generalize hB : x.w.heap.size = B
          obtain ⟨c0, c1, c2, c3, h1, hback, yy, hy0⟩ := boxed h x hB hW
          clear hW hB
          rw [← hy0]
          clear hy0
          (with_reducible refine Calls.mono (l1In_ans s.n 2 16 true (by refine iff_tf ?_; dsimp only; omega) _) ?_)
          rintro e w' ⟨rfl, yy, rfl⟩
          go_wp2_with fail
          clear fa fb fc
          go_loopw [3] (fun i wr => ∃ k : Nat, i = .int .i64 k ∧ k ≤ s.plus.length ∧ (∃ y : Ext W1, wr = y.w) ∧ Hid (∀ j, j < k → In0 s.n (s.plus.getD j 0) ∧ In0 s.n (s.times.getD j 0))) (fun i _ => s.plus.length - (intOf i).toNat)
          case atStart => exact ⟨0, rfl, by omega, ⟨yy, rfl⟩, fun j hj => by omega⟩
          case round =>
            obtain ⟨k, rfl, hk, ⟨yy, rfl⟩, hU⟩ := hrel
            by_cases hlt : k < s.plus.length
            · have hltt : k < s.times.length := by omega
              have hlt' : (k : Int) < (s.plus.length : Int) := by omega
              have hltt' : (k : Int) < (s.times.length : Int) := by omega
              obtain ⟨bp, op, hpa, hc⟩ := h1.plus.at hlt
              obtain ⟨bt, ot, hta, hd⟩ := h1.times.at hltt
              have hcell : ∀ y : Ext W1, y.w.cell? ⟨bp, op + k, none⟩ = some (.int .i64 (s.plus.getD k 0)) := fun y => y.cell (hc k _ (by rw [List.getD_eq_getElem?_getD, List.getElem?_eq_getElem hlt]; rfl))
              have hcellt : ∀ y : Ext W1, y.w.cell? ⟨bt, ot + k, none⟩ = some (.int .i64 (s.times.getD k 0)) := fun y => y.cell (hd k _ (by rw [List.getD_eq_getElem?_getD, List.getElem?_eq_getElem hltt]; rfl))
              rw [hpa] at c1
              rw [hta] at c2
              clear hc hd hpa hta
              obtain ⟨g, hg⟩ : ∃ g, g = s.plus.getD k 0 := ⟨_, rfl⟩
              obtain ⟨g', hg'⟩ : ∃ g', g' = s.times.getD k 0 := ⟨_, rfl⟩
              rw [← hg] at hcell
              rw [← hg'] at hcellt
              have HG := Lib.hid hg
              have HG' := Lib.hid hg'
              clear hg hg'
              have hw : IntKind.i64.wrap (s.n - 1) = s.n - 1 := IntWalk.i64_in _ (by omega)
              by_cases e1 : 0 ≤ g ∧ g ≤ s.n - 1
              · have E1 : InB g 0 (s.n - 1) true := by unfold InB; simpa using e1
                by_cases e2 : 0 ≤ g' ∧ g' ≤ s.n - 1
                · have E2 : InB g' 0 (s.n - 1) true := by unfold InB; simpa using e2
                  have X1 := Lib.hid e1
                  have X2 := Lib.hid e2
                  clear e1 e2
                  go_wp2_with fail
                  refine region_ext yy (by kernel_rfl) (by kernel_rfl) ?_
                  repeat (go_big_quiet_step ((go_at_call 91; with_reducible exact l1In_is (by assumption) _)))
                  refine wpQuiet_nil ?_
                  rintro _ ⟨yy, rfl⟩
                  go_wp2_with fail
                  go_roundw
                  case rel =>
                    refine ⟨k + 1, by go_num, by omega, ⟨yy, rfl⟩, fun j hj => ?_⟩
                    by_cases e : j = k
                    · subst e
                      rw [← HG.out, ← HG'.out]
                      exact ⟨⟨X1.out.1, by have := X1.out.2; omega⟩, ⟨X2.out.1, by have := X2.out.2; omega⟩⟩
                    · exact hU.out j (by omega)
                  case measure => simp [intOf]; omega
                · have E2 : InB g' 0 (s.n - 1) false := by unfold InB; simp only [Bool.false_eq_true, false_iff]; exact e2
                  have X1 := Lib.hid e1
                  have X2 := Lib.hid e2
                  clear e1 e2
                  go_wp2_with fail
                  refine region_ext yy (by kernel_rfl) (by kernel_rfl) ?_
                  repeat (go_big_quiet_step ((go_at_call 91; with_reducible exact l1In_is (by assumption) _)))
                  refine wpQuiet_nil ?_
                  rintro _ ⟨yy, rfl⟩
                  go_wp2_with fail
                  go_ret
                  refine fin_false HP (fun q => X2.out ?_) (hback yy)
                  have := q.rt g' (by rw [HG'.out, List.getD_eq_getElem?_getD, List.getElem?_eq_getElem hltt]; exact List.getElem_mem hltt)
                  omega
              · have E1 : InB g 0 (s.n - 1) false := by unfold InB; simp only [Bool.false_eq_true, false_iff]; exact e1
                have X1 := Lib.hid e1
                clear e1
                go_wp2_with fail
                refine region_ext yy (by kernel_rfl) (by kernel_rfl) ?_
                repeat (go_big_quiet_step ((go_at_call 91; with_reducible exact l1In_is (by assumption) _)))
                refine wpQuiet_nil ?_
                rintro _ ⟨yy, rfl⟩
                go_wp2_with fail
                go_ret
                refine fin_false HP (fun q => X1.out ?_) (hback yy)
                have := q.rp g (by rw [HG.out, List.getD_eq_getElem?_getD, List.getElem?_eq_getElem hlt]; exact List.getElem_mem hlt)
                omega
            · go_wp2
              go_ret
              refine fin_true HP ⟨h2, h16, Ea.out, Eb.out, Ec.out, fun g hg => ?_, fun g hg => ?_⟩ (hback yy)
              · obtain ⟨j, hj, e⟩ := List.mem_iff_getElem.1 hg
                have := (hU.out j (by omega)).1
                rw [List.getD_eq_getElem?_getD, List.getElem?_eq_getElem hj] at this
                simp only [Option.getD_some, e] at this
                exact this
              · obtain ⟨j, hj, e⟩ := List.mem_iff_getElem.1 hg
                have := (hU.out j (by omega)).2
                rw [List.getD_eq_getElem?_getD, List.getElem?_eq_getElem hj] at this
                simp only [Option.getD_some, e] at this
                exact this
        · have fc : ((s.below.length : Int) != s.n * s.n) = true := by simpa using ec
          have Ec := Lib.hid ec
          clear ea eb ec
          go_enter Try.func80, Try.ntmps80
          go_wp2_with fail
          generalize hW : x.w.alloc _ = W1
          generalize hB : x.w.heap.size = B
          obtain ⟨c0, c1, c2, c3, h1, hback, yy, hy0⟩ := boxed h x hB hW
          clear hW hB
          rw [← hy0]
          clear hy0
          (with_reducible refine Calls.mono (l1In_ans s.n 2 16 true (by refine iff_tf ?_; dsimp only; omega) _) ?_)
          rintro e w' ⟨rfl, yy, rfl⟩
          go_wp2_with fail
          go_ret
          exact fin_false HP (fun q => Ec.out q.lb) (hback yy)
      · have fb : ((s.times.length : Int) != s.n * s.n) = true := by simpa using eb
        have Eb := Lib.hid eb
        clear ea eb
        go_enter Try.func80, Try.ntmps80
        go_wp2_with fail
        generalize hW : x.w.alloc _ = W1
        generalize hB : x.w.heap.size = B
        obtain ⟨c0, c1, c2, c3, h1, hback, yy, hy0⟩ := boxed h x hB hW
        clear hW hB
        rw [← hy0]
        clear hy0
        (with_reducible refine Calls.mono (l1In_ans s.n 2 16 true (by refine iff_tf ?_; dsimp only; omega) _) ?_)
        rintro e w' ⟨rfl, yy, rfl⟩
        go_wp2_with fail
        go_ret
        exact fin_false HP (fun q => Eb.out q.lt) (hback yy)
    · have fa : ((s.plus.length : Int) != s.n * s.n) = true := by simpa using ea
      have Ea := Lib.hid ea
      clear ea
      go_enter Try.func80, Try.ntmps80
      go_wp2_with fail
      generalize hW : x.w.alloc _ = W1
      generalize hB : x.w.heap.size = B
      obtain ⟨c0, c1, c2, c3, h1, hback, yy, hy0⟩ := boxed h x hB hW
      clear hW hB
      rw [← hy0]
      clear hy0
      (with_reducible refine Calls.mono (l1In_ans s.n 2 16 true (by refine iff_tf ?_; dsimp only; omega) _) ?_)
      rintro e w' ⟨rfl, yy, rfl⟩
      go_wp2_with fail
      go_ret
      exact fin_false HP (fun q => Ea.out q.lp) (hback yy)
  · have E1 := Lib.hid e1
    clear e1
    go_enter Try.func80, Try.ntmps80
    go_wp2_with fail
    generalize hW : x.w.alloc _ = W1
    generalize hB : x.w.heap.size = B
    obtain ⟨c0, c1, c2, c3, h1, hback, yy, hy0⟩ := boxed h x hB hW
    clear hW hB
    rw [← hy0]
    clear hy0
    (with_reducible refine Calls.mono (l1In_ans s.n 2 16 false (by refine iff_tf ?_; dsimp only; exact E1.out) _) ?_)
    rintro e w' ⟨rfl, yy, rfl⟩
    go_wp2_with fail
    go_ret
    exact fin_false HP (fun q => E1.out ⟨q.lo, q.hi⟩) (hback yy)

set_option maxHeartbeats 8000000 in
theorem specIsSystem_ans {W : World} {r : Ref} {s : Sys} (h : SysIn W r s) (p : Bool) (hp : p = true ↔ IsSys s) (x : Ext W) :
    Calls Try.prog 29 #[r.val s] x.w (Ans W (.bool p)) := by
  have HP := Lib.hid hp
  clear hp
  unfold Ref.val
  by_cases et : Tables s
  · have t := et
    have h2 := t.lo
    have h16 := t.hi
    clear et
    go_enter Try.func29, Try.ntmps29
    go_wp2_with fail
    generalize hW : x.w.alloc _ = W1
    generalize hB : x.w.heap.size = B
    obtain ⟨c0, c1, c2, c3, h1, hback, yy, hy0⟩ := boxed h x hB hW
    clear hW hB
    rw [← hy0]
    clear hy0
    (with_reducible refine Calls.mono (l1Tables_ans h1 true (by simp only [true_iff]; exact t) _) ?_)
    rintro e w' ⟨rfl, yy, rfl⟩
    go_wp2_with fail
    go_loopw [3] (fun i wr => ∃ k : Nat, i = .int .i64 k ∧ (k : Int) ≤ s.n ∧ (∃ y : Ext W1, wr = y.w) ∧ Hid (Upto k (fun a => One s a ∧ ∀ b, G s b → Two s a b ∧ ∀ c, G s c → Three s a b c))) (fun i _ => (s.n - intOf i).toNat)
    case atStart => exact ⟨0, rfl, by omega, ⟨yy, rfl⟩, Upto.zero _⟩
    case round =>
      obtain ⟨k, rfl, hk, ⟨yy, rfl⟩, hUk⟩ := hrel
      by_cases hltk : (k : Int) < s.n
      · have hGk : G s k := ⟨by omega, hltk⟩
        by_cases ea : One s k
        · have Ea := Lib.hid ea
          clear ea
          go_wp2_with (go_at_call 81; with_reducible refine Calls.mono (l1One_ans h1 t hGk true (by refine iff_tf ?_; dsimp only; exact Ea.out) _) ?_; rintro e w' ⟨rfl, yy, rfl⟩)
          go_loopw [4] (fun i wr => ∃ j : Nat, i = .int .i64 j ∧ (j : Int) ≤ s.n ∧ (∃ y : Ext W1, wr = y.w) ∧ Hid (Upto j (fun b => Two s k b ∧ ∀ c, G s c → Three s k b c))) (fun i _ => (s.n - intOf i).toNat)
          case atStart => exact ⟨0, rfl, by omega, ⟨yy, rfl⟩, Upto.zero _⟩
          case round =>
            obtain ⟨j, rfl, hj, ⟨yy, rfl⟩, hUj⟩ := hrel
            by_cases hltj : (j : Int) < s.n
            · have hGj : G s j := ⟨by omega, hltj⟩
              by_cases eb : Two s k j
              · have Eb := Lib.hid eb
                clear eb
                go_wp2_with (go_at_call 82; with_reducible refine Calls.mono (l1Two_ans h1 t hGk hGj true (by refine iff_tf ?_; dsimp only; exact Eb.out) _) ?_; rintro e w' ⟨rfl, yy, rfl⟩)
                go_loopw [5] (fun i wr => ∃ l : Nat, i = .int .i64 l ∧ (l : Int) ≤ s.n ∧ (∃ y : Ext W1, wr = y.w) ∧ Hid (Upto l (fun c => Three s k j c))) (fun i _ => (s.n - intOf i).toNat)
                case atStart => exact ⟨0, rfl, by omega, ⟨yy, rfl⟩, Upto.zero _⟩
                case round =>
                  obtain ⟨l, rfl, hl, ⟨yy, rfl⟩, hUl⟩ := hrel
                  by_cases hltl : (l : Int) < s.n
                  · have hGl : G s l := ⟨by omega, hltl⟩
                    by_cases ec : Three s k j l
                    · have Ec := Lib.hid ec
                      clear ec
                      go_wp2_with (go_at_call 83; with_reducible refine Calls.mono (l1Three_ans h1 t hGk hGj hGl true (by refine iff_tf ?_; dsimp only; exact Ec.out) _) ?_; rintro e w' ⟨rfl, yy, rfl⟩)
                      go_roundw
                      case rel => exact ⟨l + 1, by go_num, by omega, ⟨yy, rfl⟩, hUl.out.succ (Ec.out)⟩
                      case measure => simp [intOf]; omega
                    · have Ec := Lib.hid ec
                      clear ec
                      go_wp2_with (go_at_call 83; with_reducible refine Calls.mono (l1Three_ans h1 t hGk hGj hGl false (by refine iff_tf ?_; dsimp only; exact Ec.out) _) ?_; rintro e w' ⟨rfl, yy, rfl⟩)
                      go_ret
                      exact fin_false HP (fun q => Ec.out (q.three _ _ _ hGk hGj hGl)) (hback yy)
                  · go_wp2
                    go_roundw
                    case rel => exact ⟨j + 1, by go_num, by omega, ⟨yy, rfl⟩, hUj.out.succ (⟨Eb.out, hUl.out.all _ (by omega)⟩)⟩
                    case measure => simp [intOf]; omega
              · have Eb := Lib.hid eb
                clear eb
                go_wp2_with (go_at_call 82; with_reducible refine Calls.mono (l1Two_ans h1 t hGk hGj false (by refine iff_tf ?_; dsimp only; exact Eb.out) _) ?_; rintro e w' ⟨rfl, yy, rfl⟩)
                go_ret
                exact fin_false HP (fun q => Eb.out (q.two _ _ hGk hGj)) (hback yy)
            · go_wp2
              go_roundw
              case rel => exact ⟨k + 1, by go_num, by omega, ⟨yy, rfl⟩, hUk.out.succ (⟨Ea.out, hUj.out.all _ (by omega)⟩)⟩
              case measure => simp [intOf]; omega
        · have Ea := Lib.hid ea
          clear ea
          go_wp2_with (go_at_call 81; with_reducible refine Calls.mono (l1One_ans h1 t hGk false (by refine iff_tf ?_; dsimp only; exact Ea.out) _) ?_; rintro e w' ⟨rfl, yy, rfl⟩)
          go_ret
          exact fin_false HP (fun q => Ea.out (q.one _ hGk)) (hback yy)
      · go_wp2
        go_ret
        exact fin_true HP (⟨t, fun a ha => (hUk.out.all _ (by omega) a ha).1, fun a b ha hb => ((hUk.out.all _ (by omega) a ha).2 b hb).1, fun a b c ha hb hc => ((hUk.out.all _ (by omega) a ha).2 b hb).2 c hc⟩) (hback yy)
  · have Et := Lib.hid et
    clear et
    go_enter Try.func29, Try.ntmps29
    go_wp2_with fail
    generalize hW : x.w.alloc _ = W1
    generalize hB : x.w.heap.size = B
    obtain ⟨c0, c1, c2, c3, h1, hback, yy, hy0⟩ := boxed h x hB hW
    clear hW hB
    rw [← hy0]
    clear hy0
    (with_reducible refine Calls.mono (l1Tables_ans h1 false (by simp only [Bool.false_eq_true, false_iff]; exact Et.out) _) ?_)
    rintro e w' ⟨rfl, yy, rfl⟩
    go_wp2_with fail
    go_ret
    exact fin_false HP (fun q => Et.out q.tab) (hback yy)

end Go.Proofs.Ytkokmpdmmfghhaa
