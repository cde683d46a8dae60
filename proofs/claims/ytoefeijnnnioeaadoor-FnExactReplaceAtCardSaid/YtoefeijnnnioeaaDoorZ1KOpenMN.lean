/- What a term argument reads as; its numbers N are ints. -/
import Derived.Test.YtoefeijnnnioeaaDoorZ1GA
import Derived.Test.YtoefeijnnnioeaaDoorZ1KAddsU
set_option linter.unusedVariables false
set_option linter.unusedSimpArgs false
set_option linter.unusedVariables false
namespace Go.Proofs.YtoefeijnnnioeaaDoor
open Go.RowKit Go.ChangeShapes Go.WideShapes Go.ChangeAt

theorem wf_ge {n : Int} (h : (Lit.int .i64 n).wf = true) : -9223372036854775808 ≤ n := by
  have h2 : IntKind.i64.min ≤ n := by simp [Lit.wf] at h; exact h.1
  exact Int.le_trans (by decide) h2
section
variable {H : Type} {enc : TypeId × Value → H} {w : World}
set_option maxRecDepth 100000 in
theorem open_tmN : ∀ (fuel : Nat) {cs : List Value} {x : DataW H × List MemPlace}, DataW.trod enc Tryd.prog w 0 (fun _ => true) true fuel 29 cs = some x →
    ∃ (t : Tm) (r : TV), cs = [.int .i64 t.op, .int .i64 t.n, .slice r.a t.ty.length r.c, .slice r.b t.kids.length r.d] ∧ TmIn w 0 t r ∧ TmB t ∧ TmNB t := by
  intro fuel
  induction fuel using Nat.strongRecOn with
  | ind fuel ih =>
    intro cs x h
    obtain ⟨xs, n, rfl, rfl, hl, hn, hel⟩ := DataW.trod_struct Tryd.underlying29 h
    have c0 : Tryd.prog.cellsOf 29 = 4 := by kernel_rfl
    have c1 : Tryd.prog.cellsOf 3 = 1 := by kernel_rfl
    have c2 : Tryd.prog.cellsOf 22 = 1 := by kernel_rfl
    have c3 : Tryd.prog.cellsOf 27 = 1 := by kernel_rfl
    rw [c0] at hl
    match cs, hl, xs, hn with
    | [a0, a1, a2, a3], _, [x0, x1, x2, x3], _ =>
      have h0 : DataW.trod enc Tryd.prog w 0 (fun _ => true) true n 3 (([a0, a1, a2, a3].drop 0).take (Tryd.prog.cellsOf 3)) = some x0 := hel 0 _ rfl
      have h1 : DataW.trod enc Tryd.prog w 0 (fun _ => true) true n 3 (([a0, a1, a2, a3].drop 1).take (Tryd.prog.cellsOf 3)) = some x1 := hel 1 _ rfl
      have h2 : DataW.trod enc Tryd.prog w 0 (fun _ => true) true n 22 (([a0, a1, a2, a3].drop 2).take (Tryd.prog.cellsOf 22)) = some x2 := hel 2 _ rfl
      have h3 : DataW.trod enc Tryd.prog w 0 (fun _ => true) true n 27 (([a0, a1, a2, a3].drop 3).take (Tryd.prog.cellsOf 27)) = some x3 := hel 3 _ rfl
      rw [c1] at h0 h1
      rw [c2] at h2
      rw [c3] at h3
      obtain ⟨o, e0, _, _⟩ := DataW.trod_int Tryd.underlying3 h0
      obtain ⟨m, e1, _, hwm⟩ := DataW.trod_int Tryd.underlying3 h1
      obtain ⟨ta, tc, ty, e2, row, hty, hwf⟩ := open_row_ints (c := a2) h2
      have hm := wf_le hwm
      have hm2 := wf_ge hwm
      simp at e0 e1
      subst e0; subst e1; subst e2
      rcases DataW.trod_slice Tryd.underlying27 h3 with ⟨e3, _⟩ | ⟨a, len, cap, elems, rest, n', rfl, e3, _, _, hlc, hcm, hel2, hk, _⟩
      · simp at e3
        subst e3
        exact ⟨.mk o m ty [], ⟨ta, tc, none, 0⟩, rfl, .mk _ _ (fun _ => ⟨none, 0, none, 0⟩) row (fun _ _ => Nat.zero_le _) hty (by simp [Tm.kids]) (.inl rfl) (fun i k hi => by simp [Tm.kids] at hi), .mk _ (codesB_wf hwf) (fun k hk => by simp [Tm.kids] at hk), .mk _ hm2 hm (fun k hk => by simp [Tm.kids] at hk)⟩
      · simp at e3
        subst e3
        unfold maxLen at hcm
        rw [c0] at hk
        have each : ∀ i, ∃ (t : Tm) (r : TV), i < len → TmIn w 0 t r ∧ w.cells? 0 (a.add (i * 4)) 4 = some [.int .i64 t.op, .int .i64 t.n, .slice r.a t.ty.length r.c, .slice r.b t.kids.length r.d] ∧ TmB t ∧ TmNB t := by
          intro i
          by_cases hi : i < len
          · have hb := hk i hi
            rw [List.getElem?_eq_getElem (by omega)] at hb
            obtain ⟨ci, hci, htr⟩ := Option.bind_eq_some_iff.1 hb
            obtain ⟨t, r, rfl, hin, htb⟩ := ih n' (by omega) htr
            exact ⟨t, r, fun _ => ⟨hin, hci, htb⟩⟩
          · exact ⟨.mk 0 0 [] [], ⟨none, 0, none, 0⟩, fun h => absurd h hi⟩
        have ⟨ft, each⟩ := Classical.axiomOfChoice each
        have ⟨fr, each⟩ := Classical.axiomOfChoice each
        have hlen : ((List.range len).map ft).length = len := by simp
        refine ⟨.mk o m ty ((List.range len).map ft), ⟨ta, tc, some a, cap⟩, by simp [Tm.op, Tm.n, Tm.ty, Tm.kids], .mk _ _ fr row (fun _ _ => Nat.zero_le _) hty (by simp [Tm.kids]; omega) ?_ (fun i k hi => ?_), .mk _ (codesB_wf hwf) (fun k hk => ?_), .mk _ hm2 hm (fun k hk => ?_)⟩
        · by_cases hz : len = 0
          · exact .inl (by simp [Tm.kids, hz])
          · right
            have hs := (World.cells?_some (each 0 (by omega)).2.1).2.2 0 (by omega)
            obtain ⟨b, o', spot⟩ := a
            have hspot : spot = none := by simpa [Addr.add] using World.cell?_spot hs
            subst hspot
            refine ⟨b, o', rfl, Nat.zero_le _, fun i k hi => ?_⟩
            have hi2 : i < len := by have := (List.getElem?_eq_some_iff.1 hi).1; simpa [Tm.kids] using this
            have hk2 : k = ft i := by simp [Tm.kids, hi2] at hi; exact hi.symm
            subst hk2
            have hc := (World.cells?_some (each i hi2).2.1).2.2
            have q0 := hc 0 (by omega)
            have q1 := hc 1 (by omega)
            have q2 := hc 2 (by omega)
            have q3 := hc 3 (by omega)
            simp only [add_plain] at q0 q1 q2 q3
            exact ⟨q0, q1, q2, q3⟩
        · have hi2 : i < len := by have := (List.getElem?_eq_some_iff.1 hi).1; simpa [Tm.kids] using this
          have hk2 : k = ft i := by simp [Tm.kids, hi2] at hi; exact hi.symm
          subst hk2
          exact (each i hi2).1
        · obtain ⟨i, hi, e⟩ := List.getElem_of_mem hk
          simp [Tm.kids] at hi e
          rw [← e]
          exact (each i hi).2.2.1
        · obtain ⟨i, hi, e⟩ := List.getElem_of_mem hk
          simp [Tm.kids] at hi e
          rw [← e]
          exact (each i hi).2.2.2
set_option maxRecDepth 100000 in
theorem open_termN {r0 : Reach} {b0 : Nat} {v : Value} {d : DataW H} {p : List MemPlace} (hv : Value.okWide Tryd.prog w r0 b0 29 v) (h : DataW.Trod enc Tryd.prog w 0 (fun _ => true) true 29 v d p) :
    ∃ (t : Tm) (r : TV), v = r.val t ∧ TmIn w 0 t r ∧ TmB t ∧ TmNB t := by
  obtain ⟨cs, rfl, _⟩ := okWide_struct Tryd.underlying29 hv
  obtain ⟨fuel, hf⟩ := h
  obtain ⟨t, r, e, hin, htb⟩ := open_tmN fuel hf
  obtain ⟨l⟩ := cs
  simp [Value.cells] at e
  subst e
  exact ⟨t, r, rfl, hin, htb⟩
end
end Go.Proofs.YtoefeijnnnioeaaDoor
