
/- What an argument that is a list of pairs of numbers reads as. -/
import Derived.Test.YteffcfaoganciaaHA
import Derived.Test.YteffcfaoganciaaKCells
import Derived.Deep.Slices
set_option linter.unusedVariables false
namespace Go.Proofs.Yteffcfaoganciaa
open Go.RowKit Go.ChangeShapes Go.WideShapes Go.ChangeAt

variable {H : Type} {enc : TypeId × Value → H} {w : World}
set_option maxRecDepth 100000 in
theorem open_pair {fuel : Nat} {cs : List Value} {x : DataW H × List MemPlace} (h : DataW.trod enc Try.prog w 0 (fun _ => true) true fuel 56 cs = some x) :
    ∃ p : Int × Int, cs = [.int .i64 p.1, .int .i64 p.2] := by
  obtain ⟨xs, n, rfl, rfl, hl, hn, hel⟩ := DataW.trod_struct Try.underlying56 h
  have c0 : Try.prog.cellsOf 56 = 2 := by kernel_rfl
  have c1 : Try.prog.cellsOf 3 = 1 := by kernel_rfl
  rw [c0] at hl
  match cs, hl, xs, hn with
  | [a0, a1], _, [x0, x1], _ =>
    have h0 : DataW.trod enc Try.prog w 0 (fun _ => true) true n 3 (([a0, a1].drop 0).take (Try.prog.cellsOf 3)) = some x0 := hel 0 _ rfl
    have h1 : DataW.trod enc Try.prog w 0 (fun _ => true) true n 3 (([a0, a1].drop 1).take (Try.prog.cellsOf 3)) = some x1 := hel 1 _ rfl
    rw [c1] at h0 h1
    obtain ⟨o, e0, _, _⟩ := DataW.trod_int Try.underlying3 h0
    obtain ⟨m, e1, _, _⟩ := DataW.trod_int Try.underlying3 h1
    simp at e0 e1
    subst e0; subst e1
    exact ⟨(o, m), rfl⟩
set_option maxRecDepth 100000 in
theorem open_pairs {fuel : Nat} {c : Value} {x : DataW H × List MemPlace} (h : DataW.trod enc Try.prog w 0 (fun _ => true) true fuel 26 [c] = some x) :
    ∃ (a : Option Addr) (cap : Nat) (l : List (Int × Int)), c = .slice a l.length cap ∧ Row2 w a l ∧ l.length ≤ 9223372036854775807 := by
  have c0 : Try.prog.cellsOf 56 = 2 := by kernel_rfl
  rcases Deep.open_slice Try.underlying26 h with ⟨hcs, _⟩ | ⟨a, len, cap, m, n, D, Pl, hcs, _, hl, hm, hmm, _, hx⟩
  · simp at hcs
    exact ⟨none, 0, [], hcs, .inl rfl, by simp⟩
  · simp at hcs
    unfold maxLen at hm
    rw [c0] at hx
    simp at hmm
    have hmm2 : cap = m := hmm.symm
    subst hmm2
    have each : ∀ i, ∃ p : Int × Int, i < len → w.cells? 0 (a.add (i * 2)) 2 = some [.int .i64 p.1, .int .i64 p.2] := by
      intro i
      by_cases hi : i < len
      · obtain ⟨cs', h1, h2⟩ := hx i (by omega)
        obtain ⟨p, rfl⟩ := open_pair h2
        exact ⟨p, fun _ => h1⟩
      · exact ⟨(0, 0), fun h => absurd h hi⟩
    have ⟨f, each⟩ := Classical.axiomOfChoice each
    refine ⟨some a, cap, (List.range len).map f, by simpa using hcs, ?_, by simp; omega⟩
    by_cases hz : len = 0
    · exact .inl (by simp [hz])
    · right
      have hs := (World.cells?_some (each 0 (by omega))).2.2 0 (by omega)
      obtain ⟨b, o', spot⟩ := a
      have hspot : spot = none := by simpa [Addr.add] using World.cell?_spot hs
      subst hspot
      refine ⟨b, o', rfl, fun i k hi => ?_⟩
      have hi2 : i < len := by have := (List.getElem?_eq_some_iff.1 hi).1; simpa using this
      have hk2 : k = f i := by simp [hi2] at hi; exact hi.symm
      subst hk2
      have hc := (World.cells?_some (each i hi2)).2.2
      have q0 := hc 0 (by omega)
      have q1 := hc 1 (by omega)
      simp only [add_plain] at q0 q1
      exact ⟨q0, q1⟩

end Go.Proofs.Yteffcfaoganciaa
