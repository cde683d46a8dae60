
/- Lists of lists of numbers as arguments: what they read as, how much they are, their copies. -/
import Derived.Test.YteffcfaoganciaaDoorGA
import Derived.Test.YteffcfaoganciaaDoorKGrowL
import Derived.Test.YteffcfaoganciaaDoorKHoldS
import Derived.Deep.Slices
set_option linter.unusedVariables false
set_option linter.unusedSimpArgs false
set_option linter.unusedVariables false
namespace Go.Proofs.YteffcfaoganciaaDoor
open Go.RowKit Go.ChangeShapes Go.WideShapes Go.ChangeAt

/-- Lists in rows, however many. -/
structure LsAr (w : World) (a : Option Addr) (ls : List (List Int)) (hd : Nat → Option Addr × Nat) : Prop where
  row : Row w id a (hds ls hd)
  sub : ∀ (i : Nat) (l : List Int), ls[i]? = some l → Row w (Value.int .i64) (hd i).1 l
  len : ∀ (i : Nat) (l : List Int), ls[i]? = some l → l.length ≤ 9223372036854775807
  all : ls.length ≤ 9223372036854775807
theorem LsAr.ext {W : World} {a : Option Addr} {ls : List (List Int)} {hd : Nat → Option Addr × Nat} (h : LsAr W a ls hd) (x : Ext W) : LsAr x.w a ls hd :=
  ⟨h.row.ext x, fun i l hi => (h.sub i l hi).ext x, h.len, h.all⟩
theorem LsAr.ins {w : World} {a : Option Addr} {ls : List (List Int)} {hd : Nat → Option Addr × Nat} (h : LsAr w a ls hd) (hs : lsWt ls ≤ 1048576) : LsIn w a ls hd :=
  ⟨h.row, h.sub, fun i l hi => by have := (ls_small hs).2 i l hi; omega, by have := (ls_small hs).1; omega⟩
theorem open_lists {H : Type} {enc : TypeId × Value → H} {w : World} {fuel : Nat} {c : Value} {x : DataW H × List MemPlace} (h : DataW.trod enc Tryd.prog w 0 (fun _ => true) true fuel 26 [c] = some x) :
    ∃ (a : Option Addr) (cap : Nat) (ls : List (List Int)) (hd : Nat → Option Addr × Nat), c = .slice a ls.length cap ∧ LsAr w a ls hd ∧ ∀ l ∈ ls, ∀ n ∈ l, (Lit.int .i64 n).wf = true := by
  rcases Deep.open_slice1 Tryd.underlying26 (by kernel_rfl) h with ⟨hcs, _⟩ | ⟨a, len, cap, m, n, V, D, Pl, hcs, _, hl, hm, hmm, _, hx⟩
  · simp at hcs
    exact ⟨none, 0, [], fun _ => (none, 0), hcs, ⟨.inl rfl, fun i l h => by simp at h, fun i l h => by simp at h, by simp⟩, fun l h => by simp at h⟩
  · simp at hcs
    unfold maxLen at hm
    simp at hmm
    have hmm2 : cap = m := hmm.symm
    subst hmm2
    have each : ∀ i, ∃ p : (Option Addr × Nat) × List Int, i < len → (w.cell? (a.add i) = some (.slice p.1.1 p.2.length p.1.2) ∧ Row w (Value.int .i64) p.1.1 p.2 ∧ p.2.length ≤ 9223372036854775807 ∧ ∀ n ∈ p.2, (Lit.int .i64 n).wf = true) := by
      intro i
      by_cases hi : i < len
      · obtain ⟨h1, h2⟩ := hx i (by omega)
        obtain ⟨b, cp, l, e, r, bd, wf⟩ := open_row_ints h2
        exact ⟨((b, cp), l), fun _ => ⟨by rw [h1, e], r, bd, wf⟩⟩
      · exact ⟨((none, 0), []), fun q => absurd q hi⟩
    have ⟨f, each⟩ := Classical.axiomOfChoice each
    have e0 : ((List.range len).map fun i => (f i).2).length = len := by simp
    have at0 : ∀ (i : Nat) (l : List Int), ((List.range len).map fun i => (f i).2)[i]? = some l → i < len ∧ l = (f i).2 := fun i l hi => by
      have hi2 : i < len := by have := (List.getElem?_eq_some_iff.1 hi).1; simpa using this
      simp [hi2] at hi
      exact ⟨hi2, hi.symm⟩
    refine ⟨some a, cap, (List.range len).map (fun i => (f i).2), fun i => (f i).1, by rw [e0]; exact hcs, ⟨?_, fun i l hi => ?_, fun i l hi => ?_, by rw [e0]; omega⟩, fun l hl => ?_⟩
    · have hln : (hds ((List.range len).map fun i => (f i).2) fun i => (f i).1).length = len := by rw [hds_len, e0]
      refine row_of_cells (mk := id) hln (f := fun i => .slice (f i).1.1 (f i).2.length (f i).1.2) (fun i hi => ?_) (fun i hi => (each i hi).1)
      have hi2 : i < len := by omega
      have := hds_at (ls := (List.range len).map fun i => (f i).2) (i := i) (l := (f i).2) (by simp [hi2]) (fun i => (f i).1)
      rw [List.getElem?_eq_getElem hi] at this
      exact Option.some.inj this
    · obtain ⟨hi2, rfl⟩ := at0 i l hi
      exact (each i hi2).2.1
    · obtain ⟨hi2, rfl⟩ := at0 i l hi
      exact (each i hi2).2.2.1
    · obtain ⟨i, hi, rfl⟩ := List.mem_map.1 hl
      exact (each i (by simpa using hi)).2.2.2
end Go.Proofs.YteffcfaoganciaaDoor
