
/- What a session that is an argument reads as. -/
import Derived.Test.YteffcfaoganciaaDoorGC
import Derived.Test.YteffcfaoganciaaDoorKOpenLs
import Derived.Test.YteffcfaoganciaaDoorKSes
set_option linter.unusedVariables false
set_option linter.unusedSimpArgs false
set_option linter.unusedVariables false
namespace Go.Proofs.YteffcfaoganciaaDoor
open Go.RowKit Go.ChangeShapes Go.WideShapes Go.ChangeAt

section
variable {H : Type} {enc : TypeId × Value → H} {w : World}
set_option maxRecDepth 100000 in
theorem open_sysc {fuel : Nat} {cs : List Value} {x : DataW H × List MemPlace} (h : DataW.trod enc Tryd.prog w 0 (fun _ => true) true fuel 25 cs = some x) :
    ∃ (r : Ref) (s : Sys), cs = [.int .i64 s.n, .slice r.pa s.plus.length r.pc, .slice r.ta s.times.length r.tc, .slice r.ba s.below.length r.bc] ∧ SysIn w r s := by
  obtain ⟨xs, n, rfl, rfl, hl, hn, hel⟩ := DataW.trod_struct Tryd.underlying25 h
  have c0 : Tryd.prog.cellsOf 25 = 4 := by kernel_rfl
  have c1 : Tryd.prog.cellsOf 3 = 1 := by kernel_rfl
  have c2 : Tryd.prog.cellsOf 22 = 1 := by kernel_rfl
  have c3 : Tryd.prog.cellsOf 23 = 1 := by kernel_rfl
  rw [c0] at hl
  match cs, hl, xs, hn with
  | [a0, a1, a2, a3], _, [x0, x1, x2, x3], _ =>
    have h0 : DataW.trod enc Tryd.prog w 0 (fun _ => true) true n 3 (([a0, a1, a2, a3].drop 0).take (Tryd.prog.cellsOf 3)) = some x0 := hel 0 _ rfl
    have h1 : DataW.trod enc Tryd.prog w 0 (fun _ => true) true n 22 (([a0, a1, a2, a3].drop 1).take (Tryd.prog.cellsOf 22)) = some x1 := hel 1 _ rfl
    have h2 : DataW.trod enc Tryd.prog w 0 (fun _ => true) true n 22 (([a0, a1, a2, a3].drop 2).take (Tryd.prog.cellsOf 22)) = some x2 := hel 2 _ rfl
    have h3 : DataW.trod enc Tryd.prog w 0 (fun _ => true) true n 23 (([a0, a1, a2, a3].drop 3).take (Tryd.prog.cellsOf 23)) = some x3 := hel 3 _ rfl
    rw [c1] at h0
    rw [c2] at h1 h2
    rw [c3] at h3
    obtain ⟨o, e0, _, _⟩ := DataW.trod_int Tryd.underlying3 h0
    simp at e0
    subst e0
    obtain ⟨b1, p1, l1, e1, r1, d1, _⟩ := open_row_ints (c := a1) h1
    obtain ⟨b2, p2, l2, e2, r2, d2, _⟩ := open_row_ints (c := a2) h2
    obtain ⟨b3, p3, l3, e3, r3, d3⟩ := open_row_bools (c := a3) h3
    subst e1; subst e2; subst e3
    exact ⟨⟨b1, b2, b3, p1, p2, p3⟩, ⟨o, l1, l2, l3⟩, rfl, r1, r2, r3, d1, d2, d3⟩
set_option maxRecDepth 100000 in
theorem open_ses {r0 : Reach} {b0 : Nat} {v : Value} {d : DataW H} {p : List MemPlace} (hv : Value.okWide Tryd.prog w r0 b0 31 v) (h : DataW.Trod enc Tryd.prog w 0 (fun _ => true) true 31 v d p) :
    ∃ (s : Sys) (r : Ref) (a : Option Addr) (c : Nat) (ls : List (List Int)) (hd : Nat → Option Addr × Nat) (t : Tm) (q : TV), v = sesV s r a c ls t q ∧ SesIn w 0 s r a ls hd t q ∧ (∀ l ∈ ls, CodesB l) ∧ TmB t := by
  obtain ⟨cs, rfl, hsz⟩ := okWide_struct Tryd.underlying31 hv
  obtain ⟨fuel, hf⟩ := h
  obtain ⟨xs, n, _, hx, hl, hn, hel⟩ := DataW.trod_struct Tryd.underlying31 hf
  have c0 : Tryd.prog.cellsOf 31 = 9 := by kernel_rfl
  have c1 : Tryd.prog.cellsOf 25 = 4 := by kernel_rfl
  have c2 : Tryd.prog.cellsOf 26 = 1 := by kernel_rfl
  have c3 : Tryd.prog.cellsOf 29 = 4 := by kernel_rfl
  rw [c0] at hl hsz
  obtain ⟨cl⟩ := cs
  match cl, hsz, xs, hn with
  | [a0, a1, a2, a3, a4, a5, a6, a7, a8], _, [x0, x1, x2], _ =>
    have h0 : DataW.trod enc Tryd.prog w 0 (fun _ => true) true n 25 (([a0, a1, a2, a3, a4, a5, a6, a7, a8].drop 0).take (Tryd.prog.cellsOf 25)) = some x0 := hel 0 _ rfl
    have h1 : DataW.trod enc Tryd.prog w 0 (fun _ => true) true n 26 (([a0, a1, a2, a3, a4, a5, a6, a7, a8].drop (Tryd.prog.cellsOf 25)).take (Tryd.prog.cellsOf 26)) = some x1 := hel 1 _ rfl
    have h2 : DataW.trod enc Tryd.prog w 0 (fun _ => true) true n 29 (([a0, a1, a2, a3, a4, a5, a6, a7, a8].drop (Tryd.prog.cellsOf 25 + Tryd.prog.cellsOf 26)).take (Tryd.prog.cellsOf 29)) = some x2 := hel 2 _ rfl
    rw [c1] at h0
    rw [c1, c2] at h1
    rw [c1, c2, c3] at h2
    simp only [List.drop_zero, List.drop_succ_cons, List.take_succ_cons, List.take_zero] at h0 h1 h2
    obtain ⟨r, s, e0, hs⟩ := open_sysc h0
    obtain ⟨a, c, ls, hd, e1, hls, hwf⟩ := open_lists h1
    obtain ⟨t, q, e2, ht, htb⟩ := open_tm _ h2
    simp at e0 e2
    obtain ⟨rfl, rfl, rfl, rfl⟩ := e0
    subst e1
    obtain ⟨rfl, rfl, rfl, rfl⟩ := e2
    exact ⟨s, r, a, c, ls, hd, t, q, rfl, ⟨hs, hls, ht⟩, fun l hl => codesB_wf (hwf l hl), htb⟩
end
end Go.Proofs.YteffcfaoganciaaDoor
