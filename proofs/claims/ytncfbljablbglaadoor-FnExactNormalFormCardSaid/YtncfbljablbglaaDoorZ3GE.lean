/- Texts of one claim, laid together: LawA, LawB, Mark, Marks, LawHead, OwnI, Steps, HoldR. -/
import Derived.Test.YtncfbljablbglaaDoorZ3GA
import Derived.Test.YtncfbljablbglaaDoorProg
import Derived.Maps.AppendAt
import Derived.Deep.RegionHeld3
set_option linter.unusedVariables false
set_option linter.unusedSimpArgs false
/- The laws' own helpers: copies of slices. -/
namespace Go.Proofs.YtncfbljablbglaaDoor
open Go.RowKit


set_option maxHeartbeats 4000000 in
theorem toIntS_ans {W : World} {a : Option Addr} {c : Nat} {l : List Int} (h : Row W (Value.int .i64) a l) (hl : l.length ≤ 1099511627776) (x : Ext W) :
    Calls Tryd.prog 16 #[.slice a l.length c] x.w (NewRow W 22 3 (Value.int .i64) l) := by
  obtain ⟨i0, hi, hz0, hz1, hz2⟩ := info_parts info_int
  have HN : Hid (∀ e w', NewRow W 22 3 (Value.int .i64) l e w' ↔ NewRow W 22 3 (Value.int .i64) l e w') := fun _ _ => Iff.rfl
  go_enter Tryd.func16, Tryd.ntmps16
  go_wp2_with (at_make; refine wpList_make_full _ rfl _ _ 22 rfl x.w.heap.size 3 i0 (.int .i64 0) 1 Tryd.underlying22 hi hz0 hz1 .i64 .i64 _ _ l.length rfl rfl rfl rfl (by rw [hz2]; omega) (by unfold maxLen; omega) (Nat.le_refl _) ?_; intro w0 hown0 hgrow0)
  have hb0 : Below W.heap.size W w0 := x.below.grown hgrow0 x.size (fun k hk => by cases hk)
  have hsz := x.size
  generalize x.w.heap.size = g at *
  generalize (madeCells _ _).toList = xs0 at hown0
  clear hgrow0 hi hz0 hz1 hz2
  go_loopw [4] (fun i wr => ∃ (k : Nat) (xs : List Value), i = .int .i64 k ∧ k ≤ l.length ∧ wr.ownsRow g 3 1 (.slice (some ⟨g, 0, none⟩) l.length l.length) l.length xs ∧ Below W.heap.size W wr ∧ Hid (∀ i, i < k → xs[i]? = (l[i]?).map (Value.int .i64))) (fun i _ => l.length - (intOf i).toNat)
  case atStart => exact ⟨0, xs0, rfl, by omega, hown0, hb0, fun i hi => by omega⟩
  case round =>
    obtain ⟨k, xs, rfl, hk, hown, hb, hX⟩ := hrel
    by_cases hlt : k < l.length
    · obtain ⟨b, o, rfl, hc⟩ := h.at hlt
      have hcell := (Ext.mk wr hb).cell (hc k l[k] (List.getElem?_eq_getElem hlt))
      have HG : Hid (l[k]? = some l[k]) := List.getElem?_eq_getElem hlt
      clear hc
      generalize l[k] = u at *
      have hlx : xs.length = l.length := by have := hown.1; omega
      obtain ⟨v0, hv0⟩ : ∃ v0, xs[k]? = some v0 := ⟨_, List.getElem?_eq_getElem (by omega)⟩
      have hold : wr.cell? ⟨g, k, none⟩ = some v0 := by rw [hown.cellAt k (by omega)]; exact hv0
      have hfz : wr.frozen? ⟨g, k, none⟩ = false := hown.frozenAt k
      obtain ⟨hst, hgs⟩ := hown.stored k ((Value.int .i64) u)
      have HS := Lib.hid hst
      have HL := Lib.hid hlx
      have hb2 := hb.setCell (p := ⟨g, k, none⟩) (by exact hsz) ((Value.int .i64) u)
      clear hst hgs hv0 hlx hown
      go_wp2
      go_roundw
      case rel =>
        refine ⟨k + 1, _, by go_num, by omega, HS.out, hb2, fun i hi => ?_⟩
        have hlx := HL.out
        rw [List.getElem?_set]
        by_cases e : k = i
        · subst e
          rw [if_pos rfl, if_pos (by omega), HG.out]; rfl
        · rw [if_neg e]; exact hX.out i (by omega)
      case measure => simp [intOf]; omega
    · have hke : k = l.length := by omega
      have HK := Lib.hid hke
      clear hke
      go_wp2
      go_ret
      refine ⟨_, ⟨wr, hb⟩, rfl, rfl, ?_⟩
      have e : xs = l.map (Value.int .i64) := by
        apply List.ext_getElem?
        intro i
        rw [List.getElem?_map]
        by_cases hi : i < l.length
        · exact hX.out i (by rw [HK.out]; exact hi)
        · have := hown.1
          rw [List.getElem?_eq_none (by omega), List.getElem?_eq_none (by omega)]; rfl
      rw [← e]
      exact owns_lower hown hsz

end Go.Proofs.YtncfbljablbglaaDoor
/- The laws' own helpers: a copy of a system. -/
namespace Go.Proofs.YtncfbljablbglaaDoor
open Go.RowKit

theorem szIntS_ans {W : World} (a : Option Addr) (c : Nat) (l : List Int) (left : Int) (h0 : 0 ≤ left) (h1 : left ≤ 1048576) (hl : l.length ≤ 9223372036854775807) (v : Int) (hv : v = if left < l.length then -1 else left - l.length) (x : Ext W) :
    Calls Tryd.prog 27 #[.slice a l.length c, .int .i64 left] x.w (Ans W (.int .i64 v)) := by
  have HV := Lib.hid hv
  clear hv
  by_cases e : left < (l.length : Int)
  · have e2 : left - (l.length : Int) < 0 := by omega
    go_enter Tryd.func27, Tryd.ntmps27
    go_wp2
    go_ret
    exact fin_int (by rw [HV.out, if_pos e]) ⟨x, rfl⟩
  · have e2 : 0 ≤ left - (l.length : Int) := by omega
    go_enter Tryd.func27, Tryd.ntmps27
    go_wp2
    go_ret
    exact fin_int (by rw [HV.out, if_neg (by omega)]) ⟨x, rfl⟩

set_option maxHeartbeats 4000000 in
theorem eqIntS_ans {W : World} {a b : Option Addr} {c d : Nat} {l m : List Int} (h : Row W (Value.int .i64) a l) (k : Row W (Value.int .i64) b m) (hl : l.length ≤ 1099511627776) (p : Bool) (hp : p = true ↔ l = m) (x : Ext W) :
    Calls Tryd.prog 18 #[.slice a l.length c, .slice b m.length d] x.w (Ans W (.bool p)) := by
  have HP := Lib.hid hp
  clear hp
  by_cases hlen : l.length = m.length
  · have fl : ((l.length : Int) != (m.length : Int)) = false := by simp; omega
    have hlm1 : l.length ≤ m.length := by omega
    have hlm2 : m.length ≤ l.length := by omega
    have HL := Lib.hid hlen
    clear hlen
    go_enter Tryd.func18, Tryd.ntmps18
    go_wp2
    clear fl
    obtain ⟨yy, hyy⟩ : ∃ y : Ext W, x = y := ⟨x, rfl⟩
    rw [hyy]
    clear hyy
    go_loopw [5] (fun i wr => ∃ j : Nat, i = .int .i64 j ∧ j ≤ l.length ∧ (∃ y : Ext W, wr = y.w) ∧ Hid (∀ i, i < j → l[i]? = m[i]?)) (fun i _ => l.length - (intOf i).toNat)
    case atStart => exact ⟨0, rfl, by omega, ⟨yy, rfl⟩, fun i hi => by omega⟩
    case round =>
      obtain ⟨j, rfl, hj, ⟨yy, rfl⟩, hU⟩ := hrel
      by_cases hlt : j < l.length
      · have hltm : j < m.length := by omega
        have hlt' : (j : Int) < (l.length : Int) := by omega
        have hltm' : (j : Int) < (m.length : Int) := by omega
        obtain ⟨b1, o1, rfl, hc⟩ := h.at hlt
        obtain ⟨b2, o2, rfl, hd⟩ := k.at hltm
        have c1 : ∀ y : Ext W, y.w.cell? ⟨b1, o1 + j, none⟩ = some ((Value.int .i64) l[j]) := fun y => y.cell (hc j _ (List.getElem?_eq_getElem hlt))
        have c2 : ∀ y : Ext W, y.w.cell? ⟨b2, o2 + j, none⟩ = some ((Value.int .i64) m[j]) := fun y => y.cell (hd j _ (List.getElem?_eq_getElem hltm))
        have E1 : Hid (l[j]? = some l[j]) := List.getElem?_eq_getElem hlt
        have E2 : Hid (m[j]? = some m[j]) := List.getElem?_eq_getElem hltm
        clear hc hd
        generalize l[j] = u at *
        generalize m[j] = v at *
        by_cases he : u = v
        · have fe : (u != v) = false := by simpa using he
          have HE := Lib.hid he
          clear he
          go_wp2
          refine region_ext yy (by kernel_rfl) (by kernel_rfl) ?_
          repeat (go_big_quiet_step (fail))
          refine wpQuiet_nil ?_
          rintro _ ⟨yy, rfl⟩
          go_wp2
          go_roundw
          case rel =>
            refine ⟨j + 1, by go_num, by omega, ⟨yy, rfl⟩, fun i hi => ?_⟩
            by_cases e : i = j
            · subst e; rw [E1.out, E2.out, HE.out]
            · exact hU.out i (by omega)
          case measure => simp [intOf]; omega
        · have fe : (u != v) = true := by simpa using he
          have HE := Lib.hid he
          clear he
          go_wp2
          refine region_ext yy (by kernel_rfl) (by kernel_rfl) ?_
          repeat (go_big_quiet_step (fail))
          refine wpQuiet_nil ?_
          rintro _ ⟨yy, rfl⟩
          go_wp2
          go_ret
          refine fin_false HP (fun q => HE.out ?_) ⟨yy, rfl⟩
          have e1 := E1.out
          rw [q, E2.out] at e1
          cases e1
          rfl
      · go_wp2
        go_ret
        refine fin_true HP (List.ext_getElem? fun i => ?_) ⟨yy, rfl⟩
        by_cases hi : i < l.length
        · exact hU.out i (by omega)
        · rw [List.getElem?_eq_none (by omega), List.getElem?_eq_none (by omega)]
  · have fl : ((l.length : Int) != (m.length : Int)) = true := by simp; omega
    have HL := Lib.hid hlen
    clear hlen
    go_enter Tryd.func18, Tryd.ntmps18
    go_wp2
    go_ret
    exact fin_false HP (fun q => HL.out (by rw [q])) ⟨x, rfl⟩

end Go.Proofs.YtncfbljablbglaaDoor
/- The laws' marks. -/
namespace Go.Proofs.YtncfbljablbglaaDoor
open Go.RowKit

def marksI (m : Int) (n : Nat) : List Value := (List.range n).map fun (i : Nat) => Value.int .i64 (m + (i : Int))
def bit3 (k : Int) : Bool := k % 3 == 0
def marksB (m : Int) (n : Nat) : List Value := (List.range n).map fun (i : Nat) => Value.bool (bit3 (m + (i : Int)))
theorem marksI_at (m : Int) {n j : Nat} (h : j < n) : (marksI m n)[j]? = some (.int .i64 (m + j)) := by simp [marksI, h]

set_option maxHeartbeats 4000000 in
theorem markIntS_ans {w : World} {base : Nat} {a : Option Addr} {n c : Nat} {xs : List Value} (h : w.ownsRow base 3 1 (.slice a n c) n xs) (hn : n ≤ 1000000000) (m : Int) (h0 : 0 ≤ m) (h1 : m ≤ 1000000000) :
    Calls Tryd.prog 19 #[.slice a n c, .int .i64 m] w (fun e w' => e = .returned (.int .i64 (m + n)) ∧ w'.ownsRow base 3 1 (.slice a n c) n (marksI m n) ∧ w.grownBy w' (Value.slice a n c).ownBlock) := by
  rcases h.2 with ⟨e, rfl⟩ | ⟨g, cap, cur, e, hb, hg, hcap, hmax, hsz, htk⟩
  · cases e
    go_enter Tryd.func19, Tryd.ntmps19
    go_wp2
    go_loopw [5, 1] (fun i k wr => i = .int .i64 0 ∧ k = .int .i64 m ∧ wr = w) (fun _ _ _ => 0)
    case atStart => exact ⟨rfl, rfl, rfl⟩
    case round =>
      obtain ⟨rfl, rfl, rfl⟩ := hrel
      go_wp2
      go_ret
      exact ⟨by simp, (World.ownsRow_nil _ _ _ _ : World.ownsRow _ _ _ _ _ _ []), World.grownBy.refl _ _⟩
  · cases e
    clear hsz htk hmax hcap hg cur
    go_enter Tryd.func19, Tryd.ntmps19
    go_wp2
    go_loopw [5, 1] (fun i k wr => ∃ (j : Nat) (ys : List Value), i = .int .i64 j ∧ k = .int .i64 (m + j) ∧ j ≤ n ∧ wr.ownsRow base 3 1 (.slice (some ⟨g, 0, none⟩) n c) n ys ∧ w.grownBy wr (some g) ∧ Hid (∀ i, i < j → ys[i]? = (marksI m n)[i]?)) (fun i _ _ => n - (intOf i).toNat)
    case atStart => exact ⟨0, xs, rfl, by simp, by omega, h, World.grownBy.refl _ _, fun i hi => by omega⟩
    case round =>
      obtain ⟨j, ys, rfl, rfl, hj, hown, hgr, hX⟩ := hrel
      by_cases hlt : j < n
      · have hlt' : (j : Int) < (n : Int) := by omega
        have hly : ys.length = n := by have := hown.1; omega
        obtain ⟨v0, hv0⟩ : ∃ v0, ys[j]? = some v0 := ⟨_, List.getElem?_eq_getElem (by omega)⟩
        have hold : wr.cell? ⟨g, j, none⟩ = some v0 := by rw [hown.cellAt j (by omega)]; exact hv0
        have hfz : wr.frozen? ⟨g, j, none⟩ = false := hown.frozenAt j
        obtain ⟨hst, hgs⟩ := hown.stored j (Value.int .i64 (m + (j : Int)))
        have HS := Lib.hid hst
        have HG := Lib.hid (hgr.trans hgs)
        have HL := Lib.hid hly
        skip
        clear hst hgs hv0 hly hown hgr
        go_wp2
        go_roundw
        case rel =>
          refine ⟨j + 1, _, by go_num, by go_num, by omega, HS.out, HG.out, fun i hi => ?_⟩
          have hly := HL.out
          rw [List.getElem?_set]
          by_cases e : j = i
          · subst e
            rw [marksI_at _ hlt, if_pos rfl, if_pos (by omega)] <;> rfl
          · rw [if_neg e]; exact hX.out i (by omega)
        case measure => simp [intOf]; omega
      · have hlt' : ¬ (j : Int) < (n : Int) := by omega
        have hke : j = n := by omega
        have HK := Lib.hid hke
        have HO := Lib.hid hown
        have HG := Lib.hid hgr
        clear hke hown hgr
        go_wp2
        go_ret
        refine ⟨by rw [HK.out] <;> rfl, ?_, HG.out⟩
        have e : ys = marksI m n := by
          apply List.ext_getElem?
          intro i
          by_cases hi : i < n
          · exact hX.out i (by rw [HK.out]; exact hi)
          · have := HO.out.1
            rw [List.getElem?_eq_none (by omega), List.getElem?_eq_none (by simp [marksI]; omega)]
        rw [← e]
        exact HO.out

end Go.Proofs.YtncfbljablbglaaDoor
/- The laws' marks of a system. -/
namespace Go.Proofs.YtncfbljablbglaaDoor
open Go.RowKit

set_option maxHeartbeats 4000000 in
theorem heldIntS_ans {W : World} {a : Option Addr} {c : Nat} {l : List Int} (h : Row W (Value.int .i64) a l) (hn : l.length ≤ 1000000000) (m : Int) (h0 : 0 ≤ m) (h1 : m ≤ 1000000000) (hl : ∀ (i : Nat) u, l[i]? = some u → u = m + (i : Int)) (x : Ext W) :
    Calls Tryd.prog 20 #[.slice a l.length c, .int .i64 m] x.w (Ans W (.int .i64 (m + l.length))) := by
  have HL := Lib.hid hl
  clear hl
  obtain ⟨yy, hyy⟩ : ∃ y : Ext W, x = y := ⟨x, rfl⟩
  rw [hyy]
  clear hyy
  go_enter Tryd.func20, Tryd.ntmps20
  go_wp2
  go_loopw [5, 1] (fun i k wr => ∃ j : Nat, i = .int .i64 j ∧ k = .int .i64 (m + j) ∧ j ≤ l.length ∧ (∃ y : Ext W, wr = y.w)) (fun i _ _ => l.length - (intOf i).toNat)
  case atStart => exact ⟨0, rfl, by simp, by omega, ⟨yy, rfl⟩⟩
  case round =>
    obtain ⟨j, rfl, rfl, hj, ⟨yy, rfl⟩⟩ := hrel
    by_cases hlt : j < l.length
    · have hlt' : (j : Int) < (l.length : Int) := by omega
      obtain ⟨b1, o1, rfl, hc⟩ := h.at hlt
      have c1 : ∀ y : Ext W, y.w.cell? ⟨b1, o1 + j, none⟩ = some ((Value.int .i64) l[j]) := fun y => y.cell (hc j _ (List.getElem?_eq_getElem hlt))
      have hu := HL.out j _ (List.getElem?_eq_getElem hlt)
      clear hc
      generalize l[j] = u at *
      subst hu
      skip
      go_wp2
      go_roundw
      case rel => exact ⟨j + 1, by go_num, by go_num, by omega, ⟨yy, rfl⟩⟩
      case measure => simp [intOf]; omega
    · have hlt' : ¬ (j : Int) < (l.length : Int) := by omega
      have hke : (j : Int) = (l.length : Int) := by omega
      have HK := Lib.hid hke
      clear hke
      go_wp2
      go_ret
      exact fin_int (by rw [HK.out]) ⟨yy, rfl⟩

def Apart (v u : Value) : Prop := v.ownBlock = none ∨ v.ownBlock ≠ u.ownBlock
theorem Apart.symm {v u : Value} (h : Apart v u) : Apart u v := by
  unfold Apart at *
  cases hv : v.ownBlock <;> cases hu : u.ownBlock <;> simp_all
  exact fun e => h e.symm
/-- A system whose three tables lie in blocks of their own, from base on. -/
structure Own3 (w : World) (base : Nat) (r : Ref) (n1 n2 n3 : Nat) (x1 x2 x3 : List Value) : Prop where
  o1 : w.ownsRow base 3 1 (.slice r.pa n1 r.pc) n1 x1
  o2 : w.ownsRow base 3 1 (.slice r.ta n2 r.tc) n2 x2
  o3 : w.ownsRow base 4 1 (.slice r.ba n3 r.bc) n3 x3
  d12 : Apart (.slice r.pa n1 r.pc) (.slice r.ta n2 r.tc)
  d13 : Apart (.slice r.pa n1 r.pc) (.slice r.ba n3 r.bc)
  d23 : Apart (.slice r.ta n2 r.tc) (.slice r.ba n3 r.bc)
theorem Own3.ext {W : World} {base : Nat} {r : Ref} {n1 n2 n3 : Nat} {x1 x2 x3 : List Value} (h : Own3 W base r n1 n2 n3 x1 x2 x3) (y : Ext W) : Own3 y.w base r n1 n2 n3 x1 x2 x3 :=
  ⟨owns_ext h.o1 y, owns_ext h.o2 y, owns_ext h.o3 y, h.d12, h.d13, h.d23⟩
theorem Own3.lower {W : World} {base base' : Nat} {r : Ref} {n1 n2 n3 : Nat} {x1 x2 x3 : List Value} (h : Own3 W base r n1 n2 n3 x1 x2 x3) (hb : base' ≤ base) : Own3 W base' r n1 n2 n3 x1 x2 x3 :=
  ⟨owns_lower h.o1 hb, owns_lower h.o2 hb, owns_lower h.o3 hb, h.d12, h.d13, h.d23⟩
theorem own_row {α : Type} {w : World} {base : Nat} {E : TypeId} {mk : α → Value} {a : Option Addr} {c : Nat} {l : List α} (h : w.ownsRow base E 1 (.slice a l.length c) l.length (l.map mk)) : Row w mk a l := by
  obtain ⟨a', c', e, hr, _⟩ := owned_row h
  cases e
  exact hr

def uptoI (m : Int) (n : Nat) : List Int := (List.range n).map fun (i : Nat) => m + (i : Int)
def bitsB (m : Int) (n : Nat) : List Bool := (List.range n).map fun (i : Nat) => bit3 (m + (i : Int))
theorem marksI_eq (m : Int) (n : Nat) : marksI m n = (uptoI m n).map (Value.int .i64) := by simp [marksI, uptoI, List.map_map]
theorem marksB_eq (m : Int) (n : Nat) : marksB m n = (bitsB m n).map Value.bool := by simp [marksB, bitsB, List.map_map]
theorem uptoI_len (m : Int) (n : Nat) : (uptoI m n).length = n := by simp [uptoI]
theorem bitsB_len (m : Int) (n : Nat) : (bitsB m n).length = n := by simp [bitsB]
theorem uptoI_at {m : Int} {n i : Nat} {u : Int} (h : (uptoI m n)[i]? = some u) : u = m + (i : Int) := by
  obtain ⟨hi, h⟩ := List.getElem?_eq_some_iff.1 h
  rw [← h]; simp [uptoI]
/-- A system whose tables are marked. -/
def mkdS (s : Sys) (m : Int) : Sys := ⟨s.n, uptoI m s.plus.length, uptoI (m + s.plus.length) s.times.length, bitsB (m + s.plus.length + s.times.length) s.below.length⟩
theorem Own3.marked {w : World} {base : Nat} {r : Ref} {s : Sys} {m : Int} (h : Own3 w base r s.plus.length s.times.length s.below.length (marksI m s.plus.length) (marksI (m + s.plus.length) s.times.length) (marksB (m + s.plus.length + s.times.length) s.below.length)) (sm : Small s) : SysIn w r (mkdS s m) := by
  have o1 := h.o1
  have o2 := h.o2
  have o3 := h.o3
  rw [marksI_eq] at o1 o2
  rw [marksB_eq] at o3
  refine ⟨own_row (c := r.pc) (l := uptoI m s.plus.length) (by rw [uptoI_len]; exact o1), own_row (c := r.tc) (l := uptoI (m + s.plus.length) s.times.length) (by rw [uptoI_len]; exact o2), own_row (c := r.bc) (l := bitsB (m + s.plus.length + s.times.length) s.below.length) (by rw [bitsB_len]; exact o3), ?_, ?_, ?_⟩
  · have := sm.p; simp [mkdS, uptoI_len]; omega
  · have := sm.t; simp [mkdS, uptoI_len]; omega
  · have := sm.b; simp [mkdS, bitsB_len]; omega
end Go.Proofs.YtncfbljablbglaaDoor
/- What the laws' walks end in. -/
namespace Go.Proofs.YtncfbljablbglaaDoor
open Go.RowKit

theorem lift_fact {W1 W3 : World} (yy : Ext W1) (hb : ∀ z : Ext W3, ∃ u : Ext yy.w, z.w = u.w) {a : Addr} {v : Value} (c : ∀ y : Ext W1, y.w.cell? a = some v) : ∀ z : Ext W3, z.w.cell? a = some v := fun z => by
  obtain ⟨u, hu⟩ := hb z
  rw [hu]
  exact c (yy.trans u)
theorem lift_back {W W1 W3 : World} (yy : Ext W1) (hb : ∀ z : Ext W3, ∃ u : Ext yy.w, z.w = u.w) (hback : ∀ y : Ext W1, ∃ z : Ext W, y.w = z.w) : ∀ y : Ext W3, ∃ z : Ext W, y.w = z.w := fun y => by
  obtain ⟨u, hu⟩ := hb y
  obtain ⟨z, hz⟩ := hback (yy.trans u)
  exact ⟨z, by rw [hu]; exact hz⟩
/-- A law's walk ends: true; nothing that was there has changed. -/
def LawEnd (W : World) : Ending → World → Prop := fun e w' => e = .returned (.bool true) ∧ Below W.heap.size W w'
theorem law_end {W : World} {w : World} (hz : ∃ z : Ext W, w = z.w) : LawEnd W (.returned (.bool true)) w := by
  obtain ⟨z, rfl⟩ := hz
  exact ⟨rfl, z.below⟩

end Go.Proofs.YtncfbljablbglaaDoor
/- Lists of numbers in blocks of their own. -/
namespace Go.Proofs.YtncfbljablbglaaDoor
open Go.RowKit

/-- What is owned is kept where nothing of it turns. -/
theorem own_only {w w' : World} {base : Nat} {e : TypeId} {size : Nat} {a : Option Addr} {n m c : Nat} {xs : List Value} {B : Nat → Prop} (h : w.ownsRow base e size (.slice a m c) n xs) (ho : Only w w' B) (hd : ∀ g, ob a = some g → ¬ B g) : w'.ownsRow base e size (.slice a m c) n xs :=
  owns_of_block h fun g hg => ho.block g (h.lt g hg).2 (hd g (by rw [← ob_eq]; exact hg))
theorem heldI_ans {W : World} {a : Option Addr} {n c : Nat} {m : Int} (h : Row W (Value.int .i64) a (uptoI m n)) (hn : n ≤ 1000000000) (h0 : 0 ≤ m) (h1 : m ≤ 1000000000) (x : Ext W) : Calls Tryd.prog 20 #[.slice a n c, .int .i64 m] x.w (Ans W (.int .i64 (m + n))) := by
  have := heldIntS_ans (c := c) h (by rw [uptoI_len]; exact hn) m h0 h1 (fun i u hu => uptoI_at hu) x
  rw [uptoI_len] at this
  exact this

end Go.Proofs.YtncfbljablbglaaDoor
/- Small steps from world to world. Nothing is walked here. -/
namespace Go.Proofs.YtncfbljablbglaaDoor
open Go.RowKit

theorem below_ext {W w' : World} (h : Below W.heap.size W w') (y : Ext w') : Below W.heap.size W y.w := h.trans (y.below.mono h.size)
theorem below_alloc {W w' : World} (h : Below W.heap.size W w') (o : Obj) : Below W.heap.size W (w'.alloc o) := h.alloc h.size o
theorem below_drew {W w' : World} (h : Below W.heap.size W w') : Below W.heap.size W w'.drew := h.drew
theorem below_set {W w w0 : World} {i : Nat} {v : Value} (h : Below W.heap.size W w) (h0 : Below W.heap.size W w0) : Below W.heap.size W (w.setCell ⟨w0.heap.size, i, none⟩ v) := h.setCell h0.size _
theorem blk_alloc {w : World} {g : Nat} {o : Obj} (h : w.heap[g]? = some o) (o' : Obj) : (w.alloc o').heap[g]? = some o := ((Ext.self w).alloc o').blk h
theorem blk_drew {w : World} {g : Nat} {o : Obj} (h : w.heap[g]? = some o) : w.drew.heap[g]? = some o := h
theorem new_blk_drew (w : World) (o : Obj) : (w.drew.alloc o).heap[w.heap.size]? = some o := new_blk (w := w.drew) rfl
theorem blocks1 {w w2 : World} {o1 : Obj} {B : Nat} (hB : w.heap.size = B) (h : w.alloc o1 = w2) :
    w2.heap[B]? = some o1 ∧ w2.heap.size = B + 1 ∧ Below w.heap.size w w2 := by
  subst h; subst hB
  exact ⟨new_blk rfl, by simp, (Below.refl _ _).alloc (Nat.le_refl _) _⟩
end Go.Proofs.YtncfbljablbglaaDoor
/- Rows of numbers that are held beside what is walked, each in a stretch of blocks. Nothing is walked here but marks. -/
namespace Go.Proofs.YtncfbljablbglaaDoor
open Go.RowKit

/-- A stretch of blocks. -/
def Str (lo hi g : Nat) : Prop := lo ≤ g ∧ g < hi
/-- A row in a block of its own within a stretch. -/
def HoldR (w : World) (lo hi : Nat) (a : Option Addr) (d : Nat) (l : List Int) : Prop :=
  (∃ base, w.ownsRow base 3 1 (.slice a l.length d) l.length (l.map (Value.int .i64))) ∧ ∀ g, ob a = some g → lo ≤ g ∧ g < hi
section
variable {w w' : World} {lo hi l2 h2 : Nat}
theorem HoldR.ext {a : Option Addr} {d : Nat} {l : List Int} (h : HoldR w lo hi a d l) (y : Ext w) : HoldR y.w lo hi a d l := by
  obtain ⟨⟨b, h1⟩, h2⟩ := h
  exact ⟨⟨b, owns_ext h1 y⟩, h2⟩
theorem HoldR.only {a : Option Addr} {d : Nat} {l : List Int} (h : HoldR w lo hi a d l) (ho : Only w w' (Str l2 h2)) (hd : hi ≤ l2 ∨ h2 ≤ lo) : HoldR w' lo hi a d l := by
  obtain ⟨⟨b, h1⟩, h3⟩ := h
  exact ⟨⟨b, own_only h1 ho (fun g hg e => by have := h3 g hg; have e1 := e.1; have e2 := e.2; omega)⟩, h3⟩
theorem HoldR.row {a : Option Addr} {d : Nat} {l : List Int} (h : HoldR w lo hi a d l) : Row w (Value.int .i64) a l := by
  obtain ⟨⟨b, h1⟩, h2⟩ := h
  exact own_row h1
theorem HoldR.new {a : Option Addr} {d : Nat} {l : List Int} {base : Nat} (h : w.ownsRow base 3 1 (.slice a l.length d) l.length (l.map (Value.int .i64))) (hl : ∀ p, a = some p → lo ≤ p.block ∧ p.block < hi) : HoldR w lo hi a d l :=
  ⟨⟨base, h⟩, fun g hg => by cases a <;> simp [ob] at hg; subst hg; exact hl _ rfl⟩
theorem Only.str_below {U : World} (h : Only w w' (Str lo hi)) (hu : Below U.heap.size U w) (hl : U.heap.size ≤ lo) : Below U.heap.size U w' :=
  hu.trans (h.below (fun _ e => Nat.le_trans hl e.1) hu.size)
theorem HoldR.mark {a : Option Addr} {d : Nat} {l : List Int} (h : HoldR w lo hi a d l) (hl : l.length ≤ 1048576) (m : Int) (h0 : 0 ≤ m) (h1 : m ≤ 100000000) :
    Calls Tryd.prog 19 #[.slice a l.length d, .int .i64 m] w (fun e w' => e = .returned (.int .i64 (m + l.length)) ∧ Only w w' (Str lo hi)) := by
  obtain ⟨⟨b, h3⟩, h4⟩ := h
  refine Calls.mono (markIntS_ans h3 (by omega) m h0 (by omega)) ?_
  rintro e w' ⟨rfl, -, g0⟩
  rw [ob_eq] at g0
  exact ⟨rfl, Only.grown g0 (fun g e => h4 g e)⟩
end
end Go.Proofs.YtncfbljablbglaaDoor
