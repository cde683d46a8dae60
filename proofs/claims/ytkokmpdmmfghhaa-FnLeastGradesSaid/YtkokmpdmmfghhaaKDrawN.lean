
/- The draws' new cursor; whether one of n comes; numbers that are bent; the laws' numbers of a code. -/
import Derived.Test.YtkokmpdmmfghhaaKDraw
import Derived.Test.YtkokmpdmmfghhaaHA
import Derived.LoopTactic
import Derived.Outline
namespace Go.Proofs.Ytkokmpdmmfghhaa
open Go.RowKit

/-- A new cursor at the bytes l. -/
def NewCur (W : World) (a : Option Addr) (c : Nat) (l : List Int) : Ending → World → Prop :=
  fun e w' => ∃ (C : Nat) (y : Ext W), e = .returned (.pointer (some ⟨C, 0, none⟩)) ∧ w' = y.w ∧ W.heap.size ≤ C ∧ CurAt y.w C a c l

theorem newCur {W : World} {a : Option Addr} {c : Nat} {l : List Int} (y : Ext W) (h : Int) (row : Row W (Value.int .u8) a l) (len : l.length ≤ 4611686018427387904) (byte : ∀ u ∈ l, 0 ≤ u ∧ u ≤ 255) (lt : ∀ p, a = some p → p.block < W.heap.size) :
    NewCur W a c l (.returned (.pointer (some ⟨y.w.heap.size, 0, none⟩))) (y.w.alloc (.cells #[.slice a l.length c, .int .i64 0, .int .i64 h] 95)) := by
  refine ⟨_, y.alloc _, rfl, rfl, y.size, ⟨0, h, ?_, by omega, by omega⟩, row.ext (y.alloc _), fun p hp => ?_, len, byte⟩
  · show (y.w.heap.push _)[y.w.heap.size]? = _
    rw [Array.getElem?_push, if_pos rfl]
  · have := lt p hp
    have := y.size
    omega

set_option maxHeartbeats 4000000 in
theorem l1New_ans {W : World} {a : Option Addr} {c : Nat} {l : List Int} (row : Row W (Value.int .u8) a l) (len : l.length ≤ 4611686018427387904) (byte : ∀ u ∈ l, 0 ≤ u ∧ u ≤ 255) (lt : ∀ p, a = some p → p.block < W.heap.size) (x : Ext W) :
    Calls Try.prog 50 #[.slice a l.length c] x.w (NewCur W a c l) := by
  have HBY := Lib.hid byte
  have HLT := Lib.hid lt
  clear byte lt
  obtain ⟨yy, hyy⟩ : ∃ y : Ext W, x = y := ⟨x, rfl⟩
  rw [hyy]
  clear hyy
  go_enter Try.func50, Try.ntmps50
  go_wp2
  go_loopw [3, 4] (fun s3 s4 wr => ∃ (h : Int) (k : Nat), s3 = .int .i64 h ∧ s4 = .int .i64 k ∧ k ≤ l.length ∧ k ≤ 4000 ∧ ∃ y : Ext W, wr = y.w) (fun _ i _ => l.length - (intOf i).toNat)
  case atStart => exact ⟨_, 0, rfl, rfl, by omega, by omega, yy, rfl⟩
  case round =>
    obtain ⟨h, k, rfl, rfl, hk, hk4, yy, rfl⟩ := hrel
    by_cases hlt : k < l.length
    · have hlt' : (k : Int) < (l.length : Int) := by omega
      by_cases h4 : k < 4000
      · have h4' : (k : Int) < 4000 := by omega
        obtain ⟨b, o, rfl, hc⟩ := row.at hlt
        have hcell : ∀ y : Ext W, y.w.cell? ⟨b, o + k, none⟩ = some (.int .u8 l[k]) := fun y => y.cell (hc k l[k] (List.getElem?_eq_getElem hlt))
        clear hc
        have hu := HBY.out l[k] (List.getElem_mem hlt)
        generalize l[k] = u at *
        go_wp2
        go_roundw
        case rel => exact ⟨_, k + 1, rfl, by go_num, by omega, by omega, yy, rfl⟩
        case measure => simp [intOf]; omega
      · have h4' : ¬ (k : Int) < 4000 := by omega
        go_wp2
        go_ret
        exact newCur yy h row len HBY.out HLT.out
    · have hlt' : ¬ (k : Int) < (l.length : Int) := by omega
      go_wp2
      go_ret
      exact newCur yy h row len HBY.out HLT.out

/-- Whether one of n comes. -/
def DrewB (W : World) (C : Nat) (a : Option Addr) (c : Nat) (l : List Int) : Ending → World → Prop :=
  fun e w' => ∃ v : Bool, e = .returned (.bool v) ∧ Only W w' (· = C) ∧ CurAt w' C a c l
set_option maxHeartbeats 4000000 in
theorem l1Once_ans {W : World} {C : Nat} {a : Option Addr} {c : Nat} {l : List Int} (h : CurAt W C a c l) (n : Int) (h0 : 0 < n) (h1 : n ≤ 256) : Calls Try.prog 68 #[.pointer (some ⟨C, 0, none⟩), .int .i64 n] W (DrewB W C a c l) := by
  have C1 := l1Below_ans h n h0 h1
  clear h
  go_enter Try.func68, Try.ntmps68
  go_wp2_with (go_at_call 84; refine Calls.mono C1 ?_; rintro e w' ⟨v, rfl, hv0, hv1, ho, hc⟩; have HO := Lib.hid ho; have HC := Lib.hid hc; clear ho hc C1)
  go_ret
  exact ⟨_, rfl, HO.out, HC.out⟩
/-- A number of any size. -/
def DrewI (W : World) (C : Nat) (a : Option Addr) (c : Nat) (l : List Int) : Ending → World → Prop :=
  fun e w' => ∃ v : Int, e = .returned (.int .i64 v) ∧ Only W w' (· = C) ∧ CurAt w' C a c l
set_option maxHeartbeats 4000000 in
theorem l1PickInt_ans {W : World} {C : Nat} {a : Option Addr} {c : Nat} {l : List Int} (h : CurAt W C a c l) {pa : Option Addr} {pc : Nat} {q : List Int} (hq : Row W (Value.int .i64) pa q) (h0 : 0 < q.length) (h1 : q.length ≤ 256) (hn : ∀ p, pa = some p → p.block ≠ C) :
    Calls Try.prog 140 #[.pointer (some ⟨C, 0, none⟩), .slice pa q.length pc] W (DrewI W C a c l) := by
  have C1 := l1Below_ans h (q.length : Int) (by omega) (by omega)
  clear h
  have HQ := Lib.hid hq
  have HN := Lib.hid hn
  clear hq hn
  go_enter Try.func140, Try.ntmps140
  go_wp2_with fail
  refine Calls.mono C1 ?_
  rintro e w' ⟨v, rfl, hv0, hv1, ho, hc⟩
  have HO := Lib.hid ho
  have HC := Lib.hid hc
  clear ho hc C1
  obtain ⟨k, rfl⟩ : ∃ k : Nat, v = (k : Int) := ⟨v.toNat, by omega⟩
  have hk : k < q.length := by omega
  obtain ⟨b, o, rfl, hcell⟩ := (row_only HQ.out HO.out (fun p hp => HN.out p hp)).at hk
  have hcell := hcell k q[k] (List.getElem?_eq_getElem hk)
  generalize q[k] = u at *
  go_wp2_with fail
  go_ret
  exact ⟨_, rfl, HO.out, HC.out⟩
set_option maxRecDepth 100000 in
set_option maxHeartbeats 4000000 in
theorem dBent_ans {W : World} {C : Nat} {a : Option Addr} {c : Nat} {l : List Int} (h : CurAt W C a c l) :
    Calls Try.prog 127 #[.pointer (some ⟨C, 0, none⟩)] W (DrewI W C a c l) := by
  have hC : C < W.heap.size := by obtain ⟨_, _, hb, _⟩ := h.blk; exact (Array.getElem?_eq_some_iff.1 hb).1
  have H := Lib.hid h
  clear h
  go_enter Try.func127, Try.ntmps127
  go_wp2_with fail
  generalize hY : W.alloc _ = Y
  have hb := new_blk hY
  have hl : (13 : Nat) = ([-1, 0, 1, 2, 3, 7, 8, 15, 16, 17, 40, 9223372036854775807, -9223372036854775808] : List Int).length := rfl
  have H1 : CurAt Y C a c l := by rw [← hY]; exact H.out.ext ((Ext.self W).alloc _)
  have hr : Row Y (Value.int .i64) (some ⟨W.heap.size, 0, none⟩) ([-1, 0, 1, 2, 3, 7, 8, 15, 16, 17, 40, 9223372036854775807, -9223372036854775808] : List Int) := by
    refine .inr ⟨_, _, rfl, fun i u hi => ?_⟩
    rw [blk_cell hb]
    have : i < 13 := (List.getElem?_eq_some_iff.1 hi).1
    match i, this with
    | 0, _ => cases hi; rfl
    | 1, _ => cases hi; rfl
    | 2, _ => cases hi; rfl
    | 3, _ => cases hi; rfl
    | 4, _ => cases hi; rfl
    | 5, _ => cases hi; rfl
    | 6, _ => cases hi; rfl
    | 7, _ => cases hi; rfl
    | 8, _ => cases hi; rfl
    | 9, _ => cases hi; rfl
    | 10, _ => cases hi; rfl
    | 11, _ => cases hi; rfl
    | 12, _ => cases hi; rfl
  have CC := l1PickInt_ans H1 (pc := 13) hr (by decide) (by decide) (fun p hp => by cases hp; show W.heap.size ≠ C; omega)
  refine Calls.mono CC ?_
  rintro e w' ⟨v, rfl, ho, hc⟩
  have HO := Lib.hid ho
  have HC := Lib.hid hc
  clear ho hc CC hr hb
  go_wp2_with fail
  go_ret
  refine ⟨_, rfl, ?_, HC.out⟩
  have := HO.out
  rw [← hY] at this
  exact (Only.alloc W _ _).trans this

end Go.Proofs.Ytkokmpdmmfghhaa
