/- Texts of one claim, laid together: Sets, Bits, ModelA, Sums, Checks, SysA, ModelB, SysB. -/
import Derived.Test.YtoefeijnnnioeaaDoorGA
set_option linter.unusedVariables false
set_option linter.unusedSimpArgs false

/- Sets of small numbers as the bits of a number, plainly. -/
namespace Go.Proofs.YtoefeijnnnioeaaDoor

def setN (p : Nat → Bool) : Nat → Nat
  | 0 => 0
  | k + 1 => if p k then setN p k ||| 2 ^ k else setN p k

theorem testBit_setN (p : Nat → Bool) : ∀ n i, (setN p n).testBit i = (decide (i < n) && p i)
  | 0, i => by simp [setN]
  | k + 1, i => by
    unfold setN
    by_cases e : i = k
    · subst e
      cases hp : p i
      · simp [testBit_setN p i i]
      · simp
    · have hki : ¬ k = i := fun h => e h.symm
      have hd : decide (i < k + 1) = decide (i < k) := by rw [decide_eq_decide]; omega
      split
      · rw [Nat.testBit_or, testBit_setN p k i, Nat.testBit_two_pow, hd]; simp [hki]
      · rw [testBit_setN p k i, hd]

theorem setN_lt (p : Nat → Bool) (n : Nat) : setN p n < 2 ^ n := by
  apply Nat.lt_pow_two_of_testBit
  intro i hi
  rw [testBit_setN]; simp; omega

theorem setN_lt16 (p : Nat → Bool) {n : Nat} (h : n ≤ 16) : setN p n < 65536 :=
  Nat.lt_of_lt_of_le (setN_lt p n) (Nat.pow_le_pow_right (by omega) h)

theorem pow_lt16 {k : Nat} (h : k < 16) : 2 ^ k < 65536 :=
  Nat.lt_of_lt_of_le (Nat.pow_lt_pow_right (by omega) h) (Nat.le_refl _)

theorem or_bit {S k : Nat} (hS : S < 65536) (hk : k < 16) : bits .or .u32 (S : Int) (2 ^ k % 4294967296) = ((S ||| 2 ^ k : Nat) : Int) := by
  have h1 := pow_lt16 hk
  have h2 : ((2 : Int) ^ k % 4294967296) = ((2 ^ k : Nat) : Int) := by
    rw [Int.emod_eq_of_lt (by exact Int.le_of_lt (Int.pow_pos (by omega))) ?_]
    · push_cast; rfl
    · have : ((2 ^ k : Nat) : Int) < 4294967296 := by omega
      have e : ((2 ^ k : Nat) : Int) = (2 : Int) ^ k := by push_cast; rfl
      rw [e] at this; exact this
  rw [h2]
  exact u32_or_nat S (2 ^ k) (by omega) (by omega)

theorem or_lt16 {S k : Nat} (hS : S < 65536) (hk : k < 16) : S ||| 2 ^ k < 65536 := Nat.or_lt_two_pow (n := 16) hS (pow_lt16 hk)

theorem and_lt16 {S T : Nat} (hS : S < 65536) : S &&& T < 65536 := Nat.lt_of_le_of_lt Nat.and_le_left hS

theorem bit_test {S k : Nat} (hS : S < 65536) : (bits .and .u32 ((S : Int) / 2 ^ k) 1 != 0) = S.testBit k := by
  have e : ((S : Int) / 2 ^ k) = ((S / 2 ^ k : Nat) : Int) := by push_cast; rfl
  have h1 : S / 2 ^ k < 65536 := Nat.lt_of_le_of_lt (Nat.div_le_self _ _) hS
  rw [e, show (1 : Int) = ((1 : Nat) : Int) from rfl, u32_and_nat _ 1 (by omega) (by omega), nat_mask1]
  rw [Nat.testBit_eq_decide_div_mod_eq]
  have := Nat.mod_two_eq_zero_or_one (S / 2 ^ k)
  rcases this with h | h <;> rw [h] <;> decide

/-- Every bit of S is one of T. -/
def SubSet (S T : Nat) : Prop := ∀ i, S.testBit i = true → T.testBit i = true

theorem andNot_zero {S T : Nat} (hS : S < 65536) (hT : T < 65536) : bits .andNot .u32 (S : Int) (T : Int) = 0 ↔ SubSet S T := by
  rw [u32_andNot_nat S T (by omega) (by omega)]
  have hb : ∀ i, i < 16 → (4294967295 - T).testBit i = !T.testBit i := by
    intro i hi
    have := Nat.testBit_two_pow_sub_succ (x := T) (n := 32) (by omega) i
    simp only [Nat.reducePow] at this
    rw [show 4294967295 - T = 4294967296 - (T + 1) by omega, this]
    simp; omega
  have hz : ∀ i, 16 ≤ i → S.testBit i = false := fun i hi => Nat.testBit_lt_two_pow (Nat.lt_of_lt_of_le hS (Nat.pow_le_pow_right (n := 2) (by omega) hi))
  constructor
  · intro h i hi
    have h0 : S &&& (4294967295 - T) = 0 := by omega
    have h1 : (S &&& (4294967295 - T)).testBit i = false := by rw [h0]; simp
    rw [Nat.testBit_and, hi] at h1
    by_cases h16 : i < 16
    · rw [hb i h16] at h1
      simpa using h1
    · rw [hz i (by omega)] at hi; cases hi
  · intro h
    have : S &&& (4294967295 - T) = 0 := by
      apply Nat.eq_of_testBit_eq
      intro i
      rw [Nat.testBit_and]
      by_cases h16 : i < 16
      · rw [hb i h16]
        cases hs : S.testBit i
        · simp
        · simp [h i hs]
      · rw [hz i (by omega)]; simp
    rw [this]; rfl

variable (s : Sys)
def Sys.above (a : Int) : Nat := setN (fun g => s.le a g) s.n.toNat
def Sys.under (a : Int) : Nat := setN (fun g => s.le g a) s.n.toNat

theorem above_bit (a : Int) (i : Nat) : (s.above a).testBit i = (decide ((i : Int) < s.n) && s.le a i) := by
  unfold Sys.above
  rw [testBit_setN]
  congr 1
  rw [decide_eq_decide]; omega
theorem under_bit (a : Int) (i : Nat) : (s.under a).testBit i = (decide ((i : Int) < s.n) && s.le i a) := by
  unfold Sys.under
  rw [testBit_setN]
  congr 1
  rw [decide_eq_decide]; omega
theorem above_lt (h : s.n ≤ 16) (a : Int) : s.above a < 65536 := setN_lt16 _ (by omega)
theorem under_lt (h : s.n ≤ 16) (a : Int) : s.under a < 65536 := setN_lt16 _ (by omega)

def LeastIn (S : Nat) (g : Int) : Prop := S.testBit g.toNat = true ∧ SubSet S (s.above g)
def GreatestIn (S : Nat) (g : Int) : Prop := S.testBit g.toNat = true ∧ SubSet S (s.under g)

theorem joinAt_bits (a b g : Int) (hg : G s g) : LeastIn s (s.above a &&& s.above b) g ↔ JoinAt s a b g := by
  have e : ((g.toNat : Nat) : Int) = g := by have := hg.1; omega
  unfold LeastIn SubSet
  simp only [Nat.testBit_and, above_bit, Bool.and_eq_true, decide_eq_true_eq]
  constructor
  · rintro ⟨⟨⟨_, h1⟩, _, h2⟩, h3⟩
    rw [e] at h1 h2
    refine ⟨h1, h2, fun h hh k1 k2 => ?_⟩
    have eh : ((h.toNat : Nat) : Int) = h := by have := hh.1; omega
    have := (h3 h.toNat ⟨⟨by rw [eh]; exact hh.2, by rw [eh]; exact k1⟩, by rw [eh]; exact hh.2, by rw [eh]; exact k2⟩).2
    rwa [eh] at this
  · rintro ⟨h1, h2, h3⟩
    rw [e]
    exact ⟨⟨⟨hg.2, h1⟩, hg.2, h2⟩, fun i ⟨⟨hi, k1⟩, _, k2⟩ => ⟨hi, h3 i ⟨by omega, hi⟩ k1 k2⟩⟩

theorem meetAt_bits (a b g : Int) (hg : G s g) : GreatestIn s (s.under a &&& s.under b) g ↔ MeetAt s a b g := by
  have e : ((g.toNat : Nat) : Int) = g := by have := hg.1; omega
  unfold GreatestIn SubSet
  simp only [Nat.testBit_and, under_bit, Bool.and_eq_true, decide_eq_true_eq]
  constructor
  · rintro ⟨⟨⟨_, h1⟩, _, h2⟩, h3⟩
    rw [e] at h1 h2
    refine ⟨h1, h2, fun h hh k1 k2 => ?_⟩
    have eh : ((h.toNat : Nat) : Int) = h := by have := hh.1; omega
    have := (h3 h.toNat ⟨⟨by rw [eh]; exact hh.2, by rw [eh]; exact k1⟩, by rw [eh]; exact hh.2, by rw [eh]; exact k2⟩).2
    rwa [eh] at this
  · rintro ⟨h1, h2, h3⟩
    rw [e]
    exact ⟨⟨⟨hg.2, h1⟩, hg.2, h2⟩, fun i ⟨⟨hi, k1⟩, _, k2⟩ => ⟨hi, h3 i ⟨by omega, hi⟩ k1 k2⟩⟩

theorem join_bits (a b : Int) : s.join a b = firstI s.n (LeastIn s (s.above a &&& s.above b)) :=
  firstI_congr fun g h0 h1 => (joinAt_bits s a b g ⟨h0, h1⟩).symm
theorem meet_bits (a b : Int) : s.meet a b = firstI s.n (GreatestIn s (s.under a &&& s.under b)) :=
  firstI_congr fun g h0 h1 => (meetAt_bits s a b g ⟨h0, h1⟩).symm

/-- All grades, as bits. -/
theorem all_bit (h0 : 0 ≤ s.n) (i : Nat) : (2 ^ s.n.toNat - 1).testBit i = decide ((i : Int) < s.n) := by
  rw [Nat.testBit_two_pow_sub_one, decide_eq_decide]; omega
theorem least_bits (h0 : 0 ≤ s.n) : s.least = firstI s.n (LeastIn s (2 ^ s.n.toNat - 1)) := by
  refine firstI_congr fun g g0 g1 => ?_
  have e : ((g.toNat : Nat) : Int) = g := by omega
  unfold LeastIn SubSet LeastAt
  simp only [all_bit s h0, above_bit, decide_eq_true_eq, Bool.and_eq_true]
  constructor
  · intro h
    exact ⟨by omega, fun i hi => ⟨hi, h i ⟨by omega, hi⟩⟩⟩
  · rintro ⟨_, h⟩ k hk
    have ek : ((k.toNat : Nat) : Int) = k := by have := hk.1; omega
    have := (h k.toNat (by rw [ek]; exact hk.2)).2
    rwa [ek] at this

end Go.Proofs.YtoefeijnnnioeaaDoor

/- Sets of grades: the walks. -/
namespace Go.Proofs.YtoefeijnnnioeaaDoor
open Go.RowKit

theorem inRange_ans {W : World} (g n : Int) (p : Bool) (hp : p = true ↔ 0 ≤ g ∧ g < n) (x : Ext W) :
    Calls Tryd.prog 100 #[.int .i64 g, .int .i64 n] x.w (Ans W (.bool p)) := by
  have HP := Lib.hid hp
  clear hp
  by_cases h0 : 0 ≤ g
  · by_cases h1 : g < n
    · go_enter Tryd.func100, Tryd.ntmps100
      go_wp2
      go_ret
      exact fin_true HP ⟨h0, h1⟩ ⟨x, rfl⟩
    · go_enter Tryd.func100, Tryd.ntmps100
      go_wp2
      go_ret
      exact fin_false HP (by omega) ⟨x, rfl⟩
  · go_enter Tryd.func100, Tryd.ntmps100
    go_wp2
    go_ret
    exact fin_false HP (by omega) ⟨x, rfl⟩

set_option maxHeartbeats 1600000 in
theorem allInRange_ans {W : World} {a : Option Addr} {c : Nat} {l : List Int} (h : Row W (Value.int .i64) a l) (hl : l.length ≤ 1099511627776) (n : Int) (p : Bool)
    (hp : p = true ↔ ∀ g ∈ l, 0 ≤ g ∧ g < n) (x : Ext W) :
    Calls Tryd.prog 108 #[.slice a l.length c, .int .i64 n] x.w (Ans W (.bool p)) := by
  have HP := Lib.hid hp
  clear hp
  go_enter Tryd.func108, Tryd.ntmps108
  go_wp2
  go_loopw [9] (fun i wr => ∃ k : Nat, i = .int .i64 k ∧ k ≤ l.length ∧ (∃ y : Ext W, wr = y.w) ∧ Hid (∀ j g, j < k → l[j]? = some g → 0 ≤ g ∧ g < n)) (fun i _ => l.length - (intOf i).toNat)
  case atStart => exact ⟨0, rfl, by omega, ⟨x, rfl⟩, fun j g hj _ => by omega⟩
  case round =>
    obtain ⟨k, rfl, hk, ⟨y, rfl⟩, hU⟩ := hrel
    by_cases hlt : k < l.length
    · obtain ⟨b, o, rfl, hc⟩ := (h.ext y).at hlt
      have hcell := hc k l[k] (List.getElem?_eq_getElem hlt)
      have HG : Hid (l[k]? = some l[k]) := List.getElem?_eq_getElem hlt
      clear hc
      generalize l[k] = g at *
      by_cases hq : 0 ≤ g ∧ g < n
      · go_wp2_with (go_at_call 100; refine (inRange_ans g n true (by simp only [hq, and_self]) y).mono ?_; rintro e w' ⟨rfl, y2, rfl⟩)
        go_roundw
        case rel =>
          refine ⟨k + 1, by go_num, by omega, ⟨y2, rfl⟩, fun j g' hj hg' => ?_⟩
          by_cases e : j = k
          · subst e
            have := HG.out
            rw [hg'] at this
            cases this
            exact hq
          · exact hU.out j g' (by omega) hg'
        case measure => simp [intOf]; omega
      · have HQ := Lib.hid hq
        clear hq
        go_wp2_with (go_at_call 100; refine (inRange_ans g n false (by simp only [Bool.false_eq_true, false_iff]; exact HQ.out) y).mono ?_; rintro e w' ⟨rfl, y2, rfl⟩)
        go_ret
        exact fin_false HP (fun q => HQ.out (q g (List.mem_of_getElem? HG.out))) ⟨y2, rfl⟩
    · go_wp2
      go_ret
      refine fin_true HP (fun g hg => ?_) ⟨y, rfl⟩
      obtain ⟨j, hj, e⟩ := List.mem_iff_getElem.1 hg
      exact hU.out j g (by omega) (by rw [List.getElem?_eq_getElem hj, e])

theorem has_ans {W : World} (S k : Nat) (hS : S < 65536) (hk : k < 16) (x : Ext W) :
    Calls Tryd.prog 183 #[.int .u32 S, .int .i64 k] x.w (Ans W (.bool (S.testBit k))) := by
  have ht := bit_test (S := S) (k := k) hS
  go_enter Tryd.func183, Tryd.ntmps183
  go_wp2
  go_ret
  exact ⟨rfl, x, rfl⟩


set_option maxHeartbeats 1600000 in
theorem gradesAbove_ans {W : World} {r : Ref} {s : Sys} (h : SysIn W r s) (t : Tables s) {a : Int} (ha : G s a) (x : Ext W) :
    Calls Tryd.prog 181 #[r.val s, .int .i64 a] x.w (Ans W (.int .u32 (s.above a))) := by
  have h2 := t.lo
  have h16 := t.hi
  unfold Ref.val
  go_enter Tryd.func181, Tryd.ntmps181
  go_wp2
  generalize hW : x.w.alloc _ = W1
  generalize hB : x.w.heap.size = B
  obtain ⟨c0, c1, c2, c3, h1, hback, y0, hy0⟩ := boxed h x hB hW
  clear hW hB
  rw [← hy0]
  clear hy0
  go_loopw [9, 5] (fun i v wr => ∃ k S : Nat, i = .int .i64 k ∧ v = .int .u32 S ∧ (k : Int) ≤ s.n ∧ (∃ y : Ext W1, wr = y.w) ∧ Hid (S = setN (fun g => s.le a g) k)) (fun i _ _ => (s.n - intOf i).toNat)
  case atStart => exact ⟨0, 0, rfl, rfl, by omega, ⟨y0, rfl⟩, rfl⟩
  case round =>
    obtain ⟨k, S, rfl, rfl, hk, ⟨y, rfl⟩, hS⟩ := hrel
    by_cases hlt : (k : Int) < s.n
    · have hG : G s k := ⟨by omega, hlt⟩
      have hS16 : S < 65536 := by rw [hS.out]; exact setN_lt16 _ (by omega)
      have hor := or_bit (k := k) hS16 (by omega)
      cases hle : s.le a k
      · have HL := Lib.hid hle
        go_wp2_with (go_at_call 180; refine (belowIn_ans h1 t ha hG y).mono ?_; rintro e w' ⟨rfl, y2, rfl⟩)
        go_roundw
        case rel => exact ⟨k + 1, S, by go_num, rfl, by omega, ⟨y2, rfl⟩, by unfold Hid; rw [setN, HL.out, hS.out]; rfl⟩
        case measure => simp [intOf]; omega
      · have HL := Lib.hid hle
        go_wp2_with (go_at_call 180; refine (belowIn_ans h1 t ha hG y).mono ?_; rintro e w' ⟨rfl, y2, rfl⟩)
        go_roundw
        case rel => exact ⟨k + 1, S ||| 2 ^ k, by go_num, rfl, by omega, ⟨y2, rfl⟩, by unfold Hid; rw [setN, HL.out, hS.out]; rfl⟩
        case measure => simp [intOf]; omega
    · go_wp2
      go_ret
      have e : s.n.toNat = k := by omega
      refine fin_int ?_ (hback y)
      unfold Sys.above
      rw [e, hS.out]

set_option maxHeartbeats 1600000 in
theorem leastOf_ans {W : World} {r : Ref} {s : Sys} (h : SysIn W r s) (t : Tables s) {S : Nat} (hS : S < 65536) (v : Int) (hv : v = firstI s.n (LeastIn s S)) (x : Ext W) :
    Calls Tryd.prog 185 #[r.val s, .int .u32 S] x.w (Ans W (.int .i64 v)) := by
  have HV := Lib.hid hv
  clear hv
  have h2 := t.lo
  have h16 := t.hi
  unfold Ref.val
  go_enter Tryd.func185, Tryd.ntmps185
  go_wp2
  generalize hW : x.w.alloc _ = W1
  generalize hB : x.w.heap.size = B
  obtain ⟨c0, c1, c2, c3, h1, hback, y0, hy0⟩ := boxed h x hB hW
  clear hW hB
  rw [← hy0]
  clear hy0
  go_loopw [8] (fun i wr => ∃ k : Nat, i = .int .i64 k ∧ (k : Int) ≤ s.n ∧ (∃ y : Ext W1, wr = y.w) ∧ Hid (Upto k (fun g => ¬ LeastIn s S g))) (fun i _ => (s.n - intOf i).toNat)
  case atStart => exact ⟨0, rfl, by omega, ⟨y0, rfl⟩, Upto.zero _⟩
  case round =>
    obtain ⟨k, rfl, hk, ⟨y, rfl⟩, hU⟩ := hrel
    by_cases hlt : (k : Int) < s.n
    · have hG : G s k := ⟨by omega, hlt⟩
      have hk16 : k < 16 := by omega
      have hT := above_lt s h16 (k : Int)
      cases hbit : S.testBit k
      · have HB := Lib.hid hbit
        go_wp2_with (first | (go_at_call 183; refine (has_ans S k hS hk16 y).mono ?_; rintro e w' ⟨rfl, y2, rfl⟩) | (go_at_call 181; refine (gradesAbove_ans h1 t hG y2).mono ?_; rintro e w' ⟨rfl, y2, rfl⟩))
        go_roundw
        case rel => exact ⟨k + 1, by go_num, by omega, ⟨y2, rfl⟩, hU.out.succ (fun q => by have := q.1; rw [show ((k : Int).toNat) = k from by omega, HB.out] at this; cases this)⟩
        case measure => simp [intOf]; omega
      · have HB := Lib.hid hbit
        by_cases hsub : SubSet S (s.above k)
        · have hz : (bits .andNot .u32 (S : Int) (s.above k : Int) == 0) = true := by simpa using (andNot_zero hS hT).2 hsub
          have HS := Lib.hid hsub
          clear hsub
          go_wp2_with (first | (go_at_call 183; refine (has_ans S k hS hk16 y).mono ?_; rintro e w' ⟨rfl, y2, rfl⟩) | (go_at_call 181; refine (gradesAbove_ans h1 t hG y2).mono ?_; rintro e w' ⟨rfl, y2, rfl⟩))
          go_ret
          refine fin_int ?_ (hback y2)
          have hk2 : (k : Int) = firstI s.n (LeastIn s S) := firstI_eq (.inl ⟨by omega, hlt, ⟨by rw [show ((k : Int).toNat) = k from by omega]; exact HB.out, HS.out⟩, hU.out⟩)
          rw [HV.out]; exact hk2
        · have hz : (bits .andNot .u32 (S : Int) (s.above k : Int) == 0) = false := by
            have := mt (andNot_zero hS hT).1 hsub
            simpa using this
          have HS := Lib.hid hsub
          clear hsub
          go_wp2_with (first | (go_at_call 183; refine (has_ans S k hS hk16 y).mono ?_; rintro e w' ⟨rfl, y2, rfl⟩) | (go_at_call 181; refine (gradesAbove_ans h1 t hG y2).mono ?_; rintro e w' ⟨rfl, y2, rfl⟩))
          go_roundw
          case rel => exact ⟨k + 1, by go_num, by omega, ⟨y2, rfl⟩, hU.out.succ (fun q => HS.out q.2)⟩
          case measure => simp [intOf]; omega
    · go_wp2
      go_ret
      refine fin_int ?_ (hback y)
      have hn : (-1 : Int) = firstI s.n (LeastIn s S) := firstI_eq (.inr ⟨rfl, fun i h0 hi => hU.out i h0 (by omega)⟩)
      rw [HV.out]; exact hn

end Go.Proofs.YtoefeijnnnioeaaDoor

/- The model's checks of one grade; what is in range. -/
namespace Go.Proofs.YtoefeijnnnioeaaDoor
open Go.RowKit

theorem l1In_ans {W : World} (g lo hi : Int) (p : Bool) (hp : p = true ↔ lo ≤ g ∧ g ≤ hi) (x : Ext W) :
    Calls Tryd.prog 97 #[.int .i64 g, .int .i64 lo, .int .i64 hi] x.w (Ans W (.bool p)) := by
  have HP := Lib.hid hp
  clear hp
  by_cases h0 : lo ≤ g
  · by_cases h1 : g ≤ hi
    · go_enter Tryd.func97, Tryd.ntmps97
      go_wp2
      go_ret
      exact fin_true HP ⟨h0, h1⟩ ⟨x, rfl⟩
    · go_enter Tryd.func97, Tryd.ntmps97
      go_wp2
      go_ret
      exact fin_false HP (by omega) ⟨x, rfl⟩
  · go_enter Tryd.func97, Tryd.ntmps97
    go_wp2
    go_ret
    exact fin_false HP (by omega) ⟨x, rfl⟩

set_option maxHeartbeats 4000000 in
theorem l1One_ans {W : World} {r : Ref} {s : Sys} (h : SysIn W r s) (t : Tables s) {a : Int} (hGa : G s a) (p : Bool) (hp : p = true ↔ One s a) (x : Ext W) :
    Calls Tryd.prog 157 #[r.val s, .int .i64 a] x.w (Ans W (.bool p)) := by
  have HP := Lib.hid hp
  clear hp
  have h2 := t.lo
  have h16 := t.hi
  unfold Ref.val
  go_enter Tryd.func157, Tryd.ntmps157
  go_wp2_with fail
  generalize hW : x.w.alloc _ = W1
  generalize hB : x.w.heap.size = B
  obtain ⟨c0, c1, c2, c3, h1, hback, yy, hy0⟩ := boxed h x hB hW
  clear hW hB
  rw [← hy0]
  clear hy0
  have hG0 : G s 0 := ⟨by omega, by omega⟩
  have hG1 : G s 1 := ⟨by omega, by omega⟩
  by_cases ea : s.add 0 a = a
  · have fa : (s.add 0 a == a) = true := by simpa using ea
    have Ea := Lib.hid ea
    clear ea
    by_cases eb : s.mul 1 a = a
    · have fb : (s.mul 1 a == a) = true := by simpa using eb
      have Eb := Lib.hid eb
      clear eb
      by_cases ec : s.mul a 1 = a
      · have fc : (s.mul a 1 == a) = true := by simpa using ec
        have Ec := Lib.hid ec
        clear ec
        by_cases ed : s.mul 0 a = 0
        · have fd : (s.mul 0 a == 0) = true := by simpa using ed
          have Ed := Lib.hid ed
          clear ed
          by_cases ee : s.mul a 0 = 0
          · have fe : (s.mul a 0 == 0) = true := by simpa using ee
            have Ee := Lib.hid ee
            clear ee
            by_cases ef : s.le a a = true
            · have ff : s.le a a = true := by simpa using ef
              have Ef := Lib.hid ef
              clear ef
              go_wp2_with (first | (go_at_call 174; with_reducible refine Calls.mono (l1Add_ans h1 t (by assumption) (by assumption) _) ?_; rintro e w' ⟨rfl, yy, rfl⟩) | (go_at_call 175; with_reducible refine Calls.mono (l1Mul_ans h1 t (by assumption) (by assumption) _) ?_; rintro e w' ⟨rfl, yy, rfl⟩) | (go_at_call 176; with_reducible refine Calls.mono (l1Le_is h1 t (by assumption) (by assumption) (by assumption) _) ?_; rintro e w' ⟨rfl, yy, rfl⟩))
              clear fa fb fc fd fe ff
              go_ret
              exact fin_true HP (⟨Ea.out, Eb.out, Ec.out, Ed.out, Ee.out, Ef.out⟩) (hback yy)
            · have ff : s.le a a = false := by simpa using ef
              have Ef := Lib.hid ef
              clear ef
              go_wp2_with (first | (go_at_call 174; with_reducible refine Calls.mono (l1Add_ans h1 t (by assumption) (by assumption) _) ?_; rintro e w' ⟨rfl, yy, rfl⟩) | (go_at_call 175; with_reducible refine Calls.mono (l1Mul_ans h1 t (by assumption) (by assumption) _) ?_; rintro e w' ⟨rfl, yy, rfl⟩) | (go_at_call 176; with_reducible refine Calls.mono (l1Le_is h1 t (by assumption) (by assumption) (by assumption) _) ?_; rintro e w' ⟨rfl, yy, rfl⟩))
              go_ret
              exact fin_false HP (fun q => Ef.out (q.rf)) (hback yy)
          · have fe : (s.mul a 0 == 0) = false := by simpa using ee
            have Ee := Lib.hid ee
            clear ee
            go_wp2_with (first | (go_at_call 174; with_reducible refine Calls.mono (l1Add_ans h1 t (by assumption) (by assumption) _) ?_; rintro e w' ⟨rfl, yy, rfl⟩) | (go_at_call 175; with_reducible refine Calls.mono (l1Mul_ans h1 t (by assumption) (by assumption) _) ?_; rintro e w' ⟨rfl, yy, rfl⟩) | (go_at_call 176; with_reducible refine Calls.mono (l1Le_is h1 t (by assumption) (by assumption) (by assumption) _) ?_; rintro e w' ⟨rfl, yy, rfl⟩))
            go_ret
            exact fin_false HP (fun q => Ee.out (q.z2)) (hback yy)
        · have fd : (s.mul 0 a == 0) = false := by simpa using ed
          have Ed := Lib.hid ed
          clear ed
          go_wp2_with (first | (go_at_call 174; with_reducible refine Calls.mono (l1Add_ans h1 t (by assumption) (by assumption) _) ?_; rintro e w' ⟨rfl, yy, rfl⟩) | (go_at_call 175; with_reducible refine Calls.mono (l1Mul_ans h1 t (by assumption) (by assumption) _) ?_; rintro e w' ⟨rfl, yy, rfl⟩) | (go_at_call 176; with_reducible refine Calls.mono (l1Le_is h1 t (by assumption) (by assumption) (by assumption) _) ?_; rintro e w' ⟨rfl, yy, rfl⟩))
          go_ret
          exact fin_false HP (fun q => Ed.out (q.z1)) (hback yy)
      · have fc : (s.mul a 1 == a) = false := by simpa using ec
        have Ec := Lib.hid ec
        clear ec
        go_wp2_with (first | (go_at_call 174; with_reducible refine Calls.mono (l1Add_ans h1 t (by assumption) (by assumption) _) ?_; rintro e w' ⟨rfl, yy, rfl⟩) | (go_at_call 175; with_reducible refine Calls.mono (l1Mul_ans h1 t (by assumption) (by assumption) _) ?_; rintro e w' ⟨rfl, yy, rfl⟩) | (go_at_call 176; with_reducible refine Calls.mono (l1Le_is h1 t (by assumption) (by assumption) (by assumption) _) ?_; rintro e w' ⟨rfl, yy, rfl⟩))
        go_ret
        exact fin_false HP (fun q => Ec.out (q.o2)) (hback yy)
    · have fb : (s.mul 1 a == a) = false := by simpa using eb
      have Eb := Lib.hid eb
      clear eb
      go_wp2_with (first | (go_at_call 174; with_reducible refine Calls.mono (l1Add_ans h1 t (by assumption) (by assumption) _) ?_; rintro e w' ⟨rfl, yy, rfl⟩) | (go_at_call 175; with_reducible refine Calls.mono (l1Mul_ans h1 t (by assumption) (by assumption) _) ?_; rintro e w' ⟨rfl, yy, rfl⟩) | (go_at_call 176; with_reducible refine Calls.mono (l1Le_is h1 t (by assumption) (by assumption) (by assumption) _) ?_; rintro e w' ⟨rfl, yy, rfl⟩))
      go_ret
      exact fin_false HP (fun q => Eb.out (q.o1)) (hback yy)
  · have fa : (s.add 0 a == a) = false := by simpa using ea
    have Ea := Lib.hid ea
    clear ea
    go_wp2_with (first | (go_at_call 174; with_reducible refine Calls.mono (l1Add_ans h1 t (by assumption) (by assumption) _) ?_; rintro e w' ⟨rfl, yy, rfl⟩) | (go_at_call 175; with_reducible refine Calls.mono (l1Mul_ans h1 t (by assumption) (by assumption) _) ?_; rintro e w' ⟨rfl, yy, rfl⟩) | (go_at_call 176; with_reducible refine Calls.mono (l1Le_is h1 t (by assumption) (by assumption) (by assumption) _) ?_; rintro e w' ⟨rfl, yy, rfl⟩))
    go_ret
    exact fin_false HP (fun q => Ea.out (q.z)) (hback yy)

set_option maxHeartbeats 4000000 in
theorem l1Join_ans {W : World} {r : Ref} {s : Sys} (h : SysIn W r s) (t : Tables s) {a b : Int} (hGa : G s a) (hGb : G s b) (x : Ext W) :
    Calls Tryd.prog 177 #[r.val s, .int .i64 a, .int .i64 b] x.w (Ans W (.int .i64 (s.join a b))) := by
  have h2 := t.lo
  have h16 := t.hi
  unfold Ref.val
  go_enter Tryd.func177, Tryd.ntmps177
  go_wp2_with fail
  generalize hW : x.w.alloc _ = W1
  generalize hB : x.w.heap.size = B
  obtain ⟨c0, c1, c2, c3, h1, hback, yy, hy0⟩ := boxed h x hB hW
  clear hW hB
  rw [← hy0]
  clear hy0
  go_loopw [7] (fun i wr => ∃ k : Nat, i = .int .i64 k ∧ (k : Int) ≤ s.n ∧ (∃ y : Ext W1, wr = y.w) ∧ Hid (Upto k (fun g => ¬ JoinAt s a b g))) (fun i _ => (s.n - intOf i).toNat)
  case atStart => exact ⟨0, rfl, by omega, ⟨yy, rfl⟩, Upto.zero _⟩
  case round =>
    obtain ⟨k, rfl, hk, ⟨yy, rfl⟩, hUk⟩ := hrel
    by_cases hltk : (k : Int) < s.n
    · have hGk : G s k := ⟨by omega, hltk⟩
      cases ha : s.le a k
      · have HA := Lib.hid ha
        go_wp2_with ((go_at_call 176; with_reducible refine Calls.mono (l1Le_is h1 t (by assumption) (by assumption) (by assumption) _) ?_; rintro e w' ⟨rfl, yy, rfl⟩))
        have hA : Hid (false = true ↔ (s.le a k = true ∧ s.le b k = true) ∧ Upto 0 (fun u => s.le a u = true → s.le b u = true → s.le k u = true)) := ⟨fun q => (by cases q), fun q => (by have := q.1.1; rw [HA.out] at this; cases this)⟩
        go_loopw [8, 9] (fun v i wr => ∃ (o : Bool) (j : Nat), v = .bool o ∧ i = .int .i64 j ∧ (j : Int) ≤ s.n ∧ (∃ y : Ext W1, wr = y.w) ∧ Hid (o = true ↔ (s.le a k = true ∧ s.le b k = true) ∧ Upto j (fun u => s.le a u = true → s.le b u = true → s.le k u = true))) (fun _ i _ => (s.n - intOf i).toNat)
        case atStart => exact ⟨false, 0, rfl, rfl, by omega, ⟨yy, rfl⟩, hA⟩
        case round =>
          obtain ⟨o, j, rfl, rfl, hj, ⟨yy, rfl⟩, hO⟩ := hrel
          clear hA
          by_cases hltj : (j : Int) < s.n
          · have hGj : G s j := ⟨by omega, hltj⟩
            cases o
            · go_wp2
              go_roundw
              case rel =>
                refine ⟨k + 1, by go_num, by omega, ⟨yy, rfl⟩, hUk.out.succ (fun q => ?_)⟩
                have := hO.out.2 ⟨⟨q.1, q.2.1⟩, fun u u0 u1 => q.2.2 u ⟨u0, by omega⟩⟩
                cases this
              case measure => simp [intOf]; omega
            · have hU := (hO.out.1 rfl)
              have HU := Lib.hid hU
              clear hU
              cases hx : s.le a j
              · have HX := Lib.hid hx
                go_wp2_with ((go_at_call 176; with_reducible refine Calls.mono (l1Le_is h1 t (by assumption) (by assumption) (by assumption) _) ?_; rintro e w' ⟨rfl, yy, rfl⟩))
                go_roundw
                case rel =>
                  refine ⟨true, j + 1, rfl, by go_num, by omega, ⟨yy, rfl⟩, ⟨fun _ => ⟨HU.out.1, HU.out.2.succ (fun hu hv => ?_)⟩, fun _ => rfl⟩⟩
                  rw [HX.out] at hu; cases hu
                case measure => simp [intOf]; omega
              · have HX := Lib.hid hx
                cases hy : s.le b j
                · have HY := Lib.hid hy
                  go_wp2_with ((go_at_call 176; with_reducible refine Calls.mono (l1Le_is h1 t (by assumption) (by assumption) (by assumption) _) ?_; rintro e w' ⟨rfl, yy, rfl⟩))
                  go_roundw
                  case rel =>
                    refine ⟨true, j + 1, rfl, by go_num, by omega, ⟨yy, rfl⟩, ⟨fun _ => ⟨HU.out.1, HU.out.2.succ (fun hu hv => ?_)⟩, fun _ => rfl⟩⟩
                    rw [HY.out] at hv; cases hv
                  case measure => simp [intOf]; omega
                · have HY := Lib.hid hy
                  cases hz : s.le k j
                  · have HZ := Lib.hid hz
                    go_wp2_with ((go_at_call 176; with_reducible refine Calls.mono (l1Le_is h1 t (by assumption) (by assumption) (by assumption) _) ?_; rintro e w' ⟨rfl, yy, rfl⟩))
                    go_roundw
                    case rel =>
                      refine ⟨false, j + 1, rfl, by go_num, by omega, ⟨yy, rfl⟩, ⟨fun q => (by cases q), fun q => ?_⟩⟩
                      have := q.2 j (by omega) (by omega) HX.out HY.out
                      rw [HZ.out] at this
                      cases this
                    case measure => simp [intOf]; omega
                  · have HZ := Lib.hid hz
                    go_wp2_with ((go_at_call 176; with_reducible refine Calls.mono (l1Le_is h1 t (by assumption) (by assumption) (by assumption) _) ?_; rintro e w' ⟨rfl, yy, rfl⟩))
                    go_roundw
                    case rel =>
                      refine ⟨true, j + 1, rfl, by go_num, by omega, ⟨yy, rfl⟩, ⟨fun _ => ⟨HU.out.1, HU.out.2.succ (fun hu hv => ?_)⟩, fun _ => rfl⟩⟩
                      exact HZ.out
                    case measure => simp [intOf]; omega
          · cases o
            · go_wp2
              go_roundw
              case rel =>
                refine ⟨k + 1, by go_num, by omega, ⟨yy, rfl⟩, hUk.out.succ (fun q => ?_)⟩
                have := hO.out.2 ⟨⟨q.1, q.2.1⟩, fun u u0 u1 => q.2.2 u ⟨u0, by omega⟩⟩
                cases this
              case measure => simp [intOf]; omega
            · have HU := Lib.hid (hO.out.1 rfl)
              go_wp2
              go_ret
              refine fin_int ?_ (hback yy)
              exact firstI_eq (.inl ⟨by omega, hltk, ⟨HU.out.1.1, HU.out.1.2, HU.out.2.all _ (by omega)⟩, hUk.out⟩)
      · have HA := Lib.hid ha
        cases hb : s.le b k
        · have HB := Lib.hid hb
          go_wp2_with ((go_at_call 176; with_reducible refine Calls.mono (l1Le_is h1 t (by assumption) (by assumption) (by assumption) _) ?_; rintro e w' ⟨rfl, yy, rfl⟩))
          have hA : Hid (false = true ↔ (s.le a k = true ∧ s.le b k = true) ∧ Upto 0 (fun u => s.le a u = true → s.le b u = true → s.le k u = true)) := ⟨fun q => (by cases q), fun q => (by have := q.1.2; rw [HB.out] at this; cases this)⟩
          go_loopw [8, 9] (fun v i wr => ∃ (o : Bool) (j : Nat), v = .bool o ∧ i = .int .i64 j ∧ (j : Int) ≤ s.n ∧ (∃ y : Ext W1, wr = y.w) ∧ Hid (o = true ↔ (s.le a k = true ∧ s.le b k = true) ∧ Upto j (fun u => s.le a u = true → s.le b u = true → s.le k u = true))) (fun _ i _ => (s.n - intOf i).toNat)
          case atStart => exact ⟨false, 0, rfl, rfl, by omega, ⟨yy, rfl⟩, hA⟩
          case round =>
            obtain ⟨o, j, rfl, rfl, hj, ⟨yy, rfl⟩, hO⟩ := hrel
            clear hA
            by_cases hltj : (j : Int) < s.n
            · have hGj : G s j := ⟨by omega, hltj⟩
              cases o
              · go_wp2
                go_roundw
                case rel =>
                  refine ⟨k + 1, by go_num, by omega, ⟨yy, rfl⟩, hUk.out.succ (fun q => ?_)⟩
                  have := hO.out.2 ⟨⟨q.1, q.2.1⟩, fun u u0 u1 => q.2.2 u ⟨u0, by omega⟩⟩
                  cases this
                case measure => simp [intOf]; omega
              · have hU := (hO.out.1 rfl)
                have HU := Lib.hid hU
                clear hU
                cases hx : s.le a j
                · have HX := Lib.hid hx
                  go_wp2_with ((go_at_call 176; with_reducible refine Calls.mono (l1Le_is h1 t (by assumption) (by assumption) (by assumption) _) ?_; rintro e w' ⟨rfl, yy, rfl⟩))
                  go_roundw
                  case rel =>
                    refine ⟨true, j + 1, rfl, by go_num, by omega, ⟨yy, rfl⟩, ⟨fun _ => ⟨HU.out.1, HU.out.2.succ (fun hu hv => ?_)⟩, fun _ => rfl⟩⟩
                    rw [HX.out] at hu; cases hu
                  case measure => simp [intOf]; omega
                · have HX := Lib.hid hx
                  cases hy : s.le b j
                  · have HY := Lib.hid hy
                    go_wp2_with ((go_at_call 176; with_reducible refine Calls.mono (l1Le_is h1 t (by assumption) (by assumption) (by assumption) _) ?_; rintro e w' ⟨rfl, yy, rfl⟩))
                    go_roundw
                    case rel =>
                      refine ⟨true, j + 1, rfl, by go_num, by omega, ⟨yy, rfl⟩, ⟨fun _ => ⟨HU.out.1, HU.out.2.succ (fun hu hv => ?_)⟩, fun _ => rfl⟩⟩
                      rw [HY.out] at hv; cases hv
                    case measure => simp [intOf]; omega
                  · have HY := Lib.hid hy
                    cases hz : s.le k j
                    · have HZ := Lib.hid hz
                      go_wp2_with ((go_at_call 176; with_reducible refine Calls.mono (l1Le_is h1 t (by assumption) (by assumption) (by assumption) _) ?_; rintro e w' ⟨rfl, yy, rfl⟩))
                      go_roundw
                      case rel =>
                        refine ⟨false, j + 1, rfl, by go_num, by omega, ⟨yy, rfl⟩, ⟨fun q => (by cases q), fun q => ?_⟩⟩
                        have := q.2 j (by omega) (by omega) HX.out HY.out
                        rw [HZ.out] at this
                        cases this
                      case measure => simp [intOf]; omega
                    · have HZ := Lib.hid hz
                      go_wp2_with ((go_at_call 176; with_reducible refine Calls.mono (l1Le_is h1 t (by assumption) (by assumption) (by assumption) _) ?_; rintro e w' ⟨rfl, yy, rfl⟩))
                      go_roundw
                      case rel =>
                        refine ⟨true, j + 1, rfl, by go_num, by omega, ⟨yy, rfl⟩, ⟨fun _ => ⟨HU.out.1, HU.out.2.succ (fun hu hv => ?_)⟩, fun _ => rfl⟩⟩
                        exact HZ.out
                      case measure => simp [intOf]; omega
            · cases o
              · go_wp2
                go_roundw
                case rel =>
                  refine ⟨k + 1, by go_num, by omega, ⟨yy, rfl⟩, hUk.out.succ (fun q => ?_)⟩
                  have := hO.out.2 ⟨⟨q.1, q.2.1⟩, fun u u0 u1 => q.2.2 u ⟨u0, by omega⟩⟩
                  cases this
                case measure => simp [intOf]; omega
              · have HU := Lib.hid (hO.out.1 rfl)
                go_wp2
                go_ret
                refine fin_int ?_ (hback yy)
                exact firstI_eq (.inl ⟨by omega, hltk, ⟨HU.out.1.1, HU.out.1.2, HU.out.2.all _ (by omega)⟩, hUk.out⟩)
        · have HB := Lib.hid hb
          go_wp2_with ((go_at_call 176; with_reducible refine Calls.mono (l1Le_is h1 t (by assumption) (by assumption) (by assumption) _) ?_; rintro e w' ⟨rfl, yy, rfl⟩))
          have hA : Hid (true = true ↔ (s.le a k = true ∧ s.le b k = true) ∧ Upto 0 (fun u => s.le a u = true → s.le b u = true → s.le k u = true)) := ⟨fun _ => ⟨⟨HA.out, HB.out⟩, Upto.zero _⟩, fun _ => rfl⟩
          go_loopw [8, 9] (fun v i wr => ∃ (o : Bool) (j : Nat), v = .bool o ∧ i = .int .i64 j ∧ (j : Int) ≤ s.n ∧ (∃ y : Ext W1, wr = y.w) ∧ Hid (o = true ↔ (s.le a k = true ∧ s.le b k = true) ∧ Upto j (fun u => s.le a u = true → s.le b u = true → s.le k u = true))) (fun _ i _ => (s.n - intOf i).toNat)
          case atStart => exact ⟨true, 0, rfl, rfl, by omega, ⟨yy, rfl⟩, hA⟩
          case round =>
            obtain ⟨o, j, rfl, rfl, hj, ⟨yy, rfl⟩, hO⟩ := hrel
            clear hA
            by_cases hltj : (j : Int) < s.n
            · have hGj : G s j := ⟨by omega, hltj⟩
              cases o
              · go_wp2
                go_roundw
                case rel =>
                  refine ⟨k + 1, by go_num, by omega, ⟨yy, rfl⟩, hUk.out.succ (fun q => ?_)⟩
                  have := hO.out.2 ⟨⟨q.1, q.2.1⟩, fun u u0 u1 => q.2.2 u ⟨u0, by omega⟩⟩
                  cases this
                case measure => simp [intOf]; omega
              · have hU := (hO.out.1 rfl)
                have HU := Lib.hid hU
                clear hU
                cases hx : s.le a j
                · have HX := Lib.hid hx
                  go_wp2_with ((go_at_call 176; with_reducible refine Calls.mono (l1Le_is h1 t (by assumption) (by assumption) (by assumption) _) ?_; rintro e w' ⟨rfl, yy, rfl⟩))
                  go_roundw
                  case rel =>
                    refine ⟨true, j + 1, rfl, by go_num, by omega, ⟨yy, rfl⟩, ⟨fun _ => ⟨HU.out.1, HU.out.2.succ (fun hu hv => ?_)⟩, fun _ => rfl⟩⟩
                    rw [HX.out] at hu; cases hu
                  case measure => simp [intOf]; omega
                · have HX := Lib.hid hx
                  cases hy : s.le b j
                  · have HY := Lib.hid hy
                    go_wp2_with ((go_at_call 176; with_reducible refine Calls.mono (l1Le_is h1 t (by assumption) (by assumption) (by assumption) _) ?_; rintro e w' ⟨rfl, yy, rfl⟩))
                    go_roundw
                    case rel =>
                      refine ⟨true, j + 1, rfl, by go_num, by omega, ⟨yy, rfl⟩, ⟨fun _ => ⟨HU.out.1, HU.out.2.succ (fun hu hv => ?_)⟩, fun _ => rfl⟩⟩
                      rw [HY.out] at hv; cases hv
                    case measure => simp [intOf]; omega
                  · have HY := Lib.hid hy
                    cases hz : s.le k j
                    · have HZ := Lib.hid hz
                      go_wp2_with ((go_at_call 176; with_reducible refine Calls.mono (l1Le_is h1 t (by assumption) (by assumption) (by assumption) _) ?_; rintro e w' ⟨rfl, yy, rfl⟩))
                      go_roundw
                      case rel =>
                        refine ⟨false, j + 1, rfl, by go_num, by omega, ⟨yy, rfl⟩, ⟨fun q => (by cases q), fun q => ?_⟩⟩
                        have := q.2 j (by omega) (by omega) HX.out HY.out
                        rw [HZ.out] at this
                        cases this
                      case measure => simp [intOf]; omega
                    · have HZ := Lib.hid hz
                      go_wp2_with ((go_at_call 176; with_reducible refine Calls.mono (l1Le_is h1 t (by assumption) (by assumption) (by assumption) _) ?_; rintro e w' ⟨rfl, yy, rfl⟩))
                      go_roundw
                      case rel =>
                        refine ⟨true, j + 1, rfl, by go_num, by omega, ⟨yy, rfl⟩, ⟨fun _ => ⟨HU.out.1, HU.out.2.succ (fun hu hv => ?_)⟩, fun _ => rfl⟩⟩
                        exact HZ.out
                      case measure => simp [intOf]; omega
            · cases o
              · go_wp2
                go_roundw
                case rel =>
                  refine ⟨k + 1, by go_num, by omega, ⟨yy, rfl⟩, hUk.out.succ (fun q => ?_)⟩
                  have := hO.out.2 ⟨⟨q.1, q.2.1⟩, fun u u0 u1 => q.2.2 u ⟨u0, by omega⟩⟩
                  cases this
                case measure => simp [intOf]; omega
              · have HU := Lib.hid (hO.out.1 rfl)
                go_wp2
                go_ret
                refine fin_int ?_ (hback yy)
                exact firstI_eq (.inl ⟨by omega, hltk, ⟨HU.out.1.1, HU.out.1.2, HU.out.2.all _ (by omega)⟩, hUk.out⟩)
    · go_wp2
      go_ret
      refine fin_int ?_ (hback yy)
      exact firstI_eq (.inr ⟨rfl, fun i h0 hi => hUk.out i h0 (by omega)⟩)

end Go.Proofs.YtoefeijnnnioeaaDoor

namespace Go.Proofs.YtoefeijnnnioeaaDoor
open Go.RowKit

set_option maxHeartbeats 4000000 in
theorem sumsHold_ans {W : World} {r : Ref} {s : Sys} (h : SysIn W r s) (t : Tables s) (p : Bool) (hp : p = true ↔ Sums s) (x : Ext W) :
    Calls Tryd.prog 162 #[r.val s] x.w (Ans W (.bool p)) := by
  have HP := Lib.hid hp
  clear hp
  have h2 := t.lo
  have h16 := t.hi
  unfold Ref.val
  go_enter Tryd.func162, Tryd.ntmps162
  go_wp2
  generalize hW : x.w.alloc _ = W1
  generalize hB : x.w.heap.size = B
  obtain ⟨c0, c1, c2, c3, h1, hback, y0, hy0⟩ := boxed h x hB hW
  clear hW hB
  rw [← hy0]
  clear hy0
  go_loopw [8] (fun i wr => ∃ k : Nat, i = .int .i64 k ∧ (k : Int) ≤ s.n ∧ (∃ y : Ext W1, wr = y.w) ∧ Hid (Upto k (SumAt s))) (fun i _ => (s.n - intOf i).toNat)
  case atStart => exact ⟨0, rfl, by omega, ⟨y0, rfl⟩, Upto.zero _⟩
  case round =>
    obtain ⟨k, rfl, hk, ⟨y, rfl⟩, hU⟩ := hrel
    by_cases hlt : (k : Int) < s.n
    · have hG : G s k := ⟨by omega, hlt⟩
      have hG0 : G s 0 := ⟨by omega, by omega⟩
      by_cases e0 : s.add 0 k = k
      · have b0 : (s.add 0 k != (k : Int)) = false := by simpa using e0
        have E0 := Lib.hid e0
        clear e0
        go_wp2_with (go_at_call 178; refine (sumIn_ans h1 t hG0 hG y).mono ?_; rintro e w' ⟨rfl, y2, rfl⟩)
        clear b0
        go_loopw [18] (fun i wr => ∃ j : Nat, i = .int .i64 j ∧ (j : Int) ≤ s.n ∧ (∃ y : Ext W1, wr = y.w) ∧ Hid (Upto j (SumAt1 s k))) (fun i _ => (s.n - intOf i).toNat)
        case atStart => exact ⟨0, rfl, by omega, ⟨y2, rfl⟩, Upto.zero _⟩
        case round =>
          obtain ⟨j, rfl, hj, ⟨z, rfl⟩, hV⟩ := hrel
          by_cases hlt2 : (j : Int) < s.n
          · have hGj : G s j := ⟨by omega, hlt2⟩
            have hGs : G s (s.add k j) := t.addG hG hGj
            by_cases e1 : s.add k j = s.add j k
            · have b1 : (s.add k j != s.add j k) = false := by simpa using e1
              have E1 := Lib.hid e1
              clear e1
              go_wp2
              refine region_ext z (by kernel_rfl) (by kernel_rfl) ?_
              repeat (go_big_quiet_step (with_reducible exact sumIn_ans h1 t (by assumption) (by assumption) _))
              refine wpQuiet_nil ?_
              rintro _ ⟨z2, rfl⟩
              go_wp2
              clear b1
              go_loopw [32] (fun i wr => ∃ l : Nat, i = .int .i64 l ∧ (l : Int) ≤ s.n ∧ (∃ y : Ext W1, wr = y.w) ∧ Hid (Upto l (SumAt2 s k j))) (fun i _ => (s.n - intOf i).toNat)
              case atStart => exact ⟨0, rfl, by omega, ⟨z2, rfl⟩, Upto.zero _⟩
              case round =>
                obtain ⟨l, rfl, hl, ⟨u, rfl⟩, hX⟩ := hrel
                by_cases hlt3 : (l : Int) < s.n
                · have hGl : G s l := ⟨by omega, hlt3⟩
                  have hGt : G s (s.add j l) := t.addG hGj hGl
                  by_cases e2 : s.add (s.add k j) l = s.add k (s.add j l)
                  · have b2 : (s.add (s.add k j) l != s.add k (s.add j l)) = false := by simpa using e2
                    have E2 := Lib.hid e2
                    clear e2
                    go_wp2
                    refine region_ext u (by kernel_rfl) (by kernel_rfl) ?_
                    repeat (go_big_quiet_step (with_reducible exact sumIn_ans h1 t (by assumption) (by assumption) _))
                    refine wpQuiet_nil ?_
                    rintro _ ⟨u2, rfl⟩
                    go_wp2
                    go_roundw
                    case rel => exact ⟨l + 1, by go_num, by omega, ⟨u2, rfl⟩, hX.out.succ E2.out⟩
                    case measure => simp [intOf]; omega
                  · have b2 : (s.add (s.add k j) l != s.add k (s.add j l)) = true := by simpa using e2
                    have E2 := Lib.hid e2
                    clear e2
                    go_wp2
                    refine region_ext u (by kernel_rfl) (by kernel_rfl) ?_
                    repeat (go_big_quiet_step (with_reducible exact sumIn_ans h1 t (by assumption) (by assumption) _))
                    refine wpQuiet_nil ?_
                    rintro _ ⟨u2, rfl⟩
                    go_wp2
                    go_ret
                    exact fin_false HP (fun q => E2.out ((((q k hG).2 j hGj).2 l hGl))) (hback u2)
                · go_wp2
                  go_roundw
                  case rel => exact ⟨j + 1, by go_num, by omega, ⟨u, rfl⟩, hV.out.succ ⟨E1.out, hX.out.all _ (by omega)⟩⟩
                  case measure => simp [intOf]; omega
            · have b1 : (s.add k j != s.add j k) = true := by simpa using e1
              have E1 := Lib.hid e1
              clear e1
              go_wp2
              refine region_ext z (by kernel_rfl) (by kernel_rfl) ?_
              repeat (go_big_quiet_step (with_reducible exact sumIn_ans h1 t (by assumption) (by assumption) _))
              refine wpQuiet_nil ?_
              rintro _ ⟨z2, rfl⟩
              go_wp2
              go_ret
              exact fin_false HP (fun q => E1.out (((q k hG).2 j hGj).1)) (hback z2)
          · go_wp2
            go_roundw
            case rel => exact ⟨k + 1, by go_num, by omega, ⟨z, rfl⟩, hU.out.succ ⟨E0.out, hV.out.all _ (by omega)⟩⟩
            case measure => simp [intOf]; omega
      · have b0 : (s.add 0 k != (k : Int)) = true := by simpa using e0
        have E0 := Lib.hid e0
        clear e0
        go_wp2_with (go_at_call 178; refine (sumIn_ans h1 t hG0 hG y).mono ?_; rintro e w' ⟨rfl, y2, rfl⟩)
        go_ret
        exact fin_false HP (fun q => E0.out ((q k hG).1)) (hback y2)
    · go_wp2
      go_ret
      exact fin_true HP (hU.out.all _ (by omega)) (hback y)

end Go.Proofs.YtoefeijnnnioeaaDoor

/- The program's checks of a system. -/
namespace Go.Proofs.YtoefeijnnnioeaaDoor
open Go.RowKit

theorem joinIn_ans {W : World} {r : Ref} {s : Sys} (h : SysIn W r s) (t : Tables s) {a b : Int} (ha : G s a) (hb : G s b) (x : Ext W) :
    Calls Tryd.prog 182 #[r.val s, .int .i64 a, .int .i64 b] x.w (Ans W (.int .i64 (s.join a b))) := by
  have h16 := t.hi
  have hA := above_lt s h16 a
  have hA' := above_lt s h16 b
  have hand := u32_and_nat (s.above a) (s.above b) (by omega) (by omega)
  have hAB : s.above a &&& s.above b < 65536 := and_lt16 hA
  unfold Ref.val
  go_enter Tryd.func182, Tryd.ntmps182
  go_wp2_with fail
  generalize hW : x.w.alloc _ = W1
  generalize hB : x.w.heap.size = B
  obtain ⟨c0, c1, c2, c3, h1, hback, yy, hy0⟩ := boxed h x hB hW
  clear hW hB
  rw [← hy0]
  clear hy0
  refine region_ext yy (by kernel_rfl) (by kernel_rfl) ?_
  repeat (go_big_quiet_step (first | (go_at_call 181; with_reducible exact gradesAbove_ans h1 t (by assumption) _) | (go_at_call 185; with_reducible exact leastOf_ans h1 t hAB (s.join a b) (join_bits s a b) _)))
  refine wpQuiet_nil ?_
  rintro _ ⟨yy, rfl⟩
  go_wp2_with fail
  go_ret
  exact fin_int rfl (hback yy)

set_option maxHeartbeats 4000000 in
theorem productsHold_ans {W : World} {r : Ref} {s : Sys} (h : SysIn W r s) (t : Tables s) (p : Bool) (hp : p = true ↔ Prods s) (x : Ext W) :
    Calls Tryd.prog 163 #[r.val s] x.w (Ans W (.bool p)) := by
  have HP := Lib.hid hp
  clear hp
  have h2 := t.lo
  have h16 := t.hi
  unfold Ref.val
  go_enter Tryd.func163, Tryd.ntmps163
  go_wp2_with fail
  generalize hW : x.w.alloc _ = W1
  generalize hB : x.w.heap.size = B
  obtain ⟨c0, c1, c2, c3, h1, hback, yy, hy0⟩ := boxed h x hB hW
  clear hW hB
  rw [← hy0]
  clear hy0
  go_loopw [8] (fun i wr => ∃ k : Nat, i = .int .i64 k ∧ (k : Int) ≤ s.n ∧ (∃ y : Ext W1, wr = y.w) ∧ Hid (Upto k (ProdAt s))) (fun i _ => (s.n - intOf i).toNat)
  case atStart => exact ⟨0, rfl, by omega, ⟨yy, rfl⟩, Upto.zero _⟩
  case round =>
    obtain ⟨k, rfl, hk, ⟨yy, rfl⟩, hUk⟩ := hrel
    by_cases hltk : (k : Int) < s.n
    · have hGk : G s k := ⟨by omega, hltk⟩
      have hG0 : G s 0 := ⟨by omega, by omega⟩
      have hG1 : G s 1 := ⟨by omega, by omega⟩
      by_cases ea : s.mul 1 k = (k : Int)
      · have fa : (s.mul 1 k != (k : Int)) = false := by simpa using ea
        have Ea := Lib.hid ea
        clear ea
        by_cases eb : s.mul k 1 = (k : Int)
        · have fb : (s.mul k 1 != (k : Int)) = false := by simpa using eb
          have Eb := Lib.hid eb
          clear eb
          by_cases ec : s.mul 0 k = 0
          · have fc : (s.mul 0 k != 0) = false := by simpa using ec
            have Ec := Lib.hid ec
            clear ec
            by_cases ed : s.mul k 0 = 0
            · have fd : (s.mul k 0 != 0) = false := by simpa using ed
              have Ed := Lib.hid ed
              clear ed
              go_wp2_with ((go_at_call 179; with_reducible refine Calls.mono (productIn_ans h1 t (by assumption) (by assumption) _) ?_; rintro e w' ⟨rfl, yy, rfl⟩))
              clear fa fb fc fd
              go_loopw [35] (fun i wr => ∃ j : Nat, i = .int .i64 j ∧ (j : Int) ≤ s.n ∧ (∃ y : Ext W1, wr = y.w) ∧ Hid (Upto j (ProdAt1 s k))) (fun i _ => (s.n - intOf i).toNat)
              case atStart => exact ⟨0, rfl, by omega, ⟨yy, rfl⟩, Upto.zero _⟩
              case round =>
                obtain ⟨j, rfl, hj, ⟨yy, rfl⟩, hUj⟩ := hrel
                by_cases hltj : (j : Int) < s.n
                · have hGj : G s j := ⟨by omega, hltj⟩
                  have hGs := t.mulG hGk hGj
                  go_wp2
                  go_loopw [40] (fun i wr => ∃ l : Nat, i = .int .i64 l ∧ (l : Int) ≤ s.n ∧ (∃ y : Ext W1, wr = y.w) ∧ Hid (Upto l (ProdAt2 s k j))) (fun i _ => (s.n - intOf i).toNat)
                  case atStart => exact ⟨0, rfl, by omega, ⟨yy, rfl⟩, Upto.zero _⟩
                  case round =>
                    obtain ⟨l, rfl, hl, ⟨yy, rfl⟩, hUl⟩ := hrel
                    by_cases hltl : (l : Int) < s.n
                    · have hGl : G s l := ⟨by omega, hltl⟩
                      have hGt := t.mulG hGj hGl
                      by_cases ez : s.mul (s.mul k j) l = s.mul k (s.mul j l)
                      · have fz : (s.mul (s.mul k j) l != s.mul k (s.mul j l)) = false := by simpa using ez
                        have Ez := Lib.hid ez
                        clear ez
                        go_wp2
                        refine region_ext yy (by kernel_rfl) (by kernel_rfl) ?_
                        repeat (go_big_quiet_step ((go_at_call 179; with_reducible exact productIn_ans h1 t (by assumption) (by assumption) _)))
                        refine wpQuiet_nil ?_
                        rintro _ ⟨yy, rfl⟩
                        go_wp2_with fail
                        clear fz
                        go_roundw
                        case rel => exact ⟨l + 1, by go_num, by omega, ⟨yy, rfl⟩, hUl.out.succ (Ez.out)⟩
                        case measure => simp [intOf]; omega
                      · have fz : (s.mul (s.mul k j) l != s.mul k (s.mul j l)) = true := by simpa using ez
                        have Ez := Lib.hid ez
                        clear ez
                        go_wp2
                        refine region_ext yy (by kernel_rfl) (by kernel_rfl) ?_
                        repeat (go_big_quiet_step ((go_at_call 179; with_reducible exact productIn_ans h1 t (by assumption) (by assumption) _)))
                        refine wpQuiet_nil ?_
                        rintro _ ⟨yy, rfl⟩
                        go_wp2_with fail
                        go_ret
                        exact fin_false HP (fun q => Ez.out ((q k hGk).2.2.2.2 j hGj l hGl)) (hback yy)
                    · go_wp2
                      go_roundw
                      case rel => exact ⟨j + 1, by go_num, by omega, ⟨yy, rfl⟩, hUj.out.succ (hUl.out.all _ (by omega))⟩
                      case measure => simp [intOf]; omega
                · go_wp2
                  go_roundw
                  case rel => exact ⟨k + 1, by go_num, by omega, ⟨yy, rfl⟩, hUk.out.succ (⟨Ea.out, Eb.out, Ec.out, Ed.out, hUj.out.all _ (by omega)⟩)⟩
                  case measure => simp [intOf]; omega
            · have fd : (s.mul k 0 != 0) = true := by simpa using ed
              have Ed := Lib.hid ed
              clear ed
              go_wp2_with ((go_at_call 179; with_reducible refine Calls.mono (productIn_ans h1 t (by assumption) (by assumption) _) ?_; rintro e w' ⟨rfl, yy, rfl⟩))
              go_ret
              exact fin_false HP (fun q => Ed.out ((q k hGk).2.2.2.1)) (hback yy)
          · have fc : (s.mul 0 k != 0) = true := by simpa using ec
            have Ec := Lib.hid ec
            clear ec
            go_wp2_with ((go_at_call 179; with_reducible refine Calls.mono (productIn_ans h1 t (by assumption) (by assumption) _) ?_; rintro e w' ⟨rfl, yy, rfl⟩))
            go_ret
            exact fin_false HP (fun q => Ec.out ((q k hGk).2.2.1)) (hback yy)
        · have fb : (s.mul k 1 != (k : Int)) = true := by simpa using eb
          have Eb := Lib.hid eb
          clear eb
          go_wp2_with ((go_at_call 179; with_reducible refine Calls.mono (productIn_ans h1 t (by assumption) (by assumption) _) ?_; rintro e w' ⟨rfl, yy, rfl⟩))
          go_ret
          exact fin_false HP (fun q => Eb.out ((q k hGk).2.1)) (hback yy)
      · have fa : (s.mul 1 k != (k : Int)) = true := by simpa using ea
        have Ea := Lib.hid ea
        clear ea
        go_wp2_with ((go_at_call 179; with_reducible refine Calls.mono (productIn_ans h1 t (by assumption) (by assumption) _) ?_; rintro e w' ⟨rfl, yy, rfl⟩))
        go_ret
        exact fin_false HP (fun q => Ea.out ((q k hGk).1)) (hback yy)
    · go_wp2
      go_ret
      exact fin_true HP (hUk.out.all _ (by omega)) (hback yy)

set_option maxHeartbeats 4000000 in
theorem sumsAndProductsHold_ans {W : World} {r : Ref} {s : Sys} (h : SysIn W r s) (t : Tables s) (p : Bool) (hp : p = true ↔ Dists s) (x : Ext W) :
    Calls Tryd.prog 164 #[r.val s] x.w (Ans W (.bool p)) := by
  have HP := Lib.hid hp
  clear hp
  have h2 := t.lo
  have h16 := t.hi
  unfold Ref.val
  go_enter Tryd.func164, Tryd.ntmps164
  go_wp2_with fail
  generalize hW : x.w.alloc _ = W1
  generalize hB : x.w.heap.size = B
  obtain ⟨c0, c1, c2, c3, h1, hback, yy, hy0⟩ := boxed h x hB hW
  clear hW hB
  rw [← hy0]
  clear hy0
  go_loopw [8] (fun i wr => ∃ k : Nat, i = .int .i64 k ∧ (k : Int) ≤ s.n ∧ (∃ y : Ext W1, wr = y.w) ∧ Hid (Upto k (DistAt s))) (fun i _ => (s.n - intOf i).toNat)
  case atStart => exact ⟨0, rfl, by omega, ⟨yy, rfl⟩, Upto.zero _⟩
  case round =>
    obtain ⟨k, rfl, hk, ⟨yy, rfl⟩, hUk⟩ := hrel
    by_cases hltk : (k : Int) < s.n
    · have hGk : G s k := ⟨by omega, hltk⟩
      go_wp2
      go_loopw [13] (fun i wr => ∃ j : Nat, i = .int .i64 j ∧ (j : Int) ≤ s.n ∧ (∃ y : Ext W1, wr = y.w) ∧ Hid (Upto j (DistAt1 s k))) (fun i _ => (s.n - intOf i).toNat)
      case atStart => exact ⟨0, rfl, by omega, ⟨yy, rfl⟩, Upto.zero _⟩
      case round =>
        obtain ⟨j, rfl, hj, ⟨yy, rfl⟩, hUj⟩ := hrel
        by_cases hltj : (j : Int) < s.n
        · have hGj : G s j := ⟨by omega, hltj⟩
          have hGs := t.addG hGk hGj
          have hGm := t.mulG hGk hGj
          go_wp2
          go_loopw [18] (fun i wr => ∃ l : Nat, i = .int .i64 l ∧ (l : Int) ≤ s.n ∧ (∃ y : Ext W1, wr = y.w) ∧ Hid (Upto l (DistAt2 s k j))) (fun i _ => (s.n - intOf i).toNat)
          case atStart => exact ⟨0, rfl, by omega, ⟨yy, rfl⟩, Upto.zero _⟩
          case round =>
            obtain ⟨l, rfl, hl, ⟨yy, rfl⟩, hUl⟩ := hrel
            by_cases hltl : (l : Int) < s.n
            · have hGl : G s l := ⟨by omega, hltl⟩
              have hGt := t.addG hGj hGl
              have hGu := t.mulG hGk hGl
              have hGv := t.mulG hGj hGl
              by_cases ey : s.mul k (s.add j l) = s.add (s.mul k j) (s.mul k l)
              · have fy : (s.mul k (s.add j l) != s.add (s.mul k j) (s.mul k l)) = false := by simpa using ey
                have Ey := Lib.hid ey
                clear ey
                go_wp2
                refine region_ext yy (by kernel_rfl) (by kernel_rfl) ?_
                repeat (go_big_quiet_step (first | (go_at_call 178; with_reducible exact sumIn_ans h1 t (by assumption) (by assumption) _) | (go_at_call 179; with_reducible exact productIn_ans h1 t (by assumption) (by assumption) _)))
                refine wpQuiet_nil ?_
                rintro _ ⟨yy, rfl⟩
                go_wp2_with fail
                clear fy
                by_cases ez : s.mul (s.add k j) l = s.add (s.mul k l) (s.mul j l)
                · have fz : (s.mul (s.add k j) l != s.add (s.mul k l) (s.mul j l)) = false := by simpa using ez
                  have Ez := Lib.hid ez
                  clear ez
                  refine region_ext yy (by kernel_rfl) (by kernel_rfl) ?_
                  repeat (go_big_quiet_step (first | (go_at_call 178; with_reducible exact sumIn_ans h1 t (by assumption) (by assumption) _) | (go_at_call 179; with_reducible exact productIn_ans h1 t (by assumption) (by assumption) _)))
                  refine wpQuiet_nil ?_
                  rintro _ ⟨yy, rfl⟩
                  go_wp2_with fail
                  clear fz
                  go_roundw
                  case rel => exact ⟨l + 1, by go_num, by omega, ⟨yy, rfl⟩, hUl.out.succ (⟨Ey.out, Ez.out⟩)⟩
                  case measure => simp [intOf]; omega
                · have fz : (s.mul (s.add k j) l != s.add (s.mul k l) (s.mul j l)) = true := by simpa using ez
                  have Ez := Lib.hid ez
                  clear ez
                  refine region_ext yy (by kernel_rfl) (by kernel_rfl) ?_
                  repeat (go_big_quiet_step (first | (go_at_call 178; with_reducible exact sumIn_ans h1 t (by assumption) (by assumption) _) | (go_at_call 179; with_reducible exact productIn_ans h1 t (by assumption) (by assumption) _)))
                  refine wpQuiet_nil ?_
                  rintro _ ⟨yy, rfl⟩
                  go_wp2_with fail
                  go_ret
                  exact fin_false HP (fun q => Ez.out ((q k hGk j hGj l hGl).2)) (hback yy)
              · have fy : (s.mul k (s.add j l) != s.add (s.mul k j) (s.mul k l)) = true := by simpa using ey
                have Ey := Lib.hid ey
                clear ey
                go_wp2
                refine region_ext yy (by kernel_rfl) (by kernel_rfl) ?_
                repeat (go_big_quiet_step (first | (go_at_call 178; with_reducible exact sumIn_ans h1 t (by assumption) (by assumption) _) | (go_at_call 179; with_reducible exact productIn_ans h1 t (by assumption) (by assumption) _)))
                refine wpQuiet_nil ?_
                rintro _ ⟨yy, rfl⟩
                go_wp2_with fail
                go_ret
                exact fin_false HP (fun q => Ey.out ((q k hGk j hGj l hGl).1)) (hback yy)
            · go_wp2
              go_roundw
              case rel => exact ⟨j + 1, by go_num, by omega, ⟨yy, rfl⟩, hUj.out.succ (hUl.out.all _ (by omega))⟩
              case measure => simp [intOf]; omega
        · go_wp2
          go_roundw
          case rel => exact ⟨k + 1, by go_num, by omega, ⟨yy, rfl⟩, hUk.out.succ (hUj.out.all _ (by omega))⟩
          case measure => simp [intOf]; omega
    · go_wp2
      go_ret
      exact fin_true HP (hUk.out.all _ (by omega)) (hback yy)

theorem sub_order (s : Sys) (a b : Int) : SubSet (s.above b) (s.above a) ↔ ∀ c, G s c → s.le b c = true → s.le a c = true := by
  unfold SubSet
  simp only [above_bit, Bool.and_eq_true, decide_eq_true_eq]
  constructor
  · intro h c hc hb
    have e : ((c.toNat : Nat) : Int) = c := by have := hc.1; omega
    have := (h c.toNat ⟨by rw [e]; exact hc.2, by rw [e]; exact hb⟩).2
    rwa [e] at this
  · exact fun h i hi => ⟨hi.1, h i ⟨by omega, hi.1⟩ hi.2⟩

set_option maxHeartbeats 4000000 in
theorem orderHolds_ans {W : World} {r : Ref} {s : Sys} (h : SysIn W r s) (t : Tables s) (p : Bool) (hp : p = true ↔ Ords s) (x : Ext W) :
    Calls Tryd.prog 165 #[r.val s] x.w (Ans W (.bool p)) := by
  have HP := Lib.hid hp
  clear hp
  have h2 := t.lo
  have h16 := t.hi
  unfold Ref.val
  go_enter Tryd.func165, Tryd.ntmps165
  go_wp2_with fail
  generalize hW : x.w.alloc _ = W1
  generalize hB : x.w.heap.size = B
  obtain ⟨c0, c1, c2, c3, h1, hback, yy, hy0⟩ := boxed h x hB hW
  clear hW hB
  rw [← hy0]
  clear hy0
  go_loopw [7] (fun i wr => ∃ k : Nat, i = .int .i64 k ∧ (k : Int) ≤ s.n ∧ (∃ y : Ext W1, wr = y.w) ∧ Hid (Upto k (OrdAt s))) (fun i _ => (s.n - intOf i).toNat)
  case atStart => exact ⟨0, rfl, by omega, ⟨yy, rfl⟩, Upto.zero _⟩
  case round =>
    obtain ⟨k, rfl, hk, ⟨yy, rfl⟩, hUk⟩ := hrel
    by_cases hltk : (k : Int) < s.n
    · have hGk : G s k := ⟨by omega, hltk⟩
      by_cases ea : s.le k k = true
      · have fa : s.le k k = true := by simpa using ea
        have Ea := Lib.hid ea
        clear ea
        go_wp2_with ((go_at_call 180; with_reducible refine Calls.mono (belowIn_ans h1 t (by assumption) (by assumption) _) ?_; rintro e w' ⟨rfl, yy, rfl⟩))
        clear fa
        go_loopw [17] (fun i wr => ∃ j : Nat, i = .int .i64 j ∧ (j : Int) ≤ s.n ∧ (∃ y : Ext W1, wr = y.w) ∧ Hid (Upto j (OrdAt1 s k))) (fun i _ => (s.n - intOf i).toNat)
        case atStart => exact ⟨0, rfl, by omega, ⟨yy, rfl⟩, Upto.zero _⟩
        case round =>
          obtain ⟨j, rfl, hj, ⟨yy, rfl⟩, hUj⟩ := hrel
          by_cases hltj : (j : Int) < s.n
          · have hGj : G s j := ⟨by omega, hltj⟩
            cases hle : s.le k j
            · have HL := Lib.hid hle
              go_wp2_with ((go_at_call 180; with_reducible refine Calls.mono (belowIn_ans h1 t (by assumption) (by assumption) _) ?_; rintro e w' ⟨rfl, yy, rfl⟩))
              go_roundw
              case rel => exact ⟨j + 1, by go_num, by omega, ⟨yy, rfl⟩, hUj.out.succ (fun q => by rw [HL.out] at q; cases q)⟩
              case measure => simp [intOf]; omega
            · have HL := Lib.hid hle
              have hA := above_lt s h16 (k : Int)
              have hA' := above_lt s h16 (j : Int)
              by_cases ey : (k : Int) = j ∨ s.le j k = false
              · have Ey := Lib.hid ey
                have fy' : ((k : Int) != (j : Int)) = false ∨ (((k : Int) != (j : Int)) = true ∧ s.le j k = false) := by
                  by_cases e : (k : Int) = j
                  · exact .inl (by simpa using e)
                  · exact .inr ⟨by simpa using e, by rcases ey with h | h; exact absurd h e; exact h⟩
                clear ey
                rcases fy' with fy1 | ⟨fy1, fy2⟩
                · skip
                  by_cases ez : SubSet (s.above j) (s.above k)
                  · have fz : (bits .andNot .u32 (s.above j : Int) (s.above k : Int) != 0) = false := by have := andNot_zero hA' hA; simpa [this] using ez
                    have Ez := Lib.hid ez
                    clear ez
                    go_wp2_with ((go_at_call 180; with_reducible refine Calls.mono (belowIn_ans h1 t (by assumption) (by assumption) _) ?_; rintro e w' ⟨rfl, yy, rfl⟩))
                    refine region_ext yy (by kernel_rfl) (by kernel_rfl) ?_
                    repeat (go_big_quiet_step ((go_at_call 181; with_reducible exact gradesAbove_ans h1 t (by assumption) _)))
                    refine wpQuiet_nil ?_
                    rintro _ ⟨yy, rfl⟩
                    go_wp2_with fail
                    clear fz
                    go_roundw
                    case rel => exact ⟨j + 1, by go_num, by omega, ⟨yy, rfl⟩, hUj.out.succ (fun _ => ⟨Ey.out, fun c hc hbc => (sub_order s k j).1 Ez.out c hc hbc⟩)⟩
                    case measure => simp [intOf]; omega
                  · have fz : (bits .andNot .u32 (s.above j : Int) (s.above k : Int) != 0) = true := by have := andNot_zero hA' hA; simpa [this] using ez
                    have Ez := Lib.hid ez
                    clear ez
                    go_wp2_with ((go_at_call 180; with_reducible refine Calls.mono (belowIn_ans h1 t (by assumption) (by assumption) _) ?_; rintro e w' ⟨rfl, yy, rfl⟩))
                    refine region_ext yy (by kernel_rfl) (by kernel_rfl) ?_
                    repeat (go_big_quiet_step ((go_at_call 181; with_reducible exact gradesAbove_ans h1 t (by assumption) _)))
                    refine wpQuiet_nil ?_
                    rintro _ ⟨yy, rfl⟩
                    go_wp2_with fail
                    go_ret
                    exact fin_false HP (fun q => Ez.out ((sub_order s k j).2 (((q k hGk).2 j hGj HL.out).2))) (hback yy)
                · skip
                  by_cases ez : SubSet (s.above j) (s.above k)
                  · have fz : (bits .andNot .u32 (s.above j : Int) (s.above k : Int) != 0) = false := by have := andNot_zero hA' hA; simpa [this] using ez
                    have Ez := Lib.hid ez
                    clear ez
                    go_wp2_with ((go_at_call 180; with_reducible refine Calls.mono (belowIn_ans h1 t (by assumption) (by assumption) _) ?_; rintro e w' ⟨rfl, yy, rfl⟩))
                    refine region_ext yy (by kernel_rfl) (by kernel_rfl) ?_
                    repeat (go_big_quiet_step ((go_at_call 181; with_reducible exact gradesAbove_ans h1 t (by assumption) _)))
                    refine wpQuiet_nil ?_
                    rintro _ ⟨yy, rfl⟩
                    go_wp2_with fail
                    clear fz
                    go_roundw
                    case rel => exact ⟨j + 1, by go_num, by omega, ⟨yy, rfl⟩, hUj.out.succ (fun _ => ⟨Ey.out, fun c hc hbc => (sub_order s k j).1 Ez.out c hc hbc⟩)⟩
                    case measure => simp [intOf]; omega
                  · have fz : (bits .andNot .u32 (s.above j : Int) (s.above k : Int) != 0) = true := by have := andNot_zero hA' hA; simpa [this] using ez
                    have Ez := Lib.hid ez
                    clear ez
                    go_wp2_with ((go_at_call 180; with_reducible refine Calls.mono (belowIn_ans h1 t (by assumption) (by assumption) _) ?_; rintro e w' ⟨rfl, yy, rfl⟩))
                    refine region_ext yy (by kernel_rfl) (by kernel_rfl) ?_
                    repeat (go_big_quiet_step ((go_at_call 181; with_reducible exact gradesAbove_ans h1 t (by assumption) _)))
                    refine wpQuiet_nil ?_
                    rintro _ ⟨yy, rfl⟩
                    go_wp2_with fail
                    go_ret
                    exact fin_false HP (fun q => Ez.out ((sub_order s k j).2 (((q k hGk).2 j hGj HL.out).2))) (hback yy)
              · have fy1 : ((k : Int) != (j : Int)) = true := by simp only [not_or] at ey; simpa using ey.1
                have fy2 : s.le j k = true := by simp only [not_or, Bool.not_eq_false] at ey; exact ey.2
                have Ey := Lib.hid ey
                clear ey
                go_wp2_with ((go_at_call 180; with_reducible refine Calls.mono (belowIn_ans h1 t (by assumption) (by assumption) _) ?_; rintro e w' ⟨rfl, yy, rfl⟩))
                go_ret
                exact fin_false HP (fun q => Ey.out ((q k hGk).2 j hGj HL.out).1) (hback yy)
          · go_wp2
            go_roundw
            case rel => exact ⟨k + 1, by go_num, by omega, ⟨yy, rfl⟩, hUk.out.succ (⟨Ea.out, hUj.out.all _ (by omega)⟩)⟩
            case measure => simp [intOf]; omega
      · have fa : s.le k k = false := by simpa using ea
        have Ea := Lib.hid ea
        clear ea
        go_wp2_with ((go_at_call 180; with_reducible refine Calls.mono (belowIn_ans h1 t (by assumption) (by assumption) _) ?_; rintro e w' ⟨rfl, yy, rfl⟩))
        go_ret
        exact fin_false HP (fun q => Ea.out ((q k hGk).1)) (hback yy)
    · go_wp2
      go_ret
      exact fin_true HP (hUk.out.all _ (by omega)) (hback yy)

set_option maxHeartbeats 4000000 in
theorem orderIsKept_ans {W : World} {r : Ref} {s : Sys} (h : SysIn W r s) (t : Tables s) (p : Bool) (hp : p = true ↔ Kepts s) (x : Ext W) :
    Calls Tryd.prog 166 #[r.val s] x.w (Ans W (.bool p)) := by
  have HP := Lib.hid hp
  clear hp
  have h2 := t.lo
  have h16 := t.hi
  unfold Ref.val
  go_enter Tryd.func166, Tryd.ntmps166
  go_wp2_with fail
  generalize hW : x.w.alloc _ = W1
  generalize hB : x.w.heap.size = B
  obtain ⟨c0, c1, c2, c3, h1, hback, yy, hy0⟩ := boxed h x hB hW
  clear hW hB
  rw [← hy0]
  clear hy0
  go_loopw [8] (fun i wr => ∃ k : Nat, i = .int .i64 k ∧ (k : Int) ≤ s.n ∧ (∃ y : Ext W1, wr = y.w) ∧ Hid (Upto k (KeptAt s))) (fun i _ => (s.n - intOf i).toNat)
  case atStart => exact ⟨0, rfl, by omega, ⟨yy, rfl⟩, Upto.zero _⟩
  case round =>
    obtain ⟨k, rfl, hk, ⟨yy, rfl⟩, hUk⟩ := hrel
    by_cases hltk : (k : Int) < s.n
    · have hGk : G s k := ⟨by omega, hltk⟩
      go_wp2
      go_loopw [13] (fun i wr => ∃ j : Nat, i = .int .i64 j ∧ (j : Int) ≤ s.n ∧ (∃ y : Ext W1, wr = y.w) ∧ Hid (Upto j (KeptAt1 s k))) (fun i _ => (s.n - intOf i).toNat)
      case atStart => exact ⟨0, rfl, by omega, ⟨yy, rfl⟩, Upto.zero _⟩
      case round =>
        obtain ⟨j, rfl, hj, ⟨yy, rfl⟩, hUj⟩ := hrel
        by_cases hltj : (j : Int) < s.n
        · have hGj : G s j := ⟨by omega, hltj⟩
          cases hle : s.le k j
          · have HL := Lib.hid hle
            go_wp2_with ((go_at_call 180; with_reducible refine Calls.mono (belowIn_ans h1 t (by assumption) (by assumption) _) ?_; rintro e w' ⟨rfl, yy, rfl⟩))
            go_roundw
            case rel => exact ⟨j + 1, by go_num, by omega, ⟨yy, rfl⟩, hUj.out.succ (fun q => by rw [HL.out] at q; cases q)⟩
            case measure => simp [intOf]; omega
          · have HL := Lib.hid hle
            go_wp2_with ((go_at_call 180; with_reducible refine Calls.mono (belowIn_ans h1 t (by assumption) (by assumption) _) ?_; rintro e w' ⟨rfl, yy, rfl⟩))
            go_loopw [23] (fun i wr => ∃ l : Nat, i = .int .i64 l ∧ (l : Int) ≤ s.n ∧ (∃ y : Ext W1, wr = y.w) ∧ Hid (Upto l (KeptAt2 s k j))) (fun i _ => (s.n - intOf i).toNat)
            case atStart => exact ⟨0, rfl, by omega, ⟨yy, rfl⟩, Upto.zero _⟩
            case round =>
              obtain ⟨l, rfl, hl, ⟨yy, rfl⟩, hUl⟩ := hrel
              by_cases hltl : (l : Int) < s.n
              · have hGl : G s l := ⟨by omega, hltl⟩
                have g1 := t.addG hGk hGl
                have g2 := t.addG hGj hGl
                have g3 := t.mulG hGk hGl
                have g4 := t.mulG hGj hGl
                have g5 := t.mulG hGl hGk
                have g6 := t.mulG hGl hGj
                by_cases ea : s.le (s.add k l) (s.add j l) = true
                · have fa : s.le (s.add k l) (s.add j l) = true := by simpa using ea
                  have Ea := Lib.hid ea
                  clear ea
                  by_cases eb : s.le (s.mul k l) (s.mul j l) = true
                  · have fb : s.le (s.mul k l) (s.mul j l) = true := by simpa using eb
                    have Eb := Lib.hid eb
                    clear eb
                    by_cases ec : s.le (s.mul l k) (s.mul l j) = true
                    · have fc : s.le (s.mul l k) (s.mul l j) = true := by simpa using ec
                      have Ec := Lib.hid ec
                      clear ec
                      go_wp2
                      refine region_ext yy (by kernel_rfl) (by kernel_rfl) ?_
                      repeat (go_big_quiet_step (first | (go_at_call 178; with_reducible exact sumIn_ans h1 t (by assumption) (by assumption) _) | (go_at_call 179; with_reducible exact productIn_ans h1 t (by assumption) (by assumption) _) | (go_at_call 180; with_reducible exact belowIn_ans h1 t (by assumption) (by assumption) _)))
                      refine wpQuiet_nil ?_
                      rintro _ ⟨yy, rfl⟩
                      go_wp2_with fail
                      clear fa fb fc
                      go_roundw
                      case rel => exact ⟨l + 1, by go_num, by omega, ⟨yy, rfl⟩, hUl.out.succ (⟨Ea.out, Eb.out, Ec.out⟩)⟩
                      case measure => simp [intOf]; omega
                    · have fc : s.le (s.mul l k) (s.mul l j) = false := by simpa using ec
                      have Ec := Lib.hid ec
                      clear ec
                      go_wp2
                      refine region_ext yy (by kernel_rfl) (by kernel_rfl) ?_
                      repeat (go_big_quiet_step (first | (go_at_call 178; with_reducible exact sumIn_ans h1 t (by assumption) (by assumption) _) | (go_at_call 179; with_reducible exact productIn_ans h1 t (by assumption) (by assumption) _) | (go_at_call 180; with_reducible exact belowIn_ans h1 t (by assumption) (by assumption) _)))
                      refine wpQuiet_nil ?_
                      rintro _ ⟨yy, rfl⟩
                      go_wp2_with fail
                      go_ret
                      exact fin_false HP (fun q => Ec.out ((q k hGk j hGj HL.out l hGl).2.2)) (hback yy)
                  · have fb : s.le (s.mul k l) (s.mul j l) = false := by simpa using eb
                    have Eb := Lib.hid eb
                    clear eb
                    go_wp2
                    refine region_ext yy (by kernel_rfl) (by kernel_rfl) ?_
                    repeat (go_big_quiet_step (first | (go_at_call 178; with_reducible exact sumIn_ans h1 t (by assumption) (by assumption) _) | (go_at_call 179; with_reducible exact productIn_ans h1 t (by assumption) (by assumption) _) | (go_at_call 180; with_reducible exact belowIn_ans h1 t (by assumption) (by assumption) _)))
                    refine wpQuiet_nil ?_
                    rintro _ ⟨yy, rfl⟩
                    go_wp2_with fail
                    go_ret
                    exact fin_false HP (fun q => Eb.out ((q k hGk j hGj HL.out l hGl).2.1)) (hback yy)
                · have fa : s.le (s.add k l) (s.add j l) = false := by simpa using ea
                  have Ea := Lib.hid ea
                  clear ea
                  go_wp2
                  refine region_ext yy (by kernel_rfl) (by kernel_rfl) ?_
                  repeat (go_big_quiet_step (first | (go_at_call 178; with_reducible exact sumIn_ans h1 t (by assumption) (by assumption) _) | (go_at_call 179; with_reducible exact productIn_ans h1 t (by assumption) (by assumption) _) | (go_at_call 180; with_reducible exact belowIn_ans h1 t (by assumption) (by assumption) _)))
                  refine wpQuiet_nil ?_
                  rintro _ ⟨yy, rfl⟩
                  go_wp2_with fail
                  go_ret
                  exact fin_false HP (fun q => Ea.out ((q k hGk j hGj HL.out l hGl).1)) (hback yy)
              · go_wp2
                go_roundw
                case rel => exact ⟨j + 1, by go_num, by omega, ⟨yy, rfl⟩, hUj.out.succ (fun _ => hUl.out.all _ (by omega))⟩
                case measure => simp [intOf]; omega
        · go_wp2
          go_roundw
          case rel => exact ⟨k + 1, by go_num, by omega, ⟨yy, rfl⟩, hUk.out.succ (hUj.out.all _ (by omega))⟩
          case measure => simp [intOf]; omega
    · go_wp2
      go_ret
      exact fin_true HP (hUk.out.all _ (by omega)) (hback yy)

set_option maxHeartbeats 4000000 in
theorem joinsExist_ans {W : World} {r : Ref} {s : Sys} (h : SysIn W r s) (t : Tables s) (p : Bool) (hp : p = true ↔ Joins s) (x : Ext W) :
    Calls Tryd.prog 167 #[r.val s] x.w (Ans W (.bool p)) := by
  have HP := Lib.hid hp
  clear hp
  have h2 := t.lo
  have h16 := t.hi
  unfold Ref.val
  go_enter Tryd.func167, Tryd.ntmps167
  go_wp2_with fail
  generalize hW : x.w.alloc _ = W1
  generalize hB : x.w.heap.size = B
  obtain ⟨c0, c1, c2, c3, h1, hback, yy, hy0⟩ := boxed h x hB hW
  clear hW hB
  rw [← hy0]
  clear hy0
  go_loopw [7] (fun i wr => ∃ k : Nat, i = .int .i64 k ∧ (k : Int) ≤ s.n ∧ (∃ y : Ext W1, wr = y.w) ∧ Hid (Upto k (JoinsAt s))) (fun i _ => (s.n - intOf i).toNat)
  case atStart => exact ⟨0, rfl, by omega, ⟨yy, rfl⟩, Upto.zero _⟩
  case round =>
    obtain ⟨k, rfl, hk, ⟨yy, rfl⟩, hUk⟩ := hrel
    by_cases hltk : (k : Int) < s.n
    · have hGk : G s k := ⟨by omega, hltk⟩
      go_wp2
      go_loopw [12] (fun i wr => ∃ j : Nat, i = .int .i64 j ∧ (j : Int) ≤ s.n ∧ (∃ y : Ext W1, wr = y.w) ∧ Hid (Upto j (fun b => 0 ≤ s.join k b))) (fun i _ => (s.n - intOf i).toNat)
      case atStart => exact ⟨0, rfl, by omega, ⟨yy, rfl⟩, Upto.zero _⟩
      case round =>
        obtain ⟨j, rfl, hj, ⟨yy, rfl⟩, hUj⟩ := hrel
        by_cases hltj : (j : Int) < s.n
        · have hGj : G s j := ⟨by omega, hltj⟩
          by_cases ea : 0 ≤ s.join k j
          · have fa : 0 ≤ s.join k j := by simpa using ea
            have Ea := Lib.hid ea
            clear ea
            go_wp2_with ((go_at_call 182; with_reducible refine Calls.mono (joinIn_ans h1 t (by assumption) (by assumption) _) ?_; rintro e w' ⟨rfl, yy, rfl⟩))
            clear fa
            go_roundw
            case rel => exact ⟨j + 1, by go_num, by omega, ⟨yy, rfl⟩, hUj.out.succ (Ea.out)⟩
            case measure => simp [intOf]; omega
          · have fa : s.join k j < 0 := by simpa using ea
            have Ea := Lib.hid ea
            clear ea
            go_wp2_with ((go_at_call 182; with_reducible refine Calls.mono (joinIn_ans h1 t (by assumption) (by assumption) _) ?_; rintro e w' ⟨rfl, yy, rfl⟩))
            go_ret
            exact fin_false HP (fun q => absurd (q k hGk j hGj) (by have := Ea.out; omega)) (hback yy)
        · go_wp2
          go_roundw
          case rel => exact ⟨k + 1, by go_num, by omega, ⟨yy, rfl⟩, hUk.out.succ (hUj.out.all _ (by omega))⟩
          case measure => simp [intOf]; omega
    · go_wp2
      go_ret
      exact fin_true HP (hUk.out.all _ (by omega)) (hback yy)

end Go.Proofs.YtoefeijnnnioeaaDoor

/- The program's test of a system. -/
namespace Go.Proofs.YtoefeijnnnioeaaDoor
open Go.RowKit

theorem nn_facts {n : Int} (h1 : 2 ≤ n) (h2 : n ≤ 16) : 0 ≤ n * n ∧ n * n ≤ 256 := by
  have := idx_facts h1 h2 (a := 0) (b := 0) (by omega) (by omega)
  omega

set_option maxHeartbeats 4000000 in
theorem hasTables_ans {W : World} {r : Ref} {s : Sys} (h : SysIn W r s) (p : Bool) (hp : p = true ↔ Tables s) (x : Ext W) :
    Calls Tryd.prog 161 #[r.val s] x.w (Ans W (.bool p)) := by
  have HP := Lib.hid hp
  clear hp
  unfold Ref.val
  by_cases e1 : 2 ≤ s.n ∧ s.n ≤ 16
  · obtain ⟨h2, h16⟩ := e1
    obtain ⟨n0, n1⟩ := nn_facts h2 h16
    by_cases ea : (s.plus.length : Int) = s.n * s.n
    · have fa : ((s.plus.length : Int) == s.n * s.n) = true := by simpa using ea
      have Ea := Lib.hid ea
      clear ea
      by_cases eb : (s.times.length : Int) = s.n * s.n
      · have fb : ((s.times.length : Int) == s.n * s.n) = true := by simpa using eb
        have Eb := Lib.hid eb
        clear eb
        by_cases ec : (s.below.length : Int) = s.n * s.n
        · have fc : ((s.below.length : Int) == s.n * s.n) = true := by simpa using ec
          have Ec := Lib.hid ec
          clear ec
          have hlp : s.plus.length ≤ 1099511627776 := by have := Ea.out; omega
          have hlt : s.times.length ≤ 1099511627776 := by have := Eb.out; omega
          by_cases ed : ∀ g ∈ s.plus, 0 ≤ g ∧ g < s.n
          · have Ed := Lib.hid ed
            clear ed
            by_cases ee : ∀ g ∈ s.times, 0 ≤ g ∧ g < s.n
            · have Ee := Lib.hid ee
              clear ee
              go_enter Tryd.func161, Tryd.ntmps161
              go_wp2_with fail
              generalize hW : x.w.alloc _ = W1
              generalize hB : x.w.heap.size = B
              obtain ⟨c0, c1, c2, c3, h1, hback, yy, hy0⟩ := boxed h x hB hW
              clear hW hB
              rw [← hy0]
              clear hy0
              (with_reducible refine Calls.mono (allInRange_ans h1.plus (by assumption) s.n true (by refine iff_tf ?_; dsimp only; exact Ed.out) _) ?_)
              rintro e w' ⟨rfl, yy, rfl⟩
              go_wp2_with fail
              (with_reducible refine Calls.mono (allInRange_ans h1.times (by assumption) s.n true (by refine iff_tf ?_; dsimp only; exact Ee.out) _) ?_)
              rintro e w' ⟨rfl, yy, rfl⟩
              go_wp2
              go_ret
              exact fin_true HP ⟨h2, h16, Ea.out, Eb.out, Ec.out, Ed.out, Ee.out⟩ (hback yy)
            · have Ee := Lib.hid ee
              clear ee
              go_enter Tryd.func161, Tryd.ntmps161
              go_wp2_with fail
              generalize hW : x.w.alloc _ = W1
              generalize hB : x.w.heap.size = B
              obtain ⟨c0, c1, c2, c3, h1, hback, yy, hy0⟩ := boxed h x hB hW
              clear hW hB
              rw [← hy0]
              clear hy0
              (with_reducible refine Calls.mono (allInRange_ans h1.plus (by assumption) s.n true (by refine iff_tf ?_; dsimp only; exact Ed.out) _) ?_)
              rintro e w' ⟨rfl, yy, rfl⟩
              go_wp2_with fail
              (with_reducible refine Calls.mono (allInRange_ans h1.times (by assumption) s.n false (by refine iff_tf ?_; dsimp only; exact Ee.out) _) ?_)
              rintro e w' ⟨rfl, yy, rfl⟩
              go_wp2
              go_ret
              exact fin_false HP (fun q => Ee.out q.rt) (hback yy)
          · have Ed := Lib.hid ed
            clear ed
            go_enter Tryd.func161, Tryd.ntmps161
            go_wp2_with fail
            generalize hW : x.w.alloc _ = W1
            generalize hB : x.w.heap.size = B
            obtain ⟨c0, c1, c2, c3, h1, hback, yy, hy0⟩ := boxed h x hB hW
            clear hW hB
            rw [← hy0]
            clear hy0
            (with_reducible refine Calls.mono (allInRange_ans h1.plus (by assumption) s.n false (by refine iff_tf ?_; dsimp only; exact Ed.out) _) ?_)
            rintro e w' ⟨rfl, yy, rfl⟩
            go_wp2
            go_ret
            exact fin_false HP (fun q => Ed.out q.rp) (hback yy)
        · have fc : ((s.below.length : Int) == s.n * s.n) = false := by simpa using ec
          have Ec := Lib.hid ec
          clear ec
          go_enter Tryd.func161, Tryd.ntmps161
          go_wp2_with fail
          generalize hW : x.w.alloc _ = W1
          generalize hB : x.w.heap.size = B
          obtain ⟨c0, c1, c2, c3, h1, hback, yy, hy0⟩ := boxed h x hB hW
          clear hW hB
          rw [← hy0]
          clear hy0
          go_ret
          exact fin_false HP (fun q => Ec.out q.lb) (hback yy)
      · have fb : ((s.times.length : Int) == s.n * s.n) = false := by simpa using eb
        have Eb := Lib.hid eb
        clear eb
        go_enter Tryd.func161, Tryd.ntmps161
        go_wp2_with fail
        generalize hW : x.w.alloc _ = W1
        generalize hB : x.w.heap.size = B
        obtain ⟨c0, c1, c2, c3, h1, hback, yy, hy0⟩ := boxed h x hB hW
        clear hW hB
        rw [← hy0]
        clear hy0
        go_ret
        exact fin_false HP (fun q => Eb.out q.lt) (hback yy)
    · have fa : ((s.plus.length : Int) == s.n * s.n) = false := by simpa using ea
      have Ea := Lib.hid ea
      clear ea
      go_enter Tryd.func161, Tryd.ntmps161
      go_wp2_with fail
      generalize hW : x.w.alloc _ = W1
      generalize hB : x.w.heap.size = B
      obtain ⟨c0, c1, c2, c3, h1, hback, yy, hy0⟩ := boxed h x hB hW
      clear hW hB
      rw [← hy0]
      clear hy0
      go_ret
      exact fin_false HP (fun q => Ea.out q.lp) (hback yy)
  · by_cases e2 : s.n < 2
    · clear e1
      go_enter Tryd.func161, Tryd.ntmps161
      go_wp2_with fail
      generalize hW : x.w.alloc _ = W1
      generalize hB : x.w.heap.size = B
      obtain ⟨c0, c1, c2, c3, h1, hback, yy, hy0⟩ := boxed h x hB hW
      clear hW hB
      rw [← hy0]
      clear hy0
      go_ret
      exact fin_false HP (fun q => by have := q.lo; omega) (hback yy)
    · have e3 : 16 < s.n := by omega
      clear e1
      go_enter Tryd.func161, Tryd.ntmps161
      go_wp2_with fail
      generalize hW : x.w.alloc _ = W1
      generalize hB : x.w.heap.size = B
      obtain ⟨c0, c1, c2, c3, h1, hback, yy, hy0⟩ := boxed h x hB hW
      clear hW hB
      rw [← hy0]
      clear hy0
      go_ret
      exact fin_false HP (fun q => by have := q.hi; omega) (hback yy)

set_option maxHeartbeats 4000000 in
theorem isSystem_ans {W : World} {r : Ref} {s : Sys} (h : SysIn W r s) (p : Bool) (hp : p = true ↔ IsSys s) (x : Ext W) :
    Calls Tryd.prog 129 #[r.val s] x.w (Ans W (.bool p)) := by
  have HP := Lib.hid hp
  clear hp
  unfold Ref.val
  go_enter Tryd.func129, Tryd.ntmps129
  go_wp2_with fail
  generalize hW : x.w.alloc _ = W1
  generalize hB : x.w.heap.size = B
  obtain ⟨c0, c1, c2, c3, h1, hback, yy, hy0⟩ := boxed h x hB hW
  clear hW hB
  rw [← hy0]
  clear hy0
  by_cases e0 : Tables s
  · have E0 := Lib.hid e0
    have t := e0
    clear e0
    by_cases e1 : Sums s
    · have E1 := Lib.hid e1
      clear e1
      by_cases e2 : Prods s
      · have E2 := Lib.hid e2
        clear e2
        by_cases e3 : Dists s
        · have E3 := Lib.hid e3
          clear e3
          by_cases e4 : Ords s
          · have E4 := Lib.hid e4
            clear e4
            by_cases e5 : Kepts s
            · have E5 := Lib.hid e5
              clear e5
              by_cases e6 : Joins s
              · have E6 := Lib.hid e6
                clear e6
                go_wp2_with (first | (go_at_call 161; with_reducible refine Calls.mono (hasTables_ans h1 true (by refine iff_tf ?_; dsimp only; exact E0.out) _) ?_; rintro e w' ⟨rfl, yy, rfl⟩) | (go_at_call 162; with_reducible refine Calls.mono (sumsHold_ans h1 t true (by refine iff_tf ?_; dsimp only; exact E1.out) _) ?_; rintro e w' ⟨rfl, yy, rfl⟩) | (go_at_call 163; with_reducible refine Calls.mono (productsHold_ans h1 t true (by refine iff_tf ?_; dsimp only; exact E2.out) _) ?_; rintro e w' ⟨rfl, yy, rfl⟩) | (go_at_call 164; with_reducible refine Calls.mono (sumsAndProductsHold_ans h1 t true (by refine iff_tf ?_; dsimp only; exact E3.out) _) ?_; rintro e w' ⟨rfl, yy, rfl⟩) | (go_at_call 165; with_reducible refine Calls.mono (orderHolds_ans h1 t true (by refine iff_tf ?_; dsimp only; exact E4.out) _) ?_; rintro e w' ⟨rfl, yy, rfl⟩) | (go_at_call 166; with_reducible refine Calls.mono (orderIsKept_ans h1 t true (by refine iff_tf ?_; dsimp only; exact E5.out) _) ?_; rintro e w' ⟨rfl, yy, rfl⟩) | (go_at_call 167; with_reducible refine Calls.mono (joinsExist_ans h1 t true (by refine iff_tf ?_; dsimp only; exact E6.out) _) ?_; rintro e w' ⟨rfl, yy, rfl⟩))
                go_ret
                exact fin_true HP ((isSys_parts s).2 ⟨E0.out, E1.out, E2.out, E3.out, E4.out, E5.out, E6.out⟩) (hback yy)
              · have E6 := Lib.hid e6
                clear e6
                go_wp2_with (first | (go_at_call 161; with_reducible refine Calls.mono (hasTables_ans h1 true (by refine iff_tf ?_; dsimp only; exact E0.out) _) ?_; rintro e w' ⟨rfl, yy, rfl⟩) | (go_at_call 162; with_reducible refine Calls.mono (sumsHold_ans h1 t true (by refine iff_tf ?_; dsimp only; exact E1.out) _) ?_; rintro e w' ⟨rfl, yy, rfl⟩) | (go_at_call 163; with_reducible refine Calls.mono (productsHold_ans h1 t true (by refine iff_tf ?_; dsimp only; exact E2.out) _) ?_; rintro e w' ⟨rfl, yy, rfl⟩) | (go_at_call 164; with_reducible refine Calls.mono (sumsAndProductsHold_ans h1 t true (by refine iff_tf ?_; dsimp only; exact E3.out) _) ?_; rintro e w' ⟨rfl, yy, rfl⟩) | (go_at_call 165; with_reducible refine Calls.mono (orderHolds_ans h1 t true (by refine iff_tf ?_; dsimp only; exact E4.out) _) ?_; rintro e w' ⟨rfl, yy, rfl⟩) | (go_at_call 166; with_reducible refine Calls.mono (orderIsKept_ans h1 t true (by refine iff_tf ?_; dsimp only; exact E5.out) _) ?_; rintro e w' ⟨rfl, yy, rfl⟩) | (go_at_call 167; with_reducible refine Calls.mono (joinsExist_ans h1 t false (by refine iff_tf ?_; dsimp only; exact E6.out) _) ?_; rintro e w' ⟨rfl, yy, rfl⟩))
                go_ret
                exact fin_false HP (fun q => E6.out ((isSys_parts s).1 q).2.2.2.2.2.2) (hback yy)
            · have E5 := Lib.hid e5
              clear e5
              go_wp2_with (first | (go_at_call 161; with_reducible refine Calls.mono (hasTables_ans h1 true (by refine iff_tf ?_; dsimp only; exact E0.out) _) ?_; rintro e w' ⟨rfl, yy, rfl⟩) | (go_at_call 162; with_reducible refine Calls.mono (sumsHold_ans h1 t true (by refine iff_tf ?_; dsimp only; exact E1.out) _) ?_; rintro e w' ⟨rfl, yy, rfl⟩) | (go_at_call 163; with_reducible refine Calls.mono (productsHold_ans h1 t true (by refine iff_tf ?_; dsimp only; exact E2.out) _) ?_; rintro e w' ⟨rfl, yy, rfl⟩) | (go_at_call 164; with_reducible refine Calls.mono (sumsAndProductsHold_ans h1 t true (by refine iff_tf ?_; dsimp only; exact E3.out) _) ?_; rintro e w' ⟨rfl, yy, rfl⟩) | (go_at_call 165; with_reducible refine Calls.mono (orderHolds_ans h1 t true (by refine iff_tf ?_; dsimp only; exact E4.out) _) ?_; rintro e w' ⟨rfl, yy, rfl⟩) | (go_at_call 166; with_reducible refine Calls.mono (orderIsKept_ans h1 t false (by refine iff_tf ?_; dsimp only; exact E5.out) _) ?_; rintro e w' ⟨rfl, yy, rfl⟩))
              go_ret
              exact fin_false HP (fun q => E5.out ((isSys_parts s).1 q).2.2.2.2.2.1) (hback yy)
          · have E4 := Lib.hid e4
            clear e4
            go_wp2_with (first | (go_at_call 161; with_reducible refine Calls.mono (hasTables_ans h1 true (by refine iff_tf ?_; dsimp only; exact E0.out) _) ?_; rintro e w' ⟨rfl, yy, rfl⟩) | (go_at_call 162; with_reducible refine Calls.mono (sumsHold_ans h1 t true (by refine iff_tf ?_; dsimp only; exact E1.out) _) ?_; rintro e w' ⟨rfl, yy, rfl⟩) | (go_at_call 163; with_reducible refine Calls.mono (productsHold_ans h1 t true (by refine iff_tf ?_; dsimp only; exact E2.out) _) ?_; rintro e w' ⟨rfl, yy, rfl⟩) | (go_at_call 164; with_reducible refine Calls.mono (sumsAndProductsHold_ans h1 t true (by refine iff_tf ?_; dsimp only; exact E3.out) _) ?_; rintro e w' ⟨rfl, yy, rfl⟩) | (go_at_call 165; with_reducible refine Calls.mono (orderHolds_ans h1 t false (by refine iff_tf ?_; dsimp only; exact E4.out) _) ?_; rintro e w' ⟨rfl, yy, rfl⟩))
            go_ret
            exact fin_false HP (fun q => E4.out ((isSys_parts s).1 q).2.2.2.2.1) (hback yy)
        · have E3 := Lib.hid e3
          clear e3
          go_wp2_with (first | (go_at_call 161; with_reducible refine Calls.mono (hasTables_ans h1 true (by refine iff_tf ?_; dsimp only; exact E0.out) _) ?_; rintro e w' ⟨rfl, yy, rfl⟩) | (go_at_call 162; with_reducible refine Calls.mono (sumsHold_ans h1 t true (by refine iff_tf ?_; dsimp only; exact E1.out) _) ?_; rintro e w' ⟨rfl, yy, rfl⟩) | (go_at_call 163; with_reducible refine Calls.mono (productsHold_ans h1 t true (by refine iff_tf ?_; dsimp only; exact E2.out) _) ?_; rintro e w' ⟨rfl, yy, rfl⟩) | (go_at_call 164; with_reducible refine Calls.mono (sumsAndProductsHold_ans h1 t false (by refine iff_tf ?_; dsimp only; exact E3.out) _) ?_; rintro e w' ⟨rfl, yy, rfl⟩))
          go_ret
          exact fin_false HP (fun q => E3.out ((isSys_parts s).1 q).2.2.2.1) (hback yy)
      · have E2 := Lib.hid e2
        clear e2
        go_wp2_with (first | (go_at_call 161; with_reducible refine Calls.mono (hasTables_ans h1 true (by refine iff_tf ?_; dsimp only; exact E0.out) _) ?_; rintro e w' ⟨rfl, yy, rfl⟩) | (go_at_call 162; with_reducible refine Calls.mono (sumsHold_ans h1 t true (by refine iff_tf ?_; dsimp only; exact E1.out) _) ?_; rintro e w' ⟨rfl, yy, rfl⟩) | (go_at_call 163; with_reducible refine Calls.mono (productsHold_ans h1 t false (by refine iff_tf ?_; dsimp only; exact E2.out) _) ?_; rintro e w' ⟨rfl, yy, rfl⟩))
        go_ret
        exact fin_false HP (fun q => E2.out ((isSys_parts s).1 q).2.2.1) (hback yy)
    · have E1 := Lib.hid e1
      clear e1
      go_wp2_with (first | (go_at_call 161; with_reducible refine Calls.mono (hasTables_ans h1 true (by refine iff_tf ?_; dsimp only; exact E0.out) _) ?_; rintro e w' ⟨rfl, yy, rfl⟩) | (go_at_call 162; with_reducible refine Calls.mono (sumsHold_ans h1 t false (by refine iff_tf ?_; dsimp only; exact E1.out) _) ?_; rintro e w' ⟨rfl, yy, rfl⟩))
      go_ret
      exact fin_false HP (fun q => E1.out ((isSys_parts s).1 q).2.1) (hback yy)
  · have E0 := Lib.hid e0
    clear e0
    go_wp2_with ((go_at_call 161; with_reducible refine Calls.mono (hasTables_ans h1 false (by refine iff_tf ?_; dsimp only; exact E0.out) _) ?_; rintro e w' ⟨rfl, yy, rfl⟩))
    go_ret
    exact fin_false HP (fun q => E0.out ((isSys_parts s).1 q).1) (hback yy)

end Go.Proofs.YtoefeijnnnioeaaDoor

/- The model's checks of two and three grades. -/
namespace Go.Proofs.YtoefeijnnnioeaaDoor
open Go.RowKit

set_option maxHeartbeats 4000000 in
theorem l1Two_ans {W : World} {r : Ref} {s : Sys} (h : SysIn W r s) (t : Tables s) {a b : Int} (hGa : G s a) (hGb : G s b) (p : Bool) (hp : p = true ↔ Two s a b) (x : Ext W) :
    Calls Tryd.prog 158 #[r.val s, .int .i64 a, .int .i64 b] x.w (Ans W (.bool p)) := by
  have HP := Lib.hid hp
  clear hp
  have h2 := t.lo
  have h16 := t.hi
  unfold Ref.val
  go_enter Tryd.func158, Tryd.ntmps158
  go_wp2_with fail
  generalize hW : x.w.alloc _ = W1
  generalize hB : x.w.heap.size = B
  obtain ⟨c0, c1, c2, c3, h1, hback, yy, hy0⟩ := boxed h x hB hW
  clear hW hB
  rw [← hy0]
  clear hy0
  by_cases ea : s.add a b = s.add b a
  · have fa : (s.add a b == s.add b a) = true := by simpa using ea
    have Ea := Lib.hid ea
    clear ea
    by_cases ey : a = b ∨ s.le a b = false ∨ s.le b a = false
    · have Ey := Lib.hid ey
      have fy : (a == b) = true ∨ ((a == b) = false ∧ s.le a b = false) ∨ ((a == b) = false ∧ s.le a b = true ∧ s.le b a = false) := by
        by_cases e : a = b
        · exact .inl (by simpa using e)
        · refine .inr ?_
          have e' : (a == b) = false := by simpa using e
          cases h1 : s.le a b
          · exact .inl ⟨e', rfl⟩
          · rcases ey with h | h | h
            · exact absurd h e
            · rw [h1] at h; cases h
            · exact .inr ⟨e', rfl, h⟩
      clear ey
      rcases fy with fy1 | ⟨fy1, fy2⟩ | ⟨fy1, fy2, fy3⟩
      · skip
        by_cases ez : 0 ≤ s.join a b
        · have fz : decide (0 ≤ s.join a b) = true := by simpa using ez
          have Ez := Lib.hid ez
          clear ez
          refine region_ext yy (by kernel_rfl) (by kernel_rfl) ?_
          repeat (go_big_quiet_step (first | (go_at_call 174; with_reducible exact l1Add_ans h1 t (by assumption) (by assumption) _) | (go_at_call 176; with_reducible exact l1Le_is h1 t (by assumption) (by assumption) (by assumption) _) | (go_at_call 177; with_reducible exact l1Join_ans h1 t (by assumption) (by assumption) _)))
          refine wpQuiet_nil ?_
          rintro _ ⟨yy, rfl⟩
          go_wp2_with fail
          clear fz
          go_ret
          exact fin_true HP (⟨Ea.out, Ey.out, Ez.out⟩) (hback yy)
        · have fz : decide (0 ≤ s.join a b) = false := by simpa using ez
          have Ez := Lib.hid ez
          clear ez
          refine region_ext yy (by kernel_rfl) (by kernel_rfl) ?_
          repeat (go_big_quiet_step (first | (go_at_call 174; with_reducible exact l1Add_ans h1 t (by assumption) (by assumption) _) | (go_at_call 176; with_reducible exact l1Le_is h1 t (by assumption) (by assumption) (by assumption) _) | (go_at_call 177; with_reducible exact l1Join_ans h1 t (by assumption) (by assumption) _)))
          refine wpQuiet_nil ?_
          rintro _ ⟨yy, rfl⟩
          go_wp2_with fail
          go_ret
          exact fin_false HP (fun q => absurd q.join (by have := Ez.out; omega)) (hback yy)
      · skip
        by_cases ez : 0 ≤ s.join a b
        · have fz : decide (0 ≤ s.join a b) = true := by simpa using ez
          have Ez := Lib.hid ez
          clear ez
          refine region_ext yy (by kernel_rfl) (by kernel_rfl) ?_
          repeat (go_big_quiet_step (first | (go_at_call 174; with_reducible exact l1Add_ans h1 t (by assumption) (by assumption) _) | (go_at_call 176; with_reducible exact l1Le_is h1 t (by assumption) (by assumption) (by assumption) _) | (go_at_call 177; with_reducible exact l1Join_ans h1 t (by assumption) (by assumption) _)))
          refine wpQuiet_nil ?_
          rintro _ ⟨yy, rfl⟩
          go_wp2_with fail
          clear fz
          go_ret
          exact fin_true HP (⟨Ea.out, Ey.out, Ez.out⟩) (hback yy)
        · have fz : decide (0 ≤ s.join a b) = false := by simpa using ez
          have Ez := Lib.hid ez
          clear ez
          refine region_ext yy (by kernel_rfl) (by kernel_rfl) ?_
          repeat (go_big_quiet_step (first | (go_at_call 174; with_reducible exact l1Add_ans h1 t (by assumption) (by assumption) _) | (go_at_call 176; with_reducible exact l1Le_is h1 t (by assumption) (by assumption) (by assumption) _) | (go_at_call 177; with_reducible exact l1Join_ans h1 t (by assumption) (by assumption) _)))
          refine wpQuiet_nil ?_
          rintro _ ⟨yy, rfl⟩
          go_wp2_with fail
          go_ret
          exact fin_false HP (fun q => absurd q.join (by have := Ez.out; omega)) (hback yy)
      · skip
        by_cases ez : 0 ≤ s.join a b
        · have fz : decide (0 ≤ s.join a b) = true := by simpa using ez
          have Ez := Lib.hid ez
          clear ez
          refine region_ext yy (by kernel_rfl) (by kernel_rfl) ?_
          repeat (go_big_quiet_step (first | (go_at_call 174; with_reducible exact l1Add_ans h1 t (by assumption) (by assumption) _) | (go_at_call 176; with_reducible exact l1Le_is h1 t (by assumption) (by assumption) (by assumption) _) | (go_at_call 177; with_reducible exact l1Join_ans h1 t (by assumption) (by assumption) _)))
          refine wpQuiet_nil ?_
          rintro _ ⟨yy, rfl⟩
          go_wp2_with fail
          clear fz
          go_ret
          exact fin_true HP (⟨Ea.out, Ey.out, Ez.out⟩) (hback yy)
        · have fz : decide (0 ≤ s.join a b) = false := by simpa using ez
          have Ez := Lib.hid ez
          clear ez
          refine region_ext yy (by kernel_rfl) (by kernel_rfl) ?_
          repeat (go_big_quiet_step (first | (go_at_call 174; with_reducible exact l1Add_ans h1 t (by assumption) (by assumption) _) | (go_at_call 176; with_reducible exact l1Le_is h1 t (by assumption) (by assumption) (by assumption) _) | (go_at_call 177; with_reducible exact l1Join_ans h1 t (by assumption) (by assumption) _)))
          refine wpQuiet_nil ?_
          rintro _ ⟨yy, rfl⟩
          go_wp2_with fail
          go_ret
          exact fin_false HP (fun q => absurd q.join (by have := Ez.out; omega)) (hback yy)
    · have fy1 : (a == b) = false := by simp only [not_or] at ey; simpa using ey.1
      have fy2 : s.le a b = true := by simp only [not_or, Bool.not_eq_false] at ey; exact ey.2.1
      have fy3 : s.le b a = true := by simp only [not_or, Bool.not_eq_false] at ey; exact ey.2.2
      have Ey := Lib.hid ey
      clear ey
      refine region_ext yy (by kernel_rfl) (by kernel_rfl) ?_
      repeat (go_big_quiet_step (first | (go_at_call 174; with_reducible exact l1Add_ans h1 t (by assumption) (by assumption) _) | (go_at_call 176; with_reducible exact l1Le_is h1 t (by assumption) (by assumption) (by assumption) _) | (go_at_call 177; with_reducible exact l1Join_ans h1 t (by assumption) (by assumption) _)))
      refine wpQuiet_nil ?_
      rintro _ ⟨yy, rfl⟩
      go_wp2_with fail
      go_ret
      exact fin_false HP (fun q => Ey.out q.anti) (hback yy)
  · have fa : (s.add a b == s.add b a) = false := by simpa using ea
    have Ea := Lib.hid ea
    clear ea
    refine region_ext yy (by kernel_rfl) (by kernel_rfl) ?_
    repeat (go_big_quiet_step (first | (go_at_call 174; with_reducible exact l1Add_ans h1 t (by assumption) (by assumption) _) | (go_at_call 176; with_reducible exact l1Le_is h1 t (by assumption) (by assumption) (by assumption) _) | (go_at_call 177; with_reducible exact l1Join_ans h1 t (by assumption) (by assumption) _)))
    refine wpQuiet_nil ?_
    rintro _ ⟨yy, rfl⟩
    go_wp2_with fail
    go_ret
    exact fin_false HP (fun q => Ea.out q.comm) (hback yy)

set_option maxHeartbeats 8000000 in
theorem l1Three_ans {W : World} {r : Ref} {s : Sys} (h : SysIn W r s) (t : Tables s) {a b c : Int} (hGa : G s a) (hGb : G s b) (hGc : G s c) (p : Bool) (hp : p = true ↔ Three s a b c) (x : Ext W) :
    Calls Tryd.prog 159 #[r.val s, .int .i64 a, .int .i64 b, .int .i64 c] x.w (Ans W (.bool p)) := by
  have HP := Lib.hid hp
  clear hp
  have h2 := t.lo
  have h16 := t.hi
  unfold Ref.val
  go_enter Tryd.func159, Tryd.ntmps159
  go_wp2_with fail
  generalize hW : x.w.alloc _ = W1
  generalize hB : x.w.heap.size = B
  obtain ⟨c0, c1, c2, c3, h1, hback, yy, hy0⟩ := boxed h x hB hW
  clear hW hB
  rw [← hy0]
  clear hy0
  have g0 := t.addG hGa hGb
  have g1 := t.addG hGb hGc
  have g2 := t.mulG hGa hGb
  have g3 := t.mulG hGb hGc
  have g4 := t.mulG hGa hGc
  have g5 := t.addG hGa hGc
  have g6 := t.mulG hGc hGa
  have g7 := t.mulG hGc hGb
  by_cases ea : s.add (s.add a b) c = s.add a (s.add b c)
  · have fa : (s.add (s.add a b) c != s.add a (s.add b c)) = false := by simpa using ea
    have Ea := Lib.hid ea
    clear ea
    by_cases eb : s.mul (s.mul a b) c = s.mul a (s.mul b c)
    · have fb : (s.mul (s.mul a b) c != s.mul a (s.mul b c)) = false := by simpa using eb
      have Eb := Lib.hid eb
      clear eb
      refine region_ext yy (by kernel_rfl) (by kernel_rfl) ?_
      repeat (go_big_quiet_step (first | (go_at_call 174; with_reducible exact l1Add_ans h1 t (by assumption) (by assumption) _) | (go_at_call 175; with_reducible exact l1Mul_ans h1 t (by assumption) (by assumption) _)))
      refine wpQuiet_nil ?_
      rintro _ ⟨yy, rfl⟩
      go_wp2_with fail
      clear fa fb
      by_cases ec : s.mul a (s.add b c) = s.add (s.mul a b) (s.mul a c)
      · have fc : (s.mul a (s.add b c) != s.add (s.mul a b) (s.mul a c)) = false := by simpa using ec
        have Ec := Lib.hid ec
        clear ec
        by_cases ed : s.mul (s.add a b) c = s.add (s.mul a c) (s.mul b c)
        · have fd : (s.mul (s.add a b) c != s.add (s.mul a c) (s.mul b c)) = false := by simpa using ed
          have Ed := Lib.hid ed
          clear ed
          refine region_ext yy (by kernel_rfl) (by kernel_rfl) ?_
          repeat (go_big_quiet_step (first | (go_at_call 174; with_reducible exact l1Add_ans h1 t (by assumption) (by assumption) _) | (go_at_call 175; with_reducible exact l1Mul_ans h1 t (by assumption) (by assumption) _)))
          refine wpQuiet_nil ?_
          rintro _ ⟨yy, rfl⟩
          go_wp2_with fail
          clear fc fd
          cases hle : s.le a b
          · have HL := Lib.hid hle
            go_wp2_with ((go_at_call 176; with_reducible refine Calls.mono (l1Le_is h1 t (by assumption) (by assumption) (by assumption) _) ?_; rintro e w' ⟨rfl, yy, rfl⟩))
            go_ret
            exact fin_true HP (⟨Ea.out, Eb.out, Ec.out, Ed.out, fun u => (by rw [HL.out] at u; cases u), fun u => (by rw [HL.out] at u; cases u), fun u => (by rw [HL.out] at u; cases u), fun u => (by rw [HL.out] at u; cases u)⟩) (hback yy)
          · have HL := Lib.hid hle
            cases hbc : s.le b c
            · have HB := Lib.hid hbc
              go_wp2_with ((go_at_call 176; with_reducible refine Calls.mono (l1Le_is h1 t (by assumption) (by assumption) (by assumption) _) ?_; rintro e w' ⟨rfl, yy, rfl⟩))
              by_cases eh : s.le (s.add a c) (s.add b c) = true
              · have fh : s.le (s.add a c) (s.add b c) = true := by simpa using eh
                have Eh := Lib.hid eh
                clear eh
                by_cases ei : s.le (s.mul a c) (s.mul b c) = true
                · have fi : s.le (s.mul a c) (s.mul b c) = true := by simpa using ei
                  have Ei := Lib.hid ei
                  clear ei
                  by_cases ej : s.le (s.mul c a) (s.mul c b) = true
                  · have fj : s.le (s.mul c a) (s.mul c b) = true := by simpa using ej
                    have Ej := Lib.hid ej
                    clear ej
                    refine region_ext yy (by kernel_rfl) (by kernel_rfl) ?_
                    repeat (go_big_quiet_step (first | (go_at_call 174; with_reducible exact l1Add_ans h1 t (by assumption) (by assumption) _) | (go_at_call 175; with_reducible exact l1Mul_ans h1 t (by assumption) (by assumption) _) | (go_at_call 176; with_reducible exact l1Le_is h1 t (by assumption) (by assumption) (by assumption) _)))
                    refine wpQuiet_nil ?_
                    rintro _ ⟨yy, rfl⟩
                    go_wp2_with fail
                    clear fh fi fj
                    go_ret
                    exact fin_true HP (⟨Ea.out, Eb.out, Ec.out, Ed.out, fun _ u => (by rw [HB.out] at u; cases u), fun _ => Eh.out, fun _ => Ei.out, fun _ => Ej.out⟩) (hback yy)
                  · have fj : s.le (s.mul c a) (s.mul c b) = false := by simpa using ej
                    have Ej := Lib.hid ej
                    clear ej
                    refine region_ext yy (by kernel_rfl) (by kernel_rfl) ?_
                    repeat (go_big_quiet_step (first | (go_at_call 174; with_reducible exact l1Add_ans h1 t (by assumption) (by assumption) _) | (go_at_call 175; with_reducible exact l1Mul_ans h1 t (by assumption) (by assumption) _) | (go_at_call 176; with_reducible exact l1Le_is h1 t (by assumption) (by assumption) (by assumption) _)))
                    refine wpQuiet_nil ?_
                    rintro _ ⟨yy, rfl⟩
                    go_wp2_with fail
                    go_ret
                    exact fin_false HP (fun q => Ej.out (q.k2 HL.out)) (hback yy)
                · have fi : s.le (s.mul a c) (s.mul b c) = false := by simpa using ei
                  have Ei := Lib.hid ei
                  clear ei
                  refine region_ext yy (by kernel_rfl) (by kernel_rfl) ?_
                  repeat (go_big_quiet_step (first | (go_at_call 174; with_reducible exact l1Add_ans h1 t (by assumption) (by assumption) _) | (go_at_call 175; with_reducible exact l1Mul_ans h1 t (by assumption) (by assumption) _) | (go_at_call 176; with_reducible exact l1Le_is h1 t (by assumption) (by assumption) (by assumption) _)))
                  refine wpQuiet_nil ?_
                  rintro _ ⟨yy, rfl⟩
                  go_wp2_with fail
                  go_ret
                  exact fin_false HP (fun q => Ei.out (q.k1 HL.out)) (hback yy)
              · have fh : s.le (s.add a c) (s.add b c) = false := by simpa using eh
                have Eh := Lib.hid eh
                clear eh
                refine region_ext yy (by kernel_rfl) (by kernel_rfl) ?_
                repeat (go_big_quiet_step (first | (go_at_call 174; with_reducible exact l1Add_ans h1 t (by assumption) (by assumption) _) | (go_at_call 175; with_reducible exact l1Mul_ans h1 t (by assumption) (by assumption) _) | (go_at_call 176; with_reducible exact l1Le_is h1 t (by assumption) (by assumption) (by assumption) _)))
                refine wpQuiet_nil ?_
                rintro _ ⟨yy, rfl⟩
                go_wp2_with fail
                go_ret
                exact fin_false HP (fun q => Eh.out (q.ka HL.out)) (hback yy)
            · have HB := Lib.hid hbc
              by_cases eg : s.le a c = true
              · have fg : s.le a c = true := by simpa using eg
                have Eg := Lib.hid eg
                clear eg
                go_wp2_with ((go_at_call 176; with_reducible refine Calls.mono (l1Le_is h1 t (by assumption) (by assumption) (by assumption) _) ?_; rintro e w' ⟨rfl, yy, rfl⟩))
                clear fg
                by_cases eh : s.le (s.add a c) (s.add b c) = true
                · have fh : s.le (s.add a c) (s.add b c) = true := by simpa using eh
                  have Eh := Lib.hid eh
                  clear eh
                  by_cases ei : s.le (s.mul a c) (s.mul b c) = true
                  · have fi : s.le (s.mul a c) (s.mul b c) = true := by simpa using ei
                    have Ei := Lib.hid ei
                    clear ei
                    by_cases ej : s.le (s.mul c a) (s.mul c b) = true
                    · have fj : s.le (s.mul c a) (s.mul c b) = true := by simpa using ej
                      have Ej := Lib.hid ej
                      clear ej
                      refine region_ext yy (by kernel_rfl) (by kernel_rfl) ?_
                      repeat (go_big_quiet_step (first | (go_at_call 174; with_reducible exact l1Add_ans h1 t (by assumption) (by assumption) _) | (go_at_call 175; with_reducible exact l1Mul_ans h1 t (by assumption) (by assumption) _) | (go_at_call 176; with_reducible exact l1Le_is h1 t (by assumption) (by assumption) (by assumption) _)))
                      refine wpQuiet_nil ?_
                      rintro _ ⟨yy, rfl⟩
                      go_wp2_with fail
                      clear fh fi fj
                      go_ret
                      exact fin_true HP (⟨Ea.out, Eb.out, Ec.out, Ed.out, fun _ _ => Eg.out, fun _ => Eh.out, fun _ => Ei.out, fun _ => Ej.out⟩) (hback yy)
                    · have fj : s.le (s.mul c a) (s.mul c b) = false := by simpa using ej
                      have Ej := Lib.hid ej
                      clear ej
                      refine region_ext yy (by kernel_rfl) (by kernel_rfl) ?_
                      repeat (go_big_quiet_step (first | (go_at_call 174; with_reducible exact l1Add_ans h1 t (by assumption) (by assumption) _) | (go_at_call 175; with_reducible exact l1Mul_ans h1 t (by assumption) (by assumption) _) | (go_at_call 176; with_reducible exact l1Le_is h1 t (by assumption) (by assumption) (by assumption) _)))
                      refine wpQuiet_nil ?_
                      rintro _ ⟨yy, rfl⟩
                      go_wp2_with fail
                      go_ret
                      exact fin_false HP (fun q => Ej.out (q.k2 HL.out)) (hback yy)
                  · have fi : s.le (s.mul a c) (s.mul b c) = false := by simpa using ei
                    have Ei := Lib.hid ei
                    clear ei
                    refine region_ext yy (by kernel_rfl) (by kernel_rfl) ?_
                    repeat (go_big_quiet_step (first | (go_at_call 174; with_reducible exact l1Add_ans h1 t (by assumption) (by assumption) _) | (go_at_call 175; with_reducible exact l1Mul_ans h1 t (by assumption) (by assumption) _) | (go_at_call 176; with_reducible exact l1Le_is h1 t (by assumption) (by assumption) (by assumption) _)))
                    refine wpQuiet_nil ?_
                    rintro _ ⟨yy, rfl⟩
                    go_wp2_with fail
                    go_ret
                    exact fin_false HP (fun q => Ei.out (q.k1 HL.out)) (hback yy)
                · have fh : s.le (s.add a c) (s.add b c) = false := by simpa using eh
                  have Eh := Lib.hid eh
                  clear eh
                  refine region_ext yy (by kernel_rfl) (by kernel_rfl) ?_
                  repeat (go_big_quiet_step (first | (go_at_call 174; with_reducible exact l1Add_ans h1 t (by assumption) (by assumption) _) | (go_at_call 175; with_reducible exact l1Mul_ans h1 t (by assumption) (by assumption) _) | (go_at_call 176; with_reducible exact l1Le_is h1 t (by assumption) (by assumption) (by assumption) _)))
                  refine wpQuiet_nil ?_
                  rintro _ ⟨yy, rfl⟩
                  go_wp2_with fail
                  go_ret
                  exact fin_false HP (fun q => Eh.out (q.ka HL.out)) (hback yy)
              · have fg : s.le a c = false := by simpa using eg
                have Eg := Lib.hid eg
                clear eg
                go_wp2_with ((go_at_call 176; with_reducible refine Calls.mono (l1Le_is h1 t (by assumption) (by assumption) (by assumption) _) ?_; rintro e w' ⟨rfl, yy, rfl⟩))
                go_ret
                exact fin_false HP (fun q => Eg.out (q.tr HL.out HB.out)) (hback yy)
        · have fd : (s.mul (s.add a b) c != s.add (s.mul a c) (s.mul b c)) = true := by simpa using ed
          have Ed := Lib.hid ed
          clear ed
          refine region_ext yy (by kernel_rfl) (by kernel_rfl) ?_
          repeat (go_big_quiet_step (first | (go_at_call 174; with_reducible exact l1Add_ans h1 t (by assumption) (by assumption) _) | (go_at_call 175; with_reducible exact l1Mul_ans h1 t (by assumption) (by assumption) _)))
          refine wpQuiet_nil ?_
          rintro _ ⟨yy, rfl⟩
          go_wp2_with fail
          go_ret
          exact fin_false HP (fun q => Ed.out (q.dr)) (hback yy)
      · have fc : (s.mul a (s.add b c) != s.add (s.mul a b) (s.mul a c)) = true := by simpa using ec
        have Ec := Lib.hid ec
        clear ec
        refine region_ext yy (by kernel_rfl) (by kernel_rfl) ?_
        repeat (go_big_quiet_step (first | (go_at_call 174; with_reducible exact l1Add_ans h1 t (by assumption) (by assumption) _) | (go_at_call 175; with_reducible exact l1Mul_ans h1 t (by assumption) (by assumption) _)))
        refine wpQuiet_nil ?_
        rintro _ ⟨yy, rfl⟩
        go_wp2_with fail
        go_ret
        exact fin_false HP (fun q => Ec.out (q.dl)) (hback yy)
    · have fb : (s.mul (s.mul a b) c != s.mul a (s.mul b c)) = true := by simpa using eb
      have Eb := Lib.hid eb
      clear eb
      refine region_ext yy (by kernel_rfl) (by kernel_rfl) ?_
      repeat (go_big_quiet_step (first | (go_at_call 174; with_reducible exact l1Add_ans h1 t (by assumption) (by assumption) _) | (go_at_call 175; with_reducible exact l1Mul_ans h1 t (by assumption) (by assumption) _)))
      refine wpQuiet_nil ?_
      rintro _ ⟨yy, rfl⟩
      go_wp2_with fail
      go_ret
      exact fin_false HP (fun q => Eb.out (q.mm)) (hback yy)
  · have fa : (s.add (s.add a b) c != s.add a (s.add b c)) = true := by simpa using ea
    have Ea := Lib.hid ea
    clear ea
    refine region_ext yy (by kernel_rfl) (by kernel_rfl) ?_
    repeat (go_big_quiet_step (first | (go_at_call 174; with_reducible exact l1Add_ans h1 t (by assumption) (by assumption) _) | (go_at_call 175; with_reducible exact l1Mul_ans h1 t (by assumption) (by assumption) _)))
    refine wpQuiet_nil ?_
    rintro _ ⟨yy, rfl⟩
    go_wp2_with fail
    go_ret
    exact fin_false HP (fun q => Ea.out (q.aa)) (hback yy)

end Go.Proofs.YtoefeijnnnioeaaDoor

/- The model's test of a system. -/
namespace Go.Proofs.YtoefeijnnnioeaaDoor
open Go.RowKit

/-- What 'l1In' is asked, and its answer. -/
def InB (g lo hi : Int) (v : Bool) : Prop := v = true ↔ lo ≤ g ∧ g ≤ hi
def In0 (n g : Int) : Prop := 0 ≤ g ∧ g < n
theorem l1In_is {W : World} {g lo hi : Int} {p : Bool} (hp : InB g lo hi p) (x : Ext W) :
    Calls Tryd.prog 97 #[.int .i64 g, .int .i64 lo, .int .i64 hi] x.w (Ans W (.bool p)) := l1In_ans g lo hi p hp x

set_option maxHeartbeats 4000000 in
theorem l1Tables_ans {W : World} {r : Ref} {s : Sys} (h : SysIn W r s) (p : Bool) (hp : p = true ↔ Tables s) (x : Ext W) :
    Calls Tryd.prog 156 #[r.val s] x.w (Ans W (.bool p)) := by
  have HP := Lib.hid hp
  clear hp
  unfold Ref.val
  by_cases e1 : 2 ≤ s.n ∧ s.n ≤ 16
  · obtain ⟨h2, h16⟩ := e1
    obtain ⟨n0, n1⟩ := nn_facts h2 h16
    by_cases ea : (s.plus.length : Int) = s.n * s.n
    · have fa : ((s.plus.length : Int) != s.n * s.n) = false := by simpa using ea
      by_cases eb : (s.times.length : Int) = s.n * s.n
      · have fb : ((s.times.length : Int) != s.n * s.n) = false := by simpa using eb
        by_cases ec : (s.below.length : Int) = s.n * s.n
        · have fc : ((s.below.length : Int) != s.n * s.n) = false := by simpa using ec
          have hlen : s.times.length = s.plus.length := by omega
          have hmax : s.plus.length ≤ 256 := by omega
          have Ea := Lib.hid ea
          have Eb := Lib.hid eb
          have Ec := Lib.hid ec
          have HL := Lib.hid hlen
          have hl1 : s.times.length ≤ s.plus.length := by omega
          have hl2 : s.plus.length ≤ s.times.length := by omega
          clear ea eb ec hlen
          go_enter Tryd.func156, Tryd.ntmps156
          go_wp2_with fail
          generalize hW : x.w.alloc _ = W1
          generalize hB : x.w.heap.size = B
          obtain ⟨c0, c1, c2, c3, h1, hback, yy, hy0⟩ := boxed h x hB hW
          clear hW hB
          rw [← hy0]
          clear hy0
          (with_reducible refine Calls.mono (l1In_ans s.n 2 16 true (by refine iff_tf ?_; dsimp only; omega) _) ?_)
          rintro e w' ⟨rfl, yy, rfl⟩
          go_wp2_with fail
          clear fa fb fc
          go_loopw [3] (fun i wr => ∃ k : Nat, i = .int .i64 k ∧ k ≤ s.plus.length ∧ (∃ y : Ext W1, wr = y.w) ∧ Hid (∀ j, j < k → In0 s.n (s.plus.getD j 0) ∧ In0 s.n (s.times.getD j 0))) (fun i _ => s.plus.length - (intOf i).toNat)
          case atStart => exact ⟨0, rfl, by omega, ⟨yy, rfl⟩, fun j hj => by omega⟩
          case round =>
            obtain ⟨k, rfl, hk, ⟨yy, rfl⟩, hU⟩ := hrel
            by_cases hlt : k < s.plus.length
            · have hltt : k < s.times.length := by omega
              have hlt' : (k : Int) < (s.plus.length : Int) := by omega
              have hltt' : (k : Int) < (s.times.length : Int) := by omega
              obtain ⟨bp, op, hpa, hc⟩ := h1.plus.at hlt
              obtain ⟨bt, ot, hta, hd⟩ := h1.times.at hltt
              have hcell : ∀ y : Ext W1, y.w.cell? ⟨bp, op + k, none⟩ = some (.int .i64 (s.plus.getD k 0)) := fun y => y.cell (hc k _ (by rw [List.getD_eq_getElem?_getD, List.getElem?_eq_getElem hlt]; rfl))
              have hcellt : ∀ y : Ext W1, y.w.cell? ⟨bt, ot + k, none⟩ = some (.int .i64 (s.times.getD k 0)) := fun y => y.cell (hd k _ (by rw [List.getD_eq_getElem?_getD, List.getElem?_eq_getElem hltt]; rfl))
              rw [hpa] at c1
              rw [hta] at c2
              clear hc hd hpa hta
              obtain ⟨g, hg⟩ : ∃ g, g = s.plus.getD k 0 := ⟨_, rfl⟩
              obtain ⟨g', hg'⟩ : ∃ g', g' = s.times.getD k 0 := ⟨_, rfl⟩
              rw [← hg] at hcell
              rw [← hg'] at hcellt
              have HG := Lib.hid hg
              have HG' := Lib.hid hg'
              clear hg hg'
              have hw : IntKind.i64.wrap (s.n - 1) = s.n - 1 := IntWalk.i64_in _ (by omega)
              by_cases e1 : 0 ≤ g ∧ g ≤ s.n - 1
              · have E1 : InB g 0 (s.n - 1) true := by unfold InB; simpa using e1
                by_cases e2 : 0 ≤ g' ∧ g' ≤ s.n - 1
                · have E2 : InB g' 0 (s.n - 1) true := by unfold InB; simpa using e2
                  have X1 := Lib.hid e1
                  have X2 := Lib.hid e2
                  clear e1 e2
                  go_wp2_with fail
                  refine region_ext yy (by kernel_rfl) (by kernel_rfl) ?_
                  repeat (go_big_quiet_step ((go_at_call 97; with_reducible exact l1In_is (by assumption) _)))
                  refine wpQuiet_nil ?_
                  rintro _ ⟨yy, rfl⟩
                  go_wp2_with fail
                  go_roundw
                  case rel =>
                    refine ⟨k + 1, by go_num, by omega, ⟨yy, rfl⟩, fun j hj => ?_⟩
                    by_cases e : j = k
                    · subst e
                      rw [← HG.out, ← HG'.out]
                      exact ⟨⟨X1.out.1, by have := X1.out.2; omega⟩, ⟨X2.out.1, by have := X2.out.2; omega⟩⟩
                    · exact hU.out j (by omega)
                  case measure => simp [intOf]; omega
                · have E2 : InB g' 0 (s.n - 1) false := by unfold InB; simp only [Bool.false_eq_true, false_iff]; exact e2
                  have X1 := Lib.hid e1
                  have X2 := Lib.hid e2
                  clear e1 e2
                  go_wp2_with fail
                  refine region_ext yy (by kernel_rfl) (by kernel_rfl) ?_
                  repeat (go_big_quiet_step ((go_at_call 97; with_reducible exact l1In_is (by assumption) _)))
                  refine wpQuiet_nil ?_
                  rintro _ ⟨yy, rfl⟩
                  go_wp2_with fail
                  go_ret
                  refine fin_false HP (fun q => X2.out ?_) (hback yy)
                  have := q.rt g' (by rw [HG'.out, List.getD_eq_getElem?_getD, List.getElem?_eq_getElem hltt]; exact List.getElem_mem hltt)
                  omega
              · have E1 : InB g 0 (s.n - 1) false := by unfold InB; simp only [Bool.false_eq_true, false_iff]; exact e1
                have X1 := Lib.hid e1
                clear e1
                go_wp2_with fail
                refine region_ext yy (by kernel_rfl) (by kernel_rfl) ?_
                repeat (go_big_quiet_step ((go_at_call 97; with_reducible exact l1In_is (by assumption) _)))
                refine wpQuiet_nil ?_
                rintro _ ⟨yy, rfl⟩
                go_wp2_with fail
                go_ret
                refine fin_false HP (fun q => X1.out ?_) (hback yy)
                have := q.rp g (by rw [HG.out, List.getD_eq_getElem?_getD, List.getElem?_eq_getElem hlt]; exact List.getElem_mem hlt)
                omega
            · go_wp2
              go_ret
              refine fin_true HP ⟨h2, h16, Ea.out, Eb.out, Ec.out, fun g hg => ?_, fun g hg => ?_⟩ (hback yy)
              · obtain ⟨j, hj, e⟩ := List.mem_iff_getElem.1 hg
                have := (hU.out j (by omega)).1
                rw [List.getD_eq_getElem?_getD, List.getElem?_eq_getElem hj] at this
                simp only [Option.getD_some, e] at this
                exact this
              · obtain ⟨j, hj, e⟩ := List.mem_iff_getElem.1 hg
                have := (hU.out j (by omega)).2
                rw [List.getD_eq_getElem?_getD, List.getElem?_eq_getElem hj] at this
                simp only [Option.getD_some, e] at this
                exact this
        · have fc : ((s.below.length : Int) != s.n * s.n) = true := by simpa using ec
          have Ec := Lib.hid ec
          clear ea eb ec
          go_enter Tryd.func156, Tryd.ntmps156
          go_wp2_with fail
          generalize hW : x.w.alloc _ = W1
          generalize hB : x.w.heap.size = B
          obtain ⟨c0, c1, c2, c3, h1, hback, yy, hy0⟩ := boxed h x hB hW
          clear hW hB
          rw [← hy0]
          clear hy0
          (with_reducible refine Calls.mono (l1In_ans s.n 2 16 true (by refine iff_tf ?_; dsimp only; omega) _) ?_)
          rintro e w' ⟨rfl, yy, rfl⟩
          go_wp2_with fail
          go_ret
          exact fin_false HP (fun q => Ec.out q.lb) (hback yy)
      · have fb : ((s.times.length : Int) != s.n * s.n) = true := by simpa using eb
        have Eb := Lib.hid eb
        clear ea eb
        go_enter Tryd.func156, Tryd.ntmps156
        go_wp2_with fail
        generalize hW : x.w.alloc _ = W1
        generalize hB : x.w.heap.size = B
        obtain ⟨c0, c1, c2, c3, h1, hback, yy, hy0⟩ := boxed h x hB hW
        clear hW hB
        rw [← hy0]
        clear hy0
        (with_reducible refine Calls.mono (l1In_ans s.n 2 16 true (by refine iff_tf ?_; dsimp only; omega) _) ?_)
        rintro e w' ⟨rfl, yy, rfl⟩
        go_wp2_with fail
        go_ret
        exact fin_false HP (fun q => Eb.out q.lt) (hback yy)
    · have fa : ((s.plus.length : Int) != s.n * s.n) = true := by simpa using ea
      have Ea := Lib.hid ea
      clear ea
      go_enter Tryd.func156, Tryd.ntmps156
      go_wp2_with fail
      generalize hW : x.w.alloc _ = W1
      generalize hB : x.w.heap.size = B
      obtain ⟨c0, c1, c2, c3, h1, hback, yy, hy0⟩ := boxed h x hB hW
      clear hW hB
      rw [← hy0]
      clear hy0
      (with_reducible refine Calls.mono (l1In_ans s.n 2 16 true (by refine iff_tf ?_; dsimp only; omega) _) ?_)
      rintro e w' ⟨rfl, yy, rfl⟩
      go_wp2_with fail
      go_ret
      exact fin_false HP (fun q => Ea.out q.lp) (hback yy)
  · have E1 := Lib.hid e1
    clear e1
    go_enter Tryd.func156, Tryd.ntmps156
    go_wp2_with fail
    generalize hW : x.w.alloc _ = W1
    generalize hB : x.w.heap.size = B
    obtain ⟨c0, c1, c2, c3, h1, hback, yy, hy0⟩ := boxed h x hB hW
    clear hW hB
    rw [← hy0]
    clear hy0
    (with_reducible refine Calls.mono (l1In_ans s.n 2 16 false (by refine iff_tf ?_; dsimp only; exact E1.out) _) ?_)
    rintro e w' ⟨rfl, yy, rfl⟩
    go_wp2_with fail
    go_ret
    exact fin_false HP (fun q => E1.out ⟨q.lo, q.hi⟩) (hback yy)

set_option maxHeartbeats 8000000 in
theorem specIsSystem_ans {W : World} {r : Ref} {s : Sys} (h : SysIn W r s) (p : Bool) (hp : p = true ↔ IsSys s) (x : Ext W) :
    Calls Tryd.prog 123 #[r.val s] x.w (Ans W (.bool p)) := by
  have HP := Lib.hid hp
  clear hp
  unfold Ref.val
  by_cases et : Tables s
  · have t := et
    have h2 := t.lo
    have h16 := t.hi
    clear et
    go_enter Tryd.func123, Tryd.ntmps123
    go_wp2_with fail
    generalize hW : x.w.alloc _ = W1
    generalize hB : x.w.heap.size = B
    obtain ⟨c0, c1, c2, c3, h1, hback, yy, hy0⟩ := boxed h x hB hW
    clear hW hB
    rw [← hy0]
    clear hy0
    (with_reducible refine Calls.mono (l1Tables_ans h1 true (by simp only [true_iff]; exact t) _) ?_)
    rintro e w' ⟨rfl, yy, rfl⟩
    go_wp2_with fail
    go_loopw [3] (fun i wr => ∃ k : Nat, i = .int .i64 k ∧ (k : Int) ≤ s.n ∧ (∃ y : Ext W1, wr = y.w) ∧ Hid (Upto k (fun a => One s a ∧ ∀ b, G s b → Two s a b ∧ ∀ c, G s c → Three s a b c))) (fun i _ => (s.n - intOf i).toNat)
    case atStart => exact ⟨0, rfl, by omega, ⟨yy, rfl⟩, Upto.zero _⟩
    case round =>
      obtain ⟨k, rfl, hk, ⟨yy, rfl⟩, hUk⟩ := hrel
      by_cases hltk : (k : Int) < s.n
      · have hGk : G s k := ⟨by omega, hltk⟩
        by_cases ea : One s k
        · have Ea := Lib.hid ea
          clear ea
          go_wp2_with (go_at_call 157; with_reducible refine Calls.mono (l1One_ans h1 t hGk true (by refine iff_tf ?_; dsimp only; exact Ea.out) _) ?_; rintro e w' ⟨rfl, yy, rfl⟩)
          go_loopw [4] (fun i wr => ∃ j : Nat, i = .int .i64 j ∧ (j : Int) ≤ s.n ∧ (∃ y : Ext W1, wr = y.w) ∧ Hid (Upto j (fun b => Two s k b ∧ ∀ c, G s c → Three s k b c))) (fun i _ => (s.n - intOf i).toNat)
          case atStart => exact ⟨0, rfl, by omega, ⟨yy, rfl⟩, Upto.zero _⟩
          case round =>
            obtain ⟨j, rfl, hj, ⟨yy, rfl⟩, hUj⟩ := hrel
            by_cases hltj : (j : Int) < s.n
            · have hGj : G s j := ⟨by omega, hltj⟩
              by_cases eb : Two s k j
              · have Eb := Lib.hid eb
                clear eb
                go_wp2_with (go_at_call 158; with_reducible refine Calls.mono (l1Two_ans h1 t hGk hGj true (by refine iff_tf ?_; dsimp only; exact Eb.out) _) ?_; rintro e w' ⟨rfl, yy, rfl⟩)
                go_loopw [5] (fun i wr => ∃ l : Nat, i = .int .i64 l ∧ (l : Int) ≤ s.n ∧ (∃ y : Ext W1, wr = y.w) ∧ Hid (Upto l (fun c => Three s k j c))) (fun i _ => (s.n - intOf i).toNat)
                case atStart => exact ⟨0, rfl, by omega, ⟨yy, rfl⟩, Upto.zero _⟩
                case round =>
                  obtain ⟨l, rfl, hl, ⟨yy, rfl⟩, hUl⟩ := hrel
                  by_cases hltl : (l : Int) < s.n
                  · have hGl : G s l := ⟨by omega, hltl⟩
                    by_cases ec : Three s k j l
                    · have Ec := Lib.hid ec
                      clear ec
                      go_wp2_with (go_at_call 159; with_reducible refine Calls.mono (l1Three_ans h1 t hGk hGj hGl true (by refine iff_tf ?_; dsimp only; exact Ec.out) _) ?_; rintro e w' ⟨rfl, yy, rfl⟩)
                      go_roundw
                      case rel => exact ⟨l + 1, by go_num, by omega, ⟨yy, rfl⟩, hUl.out.succ (Ec.out)⟩
                      case measure => simp [intOf]; omega
                    · have Ec := Lib.hid ec
                      clear ec
                      go_wp2_with (go_at_call 159; with_reducible refine Calls.mono (l1Three_ans h1 t hGk hGj hGl false (by refine iff_tf ?_; dsimp only; exact Ec.out) _) ?_; rintro e w' ⟨rfl, yy, rfl⟩)
                      go_ret
                      exact fin_false HP (fun q => Ec.out (q.three _ _ _ hGk hGj hGl)) (hback yy)
                  · go_wp2
                    go_roundw
                    case rel => exact ⟨j + 1, by go_num, by omega, ⟨yy, rfl⟩, hUj.out.succ (⟨Eb.out, hUl.out.all _ (by omega)⟩)⟩
                    case measure => simp [intOf]; omega
              · have Eb := Lib.hid eb
                clear eb
                go_wp2_with (go_at_call 158; with_reducible refine Calls.mono (l1Two_ans h1 t hGk hGj false (by refine iff_tf ?_; dsimp only; exact Eb.out) _) ?_; rintro e w' ⟨rfl, yy, rfl⟩)
                go_ret
                exact fin_false HP (fun q => Eb.out (q.two _ _ hGk hGj)) (hback yy)
            · go_wp2
              go_roundw
              case rel => exact ⟨k + 1, by go_num, by omega, ⟨yy, rfl⟩, hUk.out.succ (⟨Ea.out, hUj.out.all _ (by omega)⟩)⟩
              case measure => simp [intOf]; omega
        · have Ea := Lib.hid ea
          clear ea
          go_wp2_with (go_at_call 157; with_reducible refine Calls.mono (l1One_ans h1 t hGk false (by refine iff_tf ?_; dsimp only; exact Ea.out) _) ?_; rintro e w' ⟨rfl, yy, rfl⟩)
          go_ret
          exact fin_false HP (fun q => Ea.out (q.one _ hGk)) (hback yy)
      · go_wp2
        go_ret
        exact fin_true HP (⟨t, fun a ha => (hUk.out.all _ (by omega) a ha).1, fun a b ha hb => ((hUk.out.all _ (by omega) a ha).2 b hb).1, fun a b c ha hb hc => ((hUk.out.all _ (by omega) a ha).2 b hb).2 c hc⟩) (hback yy)
  · have Et := Lib.hid et
    clear et
    go_enter Tryd.func123, Tryd.ntmps123
    go_wp2_with fail
    generalize hW : x.w.alloc _ = W1
    generalize hB : x.w.heap.size = B
    obtain ⟨c0, c1, c2, c3, h1, hback, yy, hy0⟩ := boxed h x hB hW
    clear hW hB
    rw [← hy0]
    clear hy0
    (with_reducible refine Calls.mono (l1Tables_ans h1 false (by simp only [Bool.false_eq_true, false_iff]; exact Et.out) _) ?_)
    rintro e w' ⟨rfl, yy, rfl⟩
    go_wp2_with fail
    go_ret
    exact fin_false HP (fun q => Et.out q.tab) (hback yy)

end Go.Proofs.YtoefeijnnnioeaaDoor
