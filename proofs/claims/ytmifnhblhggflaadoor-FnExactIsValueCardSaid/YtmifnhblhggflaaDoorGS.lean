/- Texts of one claim, laid together: PartM, PartP, CntP, CntTop. -/
import Derived.Test.YtmifnhblhggflaaDoorGI
import Derived.Test.YtmifnhblhggflaaDoorGD
import Derived.Test.YtmifnhblhggflaaDoorGR
import Derived.Test.YtmifnhblhggflaaDoorGA
import Derived.Maps.AppendAt

/- The model's parts of types, and how many values a type has. -/
namespace Go.Proofs.YtmifnhblhggflaaDoor
open Go.RowKit

theorem own_some {α : Type} {w : World} {base : Nat} {E : TypeId} {mk : α → Value} {v : Value} {l : List α} (h : w.ownsRow base E 1 v l.length (l.map mk)) (hl : 0 < l.length) :
    ∃ g c, v = .slice (some ⟨g, 0, none⟩) l.length c ∧ Row w mk (some ⟨g, 0, none⟩) l ∧ l.length ≤ c ∧ base ≤ g ∧ g < w.heap.size := by
  obtain ⟨a, c, rfl, row, hb⟩ := owned_row h
  rcases h.2 with ⟨e, hn⟩ | ⟨g, cap, cur, e, hg, hh, r1, r2, r3, r4⟩
  · omega
  · cases e
    exact ⟨g, c, rfl, row, r1, hb _ rfl⟩
theorem ans_lift {W : World} {z : Ext W} {v : Value} {e : Ending} {w' : World} (h : Ans z.w v e w') : Ans W v e w' := by
  obtain ⟨rfl, y, rfl⟩ := h
  exact ⟨rfl, z.trans y, rfl⟩

set_option maxHeartbeats 1600000 in
theorem l2Part0_ans {W : World} {b o c : Nat} {l : List Int} (hr : Row W (Value.int .i64) (some ⟨b, o, none⟩) l) (hl : l.length ≤ 1000) (hc : l.length ≤ c) {e : Nat} (he : endOf l 1 1 = (e : Int)) (h1 : 2 ≤ e) (h2 : e ≤ l.length)
    {p : List Int} (hp : p.length = e - 1) (hrow : Row W (Value.int .i64) (some ⟨b, o + 1, none⟩) p) (x : Ext W) :
    Calls Tryd.prog 56 #[.slice (some ⟨b, o, none⟩) l.length c, .int .i64 0] x.w (NewRow W 22 3 (Value.int .i64) p) := by
  obtain ⟨yy, hyy⟩ : ∃ y : Ext W, x = y := ⟨x, rfl⟩
  rw [hyy]
  clear hyy
  have C : ∀ y : Ext W, Calls Tryd.prog 101 #[.slice (some ⟨b, o, none⟩) l.length c, .int .i64 1] y.w (Ans W (.int .i64 (e : Int))) := fun y => by rw [← he]; exact l2End_ans (at' := 1) hr hl (by omega) y
  have D : ∀ (y : Ext W) c', Calls Tryd.prog 104 #[.slice (some ⟨b, o + 1, none⟩) (e - 1) c'] y.w (NewRow W 22 3 (Value.int .i64) p) := fun y c' => by rw [← hp]; exact l1Copy_ans (c := c') hrow (by omega) y
  clear he
  have hc1 : ¬ c = 1 := by omega
  have hs : ∀ wx, (Instr.slice 22 (.slice (some ⟨b, o, none⟩) l.length c) (some (.int .i64 1)) (some (.int .i64 (e : Int))) none).run Tryd.prog wx = .ok (.slice (some ⟨b, o + 1, none⟩) (e - 1) (c - 1)) wx := fun wx => by
    have ht : Tryd.prog.underlying 22 = some (.slice (Tryd.prog.elem 22)) := by kernel_rfl
    have hz : (sizeOf (Tryd.prog.elem 22)).run Tryd.prog wx = .ok 1 wx := by kernel_rfl
    rw [run_slice_lh (P := Tryd.prog) wx _ _ _ _ ht _ _ _ _ (by omega) (by omega) (by omega), hz]
    simp [sliced, hc1, Addr.add, go_sem]
  go_enter Tryd.func56, Tryd.ntmps56
  go_wp2_with (go_at_call 101; with_reducible refine Calls.mono (C _) ?_; rintro e w' ⟨rfl, yy, rfl⟩)
  refine Calls.mono (D _ _) ?_
  rintro e w' ⟨v, yy, rfl, rfl, own⟩
  go_wp2_with fail
  go_ret
  exact ⟨v, yy, rfl, rfl, own⟩
set_option maxHeartbeats 1600000 in
theorem l2Part1_ans {W : World} {b o c : Nat} {l : List Int} (hr : Row W (Value.int .i64) (some ⟨b, o, none⟩) l) (hl : l.length ≤ 1000) (hc : l.length ≤ c) {e : Nat} (he : endOf l 1 1 = (e : Int)) (h1 : 2 ≤ e) (h2 : e < l.length)
    {p : List Int} (hp : p.length = l.length - e) (hrow : Row W (Value.int .i64) (some ⟨b, o + e, none⟩) p) (x : Ext W) :
    Calls Tryd.prog 56 #[.slice (some ⟨b, o, none⟩) l.length c, .int .i64 1] x.w (NewRow W 22 3 (Value.int .i64) p) := by
  obtain ⟨yy, hyy⟩ : ∃ y : Ext W, x = y := ⟨x, rfl⟩
  rw [hyy]
  clear hyy
  have C : ∀ y : Ext W, Calls Tryd.prog 101 #[.slice (some ⟨b, o, none⟩) l.length c, .int .i64 1] y.w (Ans W (.int .i64 (e : Int))) := fun y => by rw [← he]; exact l2End_ans (at' := 1) hr hl (by omega) y
  have D : ∀ (y : Ext W) c', Calls Tryd.prog 104 #[.slice (some ⟨b, o + e, none⟩) (l.length - e) c'] y.w (NewRow W 22 3 (Value.int .i64) p) := fun y c' => by rw [← hp]; exact l1Copy_ans (c := c') hrow (by omega) y
  clear he
  have hc1 : ¬ c = e := by omega
  have he0 : ¬ e = 0 := by omega
  have hs : ∀ wx, (Instr.slice 22 (.slice (some ⟨b, o, none⟩) l.length c) (some (.int .i64 (e : Int))) none none).run Tryd.prog wx = .ok (.slice (some ⟨b, o + e, none⟩) (l.length - e) (c - e)) wx := fun wx => by
    have ht : Tryd.prog.underlying 22 = some (.slice (Tryd.prog.elem 22)) := by kernel_rfl
    have hz : (sizeOf (Tryd.prog.elem 22)).run Tryd.prog wx = .ok 1 wx := by kernel_rfl
    rw [run_slice_l (P := Tryd.prog) wx _ _ _ _ ht _ _ (by omega) (by omega), hz]
    simp [sliced, hc1, he0, Addr.add, go_sem]
  go_enter Tryd.func56, Tryd.ntmps56
  go_wp2_with (go_at_call 101; with_reducible refine Calls.mono (C _) ?_; rintro e w' ⟨rfl, yy, rfl⟩)
  refine Calls.mono (D _ _) ?_
  rintro e w' ⟨v, yy, rfl, rfl, own⟩
  go_wp2_with fail
  go_ret
  exact ⟨v, yy, rfl, rfl, own⟩

theorem l1Min_ans {W : World} (a b : Int) (x : Ext W) : Calls Tryd.prog 120 #[.int .i64 a, .int .i64 b] x.w (Ans W (.int .i64 (min a b))) := by
  obtain ⟨yy, hyy⟩ : ∃ y : Ext W, x = y := ⟨x, rfl⟩
  rw [hyy]
  clear hyy
  by_cases h : a < b
  · have hm : min a b = a := by omega
    rw [hm]
    clear hm
    go_enter Tryd.func120, Tryd.ntmps120
    go_wp2
    go_ret
    exact ⟨rfl, yy, rfl⟩
  · have hm : min a b = b := by omega
    rw [hm]
    clear hm
    go_enter Tryd.func120, Tryd.ntmps120
    go_wp2
    go_ret
    exact ⟨rfl, yy, rfl⟩

set_option maxHeartbeats 4000000 in
theorem l5Count_ans (T : Ty) : ∀ (_ : T.Ok) (_ : T.Data) {W : World} {b o c : Nat} (_ : Row W (Value.int .i64) (some ⟨b, o, none⟩) T.enc) (_ : T.enc.length ≤ 40) (_ : T.enc.length ≤ c) (x : Ext W),
    Calls Tryd.prog 83 #[.slice (some ⟨b, o, none⟩) T.enc.length c] x.w (Ans W (.int .i64 T.cap)) := by
  induction T with
  | leaf =>
    intro _ _ W b o c hr hl hc x
    obtain ⟨yy, hyy⟩ : ∃ y : Ext W, x = y := ⟨x, rfl⟩
    rw [hyy]
    clear hyy
    rw [Ty.cap_leaf, Ty.len_leaf]
    have m0 : ∀ y : Ext W, y.w.cell? ⟨b, o, none⟩ = some (.int .i64 0) := fun y => y.cell (row_head hr (l' := []) rfl)
    clear hr
    go_enter Tryd.func83, Tryd.ntmps83
    go_wp2_with fail
    go_ret
    exact ⟨rfl, yy, rfl⟩
  | two cc A B ihA ihB =>
    intro hok hd W b o c hr hl hc x
    obtain ⟨yy, hyy⟩ : ∃ y : Ext W, x = y := ⟨x, rfl⟩
    rw [hyy]
    clear hyy
    have hA := A.enc_pos
    have hB := B.enc_pos
    have hlen := Ty.len_two cc A B
    have m0 : ∀ y : Ext W, y.w.cell? ⟨b, o, none⟩ = some (.int .i64 cc) := fun y => y.cell (row_head hr (l' := A.enc ++ B.enc) rfl)
    have P0 : ∀ y : Ext W, Calls Tryd.prog 56 #[.slice (some ⟨b, o, none⟩) (Ty.two cc A B).enc.length c, .int .i64 0] y.w (fun e w' => ∃ (v : Value) (z : Ext W), e = .returned v ∧ w' = z.w ∧ Hid (Calls Tryd.prog 83 #[v] z.w (Ans W (.int .i64 A.cap)))) := fun y => Calls.mono (l2Part0_ans hr (by omega) hc (Ty.end_two hok) (by omega) (by omega) (by omega) (row_two1 hr) y) (by
      rintro e w' ⟨v, z, rfl, rfl, own⟩
      obtain ⟨g, c1, rfl, row, hcap, _⟩ := own_some own (Ty.enc_pos _)
      exact ⟨_, z, rfl, rfl, Calls.mono (ihA hok.2.1 hd.2.1 row (by omega) hcap (Ext.self z.w)) fun _ _ q => ans_lift q⟩)
    have P1 : ∀ y : Ext W, Calls Tryd.prog 56 #[.slice (some ⟨b, o, none⟩) (Ty.two cc A B).enc.length c, .int .i64 1] y.w (fun e w' => ∃ (v : Value) (z : Ext W), e = .returned v ∧ w' = z.w ∧ Hid (Calls Tryd.prog 83 #[v] z.w (Ans W (.int .i64 B.cap)))) := fun y => Calls.mono (l2Part1_ans hr (by omega) hc (Ty.end_two hok) (by omega) (by omega) (by omega) (row_two2 hr) y) (by
      rintro e w' ⟨v, z, rfl, rfl, own⟩
      obtain ⟨g, c1, rfl, row, hcap, _⟩ := own_some own (Ty.enc_pos _)
      exact ⟨_, z, rfl, rfl, Calls.mono (ihB hok.2.2 hd.2.2 row (by omega) hcap (Ext.self z.w)) fun _ _ q => ans_lift q⟩)
    have hca := A.cap_le
    have hcb := B.cap_le
    have hab : A.cap * B.cap ≤ 90601 := Nat.mul_le_mul hca hcb
    have hcap1 := Ty.cap_pair A B
    have hcap2 := fun q => Ty.cap_sum cc q A B
    have hlp : 0 < (Ty.two cc A B).enc.length := Ty.enc_pos _
    have hd1 := hd.1
    generalize (Ty.two cc A B).enc.length = len at *
    clear ihA ihB hr hok hd hlen hA hB hl hc
    have hlp' : (0 : Int) < (len : Int) := by omega
    rcases hd1 with rfl | rfl
    · rw [hcap1]
      clear hcap1 hcap2
      rw [show ((min (A.cap * B.cap) 301 : Nat) : Int) = min ((A.cap : Int) * (B.cap : Int)) 301 by rw [← Int.natCast_mul]; omega]
      have hw : IntKind.i64.wrap ((A.cap : Int) * (B.cap : Int)) = (A.cap : Int) * (B.cap : Int) := IntWalk.i64_in _ (by rw [← Int.natCast_mul]; omega)
      clear hab hca hcb
      go_enter Tryd.func83, Tryd.ntmps83
      go_wp2_with (first | (go_at_call 56; (with_reducible refine Calls.mono (P0 _) ?_); rintro e w' ⟨v, yy, rfl, rfl, HC⟩) | (go_at_call 56; (with_reducible refine Calls.mono (P1 _) ?_); rintro e w' ⟨v, yy, rfl, rfl, HC⟩) | (go_at_call 83; (with_reducible refine Calls.mono HC.out ?_); rintro e w' ⟨rfl, yy, rfl⟩) | (go_at_call 120; (with_reducible refine Calls.mono (l1Min_ans _ _ _) ?_); rintro e w' ⟨rfl, yy, rfl⟩))
      go_ret
      exact ⟨rfl, yy, rfl⟩
    · rw [hcap2 (by omega)]
      clear hcap1 hcap2
      rw [show ((min (A.cap + B.cap) 301 : Nat) : Int) = min ((A.cap : Int) + (B.cap : Int)) 301 by omega]
      have hw : IntKind.i64.wrap ((A.cap : Int) + (B.cap : Int)) = (A.cap : Int) + (B.cap : Int) := IntWalk.i64_in _ (by omega)
      clear hab hca hcb
      go_enter Tryd.func83, Tryd.ntmps83
      go_wp2_with (first | (go_at_call 56; (with_reducible refine Calls.mono (P0 _) ?_); rintro e w' ⟨v, yy, rfl, rfl, HC⟩) | (go_at_call 56; (with_reducible refine Calls.mono (P1 _) ?_); rintro e w' ⟨v, yy, rfl, rfl, HC⟩) | (go_at_call 83; (with_reducible refine Calls.mono HC.out ?_); rintro e w' ⟨rfl, yy, rfl⟩) | (go_at_call 120; (with_reducible refine Calls.mono (l1Min_ans _ _ _) ?_); rintro e w' ⟨rfl, yy, rfl⟩))
      go_ret
      exact ⟨rfl, yy, rfl⟩
  | one cc A ihA =>
    intro hok hd W b o c hr hl hc x
    obtain ⟨yy, hyy⟩ : ∃ y : Ext W, x = y := ⟨x, rfl⟩
    rw [hyy]
    clear hyy
    have hA := A.enc_pos
    have hlen := Ty.len_one cc A
    have m0 : ∀ y : Ext W, y.w.cell? ⟨b, o, none⟩ = some (.int .i64 cc) := fun y => y.cell (row_head hr (l' := A.enc) rfl)
    have P0 : ∀ y : Ext W, Calls Tryd.prog 56 #[.slice (some ⟨b, o, none⟩) (Ty.one cc A).enc.length c, .int .i64 0] y.w (fun e w' => ∃ (v : Value) (z : Ext W), e = .returned v ∧ w' = z.w ∧ Hid (Calls Tryd.prog 83 #[v] z.w (Ans W (.int .i64 A.cap)))) := fun y => Calls.mono (l2Part0_ans hr (by omega) hc (Ty.end_one hok) (by omega) (by omega) (by omega) (row_one hr) y) (by
      rintro e w' ⟨v, z, rfl, rfl, own⟩
      obtain ⟨g, c1, rfl, row, hcap, _⟩ := own_some own (Ty.enc_pos _)
      exact ⟨_, z, rfl, rfl, Calls.mono (ihA hok.2 hd row (by omega) hcap (Ext.self z.w)) fun _ _ q => ans_lift q⟩)
    have hbx := Ty.bx_of hok.1
    have n0 : (cc == 0) = false := by rw [beq_eq_false_iff_ne]; unfold Bx at hbx; omega
    have n1 : (cc == 1) = false := by rw [beq_eq_false_iff_ne]; unfold Bx at hbx; omega
    have n2 : (cc == 2) = false := by rw [beq_eq_false_iff_ne]; unfold Bx at hbx; omega
    have hlp : 0 < (Ty.one cc A).enc.length := Ty.enc_pos _
    rw [Ty.cap_one]
    generalize (Ty.one cc A).enc.length = len at *
    clear ihA hr hok hd hlen hA hl hc hbx
    have hlp' : (0 : Int) < (len : Int) := by omega
    go_enter Tryd.func83, Tryd.ntmps83
    go_wp2_with (first | (go_at_call 56; (with_reducible refine Calls.mono (P0 _) ?_); rintro e w' ⟨v, yy, rfl, rfl, HC⟩) | (go_at_call 83; (with_reducible refine Calls.mono HC.out ?_); rintro e w' ⟨rfl, yy, rfl⟩))
    go_ret
    exact ⟨rfl, yy, rfl⟩
end Go.Proofs.YtmifnhblhggflaaDoor

/- The program's parts of types: slices of the type itself, in a new list. -/
namespace Go.Proofs.YtmifnhblhggflaaDoor
open Go.RowKit

theorem info_ints : (Tryd.prog.info? 22).map (fun i => (i.zero, i.size, i.bytes)) = some (some (.slice none 0 0), 1, 24) := by kernel_rfl
/-- The slices of a list in which these trees stand one behind the other. -/
def sls (b : Nat) : Nat → List Ty → List Value | _, [] => [] | o, t :: ts => .slice (some ⟨b, o, none⟩) t.enc.length t.enc.length :: sls b (o + t.enc.length) ts
theorem sls_len (b o : Nat) (ts : List Ty) : (sls b o ts).length = ts.length := by
  induction ts generalizing o with
  | nil => rfl
  | cons t ts ih => simp [sls, ih]
theorem encs_append (xs ys : List Ty) : Ty.encs (xs ++ ys) = Ty.encs xs ++ Ty.encs ys := by
  induction xs with
  | nil => rfl
  | cons t ts ih => simp [Ty.encs, ih]
theorem sls_snoc (b o : Nat) (ts : List Ty) (t : Ty) : sls b o (ts ++ [t]) = sls b o ts ++ [.slice (some ⟨b, o + (Ty.encs ts).length, none⟩) t.enc.length t.enc.length] := by
  induction ts generalizing o with
  | nil => simp [sls, Ty.encs]
  | cons u ts ih => simp [sls, ih, Ty.encs, Nat.add_assoc]

theorem cell_one_is (w : World) (x : Value) (t : TypeId) (n : Nat) (hn : n = w.heap.size) : ∀ j u, [x][j]? = some u → (w.alloc (.cells #[x] t)).cell? ((⟨n, 0, none⟩ : Addr).add j) = some u := by
  subst hn
  exact cell_one_new w x t

set_option maxHeartbeats 4000000 in
theorem partsWithin_ans {W : World} (F : Forms W) {b o c : Nat} {cc : Int} {ps : List Ty} (hok : ∀ t ∈ ps, t.Ok) {l : List Int} (hl : l = cc :: Ty.encs ps) (hr : Row W (Value.int .i64) (some ⟨b, o, none⟩) l) (hl1 : l.length ≤ 1000) (hc : l.length ≤ c) (x : Ext W) :
    Calls Tryd.prog 58 #[.slice (some ⟨b, o, none⟩) l.length c] x.w (NewRow W 23 22 id (sls b (o + 1) ps)) := by
  obtain ⟨i0, hi0, hz0, hz1, hz2⟩ := info_parts info_ints
  have HL := Lib.hid hl
  have hll : l.length = 1 + (Ty.encs ps).length := by rw [hl]; simp; omega
  have HOK := Lib.hid hok
  have HLL := Lib.hid hll
  clear hl hok hll
  go_enter Tryd.func58, Tryd.ntmps58
  go_wp2_with fail
  go_loopw [4, 3] (fun i q wr => ∃ (k : Nat) (dn rs : List Ty) (v : Value), v = q ∧ Hid (ps = dn ++ rs) ∧ i = .int .i64 k ∧ k = 1 + (Ty.encs dn).length ∧ k ≤ l.length ∧ dn.length < k ∧ wr.ownsRow W.heap.size 22 1 v dn.length (sls b (o + 1) dn) ∧ Below W.heap.size W wr) (fun i _ _ => l.length - (intOf i).toNat)
  case atStart => exact ⟨1, [], ps, _, rfl, rfl, rfl, rfl, by have := HLL.out; omega, by simp, World.ownsRow_nil _ _ _ _, x.below⟩
  case round =>
    obtain ⟨k, dn, rs, v, rfl, HPS, rfl, hk, hkl, hdl, hown, hb⟩ := hrel
    have HK := Lib.hid hk
    clear hk
    have hps := HPS.out
    by_cases hlt : k < l.length
    · have hlt' : (k : Int) < (l.length : Int) := by omega
      match rs, HPS, hps with
      | [], HPS, hps =>
        exfalso
        rw [List.append_nil] at hps
        have hll := HLL.out
        have hk := HK.out
        rw [hps] at hll
        omega
      | t :: rs, HPS, hps =>
        have hll := HLL.out
        have hk := HK.out
        have htl : t.enc.length + k ≤ l.length := by rw [hps, encs_append] at hll; simp [Ty.encs] at hll; omega
        have htp := t.enc_pos
        have hend : endOf l k 1 = ((k + t.enc.length : Nat) : Int) := by
          rw [Ty.endOf_enc (t := t) (HOK.out t (by rw [hps]; simp)) (post := Ty.encs rs) (by rw [HL.out, hps, encs_append, hk, Nat.add_comm]; simp [Ty.encs])]
          omega
        have EN : Calls Tryd.prog 107 #[.slice (some ⟨b, o, none⟩) l.length c, .int .i64 k] wr (Ans wr (.int .i64 ((k + t.enc.length : Nat) : Int))) := by
          rw [← hend]
          exact endOfType_ans (F.ext ⟨wr, hb⟩) (hr.ext ⟨wr, hb⟩) hl1 (by omega) (Ext.self wr)
        clear hend
        obtain ⟨e, he⟩ : ∃ e : Nat, e = k + t.enc.length := ⟨_, rfl⟩
        rw [← he] at EN
        have hs : ∀ wx, (Instr.slice 22 (.slice (some ⟨b, o, none⟩) l.length c) (some (.int .i64 (k : Int))) (some (.int .i64 (e : Int))) (some (.int .i64 (e : Int)))).run Tryd.prog wx = .ok (.slice (some ⟨b, o + k, none⟩) t.enc.length t.enc.length) wx := fun wx => by
          have ht : Tryd.prog.underlying 22 = some (.slice (Tryd.prog.elem 22)) := by kernel_rfl
          have hz : (sizeOf (Tryd.prog.elem 22)).run Tryd.prog wx = .ok 1 wx := by kernel_rfl
          have h1 : ¬ e = k := by omega
          have h2 : ¬ k = 0 := by omega
          rw [run_slice_lhm (P := Tryd.prog) wx _ _ _ _ ht _ _ _ _ _ _ (by omega) (by omega) (by omega) (by omega), hz]
          simp [sliced, h1, h2, Addr.add, go_sem]
          omega
        clear hll hk hps htl
        have HE := Lib.hid he
        clear he
        go_wp2_with fail
        refine Calls.mono EN ?_
        rintro e w' ⟨rfl, yy, rfl⟩
        clear EN
        have ho2 := (owns_ext hown yy)
        have hb2 := hb.trans (yy.below.mono hb.size)
        clear hown hb
        have hdl2 : dn.length ≤ 1000 := by omega
        have szy := yy.size
        have szb := hb2.size
        go_wp2_with ((at_builtin; refine wpList_append_own_at _ rfl (.tmp 13) (.tmp 19) 23 rfl W.heap.size 22 i0 (.slice none 0 0) 1 24 Tryd.underlying23 hi0 hz0 hz1 hz2 rfl (by decide) v dn.length (sls b (o + 1) dn) rfl (ho2.alloc _) _ 1 1 [.slice (some ⟨b, o + k, none⟩) t.enc.length t.enc.length] rfl rfl (cell_one_is _ _ _ _ (by simp)) (by intro u hu; simp at hu; subst hu; rfl) (by unfold maxLen; omega) (by omega) (by simp; omega) ?_; intro v' w1 own1 gr1 _ hat1))
        have HB1 : Hid (Below W.heap.size W w1) := (hb2.alloc (by omega) _).grown gr1 (by simp; omega) (fun j hj => (ho2.lt j hj).1)
        have HO1 := Lib.hid own1
        clear own1 gr1 hat1 ho2 hb2
        go_roundw
        case rel =>
          have own1 := HO1.out
          have hk := HK.out
          have he := HE.out
          have htl : t.enc.length + k ≤ l.length := by have hll := HLL.out; rw [HPS.out, encs_append] at hll; simp [Ty.encs] at hll; omega
          refine ⟨e, dn ++ [t], rs, _, rfl, (by show _ = _; rw [HPS.out]; simp), rfl, (by rw [encs_append, he, hk]; simp [Ty.encs]; omega), by omega, by simp; omega, ?_, HB1.out⟩
          rw [sls_snoc, show o + 1 + (Ty.encs dn).length = o + k by omega]
          simpa using own1
        case measure => have := HE.out; simp [intOf]; omega
    · clear hps
      have hps0 := HPS
      have hlt' : ¬ (k : Int) < (l.length : Int) := by omega
      go_wp2
      go_ret
      have hrs : rs = [] := by
        match rs, hps0 with
        | [], _ => rfl
        | t :: rs, hps0 =>
          exfalso
          have htp := t.enc_pos
          have hll := HLL.out
          have hk := HK.out
          rw [hps0.out, encs_append] at hll
          simp [Ty.encs] at hll
          omega
      have hpd : ps = dn := by rw [hps0.out, hrs, List.append_nil]
      rw [hpd]
      refine ⟨_, ⟨_, hb⟩, rfl, rfl, ?_⟩
      rw [sls_len, List.map_id]
      exact hown
end Go.Proofs.YtmifnhblhggflaaDoor

/- How many values a type has, by the program. -/
namespace Go.Proofs.YtmifnhblhggflaaDoor
open Go.RowKit

theorem form_some {W : World} (F : Forms W) (c k : Int) (hk : codeF c = k) : ∃ (f0 : ByteArray) (f2 f3 : Int) (f4 f6 : Bool), ∀ y : Ext W, Calls Tryd.prog 123 #[.int .i64 c] y.w (Ans W (.tuple #[.agg #[.string f0, .int .i64 k, .int .i64 f2, .int .i64 f3, .bool f4], .int .i64 (gF c), .bool f6])) := by
  subst hk
  exact ⟨_, _, _, _, _, fun y => formOf_ans F c y⟩
theorem codeF_bx {c : Int} (h : Bx c) : codeF c = 19 := by
  unfold Bx at h
  unfold codeF
  rw [if_neg (by omega), if_neg (by omega), if_neg (by unfold Arr; omega), if_pos (by unfold Bx; omega)]
theorem codeF_arr {c : Int} (h : Arr c) : codeF c = 3 := by
  unfold Arr at h
  unfold codeF
  rw [if_neg (by omega), if_neg (by omega), if_pos (by unfold Arr; omega)]

/-- One of two values with what belongs to it. -/
inductive Either (va : Value) (ka : Int) (vb : Value) (kb : Int) : Value → Int → Prop
  | a : Either va ka vb kb va ka
  | b : Either va ka vb kb vb kb
theorem row_at {w : World} {g : Nat} {l : List Value} (h : Row w id (some ⟨g, 0, none⟩) l) (i : Nat) (v : Value) (hi : l[i]? = some v) : w.cell? ⟨g, i, none⟩ = some v := by
  rcases h with rfl | ⟨b', o', e, hc⟩
  · simp at hi
  · cases e
    have := hc i v hi
    simpa using this

set_option maxHeartbeats 8000000 in
theorem countOf_ans (T : Ty) : ∀ (_ : T.Ok) (_ : T.Data) {W : World} (_ : Forms W) {b o c : Nat} (_ : Row W (Value.int .i64) (some ⟨b, o, none⟩) T.enc) (_ : T.enc.length ≤ 40) (_ : T.enc.length ≤ c) (x : Ext W),
    Calls Tryd.prog 86 #[.slice (some ⟨b, o, none⟩) T.enc.length c] x.w (Ans W (.int .i64 T.cnt)) := by
  induction T with
  | leaf =>
    intro hok hd W F b o c hr hl hc x
    obtain ⟨yy, hyy⟩ : ∃ y : Ext W, x = y := ⟨x, rfl⟩
    rw [hyy]
    clear hyy
    obtain ⟨f0, f2, f3, f4, f6, FOC⟩ := form_some F (0) 0 rfl
    have PWC : ∀ y1 : Ext W, Calls Tryd.prog 58 #[.slice (some ⟨b, o, none⟩) Ty.leaf.enc.length c] y1.w (NewRow y1.w 23 22 id (sls b (o + 1) [])) := fun y1 => partsWithin_ans (W := y1.w) (F.ext y1) (cc := 0) (ps := []) (by simp) (l := Ty.leaf.enc) rfl (hr.ext y1) (by omega) hc (Ext.self y1.w)
    have m0 : ∀ y : Ext W, y.w.cell? ⟨b, o, none⟩ = some (.int .i64 (0)) := fun y => y.cell (row_head hr (l' := []) rfl)
    have hlp : 0 < Ty.leaf.enc.length := Ty.enc_pos _
    have hlen := Ty.len_leaf
    generalize Ty.leaf.enc.length = len at *
    clear hr hok hd hl hc hlen
    have hlp' : (0 : Int) < (len : Int) := by omega
    rw [show Ty.leaf.cnt = 3 from rfl]
    go_enter Tryd.func86, Tryd.ntmps86
    go_wp2_with (go_at_call 123; (with_reducible refine Calls.mono (FOC _) ?_); rintro e w' ⟨rfl, yy, rfl⟩)
    generalize hY : yy.w.alloc _ = Y1
    have bY := new_blk hY
    obtain ⟨y1, hy1⟩ : ∃ y : Ext W, y.w = Y1 := ⟨yy.alloc _, hY⟩
    generalize yy.w.heap.size = B1 at *
    clear hY yy FOC
    rw [← hy1] at bY ⊢
    clear hy1 Y1
    refine Calls.mono (PWC y1) ?_
    clear PWC m0
    rintro e w' ⟨v, zz, rfl, rfl, own⟩
    have m1 : ∀ u : Ext zz.w, u.w.cell? ⟨B1, 1, none⟩ = some (.int .i64 0) := fun u => blk_cell ((zz.trans u).blk bY) 1
    clear bY own
    obtain ⟨yy, hyy⟩ : ∃ u : Ext zz.w, u.w = zz.w := ⟨Ext.self _, rfl⟩
    rw [← hyy]
    clear hyy
    go_wp2_with fail
    go_ret
    exact ⟨rfl, y1.trans (zz.trans yy), rfl⟩
  | two cc A B ihA ihB =>
    intro hok hd W F b o c hr hl hc x
    obtain ⟨yy, hyy⟩ : ∃ y : Ext W, x = y := ⟨x, rfl⟩
    rw [hyy]
    clear hyy
    have hA := A.enc_pos
    have hB := B.enc_pos
    have hlen := Ty.len_two cc A B
    have CA : ∀ y : Ext W, Calls Tryd.prog 86 #[.slice (some ⟨b, o + 1, none⟩) A.enc.length A.enc.length] y.w (Ans y.w (.int .i64 A.cnt)) := fun y => ihA hok.2.1 hd.2.1 (F.ext y) ((row_two1 hr).ext y) (by omega) (Nat.le_refl _) (Ext.self y.w)
    have CB : ∀ y : Ext W, Calls Tryd.prog 86 #[.slice (some ⟨b, o + 1 + A.enc.length, none⟩) B.enc.length B.enc.length] y.w (Ans y.w (.int .i64 B.cnt)) := fun y => ihB hok.2.2 hd.2.2 (F.ext y) ((show Row W (Value.int .i64) (some ⟨b, o + 1 + A.enc.length, none⟩) B.enc from by rw [Nat.add_assoc]; exact row_two2 hr).ext y) (by omega) (Nat.le_refl _) (Ext.self y.w)
    replace CA := Lib.hid CA
    replace CB := Lib.hid CB
    have hcnt := Ty.cnt_le hl
    have hd1 := hd.1
    rcases hd1 with rfl | rfl
    · obtain ⟨f0, f2, f3, f4, f6, FOC⟩ := form_some F (1) 1 rfl
      have PWC : ∀ y1 : Ext W, Calls Tryd.prog 58 #[.slice (some ⟨b, o, none⟩) (Ty.two 1 A B).enc.length c] y1.w (NewRow y1.w 23 22 id (sls b (o + 1) [A, B])) := fun y1 => partsWithin_ans (W := y1.w) (F.ext y1) (cc := 1) (ps := [A, B]) (by intro t ht; simp at ht; rcases ht with rfl | rfl; exact hok.2.1; exact hok.2.2) (l := (Ty.two 1 A B).enc) (by simp [Ty.enc, Ty.encs]) (hr.ext y1) (by omega) hc (Ext.self y1.w)
      have m0 : ∀ y : Ext W, y.w.cell? ⟨b, o, none⟩ = some (.int .i64 (1)) := fun y => y.cell (row_head hr (l' := A.enc ++ B.enc) rfl)
      have hlp : 0 < (Ty.two 1 A B).enc.length := Ty.enc_pos _
      have ec : (Ty.two 1 A B).cnt = A.cnt * B.cnt := rfl
      rw [ec] at hcnt ⊢
      clear ec
      have hw : IntKind.i64.wrap ((A.cnt : Int) * (B.cnt : Int)) = (A.cnt : Int) * (B.cnt : Int) := IntWalk.i64_in _ (by rw [← Int.natCast_mul]; omega)
      rw [Int.natCast_mul]
      generalize (Ty.two 1 A B).enc.length = len at *
      clear hr hok hd hl hc hcnt hA hB hlen ihA ihB
      have hlp' : (0 : Int) < (len : Int) := by omega
      go_enter Tryd.func86, Tryd.ntmps86
      go_wp2_with (go_at_call 123; (with_reducible refine Calls.mono (FOC _) ?_); rintro e w' ⟨rfl, yy, rfl⟩)
      generalize hY : yy.w.alloc _ = Y1
      have bY := new_blk hY
      obtain ⟨y1, hy1⟩ : ∃ y : Ext W, y.w = Y1 := ⟨yy.alloc _, hY⟩
      generalize yy.w.heap.size = B1 at *
      clear hY yy FOC
      rw [← hy1] at bY ⊢
      clear hy1 Y1
      refine Calls.mono (PWC y1) ?_
      clear PWC m0
      rintro e w' ⟨v, zz, rfl, rfl, own⟩
      obtain ⟨g, c1, rfl, row, hcap, _⟩ := own_some own (by simp [sls])
      have m1 : ∀ u : Ext zz.w, u.w.cell? ⟨B1, 1, none⟩ = some (.int .i64 1) := fun u => blk_cell ((zz.trans u).blk bY) 1
      have g0 : ∀ u : Ext zz.w, u.w.cell? ⟨g, 0, none⟩ = some (.slice (some ⟨b, o + 1, none⟩) A.enc.length A.enc.length) := fun u => u.cell (row_at row 0 _ rfl)
      have g1 : ∀ u : Ext zz.w, u.w.cell? ⟨g, 1, none⟩ = some (.slice (some ⟨b, o + 1 + A.enc.length, none⟩) B.enc.length B.enc.length) := fun u => u.cell (row_at row 1 _ rfl)
      clear bY own row hcap
      rw [show (sls b (o + 1) [A, B]).length = 2 from rfl]
      have CC : ∀ (u : Ext zz.w) (v : Value) (k : Int), Either (.slice (some ⟨b, o + 1, none⟩) A.enc.length A.enc.length) A.cnt (.slice (some ⟨b, o + 1 + A.enc.length, none⟩) B.enc.length B.enc.length) B.cnt v k → Calls Tryd.prog 86 #[v] u.w (Ans zz.w (.int .i64 k)) := fun u v k hv => by
        cases hv with
        | a => exact Calls.mono (CA.out (y1.trans (zz.trans u))) fun _ _ q => ans_lift (z := u) q
        | b => exact Calls.mono (CB.out (y1.trans (zz.trans u))) fun _ _ q => ans_lift (z := u) q
      have HA : Either (.slice (some ⟨b, o + 1, none⟩) A.enc.length A.enc.length) A.cnt (.slice (some ⟨b, o + 1 + A.enc.length, none⟩) B.enc.length B.enc.length) B.cnt (.slice (some ⟨b, o + 1, none⟩) A.enc.length A.enc.length) A.cnt := .a
      have HB : Either (.slice (some ⟨b, o + 1, none⟩) A.enc.length A.enc.length) A.cnt (.slice (some ⟨b, o + 1 + A.enc.length, none⟩) B.enc.length B.enc.length) B.cnt (.slice (some ⟨b, o + 1 + A.enc.length, none⟩) B.enc.length B.enc.length) B.cnt := .b
      obtain ⟨yy, hyy⟩ : ∃ u : Ext zz.w, u.w = zz.w := ⟨Ext.self _, rfl⟩
      rw [← hyy]
      clear hyy
      go_wp2_with fail
      refine region_ext yy (by kernel_rfl) (by kernel_rfl) ?_
      repeat (go_big_quiet_step ((go_at_call 86; with_reducible exact CC _ _ _ (by assumption))))
      refine wpQuiet_nil ?_
      rintro _ ⟨yy, rfl⟩
      go_wp2_with fail
      go_ret
      exact ⟨rfl, y1.trans (zz.trans yy), rfl⟩
    · obtain ⟨f0, f2, f3, f4, f6, FOC⟩ := form_some F (2) 2 rfl
      have PWC : ∀ y1 : Ext W, Calls Tryd.prog 58 #[.slice (some ⟨b, o, none⟩) (Ty.two 2 A B).enc.length c] y1.w (NewRow y1.w 23 22 id (sls b (o + 1) [A, B])) := fun y1 => partsWithin_ans (W := y1.w) (F.ext y1) (cc := 2) (ps := [A, B]) (by intro t ht; simp at ht; rcases ht with rfl | rfl; exact hok.2.1; exact hok.2.2) (l := (Ty.two 2 A B).enc) (by simp [Ty.enc, Ty.encs]) (hr.ext y1) (by omega) hc (Ext.self y1.w)
      have m0 : ∀ y : Ext W, y.w.cell? ⟨b, o, none⟩ = some (.int .i64 (2)) := fun y => y.cell (row_head hr (l' := A.enc ++ B.enc) rfl)
      have hlp : 0 < (Ty.two 2 A B).enc.length := Ty.enc_pos _
      have ec : (Ty.two 2 A B).cnt = A.cnt + B.cnt := rfl
      rw [ec] at hcnt ⊢
      clear ec
      have hw : IntKind.i64.wrap ((A.cnt : Int) + (B.cnt : Int)) = (A.cnt : Int) + (B.cnt : Int) := IntWalk.i64_in _ (by omega)
      rw [show ((A.cnt + B.cnt : Nat) : Int) = (A.cnt : Int) + (B.cnt : Int) by omega]
      generalize (Ty.two 2 A B).enc.length = len at *
      clear hr hok hd hl hc hcnt hA hB hlen ihA ihB
      have hlp' : (0 : Int) < (len : Int) := by omega
      go_enter Tryd.func86, Tryd.ntmps86
      go_wp2_with (go_at_call 123; (with_reducible refine Calls.mono (FOC _) ?_); rintro e w' ⟨rfl, yy, rfl⟩)
      generalize hY : yy.w.alloc _ = Y1
      have bY := new_blk hY
      obtain ⟨y1, hy1⟩ : ∃ y : Ext W, y.w = Y1 := ⟨yy.alloc _, hY⟩
      generalize yy.w.heap.size = B1 at *
      clear hY yy FOC
      rw [← hy1] at bY ⊢
      clear hy1 Y1
      refine Calls.mono (PWC y1) ?_
      clear PWC m0
      rintro e w' ⟨v, zz, rfl, rfl, own⟩
      obtain ⟨g, c1, rfl, row, hcap, _⟩ := own_some own (by simp [sls])
      have m1 : ∀ u : Ext zz.w, u.w.cell? ⟨B1, 1, none⟩ = some (.int .i64 2) := fun u => blk_cell ((zz.trans u).blk bY) 1
      have g0 : ∀ u : Ext zz.w, u.w.cell? ⟨g, 0, none⟩ = some (.slice (some ⟨b, o + 1, none⟩) A.enc.length A.enc.length) := fun u => u.cell (row_at row 0 _ rfl)
      have g1 : ∀ u : Ext zz.w, u.w.cell? ⟨g, 1, none⟩ = some (.slice (some ⟨b, o + 1 + A.enc.length, none⟩) B.enc.length B.enc.length) := fun u => u.cell (row_at row 1 _ rfl)
      clear bY own row hcap
      rw [show (sls b (o + 1) [A, B]).length = 2 from rfl]
      have CC : ∀ (u : Ext zz.w) (v : Value) (k : Int), Either (.slice (some ⟨b, o + 1, none⟩) A.enc.length A.enc.length) A.cnt (.slice (some ⟨b, o + 1 + A.enc.length, none⟩) B.enc.length B.enc.length) B.cnt v k → Calls Tryd.prog 86 #[v] u.w (Ans zz.w (.int .i64 k)) := fun u v k hv => by
        cases hv with
        | a => exact Calls.mono (CA.out (y1.trans (zz.trans u))) fun _ _ q => ans_lift (z := u) q
        | b => exact Calls.mono (CB.out (y1.trans (zz.trans u))) fun _ _ q => ans_lift (z := u) q
      have HA : Either (.slice (some ⟨b, o + 1, none⟩) A.enc.length A.enc.length) A.cnt (.slice (some ⟨b, o + 1 + A.enc.length, none⟩) B.enc.length B.enc.length) B.cnt (.slice (some ⟨b, o + 1, none⟩) A.enc.length A.enc.length) A.cnt := .a
      have HB : Either (.slice (some ⟨b, o + 1, none⟩) A.enc.length A.enc.length) A.cnt (.slice (some ⟨b, o + 1 + A.enc.length, none⟩) B.enc.length B.enc.length) B.cnt (.slice (some ⟨b, o + 1 + A.enc.length, none⟩) B.enc.length B.enc.length) B.cnt := .b
      obtain ⟨yy, hyy⟩ : ∃ u : Ext zz.w, u.w = zz.w := ⟨Ext.self _, rfl⟩
      rw [← hyy]
      clear hyy
      go_wp2_with fail
      refine region_ext yy (by kernel_rfl) (by kernel_rfl) ?_
      repeat (go_big_quiet_step ((go_at_call 86; with_reducible exact CC _ _ _ (by assumption))))
      refine wpQuiet_nil ?_
      rintro _ ⟨yy, rfl⟩
      go_wp2_with fail
      go_ret
      exact ⟨rfl, y1.trans (zz.trans yy), rfl⟩
  | one cc A ihA =>
    intro hok hd W F b o c hr hl hc x
    obtain ⟨yy, hyy⟩ : ∃ y : Ext W, x = y := ⟨x, rfl⟩
    rw [hyy]
    clear hyy
    have hA := A.enc_pos
    have hlen := Ty.len_one cc A
    have hbx := Ty.bx_of hok.1
    have CA : ∀ y : Ext W, Calls Tryd.prog 86 #[.slice (some ⟨b, o + 1, none⟩) A.enc.length A.enc.length] y.w (Ans y.w (.int .i64 A.cnt)) := fun y => ihA hok.2 hd (F.ext y) ((row_one hr).ext y) (by omega) (Nat.le_refl _) (Ext.self y.w)
    replace CA := Lib.hid CA
    obtain ⟨f0, f2, f3, f4, f6, FOC⟩ := form_some F (cc) 19 (codeF_bx hbx)
    have PWC : ∀ y1 : Ext W, Calls Tryd.prog 58 #[.slice (some ⟨b, o, none⟩) (Ty.one cc A).enc.length c] y1.w (NewRow y1.w 23 22 id (sls b (o + 1) [A])) := fun y1 => partsWithin_ans (W := y1.w) (F.ext y1) (cc := cc) (ps := [A]) (by intro t ht; simp at ht; subst ht; exact hok.2) (l := (Ty.one cc A).enc) (by simp [Ty.enc, Ty.encs]) (hr.ext y1) (by omega) hc (Ext.self y1.w)
    have m0 : ∀ y : Ext W, y.w.cell? ⟨b, o, none⟩ = some (.int .i64 (cc)) := fun y => y.cell (row_head hr (l' := A.enc) rfl)
    have hlp : 0 < (Ty.one cc A).enc.length := Ty.enc_pos _
    rw [show (Ty.one cc A).cnt = A.cnt from rfl]
    generalize (Ty.one cc A).enc.length = len at *
    clear hr hok hd hl hc hA hlen ihA hbx
    have hlp' : (0 : Int) < (len : Int) := by omega
    go_enter Tryd.func86, Tryd.ntmps86
    go_wp2_with (go_at_call 123; (with_reducible refine Calls.mono (FOC _) ?_); rintro e w' ⟨rfl, yy, rfl⟩)
    generalize hY : yy.w.alloc _ = Y1
    have bY := new_blk hY
    obtain ⟨y1, hy1⟩ : ∃ y : Ext W, y.w = Y1 := ⟨yy.alloc _, hY⟩
    generalize yy.w.heap.size = B1 at *
    clear hY yy FOC
    rw [← hy1] at bY ⊢
    clear hy1 Y1
    refine Calls.mono (PWC y1) ?_
    clear PWC m0
    rintro e w' ⟨v, zz, rfl, rfl, own⟩
    obtain ⟨g, c1, rfl, row, hcap, _⟩ := own_some own (by simp [sls])
    have m1 : ∀ u : Ext zz.w, u.w.cell? ⟨B1, 1, none⟩ = some (.int .i64 19) := fun u => blk_cell ((zz.trans u).blk bY) 1
    have g0 : ∀ u : Ext zz.w, u.w.cell? ⟨g, 0, none⟩ = some (.slice (some ⟨b, o + 1, none⟩) A.enc.length A.enc.length) := fun u => u.cell (row_at row 0 _ rfl)
    clear bY own row hcap
    rw [show (sls b (o + 1) [A]).length = 1 from rfl]
    obtain ⟨yy, hyy⟩ : ∃ u : Ext zz.w, u.w = zz.w := ⟨Ext.self _, rfl⟩
    rw [← hyy]
    clear hyy
    go_wp2_with fail
    refine Calls.mono (CA.out (y1.trans (zz.trans yy))) ?_
    rintro e w' ⟨rfl, uu, rfl⟩
    go_wp2_with fail
    go_ret
    exact ⟨rfl, y1.trans (zz.trans (yy.trans uu)), rfl⟩
end Go.Proofs.YtmifnhblhggflaaDoor

/- CountValues, of the program and of the model. -/
namespace Go.Proofs.YtmifnhblhggflaaDoor
open Go.RowKit

/-- What CountValues answers. -/
def CntV (s : Sys) (l : List Int) (v : Int) : Prop := (IsDataP s l ∧ ∃ T : Ty, T.Ok ∧ T.Data ∧ l = T.enc ∧ ((T.cnt ≤ 300 ∧ v = T.cnt) ∨ (300 < T.cnt ∧ v = -1))) ∨ (¬ IsDataP s l ∧ v = -1)
theorem IsDataP.tree {s : Sys} {l : List Int} (h : IsDataP s l) : ∃ T : Ty, T.Ok ∧ T.Data ∧ l = T.enc ∧ T.enc.length ≤ 40 := by
  obtain ⟨T, h1, h2⟩ := h.1.2.1.tree
  refine ⟨T, h1, Ty.data_of h1 (by rw [← h2]; exact h.2), h2, ?_⟩
  rw [← h2]
  exact h.1.2.1.1
theorem cntV_ex (s : Sys) (l : List Int) : ∃ v, CntV s l v := by
  by_cases h : IsDataP s l
  · obtain ⟨T, h1, h2, h3, h4⟩ := h.tree
    by_cases hc : T.cnt ≤ 300
    · exact ⟨_, .inl ⟨h, T, h1, h2, h3, .inl ⟨hc, rfl⟩⟩⟩
    · exact ⟨_, .inl ⟨h, T, h1, h2, h3, .inr ⟨by omega, rfl⟩⟩⟩
  · exact ⟨-1, .inr ⟨h, rfl⟩⟩

set_option maxHeartbeats 4000000 in
theorem countValues_ans {W : World} (FO : Forms W) {r : Ref} {s : Sys} (h : SysIn W r s) {b o c : Nat} {l : List Int} (hl : l.length ≤ 1099511627776) {a : Option Addr} (hr : Row W (Value.int .i64) a l) (hc : l.length ≤ c) (ha : l ≠ [] → a = some ⟨b, o, none⟩) (v : Int) (hv : CntV s l v) (x : Ext W) :
    Calls Tryd.prog 45 #[r.val s, .slice a l.length c] x.w (Ans W (.int .i64 v)) := by
  unfold Ref.val
  rcases hv with ⟨hd, T, hok, hdt, rfl, hv⟩ | ⟨hd, rfl⟩
  · have HD := Lib.hid hd
    have hl40 : T.enc.length ≤ 40 := hd.1.2.1.1
    obtain rfl : a = some ⟨b, o, none⟩ := ha (by exact fun e => by have := T.enc_pos; rw [e] at this; simp at this)
    clear hd ha
    go_enter Tryd.func45, Tryd.ntmps45
    go_wp2_with fail
    generalize hW : x.w.alloc _ = W1
    generalize hB : x.w.heap.size = B
    obtain ⟨c0, c1, c2, c3, h1, hback, yy, hy0⟩ := boxed h x hB hW
    have hrow : Row W1 (Value.int .i64) (some ⟨b, o, none⟩) T.enc := by rw [← hW]; exact hr.ext (x.alloc _)
    have FF : Forms W1 := by rw [← hW]; exact FO.ext (x.alloc _)
    clear hW hB
    rw [← hy0]
    clear hy0
    have CT : ∀ y : Ext W1, Calls Tryd.prog 86 #[.slice (some ⟨b, o, none⟩) T.enc.length c] y.w (Ans W1 (.int .i64 (T.cnt : Nat))) := fun y => by
      exact Calls.mono (countOf_ans T hok hdt (FF.ext y) (hrow.ext y) hl40 hc (Ext.self y.w)) fun _ _ q => ans_lift (z := y) q
    have HOK := Lib.hid hok
    have HDT := Lib.hid hdt
    clear hok hdt hl40
    rcases hv with ⟨hv, rfl⟩ | ⟨hv, rfl⟩
    · have hv' : ¬ (300 : Int) < (T.cnt : Int) := by omega
      go_wp2_with (first | (go_at_call 85; with_reducible refine Calls.mono (isData_ans h1 FF hrow hl true (by refine iff_tf ?_; dsimp only; exact HD.out) _) ?_; rintro e w' ⟨rfl, yy, rfl⟩) | (go_at_call 86; (with_reducible refine Calls.mono (CT _) ?_); rintro e w' ⟨rfl, yy, rfl⟩))
      go_ret
      exact ⟨rfl, hback yy⟩
    · have hv' : (300 : Int) < (T.cnt : Int) := by omega
      go_wp2_with (first | (go_at_call 85; with_reducible refine Calls.mono (isData_ans h1 FF hrow hl true (by refine iff_tf ?_; dsimp only; exact HD.out) _) ?_; rintro e w' ⟨rfl, yy, rfl⟩) | (go_at_call 86; (with_reducible refine Calls.mono (CT _) ?_); rintro e w' ⟨rfl, yy, rfl⟩))
      go_ret
      exact ⟨rfl, hback yy⟩
  · have HD := Lib.hid hd
    clear hd
    go_enter Tryd.func45, Tryd.ntmps45
    go_wp2_with fail
    generalize hW : x.w.alloc _ = W1
    generalize hB : x.w.heap.size = B
    obtain ⟨c0, c1, c2, c3, h1, hback, yy, hy0⟩ := boxed h x hB hW
    have hrow : Row W1 (Value.int .i64) a l := by rw [← hW]; exact hr.ext (x.alloc _)
    have FF : Forms W1 := by rw [← hW]; exact FO.ext (x.alloc _)
    clear hW hB
    rw [← hy0]
    clear hy0
    go_wp2_with (go_at_call 85; with_reducible refine Calls.mono (isData_ans h1 FF hrow hl false (by refine iff_tf ?_; dsimp only; exact HD.out) _) ?_; rintro e w' ⟨rfl, yy, rfl⟩)
    go_ret
    exact ⟨rfl, hback yy⟩

set_option maxHeartbeats 4000000 in
theorem specCountValues_ans {W : World} {r : Ref} {s : Sys} (h : SysIn W r s) {b o c : Nat} {l : List Int} (hl : l.length ≤ 1099511627776) {a : Option Addr} (hr : Row W (Value.int .i64) a l) (hc : l.length ≤ c) (ha : l ≠ [] → a = some ⟨b, o, none⟩) (v : Int) (hv : CntV s l v) (x : Ext W) :
    Calls Tryd.prog 43 #[r.val s, .slice a l.length c] x.w (Ans W (.int .i64 v)) := by
  unfold Ref.val
  rcases hv with ⟨hd, T, hok, hdt, rfl, hv⟩ | ⟨hd, rfl⟩
  · have HD := Lib.hid hd
    have hl40 : T.enc.length ≤ 40 := hd.1.2.1.1
    obtain rfl : a = some ⟨b, o, none⟩ := ha (by exact fun e => by have := T.enc_pos; rw [e] at this; simp at this)
    clear hd ha
    go_enter Tryd.func43, Tryd.ntmps43
    go_wp2_with fail
    generalize hW : x.w.alloc _ = W1
    generalize hB : x.w.heap.size = B
    obtain ⟨c0, c1, c2, c3, h1, hback, yy, hy0⟩ := boxed h x hB hW
    have hrow : Row W1 (Value.int .i64) (some ⟨b, o, none⟩) T.enc := by rw [← hW]; exact hr.ext (x.alloc _)
    clear hW hB
    rw [← hy0]
    clear hy0
    have CT : ∀ y : Ext W1, Calls Tryd.prog 83 #[.slice (some ⟨b, o, none⟩) T.enc.length c] y.w (Ans W1 (.int .i64 (T.cap : Nat))) := fun y => by
      exact Calls.mono (l5Count_ans T hok hdt (hrow.ext y) hl40 hc (Ext.self y.w)) fun _ _ q => ans_lift (z := y) q
    have HOK := Lib.hid hok
    have HDT := Lib.hid hdt
    clear hok hdt hl40
    rcases hv with ⟨hv, rfl⟩ | ⟨hv, rfl⟩
    · have he : T.cap = T.cnt := by unfold Ty.cap; omega
      rw [he] at CT
      have hv' : ¬ (300 : Int) < (T.cnt : Int) := by omega
      clear he
      go_wp2_with (first | (go_at_call 82; with_reducible refine Calls.mono (specIsData_ans h1 hrow hl true (by refine iff_tf ?_; dsimp only; exact HD.out) _) ?_; rintro e w' ⟨rfl, yy, rfl⟩) | (go_at_call 83; (with_reducible refine Calls.mono (CT _) ?_); rintro e w' ⟨rfl, yy, rfl⟩))
      go_ret
      exact ⟨rfl, hback yy⟩
    · have he : T.cap = 301 := by unfold Ty.cap; omega
      rw [he] at CT
      clear he
      go_wp2_with (first | (go_at_call 82; with_reducible refine Calls.mono (specIsData_ans h1 hrow hl true (by refine iff_tf ?_; dsimp only; exact HD.out) _) ?_; rintro e w' ⟨rfl, yy, rfl⟩) | (go_at_call 83; (with_reducible refine Calls.mono (CT _) ?_); rintro e w' ⟨rfl, yy, rfl⟩))
      go_ret
      exact ⟨rfl, hback yy⟩
  · have HD := Lib.hid hd
    clear hd
    go_enter Tryd.func43, Tryd.ntmps43
    go_wp2_with fail
    generalize hW : x.w.alloc _ = W1
    generalize hB : x.w.heap.size = B
    obtain ⟨c0, c1, c2, c3, h1, hback, yy, hy0⟩ := boxed h x hB hW
    have hrow : Row W1 (Value.int .i64) a l := by rw [← hW]; exact hr.ext (x.alloc _)
    clear hW hB
    rw [← hy0]
    clear hy0
    go_wp2_with (go_at_call 82; with_reducible refine Calls.mono (specIsData_ans h1 hrow hl false (by refine iff_tf ?_; dsimp only; exact HD.out) _) ?_; rintro e w' ⟨rfl, yy, rfl⟩)
    go_ret
    exact ⟨rfl, hback yy⟩

end Go.Proofs.YtmifnhblhggflaaDoor
