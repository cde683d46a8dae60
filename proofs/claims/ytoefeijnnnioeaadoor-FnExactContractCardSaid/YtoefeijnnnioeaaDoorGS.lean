/- Texts of one claim, laid together: PartM, PartP. -/
import Derived.Test.YtoefeijnnnioeaaDoorGI
import Derived.Test.YtoefeijnnnioeaaDoorGD
import Derived.Test.YtoefeijnnnioeaaDoorGR
import Derived.Test.YtoefeijnnnioeaaDoorGA
import Derived.Maps.AppendAt
set_option linter.unusedVariables false
set_option linter.unusedSimpArgs false

/- The model's parts of types, and how many values a type has. -/
namespace Go.Proofs.YtoefeijnnnioeaaDoor
open Go.RowKit

theorem own_some {α : Type} {w : World} {base : Nat} {E : TypeId} {mk : α → Value} {v : Value} {l : List α} (h : w.ownsRow base E 1 v l.length (l.map mk)) (hl : 0 < l.length) :
    ∃ g c, v = .slice (some ⟨g, 0, none⟩) l.length c ∧ Row w mk (some ⟨g, 0, none⟩) l ∧ l.length ≤ c ∧ base ≤ g ∧ g < w.heap.size := by
  obtain ⟨a, c, rfl, row, hb⟩ := owned_row h
  rcases h.2 with ⟨e, hn⟩ | ⟨g, cap, cur, e, hg, hh, r1, r2, r3, r4⟩
  · omega
  · cases e
    exact ⟨g, c, rfl, row, r1, hb _ rfl⟩
theorem ans_lift {W : World} {z : Ext W} {v : Value} {e : Ending} {w' : World} (h : Ans z.w v e w') : Ans W v e w' := by
  obtain ⟨rfl, y, rfl⟩ := h
  exact ⟨rfl, z.trans y, rfl⟩

set_option maxHeartbeats 1600000 in
theorem l2Part0_ans {W : World} {b o c : Nat} {l : List Int} (hr : Row W (Value.int .i64) (some ⟨b, o, none⟩) l) (hl : l.length ≤ 1000) (hc : l.length ≤ c) {e : Nat} (he : endOf l 1 1 = (e : Int)) (h1 : 2 ≤ e) (h2 : e ≤ l.length)
    {p : List Int} (hp : p.length = e - 1) (hrow : Row W (Value.int .i64) (some ⟨b, o + 1, none⟩) p) (x : Ext W) :
    Calls Tryd.prog 124 #[.slice (some ⟨b, o, none⟩) l.length c, .int .i64 0] x.w (NewRow W 22 3 (Value.int .i64) p) := by
  obtain ⟨yy, hyy⟩ : ∃ y : Ext W, x = y := ⟨x, rfl⟩
  rw [hyy]
  clear hyy
  have C : ∀ y : Ext W, Calls Tryd.prog 110 #[.slice (some ⟨b, o, none⟩) l.length c, .int .i64 1] y.w (Ans W (.int .i64 (e : Int))) := fun y => by rw [← he]; exact l2End_ans (at' := 1) hr hl (by omega) y
  have D : ∀ (y : Ext W) c', Calls Tryd.prog 139 #[.slice (some ⟨b, o + 1, none⟩) (e - 1) c'] y.w (NewRow W 22 3 (Value.int .i64) p) := fun y c' => by rw [← hp]; exact l1Copy_ans (c := c') hrow (by omega) y
  clear he
  have hc1 : ¬ c = 1 := by omega
  have hs : ∀ wx, (Instr.slice 22 (.slice (some ⟨b, o, none⟩) l.length c) (some (.int .i64 1)) (some (.int .i64 (e : Int))) none).run Tryd.prog wx = .ok (.slice (some ⟨b, o + 1, none⟩) (e - 1) (c - 1)) wx := fun wx => by
    have ht : Tryd.prog.underlying 22 = some (.slice (Tryd.prog.elem 22)) := by kernel_rfl
    have hz : (sizeOf (Tryd.prog.elem 22)).run Tryd.prog wx = .ok 1 wx := by kernel_rfl
    rw [run_slice_lh (P := Tryd.prog) wx _ _ _ _ ht _ _ _ _ (by omega) (by omega) (by omega), hz]
    simp [sliced, hc1, Addr.add, go_sem]
  go_enter Tryd.func124, Tryd.ntmps124
  go_wp2_with (go_at_call 110; with_reducible refine Calls.mono (C _) ?_; rintro e w' ⟨rfl, yy, rfl⟩)
  refine Calls.mono (D _ _) ?_
  rintro e w' ⟨v, yy, rfl, rfl, own⟩
  go_wp2_with fail
  go_ret
  exact ⟨v, yy, rfl, rfl, own⟩
set_option maxHeartbeats 1600000 in
theorem l2Part1_ans {W : World} {b o c : Nat} {l : List Int} (hr : Row W (Value.int .i64) (some ⟨b, o, none⟩) l) (hl : l.length ≤ 1000) (hc : l.length ≤ c) {e : Nat} (he : endOf l 1 1 = (e : Int)) (h1 : 2 ≤ e) (h2 : e < l.length)
    {p : List Int} (hp : p.length = l.length - e) (hrow : Row W (Value.int .i64) (some ⟨b, o + e, none⟩) p) (x : Ext W) :
    Calls Tryd.prog 124 #[.slice (some ⟨b, o, none⟩) l.length c, .int .i64 1] x.w (NewRow W 22 3 (Value.int .i64) p) := by
  obtain ⟨yy, hyy⟩ : ∃ y : Ext W, x = y := ⟨x, rfl⟩
  rw [hyy]
  clear hyy
  have C : ∀ y : Ext W, Calls Tryd.prog 110 #[.slice (some ⟨b, o, none⟩) l.length c, .int .i64 1] y.w (Ans W (.int .i64 (e : Int))) := fun y => by rw [← he]; exact l2End_ans (at' := 1) hr hl (by omega) y
  have D : ∀ (y : Ext W) c', Calls Tryd.prog 139 #[.slice (some ⟨b, o + e, none⟩) (l.length - e) c'] y.w (NewRow W 22 3 (Value.int .i64) p) := fun y c' => by rw [← hp]; exact l1Copy_ans (c := c') hrow (by omega) y
  clear he
  have hc1 : ¬ c = e := by omega
  have he0 : ¬ e = 0 := by omega
  have hs : ∀ wx, (Instr.slice 22 (.slice (some ⟨b, o, none⟩) l.length c) (some (.int .i64 (e : Int))) none none).run Tryd.prog wx = .ok (.slice (some ⟨b, o + e, none⟩) (l.length - e) (c - e)) wx := fun wx => by
    have ht : Tryd.prog.underlying 22 = some (.slice (Tryd.prog.elem 22)) := by kernel_rfl
    have hz : (sizeOf (Tryd.prog.elem 22)).run Tryd.prog wx = .ok 1 wx := by kernel_rfl
    rw [run_slice_l (P := Tryd.prog) wx _ _ _ _ ht _ _ (by omega) (by omega), hz]
    simp [sliced, hc1, he0, Addr.add, go_sem]
  go_enter Tryd.func124, Tryd.ntmps124
  go_wp2_with (go_at_call 110; with_reducible refine Calls.mono (C _) ?_; rintro e w' ⟨rfl, yy, rfl⟩)
  refine Calls.mono (D _ _) ?_
  rintro e w' ⟨v, yy, rfl, rfl, own⟩
  go_wp2_with fail
  go_ret
  exact ⟨v, yy, rfl, rfl, own⟩

theorem l1Min_ans {W : World} (a b : Int) (x : Ext W) : Calls Tryd.prog 171 #[.int .i64 a, .int .i64 b] x.w (Ans W (.int .i64 (min a b))) := by
  obtain ⟨yy, hyy⟩ : ∃ y : Ext W, x = y := ⟨x, rfl⟩
  rw [hyy]
  clear hyy
  by_cases h : a < b
  · have hm : min a b = a := by omega
    rw [hm]
    clear hm
    go_enter Tryd.func171, Tryd.ntmps171
    go_wp2
    go_ret
    exact ⟨rfl, yy, rfl⟩
  · have hm : min a b = b := by omega
    rw [hm]
    clear hm
    go_enter Tryd.func171, Tryd.ntmps171
    go_wp2
    go_ret
    exact ⟨rfl, yy, rfl⟩

set_option maxHeartbeats 4000000 in
theorem l5Count_ans (T : Ty) : ∀ (_ : T.Ok) (_ : T.Data) {W : World} {b o c : Nat} (_ : Row W (Value.int .i64) (some ⟨b, o, none⟩) T.enc) (_ : T.enc.length ≤ 40) (_ : T.enc.length ≤ c) (x : Ext W),
    Calls Tryd.prog 145 #[.slice (some ⟨b, o, none⟩) T.enc.length c] x.w (Ans W (.int .i64 T.cap)) := by
  induction T with
  | leaf =>
    intro _ _ W b o c hr hl hc x
    obtain ⟨yy, hyy⟩ : ∃ y : Ext W, x = y := ⟨x, rfl⟩
    rw [hyy]
    clear hyy
    rw [Ty.cap_leaf, Ty.len_leaf]
    have m0 : ∀ y : Ext W, y.w.cell? ⟨b, o, none⟩ = some (.int .i64 0) := fun y => y.cell (row_head hr (l' := []) rfl)
    clear hr
    go_enter Tryd.func145, Tryd.ntmps145
    go_wp2_with fail
    go_ret
    exact ⟨rfl, yy, rfl⟩
  | two cc A B ihA ihB =>
    intro hok hd W b o c hr hl hc x
    obtain ⟨yy, hyy⟩ : ∃ y : Ext W, x = y := ⟨x, rfl⟩
    rw [hyy]
    clear hyy
    have hA := A.enc_pos
    have hB := B.enc_pos
    have hlen := Ty.len_two cc A B
    have m0 : ∀ y : Ext W, y.w.cell? ⟨b, o, none⟩ = some (.int .i64 cc) := fun y => y.cell (row_head hr (l' := A.enc ++ B.enc) rfl)
    have P0 : ∀ y : Ext W, Calls Tryd.prog 124 #[.slice (some ⟨b, o, none⟩) (Ty.two cc A B).enc.length c, .int .i64 0] y.w (fun e w' => ∃ (v : Value) (z : Ext W), e = .returned v ∧ w' = z.w ∧ Hid (Calls Tryd.prog 145 #[v] z.w (Ans W (.int .i64 A.cap)))) := fun y => Calls.mono (l2Part0_ans hr (by omega) hc (Ty.end_two hok) (by omega) (by omega) (by omega) (row_two1 hr) y) (by
      rintro e w' ⟨v, z, rfl, rfl, own⟩
      obtain ⟨g, c1, rfl, row, hcap, _⟩ := own_some own (Ty.enc_pos _)
      exact ⟨_, z, rfl, rfl, Calls.mono (ihA hok.2.1 hd.2.1 row (by omega) hcap (Ext.self z.w)) fun _ _ q => ans_lift q⟩)
    have P1 : ∀ y : Ext W, Calls Tryd.prog 124 #[.slice (some ⟨b, o, none⟩) (Ty.two cc A B).enc.length c, .int .i64 1] y.w (fun e w' => ∃ (v : Value) (z : Ext W), e = .returned v ∧ w' = z.w ∧ Hid (Calls Tryd.prog 145 #[v] z.w (Ans W (.int .i64 B.cap)))) := fun y => Calls.mono (l2Part1_ans hr (by omega) hc (Ty.end_two hok) (by omega) (by omega) (by omega) (row_two2 hr) y) (by
      rintro e w' ⟨v, z, rfl, rfl, own⟩
      obtain ⟨g, c1, rfl, row, hcap, _⟩ := own_some own (Ty.enc_pos _)
      exact ⟨_, z, rfl, rfl, Calls.mono (ihB hok.2.2 hd.2.2 row (by omega) hcap (Ext.self z.w)) fun _ _ q => ans_lift q⟩)
    have hca := A.cap_le
    have hcb := B.cap_le
    have hab : A.cap * B.cap ≤ 90601 := Nat.mul_le_mul hca hcb
    have hcap1 := Ty.cap_pair A B
    have hcap2 := fun q => Ty.cap_sum cc q A B
    have hlp : 0 < (Ty.two cc A B).enc.length := Ty.enc_pos _
    have hd1 := hd.1
    generalize (Ty.two cc A B).enc.length = len at *
    clear ihA ihB hr hok hd hlen hA hB hl hc
    have hlp' : (0 : Int) < (len : Int) := by omega
    rcases hd1 with rfl | rfl
    · rw [hcap1]
      clear hcap1 hcap2
      rw [show ((min (A.cap * B.cap) 301 : Nat) : Int) = min ((A.cap : Int) * (B.cap : Int)) 301 by rw [← Int.natCast_mul]; omega]
      have hw : IntKind.i64.wrap ((A.cap : Int) * (B.cap : Int)) = (A.cap : Int) * (B.cap : Int) := IntWalk.i64_in _ (by rw [← Int.natCast_mul]; omega)
      clear hab hca hcb
      go_enter Tryd.func145, Tryd.ntmps145
      go_wp2_with (first | (go_at_call 124; (with_reducible refine Calls.mono (P0 _) ?_); rintro e w' ⟨v, yy, rfl, rfl, HC⟩) | (go_at_call 124; (with_reducible refine Calls.mono (P1 _) ?_); rintro e w' ⟨v, yy, rfl, rfl, HC⟩) | (go_at_call 145; (with_reducible refine Calls.mono HC.out ?_); rintro e w' ⟨rfl, yy, rfl⟩) | (go_at_call 171; (with_reducible refine Calls.mono (l1Min_ans _ _ _) ?_); rintro e w' ⟨rfl, yy, rfl⟩))
      go_ret
      exact ⟨rfl, yy, rfl⟩
    · rw [hcap2 (by omega)]
      clear hcap1 hcap2
      rw [show ((min (A.cap + B.cap) 301 : Nat) : Int) = min ((A.cap : Int) + (B.cap : Int)) 301 by omega]
      have hw : IntKind.i64.wrap ((A.cap : Int) + (B.cap : Int)) = (A.cap : Int) + (B.cap : Int) := IntWalk.i64_in _ (by omega)
      clear hab hca hcb
      go_enter Tryd.func145, Tryd.ntmps145
      go_wp2_with (first | (go_at_call 124; (with_reducible refine Calls.mono (P0 _) ?_); rintro e w' ⟨v, yy, rfl, rfl, HC⟩) | (go_at_call 124; (with_reducible refine Calls.mono (P1 _) ?_); rintro e w' ⟨v, yy, rfl, rfl, HC⟩) | (go_at_call 145; (with_reducible refine Calls.mono HC.out ?_); rintro e w' ⟨rfl, yy, rfl⟩) | (go_at_call 171; (with_reducible refine Calls.mono (l1Min_ans _ _ _) ?_); rintro e w' ⟨rfl, yy, rfl⟩))
      go_ret
      exact ⟨rfl, yy, rfl⟩
  | one cc A ihA =>
    intro hok hd W b o c hr hl hc x
    obtain ⟨yy, hyy⟩ : ∃ y : Ext W, x = y := ⟨x, rfl⟩
    rw [hyy]
    clear hyy
    have hA := A.enc_pos
    have hlen := Ty.len_one cc A
    have m0 : ∀ y : Ext W, y.w.cell? ⟨b, o, none⟩ = some (.int .i64 cc) := fun y => y.cell (row_head hr (l' := A.enc) rfl)
    have P0 : ∀ y : Ext W, Calls Tryd.prog 124 #[.slice (some ⟨b, o, none⟩) (Ty.one cc A).enc.length c, .int .i64 0] y.w (fun e w' => ∃ (v : Value) (z : Ext W), e = .returned v ∧ w' = z.w ∧ Hid (Calls Tryd.prog 145 #[v] z.w (Ans W (.int .i64 A.cap)))) := fun y => Calls.mono (l2Part0_ans hr (by omega) hc (Ty.end_one hok) (by omega) (by omega) (by omega) (row_one hr) y) (by
      rintro e w' ⟨v, z, rfl, rfl, own⟩
      obtain ⟨g, c1, rfl, row, hcap, _⟩ := own_some own (Ty.enc_pos _)
      exact ⟨_, z, rfl, rfl, Calls.mono (ihA hok.2 hd row (by omega) hcap (Ext.self z.w)) fun _ _ q => ans_lift q⟩)
    have hbx := Ty.bx_of hok.1
    have n0 : (cc == 0) = false := by rw [beq_eq_false_iff_ne]; unfold Bx at hbx; omega
    have n1 : (cc == 1) = false := by rw [beq_eq_false_iff_ne]; unfold Bx at hbx; omega
    have n2 : (cc == 2) = false := by rw [beq_eq_false_iff_ne]; unfold Bx at hbx; omega
    have hlp : 0 < (Ty.one cc A).enc.length := Ty.enc_pos _
    rw [Ty.cap_one]
    generalize (Ty.one cc A).enc.length = len at *
    clear ihA hr hok hd hlen hA hl hc hbx
    have hlp' : (0 : Int) < (len : Int) := by omega
    go_enter Tryd.func145, Tryd.ntmps145
    go_wp2_with (first | (go_at_call 124; (with_reducible refine Calls.mono (P0 _) ?_); rintro e w' ⟨v, yy, rfl, rfl, HC⟩) | (go_at_call 145; (with_reducible refine Calls.mono HC.out ?_); rintro e w' ⟨rfl, yy, rfl⟩))
    go_ret
    exact ⟨rfl, yy, rfl⟩
end Go.Proofs.YtoefeijnnnioeaaDoor

/- The program's parts of types: slices of the type itself, in a new list. -/
namespace Go.Proofs.YtoefeijnnnioeaaDoor
open Go.RowKit

theorem info_ints : (Tryd.prog.info? 22).map (fun i => (i.zero, i.size, i.bytes)) = some (some (.slice none 0 0), 1, 24) := by kernel_rfl
/-- The slices of a list in which these trees stand one behind the other. -/
def sls (b : Nat) : Nat → List Ty → List Value | _, [] => [] | o, t :: ts => .slice (some ⟨b, o, none⟩) t.enc.length t.enc.length :: sls b (o + t.enc.length) ts
theorem sls_len (b o : Nat) (ts : List Ty) : (sls b o ts).length = ts.length := by
  induction ts generalizing o with
  | nil => rfl
  | cons t ts ih => simp [sls, ih]
theorem encs_append (xs ys : List Ty) : Ty.encs (xs ++ ys) = Ty.encs xs ++ Ty.encs ys := by
  induction xs with
  | nil => rfl
  | cons t ts ih => simp [Ty.encs, ih]
theorem sls_snoc (b o : Nat) (ts : List Ty) (t : Ty) : sls b o (ts ++ [t]) = sls b o ts ++ [.slice (some ⟨b, o + (Ty.encs ts).length, none⟩) t.enc.length t.enc.length] := by
  induction ts generalizing o with
  | nil => simp [sls, Ty.encs]
  | cons u ts ih => simp [sls, ih, Ty.encs, Nat.add_assoc]

theorem Ty.le36 {T : Ty} (h : T.Ok) : ∀ u ∈ T.enc, u ≤ 36 := by
  induction T with
  | leaf => intro u hu; simp [Ty.enc] at hu; omega
  | two c a b iha ihb =>
    intro u hu
    simp [Ty.enc] at hu
    rcases hu with rfl | hu | hu
    · exact (kidsOf_in (by rw [h.1]; omega)).2
    · exact iha h.2.1 u hu
    · exact ihb h.2.2 u hu
  | one c a ih =>
    intro u hu
    simp [Ty.enc] at hu
    rcases hu with rfl | hu
    · exact (kidsOf_in (by rw [h.1]; omega)).2
    · exact ih h.2 u hu
theorem cell_one_is (w : World) (x : Value) (t : TypeId) (n : Nat) (hn : n = w.heap.size) : ∀ j u, [x][j]? = some u → (w.alloc (.cells #[x] t)).cell? ((⟨n, 0, none⟩ : Addr).add j) = some u := by
  subst hn
  exact cell_one_new w x t

set_option maxHeartbeats 4000000 in
theorem partsWithin_ans {W : World} (F : Forms W) {b o c : Nat} {cc : Int} {ps : List Ty} (hok : ∀ t ∈ ps, t.Ok) {l : List Int} (hl : l = cc :: Ty.encs ps) (hr : Row W (Value.int .i64) (some ⟨b, o, none⟩) l) (hl1 : l.length ≤ 1000) (h36 : ∀ u ∈ l, u ≤ 36) (hc : l.length ≤ c) (x : Ext W) :
    Calls Tryd.prog 131 #[.slice (some ⟨b, o, none⟩) l.length c] x.w (NewRow W 51 22 id (sls b (o + 1) ps)) := by
  obtain ⟨i0, hi0, hz0, hz1, hz2⟩ := info_parts info_ints
  have HL := Lib.hid hl
  have hll : l.length = 1 + (Ty.encs ps).length := by rw [hl]; simp; omega
  have HOK := Lib.hid hok
  have HLL := Lib.hid hll
  clear hl hok hll
  go_enter Tryd.func131, Tryd.ntmps131
  go_wp2_with fail
  go_loopw [4, 3] (fun i q wr => ∃ (k : Nat) (dn rs : List Ty) (v : Value), v = q ∧ Hid (ps = dn ++ rs) ∧ i = .int .i64 k ∧ k = 1 + (Ty.encs dn).length ∧ k ≤ l.length ∧ dn.length < k ∧ wr.ownsRow W.heap.size 22 1 v dn.length (sls b (o + 1) dn) ∧ Below W.heap.size W wr) (fun i _ _ => l.length - (intOf i).toNat)
  case atStart => exact ⟨1, [], ps, _, rfl, rfl, rfl, rfl, by have := HLL.out; omega, by simp, World.ownsRow_nil _ _ _ _, x.below⟩
  case round =>
    obtain ⟨k, dn, rs, v, rfl, HPS, rfl, hk, hkl, hdl, hown, hb⟩ := hrel
    have HK := Lib.hid hk
    clear hk
    have hps := HPS.out
    by_cases hlt : k < l.length
    · have hlt' : (k : Int) < (l.length : Int) := by omega
      match rs, HPS, hps with
      | [], HPS, hps =>
        exfalso
        rw [List.append_nil] at hps
        have hll := HLL.out
        have hk := HK.out
        rw [hps] at hll
        omega
      | t :: rs, HPS, hps =>
        have hll := HLL.out
        have hk := HK.out
        have htl : t.enc.length + k ≤ l.length := by rw [hps, encs_append] at hll; simp [Ty.encs] at hll; omega
        have htp := t.enc_pos
        have hend : endOf l k 1 = ((k + t.enc.length : Nat) : Int) := by
          rw [Ty.endOf_enc (t := t) (HOK.out t (by rw [hps]; simp)) (post := Ty.encs rs) (by rw [HL.out, hps, encs_append, hk, Nat.add_comm]; simp [Ty.encs])]
          omega
        have EN : Calls Tryd.prog 150 #[.slice (some ⟨b, o, none⟩) l.length c, .int .i64 k] wr (Ans wr (.int .i64 ((k + t.enc.length : Nat) : Int))) := by
          rw [← hend]
          exact endOfType_ans (F.ext ⟨wr, hb⟩) (hr.ext ⟨wr, hb⟩) h36 hl1 (by omega) (Ext.self wr)
        clear hend
        obtain ⟨e, he⟩ : ∃ e : Nat, e = k + t.enc.length := ⟨_, rfl⟩
        rw [← he] at EN
        have hs : ∀ wx, (Instr.slice 22 (.slice (some ⟨b, o, none⟩) l.length c) (some (.int .i64 (k : Int))) (some (.int .i64 (e : Int))) (some (.int .i64 (e : Int)))).run Tryd.prog wx = .ok (.slice (some ⟨b, o + k, none⟩) t.enc.length t.enc.length) wx := fun wx => by
          have ht : Tryd.prog.underlying 22 = some (.slice (Tryd.prog.elem 22)) := by kernel_rfl
          have hz : (sizeOf (Tryd.prog.elem 22)).run Tryd.prog wx = .ok 1 wx := by kernel_rfl
          have h1 : ¬ e = k := by omega
          have h2 : ¬ k = 0 := by omega
          rw [run_slice_lhm (P := Tryd.prog) wx _ _ _ _ ht _ _ _ _ _ _ (by omega) (by omega) (by omega) (by omega), hz]
          simp [sliced, h1, h2, Addr.add, go_sem]
          omega
        clear hll hk hps htl
        have HE := Lib.hid he
        clear he
        go_wp2_with fail
        refine Calls.mono EN ?_
        rintro e w' ⟨rfl, yy, rfl⟩
        clear EN
        have ho2 := (owns_ext hown yy)
        have hb2 := hb.trans (yy.below.mono hb.size)
        clear hown hb
        have hdl2 : dn.length ≤ 1000 := by omega
        have szy := yy.size
        have szb := hb2.size
        go_wp2_with ((at_builtin; refine wpList_append_own_at _ rfl (.tmp 13) (.tmp 19) 51 rfl W.heap.size 22 i0 (.slice none 0 0) 1 24 Tryd.underlying51 hi0 hz0 hz1 hz2 rfl (by decide) v dn.length (sls b (o + 1) dn) rfl (ho2.alloc _) _ 1 1 [.slice (some ⟨b, o + k, none⟩) t.enc.length t.enc.length] rfl rfl (cell_one_is _ _ _ _ (by simp)) (by intro u hu; simp at hu; subst hu; rfl) (by unfold maxLen; omega) (by omega) (by simp; omega) ?_; intro v' w1 own1 gr1 _ hat1))
        have HB1 : Hid (Below W.heap.size W w1) := (hb2.alloc (by omega) _).grown gr1 (by simp; omega) (fun j hj => (ho2.lt j hj).1)
        have HO1 := Lib.hid own1
        clear own1 gr1 hat1 ho2 hb2
        go_roundw
        case rel =>
          have own1 := HO1.out
          have hk := HK.out
          have he := HE.out
          have htl : t.enc.length + k ≤ l.length := by have hll := HLL.out; rw [HPS.out, encs_append] at hll; simp [Ty.encs] at hll; omega
          refine ⟨e, dn ++ [t], rs, _, rfl, (by show _ = _; rw [HPS.out]; simp), rfl, (by rw [encs_append, he, hk]; simp [Ty.encs]; omega), by omega, by simp; omega, ?_, HB1.out⟩
          rw [sls_snoc, show o + 1 + (Ty.encs dn).length = o + k by omega]
          simpa using own1
        case measure => have := HE.out; simp [intOf]; omega
    · clear hps
      have hps0 := HPS
      have hlt' : ¬ (k : Int) < (l.length : Int) := by omega
      go_wp2
      go_ret
      have hrs : rs = [] := by
        match rs, hps0 with
        | [], _ => rfl
        | t :: rs, hps0 =>
          exfalso
          have htp := t.enc_pos
          have hll := HLL.out
          have hk := HK.out
          rw [hps0.out, encs_append] at hll
          simp [Ty.encs] at hll
          omega
      have hpd : ps = dn := by rw [hps0.out, hrs, List.append_nil]
      rw [hpd]
      refine ⟨_, ⟨_, hb⟩, rfl, rfl, ?_⟩
      rw [sls_len, List.map_id]
      exact hown
end Go.Proofs.YtoefeijnnnioeaaDoor
