/- Texts of one claim, laid together: ValC, ValD, ValM. -/
import Derived.Test.YtoefeijnnnioeaaDoorGS
import Derived.Test.YtoefeijnnnioeaaDoorKSameA
import Derived.Test.YtoefeijnnnioeaaDoorGA
import Derived.Deep.RegionHeld3
import Derived.RegionTactic
import Derived.Deep.Cut
import Derived.Test.YtoefeijnnnioeaaDoorGU
set_option linter.unusedVariables false
set_option linter.unusedSimpArgs false

/- Which terms are values, by the model: sums, right. -/
set_option linter.unusedVariables false
namespace Go.Proofs.YtoefeijnnnioeaaDoor
open Go.RowKit

set_option maxRecDepth 100000 in
set_option maxHeartbeats 16000000 in
theorem l5Sum7_no {A B : Ty} (hok : (Ty.two 2 A B).Ok) (hd : (Ty.two 2 A B).Data) {W : World} {b o c : Nat} (hr : Row W (Value.int .i64) (some ⟨b, o, none⟩) (Ty.two 2 A B).enc) (hl : (Ty.two 2 A B).enc.length ≤ 40) (hc : (Ty.two 2 A B).enc.length ≤ c)
    {lo : Nat} {v : Tm} {r : TV} (hv : TmIn W lo v r) {size vars : Int} {closed : Bool} (ok : OkT size closed vars v) (ho : v.op = 7) (ht : ¬ v.ty = A.enc) (x : Ext W) :
    Calls Tryd.prog 78 #[.slice (some ⟨b, o, none⟩) (Ty.two 2 A B).enc.length c, r.val v] x.w (Ans W (.bool (false))) := by
  obtain ⟨ra, rc, rb, rd⟩ := r
  unfold TV.val
  have hA := A.enc_pos
  have hB := B.enc_pos
  have hlen := Ty.len_two 2 A B
  have HO := Lib.hid ho
  have HT := Lib.hid ht
  clear ho ht
  have hvl : v.ty.length ≤ 40 := ok.node.ty40
  go_enter Tryd.func78, Tryd.ntmps78
  go_upto_region 1 with fail
  generalize hW : x.w.alloc _ = W1
  generalize hB : x.w.heap.size = BQ
  obtain ⟨c0, c1, c2, c3, h1, hback, yy, hy0⟩ := boxedT hv x hB hW
  have hr1 : Row W1 (Value.int .i64) (some ⟨b, o, none⟩) (Ty.two 2 A B).enc := by rw [← hW]; exact hr.ext (x.alloc _)
  clear hW hB
  rw [← hy0]
  clear hy0
  obtain ⟨kr, AT⟩ := h1.out
  have hvrow := AT.row
  have m0 : ∀ y : Ext W1, y.w.cell? ⟨b, o, none⟩ = some (.int .i64 (2)) := fun y => y.cell (row_head hr1 (l' := A.enc ++ B.enc) rfl)
  have n0 := c0
  have n1 := c1
  have n2 := c2
  have n3 := c3
  clear c0 c1 c2 c3
  have P0 : ∀ y : Ext W1, Calls Tryd.prog 124 #[.slice (some ⟨b, o, none⟩) (Ty.two 2 A B).enc.length c, .int .i64 0] y.w (fun e w' => ∃ (pv : Value) (z : Ext W1), e = .returned pv ∧ w' = z.w ∧ Hid (Calls Tryd.prog 125 #[.slice ra v.ty.length rc, pv] z.w (Ans W1 (.bool (false))))) := fun y => Calls.mono (l2Part0_ans (W := y.w) (hr1.ext y) (by omega) hc (Ty.end_two hok) (by omega) (by omega) (by omega) (row_two1 (hr1.ext y)) (Ext.self y.w)) (by
    rintro e w' ⟨pv, z, rfl, rfl, own⟩
    obtain ⟨g, gc, rfl, row, hcap, _⟩ := own_some own (Ty.enc_pos _)
    exact ⟨_, y.trans z, rfl, rfl, by have h := l1Same_ans (W := z.w) ((hvrow.ext y).ext z) row (by omega) false (c := rc) (d := gc) (by refine iff_tf ?_; exact HT.out) (Ext.self z.w); exact Calls.mono h fun _ _ q => ans_lift (z := y.trans z) q⟩)
  clear n3 AT hvrow
  have hlp : 0 < (Ty.two 2 A B).enc.length := Ty.enc_pos _
  generalize (Ty.two 2 A B).enc.length = len at *
  clear hr hok hd hl hc hr1 hv h1 ok hA hB hlen hvl
  have hlp' : (0 : Int) < (len : Int) := by omega
  have f6 : (v.op == 6) = false := by rw [HO.out]; decide
  have f7 : (v.op == 7) = true := by rw [HO.out]; decide
  go_upto_region 9 with fail
  refine wp_region_held_drew (S := (fun w' => w'.cell? ⟨BQ, 0, none⟩ = some (.int .i64 v.op) ∧ w'.cell? ⟨BQ, 1, none⟩ = some (.int .i64 v.n) ∧ w'.cell? ⟨BQ, 2, none⟩ = some (.slice ra v.ty.length rc))) (by kernel_rfl) ?_ (fun hHeld => ?_)
  · (try dsimp only)
    first | (with_reducible exact ⟨n0 yy.drew, n1 yy.drew, n2 yy.drew⟩) | (with_reducible exact ⟨n0 zz, n1 zz, n2 zz⟩)
  refine wpAnyH_take (i := 0) (v := ?_) rfl (by kernel_rfl) (by kernel_rfl) (by kernel_rfl) (fun _ _ _ h => h) (Or.inl ⟨by rfl, ?_⟩) hHeld ?_
  rotate_left
  · intro w hSw; (try dsimp only at hSw); (try simp only [List.getElem_toArray, List.getElem_cons_zero]); first | (go_simp; done) | (go_simp; with_reducible rfl)
  try simp only [List.getElem_toArray, List.getElem_cons_zero, Act.put, List.setIfInBounds_toArray, List.set_cons_zero, List.set_cons_succ]
  refine wpAnyH_take (i := 1) (v := ?_) rfl (by kernel_rfl) (by kernel_rfl) (by kernel_rfl) (fun _ _ _ h => h) (Or.inl ⟨by rfl, ?_⟩) hHeld ?_
  rotate_left
  · intro w hSw; (try dsimp only at hSw); (try simp only [List.getElem_toArray, List.getElem_cons_succ, List.getElem_cons_zero]); first | (go_simp; done) | (go_simp; with_reducible rfl)
  try simp only [List.getElem_toArray, List.getElem_cons_succ, List.getElem_cons_zero, Act.put, List.setIfInBounds_toArray, List.set_cons_zero, List.set_cons_succ]
  refine wpAnyH_take (i := 2) (v := ?_) rfl (by kernel_rfl) (by kernel_rfl) (by kernel_rfl) (fun _ _ _ h => h) (Or.inl ⟨by rfl, ?_⟩) hHeld ?_
  rotate_left
  · intro w hSw; (try dsimp only at hSw); (try simp only [List.getElem_toArray, List.getElem_cons_succ, List.getElem_cons_zero]); first | (go_simp; done) | (go_simp; with_reducible rfl)
  try simp only [List.getElem_toArray, List.getElem_cons_succ, List.getElem_cons_zero, Act.put, List.setIfInBounds_toArray, List.set_cons_zero, List.set_cons_succ]
  refine wpAnyH_take (i := 3) (v := ?_) rfl (by kernel_rfl) (by kernel_rfl) (by kernel_rfl) (fun _ _ _ h => h) (Or.inl ⟨by rfl, ?_⟩) hHeld ?_
  rotate_left
  · intro w hSw; (try dsimp only at hSw); (try simp only [List.getElem_toArray, List.getElem_cons_succ, List.getElem_cons_zero]); first | (go_simp; done) | (go_simp; with_reducible rfl)
  try simp only [List.getElem_toArray, List.getElem_cons_succ, List.getElem_cons_zero, Act.put, List.setIfInBounds_toArray, List.set_cons_zero, List.set_cons_succ]
  refine wpAnyH_take (i := 4) (v := ?_) rfl (by kernel_rfl) (by kernel_rfl) (by kernel_rfl) (fun _ _ _ h => h) (Or.inl ⟨by rfl, ?_⟩) hHeld ?_
  rotate_left
  · intro w hSw; (try dsimp only at hSw); (try simp only [List.getElem_toArray, List.getElem_cons_succ, List.getElem_cons_zero]); first | (go_simp; done) | (go_simp; with_reducible rfl)
  try simp only [List.getElem_toArray, List.getElem_cons_succ, List.getElem_cons_zero, Act.put, List.setIfInBounds_toArray, List.set_cons_zero, List.set_cons_succ]
  refine wpAnyH_take (i := 5) (v := ?_) rfl (by kernel_rfl) (by kernel_rfl) (by kernel_rfl) (fun _ _ _ h => h) (Or.inl ⟨by rfl, ?_⟩) hHeld ?_
  rotate_left
  · intro w hSw; (try dsimp only at hSw); (try simp only [List.getElem_toArray, List.getElem_cons_succ, List.getElem_cons_zero]); first | (go_simp; done) | (go_simp; with_reducible rfl)
  try simp only [List.getElem_toArray, List.getElem_cons_succ, List.getElem_cons_zero, Act.put, List.setIfInBounds_toArray, List.set_cons_zero, List.set_cons_succ]
  refine wpAnyH_take (i := 6) (v := ?_) rfl (by kernel_rfl) (by kernel_rfl) (by kernel_rfl) (fun _ _ _ h => h) (Or.inl ⟨by rfl, ?_⟩) hHeld ?_
  rotate_left
  · intro w hSw; (try dsimp only at hSw); (try simp only [List.getElem_toArray, List.getElem_cons_succ, List.getElem_cons_zero]); first | (go_simp; done) | (go_simp; with_reducible rfl)
  try simp only [List.getElem_toArray, List.getElem_cons_succ, List.getElem_cons_zero, Act.put, List.setIfInBounds_toArray, List.set_cons_zero, List.set_cons_succ]
  refine wpAnyH_ready (rs := [7]) (by kernel_rfl) (by simp) ?_
  refine AllReadyH.cons rfl (fun K hK => ?_) AllReadyH.nil
  try simp only [List.getElem_toArray, List.getElem_cons_succ, List.getElem_cons_zero]
  go_simp
  (with_reducible refine Calls.mono (P0 yy.drew) ?_)
  rintro e w' ⟨pv, zz, rfl, rfl, HC⟩
  (try dsimp only)
  refine hK.out _ _ ?_ (fun hHeld2 => ?_)
  · (try dsimp only)
    first | (with_reducible exact ⟨n0 yy.drew, n1 yy.drew, n2 yy.drew⟩) | (with_reducible exact ⟨n0 zz, n1 zz, n2 zz⟩)
  clear hK K hHeld
  have hHeld := hHeld2
  clear hHeld2
  try simp only [List.getElem_toArray, List.getElem_cons_succ, List.getElem_cons_zero, Act.put, List.setIfInBounds_toArray, List.set_cons_zero, List.set_cons_succ]
  refine wpAnyH_ready (rs := [8]) (by kernel_rfl) (by simp) ?_
  refine AllReadyH.cons rfl (fun K hK => ?_) AllReadyH.nil
  try simp only [List.getElem_toArray, List.getElem_cons_succ, List.getElem_cons_zero]
  go_simp
  (with_reducible refine Calls.mono HC.out ?_)
  rintro e w' ⟨rfl, zz, rfl⟩
  (try dsimp only)
  refine hK.out _ _ ?_ (fun hHeld2 => ?_)
  · (try dsimp only)
    first | (with_reducible exact ⟨n0 yy.drew, n1 yy.drew, n2 yy.drew⟩) | (with_reducible exact ⟨n0 zz, n1 zz, n2 zz⟩)
  clear hK K hHeld
  have hHeld := hHeld2
  clear hHeld2
  try simp only [List.getElem_toArray, List.getElem_cons_succ, List.getElem_cons_zero, Act.put, List.setIfInBounds_toArray, List.set_cons_zero, List.set_cons_succ]
  refine wpAnyH_take (i := 9) (v := ?_) rfl (by kernel_rfl) (by kernel_rfl) (by kernel_rfl) (fun _ _ _ h => h) (Or.inl ⟨by rfl, ?_⟩) hHeld ?_
  rotate_left
  · intro w hSw; (try dsimp only at hSw); (try simp only [List.getElem_toArray, List.getElem_cons_succ, List.getElem_cons_zero]); first | (go_simp; done) | (go_simp; with_reducible rfl)
  try simp only [List.getElem_toArray, List.getElem_cons_succ, List.getElem_cons_zero, Act.put, List.setIfInBounds_toArray, List.set_cons_zero, List.set_cons_succ]
  refine wpAnyH_take (i := 10) (v := ?_) rfl (by kernel_rfl) (by kernel_rfl) (by kernel_rfl) (fun _ _ _ h => h) (Or.inl ⟨by rfl, ?_⟩) hHeld ?_
  rotate_left
  · intro w hSw; (try dsimp only at hSw); (try simp only [List.getElem_toArray, List.getElem_cons_succ, List.getElem_cons_zero]); first | (go_simp; done) | (go_simp; with_reducible rfl)
  try simp only [List.getElem_toArray, List.getElem_cons_succ, List.getElem_cons_zero, Act.put, List.setIfInBounds_toArray, List.set_cons_zero, List.set_cons_succ]
  refine wpAnyH_take (i := 11) (v := undef) rfl (by kernel_rfl) (by kernel_rfl) (by kernel_rfl) (fun _ _ _ h => h) (Or.inr ⟨by rfl, rfl⟩) hHeld ?_
  try simp only [List.getElem_toArray, List.getElem_cons_succ, List.getElem_cons_zero, Act.put, List.setIfInBounds_toArray, List.set_cons_zero, List.set_cons_succ]
  refine wpAnyH_take (i := 12) (v := undef) rfl (by kernel_rfl) (by kernel_rfl) (by kernel_rfl) (fun _ _ _ h => h) (Or.inr ⟨by rfl, rfl⟩) hHeld ?_
  try simp only [List.getElem_toArray, List.getElem_cons_succ, List.getElem_cons_zero, Act.put, List.setIfInBounds_toArray, List.set_cons_zero, List.set_cons_succ]
  refine wpAnyH_take (i := 13) (v := undef) rfl (by kernel_rfl) (by kernel_rfl) (by kernel_rfl) (fun _ _ _ h => h) (Or.inr ⟨by rfl, rfl⟩) hHeld ?_
  try simp only [List.getElem_toArray, List.getElem_cons_succ, List.getElem_cons_zero, Act.put, List.setIfInBounds_toArray, List.set_cons_zero, List.set_cons_succ]
  refine wpAnyH_take (i := 14) (v := undef) rfl (by kernel_rfl) (by kernel_rfl) (by kernel_rfl) (fun _ _ _ h => h) (Or.inr ⟨by rfl, rfl⟩) hHeld ?_
  try simp only [List.getElem_toArray, List.getElem_cons_succ, List.getElem_cons_zero, Act.put, List.setIfInBounds_toArray, List.set_cons_zero, List.set_cons_succ]
  refine wpAnyH_take (i := 15) (v := undef) rfl (by kernel_rfl) (by kernel_rfl) (by kernel_rfl) (fun _ _ _ h => h) (Or.inr ⟨by rfl, rfl⟩) hHeld ?_
  try simp only [List.getElem_toArray, List.getElem_cons_succ, List.getElem_cons_zero, Act.put, List.setIfInBounds_toArray, List.set_cons_zero, List.set_cons_succ]
  refine wpAnyH_take (i := 16) (v := undef) rfl (by kernel_rfl) (by kernel_rfl) (by kernel_rfl) (fun _ _ _ h => h) (Or.inr ⟨by rfl, rfl⟩) hHeld ?_
  try simp only [List.getElem_toArray, List.getElem_cons_succ, List.getElem_cons_zero, Act.put, List.setIfInBounds_toArray, List.set_cons_zero, List.set_cons_succ]
  refine wpAnyH_take (i := 17) (v := undef) rfl (by kernel_rfl) (by kernel_rfl) (by kernel_rfl) (fun _ _ _ h => h) (Or.inr ⟨by rfl, rfl⟩) hHeld ?_
  try simp only [List.getElem_toArray, List.getElem_cons_succ, List.getElem_cons_zero, Act.put, List.setIfInBounds_toArray, List.set_cons_zero, List.set_cons_succ]
  refine wpAnyH_take (i := 18) (v := ?_) rfl (by kernel_rfl) (by kernel_rfl) (by kernel_rfl) (fun _ _ _ h => h) (Or.inl ⟨by rfl, ?_⟩) hHeld ?_
  rotate_left
  · intro w hSw; (try dsimp only at hSw); (try simp only [List.getElem_toArray, List.getElem_cons_succ, List.getElem_cons_zero]); first | (go_simp; done) | (go_simp; with_reducible rfl)
  try simp only [List.getElem_toArray, List.getElem_cons_succ, List.getElem_cons_zero, Act.put, List.setIfInBounds_toArray, List.set_cons_zero, List.set_cons_succ]
  refine wpAnyH_take (i := 19) (v := ?_) rfl (by kernel_rfl) (by kernel_rfl) (by kernel_rfl) (fun _ _ _ h => h) (Or.inl ⟨by rfl, ?_⟩) hHeld ?_
  rotate_left
  · intro w hSw; (try dsimp only at hSw); (try simp only [List.getElem_toArray, List.getElem_cons_succ, List.getElem_cons_zero]); first | (go_simp; done) | (go_simp; with_reducible rfl)
  try simp only [List.getElem_toArray, List.getElem_cons_succ, List.getElem_cons_zero, Act.put, List.setIfInBounds_toArray, List.set_cons_zero, List.set_cons_succ]
  refine wpAnyH_done (by kernel_rfl) ?_ _
  go_wp2_with fail
  go_ret
  exact ⟨rfl, hback zz⟩

set_option maxRecDepth 100000 in
set_option maxHeartbeats 16000000 in
theorem l5Sum7_f {A B : Ty} (ihB : B.Ok → B.Data → ∀ {W : World} {b o c : Nat} (_ : Row W (Value.int .i64) (some ⟨b, o, none⟩) B.enc) (_ : B.enc.length ≤ 40) (_ : B.enc.length ≤ c) {lo : Nat} {v : Tm} {r : TV} (_ : TmIn W lo v r) {size vars : Int} {closed : Bool} (_ : OkT size closed vars v) (x : Ext W), Calls Tryd.prog 78 #[.slice (some ⟨b, o, none⟩) B.enc.length c, r.val v] x.w (Ans W (.bool (B.place v).isSome))) (hok : (Ty.two 2 A B).Ok) (hd : (Ty.two 2 A B).Data) {W : World} {b o c : Nat} (hr : Row W (Value.int .i64) (some ⟨b, o, none⟩) (Ty.two 2 A B).enc) (hl : (Ty.two 2 A B).enc.length ≤ 40) (hc : (Ty.two 2 A B).enc.length ≤ c)
    {lo : Nat} {v : Tm} {r : TV} (hv : TmIn W lo v r) {size vars : Int} {closed : Bool} (ok : OkT size closed vars v) (ho : v.op = 7) (ht : v.ty = A.enc) {k0 : Tm} (hk : v.kids = [k0]) (hoa : (B.place k0).isSome = false) (x : Ext W) :
    Calls Tryd.prog 78 #[.slice (some ⟨b, o, none⟩) (Ty.two 2 A B).enc.length c, r.val v] x.w (Ans W (.bool (false))) := by
  obtain ⟨ra, rc, rb, rd⟩ := r
  unfold TV.val
  have hA := A.enc_pos
  have hB := B.enc_pos
  have hlen := Ty.len_two 2 A B
  have ok0 := ok.kid (i := 0) (k := k0) (by rw [hk]; rfl)
  have HK := Lib.hid hk
  have HO0 := Lib.hid hoa
  clear hk hoa
  have HO := Lib.hid ho
  have HT := Lib.hid ht
  clear ho ht
  have hvl : v.ty.length ≤ 40 := ok.node.ty40
  go_enter Tryd.func78, Tryd.ntmps78
  go_upto_region 1 with fail
  generalize hW : x.w.alloc _ = W1
  generalize hB : x.w.heap.size = BQ
  obtain ⟨c0, c1, c2, c3, h1, hback, yy, hy0⟩ := boxedT hv x hB hW
  have hr1 : Row W1 (Value.int .i64) (some ⟨b, o, none⟩) (Ty.two 2 A B).enc := by rw [← hW]; exact hr.ext (x.alloc _)
  clear hW hB
  rw [← hy0]
  clear hy0
  obtain ⟨kr, AT⟩ := h1.out
  have hvrow := AT.row
  have m0 : ∀ y : Ext W1, y.w.cell? ⟨b, o, none⟩ = some (.int .i64 (2)) := fun y => y.cell (row_head hr1 (l' := A.enc ++ B.enc) rfl)
  have n0 := c0
  have n1 := c1
  have n2 := c2
  have n3 := c3
  clear c0 c1 c2 c3
  obtain ⟨bb, oo, hrb, KK⟩ := AT.kid 0 k0 (by rw [HK.out]; rfl)
  have hs0 := AT.sub 0 k0 (by rw [HK.out]; rfl)
  dsimp only at hrb
  obtain ⟨kb, hkb⟩ : ∃ z, z = bb := ⟨_, rfl⟩
  obtain ⟨ko, hko⟩ : ∃ z, z = oo := ⟨_, rfl⟩
  rw [← hkb, ← hko] at KK hrb
  clear hkb hko bb oo
  have HR := hrb
  clear hrb
  have d00 : ∀ u : Ext W1, u.w.cell? ⟨kb, ko, none⟩ = some (.int .i64 k0.op) := fun u => by have := u.cell KK.c0; simpa using this
  have d01 : ∀ u : Ext W1, u.w.cell? ⟨kb, ko + 1, none⟩ = some (.int .i64 k0.n) := fun u => by have := u.cell KK.c1; simpa using this
  have d02 : ∀ u : Ext W1, u.w.cell? ⟨kb, ko + 2, none⟩ = some (.slice (kr 0).a k0.ty.length (kr 0).c) := fun u => by have := u.cell KK.c2; simpa using this
  have d03 : ∀ u : Ext W1, u.w.cell? ⟨kb, ko + 3, none⟩ = some (.slice (kr 0).b k0.kids.length (kr 0).d) := fun u => by have := u.cell KK.c3; simpa using this
  clear KK
  have hlk : v.kids.length = 1 := by rw [HK.out]; rfl
  have hlk' : (v.kids.length : Int) = 1 := by rw [hlk]; rfl
  have m3 : ∀ u : Ext W1, u.w.cell? ⟨BQ, 3, none⟩ = some (.slice (some ⟨kb, ko, none⟩) 1 rd) := fun u => by rw [n3 u, HR, hlk]
  have P0 : ∀ y : Ext W1, Calls Tryd.prog 124 #[.slice (some ⟨b, o, none⟩) (Ty.two 2 A B).enc.length c, .int .i64 0] y.w (fun e w' => ∃ (pv : Value) (z : Ext W1), e = .returned pv ∧ w' = z.w ∧ Hid (Calls Tryd.prog 125 #[.slice ra v.ty.length rc, pv] z.w (Ans W1 (.bool (true))))) := fun y => Calls.mono (l2Part0_ans (W := y.w) (hr1.ext y) (by omega) hc (Ty.end_two hok) (by omega) (by omega) (by omega) (row_two1 (hr1.ext y)) (Ext.self y.w)) (by
    rintro e w' ⟨pv, z, rfl, rfl, own⟩
    obtain ⟨g, gc, rfl, row, hcap, _⟩ := own_some own (Ty.enc_pos _)
    exact ⟨_, y.trans z, rfl, rfl, by have h := l1Same_ans (W := z.w) ((hvrow.ext y).ext z) row (by omega) true (c := rc) (d := gc) (by refine iff_tf ?_; exact HT.out) (Ext.self z.w); exact Calls.mono h fun _ _ q => ans_lift (z := y.trans z) q⟩)
  have P1 : ∀ y : Ext W1, Calls Tryd.prog 124 #[.slice (some ⟨b, o, none⟩) (Ty.two 2 A B).enc.length c, .int .i64 1] y.w (fun e w' => ∃ (pv : Value) (z : Ext W1), e = .returned pv ∧ w' = z.w ∧ Hid (Calls Tryd.prog 78 #[pv, (.agg #[.int .i64 k0.op, .int .i64 k0.n, .slice (kr 0).a k0.ty.length (kr 0).c, .slice (kr 0).b k0.kids.length (kr 0).d])] z.w (Ans W1 (.bool (false))))) := fun y => Calls.mono (l2Part1_ans (W := y.w) (hr1.ext y) (by omega) hc (Ty.end_two hok) (by omega) (by omega) (by omega) (row_two2 (hr1.ext y)) (Ext.self y.w)) (by
    rintro e w' ⟨pv, z, rfl, rfl, own⟩
    obtain ⟨g, gc, rfl, row, hcap, _⟩ := own_some own (Ty.enc_pos _)
    exact ⟨_, y.trans z, rfl, rfl, by have h := ihB hok.2.2 hd.2.2 (W := z.w) row (by omega) hcap ((hs0.ext y).ext z) ok0 (Ext.self z.w); rw [HO0.out] at h; exact Calls.mono h fun _ _ q => ans_lift (z := y.trans z) q⟩)
  clear n3 hlk hlk' HR AT hs0 hvrow
  have hlp : 0 < (Ty.two 2 A B).enc.length := Ty.enc_pos _
  generalize (Ty.two 2 A B).enc.length = len at *
  clear hr hok hd hl hc hr1 hv h1 ok hA hB hlen hvl ok0 ihB
  have hlp' : (0 : Int) < (len : Int) := by omega
  have f6 : (v.op == 6) = false := by rw [HO.out]; decide
  have f7 : (v.op == 7) = true := by rw [HO.out]; decide
  go_upto_region 9 with fail
  refine wp_region_held_drew (S := (fun w' => w'.cell? ⟨BQ, 0, none⟩ = some (.int .i64 v.op) ∧ w'.cell? ⟨BQ, 1, none⟩ = some (.int .i64 v.n) ∧ w'.cell? ⟨BQ, 2, none⟩ = some (.slice ra v.ty.length rc) ∧ w'.cell? ⟨BQ, 3, none⟩ = some (.slice (some ⟨kb, ko, none⟩) 1 rd) ∧ w'.cell? ⟨kb, ko, none⟩ = some (.int .i64 k0.op) ∧ w'.cell? ⟨kb, ko + 1, none⟩ = some (.int .i64 k0.n) ∧ w'.cell? ⟨kb, ko + 2, none⟩ = some (.slice (kr 0).a k0.ty.length (kr 0).c) ∧ w'.cell? ⟨kb, ko + 3, none⟩ = some (.slice (kr 0).b k0.kids.length (kr 0).d))) (by kernel_rfl) ?_ (fun hHeld => ?_)
  · (try dsimp only)
    first | (with_reducible exact ⟨n0 yy.drew, n1 yy.drew, n2 yy.drew, m3 yy.drew, d00 yy.drew, d01 yy.drew, d02 yy.drew, d03 yy.drew⟩) | (with_reducible exact ⟨n0 zz, n1 zz, n2 zz, m3 zz, d00 zz, d01 zz, d02 zz, d03 zz⟩)
  refine wpAnyH_take (i := 0) (v := ?_) rfl (by kernel_rfl) (by kernel_rfl) (by kernel_rfl) (fun _ _ _ h => h) (Or.inl ⟨by rfl, ?_⟩) hHeld ?_
  rotate_left
  · intro w hSw; (try dsimp only at hSw); (try simp only [List.getElem_toArray, List.getElem_cons_zero]); first | (go_simp; done) | (go_simp; with_reducible rfl)
  try simp only [List.getElem_toArray, List.getElem_cons_zero, Act.put, List.setIfInBounds_toArray, List.set_cons_zero, List.set_cons_succ]
  refine wpAnyH_take (i := 1) (v := ?_) rfl (by kernel_rfl) (by kernel_rfl) (by kernel_rfl) (fun _ _ _ h => h) (Or.inl ⟨by rfl, ?_⟩) hHeld ?_
  rotate_left
  · intro w hSw; (try dsimp only at hSw); (try simp only [List.getElem_toArray, List.getElem_cons_succ, List.getElem_cons_zero]); first | (go_simp; done) | (go_simp; with_reducible rfl)
  try simp only [List.getElem_toArray, List.getElem_cons_succ, List.getElem_cons_zero, Act.put, List.setIfInBounds_toArray, List.set_cons_zero, List.set_cons_succ]
  refine wpAnyH_take (i := 2) (v := ?_) rfl (by kernel_rfl) (by kernel_rfl) (by kernel_rfl) (fun _ _ _ h => h) (Or.inl ⟨by rfl, ?_⟩) hHeld ?_
  rotate_left
  · intro w hSw; (try dsimp only at hSw); (try simp only [List.getElem_toArray, List.getElem_cons_succ, List.getElem_cons_zero]); first | (go_simp; done) | (go_simp; with_reducible rfl)
  try simp only [List.getElem_toArray, List.getElem_cons_succ, List.getElem_cons_zero, Act.put, List.setIfInBounds_toArray, List.set_cons_zero, List.set_cons_succ]
  refine wpAnyH_take (i := 3) (v := ?_) rfl (by kernel_rfl) (by kernel_rfl) (by kernel_rfl) (fun _ _ _ h => h) (Or.inl ⟨by rfl, ?_⟩) hHeld ?_
  rotate_left
  · intro w hSw; (try dsimp only at hSw); (try simp only [List.getElem_toArray, List.getElem_cons_succ, List.getElem_cons_zero]); first | (go_simp; done) | (go_simp; with_reducible rfl)
  try simp only [List.getElem_toArray, List.getElem_cons_succ, List.getElem_cons_zero, Act.put, List.setIfInBounds_toArray, List.set_cons_zero, List.set_cons_succ]
  refine wpAnyH_take (i := 4) (v := ?_) rfl (by kernel_rfl) (by kernel_rfl) (by kernel_rfl) (fun _ _ _ h => h) (Or.inl ⟨by rfl, ?_⟩) hHeld ?_
  rotate_left
  · intro w hSw; (try dsimp only at hSw); (try simp only [List.getElem_toArray, List.getElem_cons_succ, List.getElem_cons_zero]); first | (go_simp; done) | (go_simp; with_reducible rfl)
  try simp only [List.getElem_toArray, List.getElem_cons_succ, List.getElem_cons_zero, Act.put, List.setIfInBounds_toArray, List.set_cons_zero, List.set_cons_succ]
  refine wpAnyH_take (i := 5) (v := ?_) rfl (by kernel_rfl) (by kernel_rfl) (by kernel_rfl) (fun _ _ _ h => h) (Or.inl ⟨by rfl, ?_⟩) hHeld ?_
  rotate_left
  · intro w hSw; (try dsimp only at hSw); (try simp only [List.getElem_toArray, List.getElem_cons_succ, List.getElem_cons_zero]); first | (go_simp; done) | (go_simp; with_reducible rfl)
  try simp only [List.getElem_toArray, List.getElem_cons_succ, List.getElem_cons_zero, Act.put, List.setIfInBounds_toArray, List.set_cons_zero, List.set_cons_succ]
  refine wpAnyH_take (i := 6) (v := ?_) rfl (by kernel_rfl) (by kernel_rfl) (by kernel_rfl) (fun _ _ _ h => h) (Or.inl ⟨by rfl, ?_⟩) hHeld ?_
  rotate_left
  · intro w hSw; (try dsimp only at hSw); (try simp only [List.getElem_toArray, List.getElem_cons_succ, List.getElem_cons_zero]); first | (go_simp; done) | (go_simp; with_reducible rfl)
  try simp only [List.getElem_toArray, List.getElem_cons_succ, List.getElem_cons_zero, Act.put, List.setIfInBounds_toArray, List.set_cons_zero, List.set_cons_succ]
  refine wpAnyH_ready (rs := [7]) (by kernel_rfl) (by simp) ?_
  refine AllReadyH.cons rfl (fun K hK => ?_) AllReadyH.nil
  try simp only [List.getElem_toArray, List.getElem_cons_succ, List.getElem_cons_zero]
  go_simp
  (with_reducible refine Calls.mono (P0 yy.drew) ?_)
  rintro e w' ⟨pv, zz, rfl, rfl, HC⟩
  (try dsimp only)
  refine hK.out _ _ ?_ (fun hHeld2 => ?_)
  · (try dsimp only)
    first | (with_reducible exact ⟨n0 yy.drew, n1 yy.drew, n2 yy.drew, m3 yy.drew, d00 yy.drew, d01 yy.drew, d02 yy.drew, d03 yy.drew⟩) | (with_reducible exact ⟨n0 zz, n1 zz, n2 zz, m3 zz, d00 zz, d01 zz, d02 zz, d03 zz⟩)
  clear hK K hHeld
  have hHeld := hHeld2
  clear hHeld2
  try simp only [List.getElem_toArray, List.getElem_cons_succ, List.getElem_cons_zero, Act.put, List.setIfInBounds_toArray, List.set_cons_zero, List.set_cons_succ]
  refine wpAnyH_ready (rs := [8]) (by kernel_rfl) (by simp) ?_
  refine AllReadyH.cons rfl (fun K hK => ?_) AllReadyH.nil
  try simp only [List.getElem_toArray, List.getElem_cons_succ, List.getElem_cons_zero]
  go_simp
  (with_reducible refine Calls.mono HC.out ?_)
  rintro e w' ⟨rfl, zz, rfl⟩
  (try dsimp only)
  refine hK.out _ _ ?_ (fun hHeld2 => ?_)
  · (try dsimp only)
    first | (with_reducible exact ⟨n0 yy.drew, n1 yy.drew, n2 yy.drew, m3 yy.drew, d00 yy.drew, d01 yy.drew, d02 yy.drew, d03 yy.drew⟩) | (with_reducible exact ⟨n0 zz, n1 zz, n2 zz, m3 zz, d00 zz, d01 zz, d02 zz, d03 zz⟩)
  clear hK K hHeld
  have hHeld := hHeld2
  clear hHeld2
  try simp only [List.getElem_toArray, List.getElem_cons_succ, List.getElem_cons_zero, Act.put, List.setIfInBounds_toArray, List.set_cons_zero, List.set_cons_succ]
  refine wpAnyH_take (i := 9) (v := ?_) rfl (by kernel_rfl) (by kernel_rfl) (by kernel_rfl) (fun _ _ _ h => h) (Or.inl ⟨by rfl, ?_⟩) hHeld ?_
  rotate_left
  · intro w hSw; (try dsimp only at hSw); (try simp only [List.getElem_toArray, List.getElem_cons_succ, List.getElem_cons_zero]); first | (go_simp; done) | (go_simp; with_reducible rfl)
  try simp only [List.getElem_toArray, List.getElem_cons_succ, List.getElem_cons_zero, Act.put, List.setIfInBounds_toArray, List.set_cons_zero, List.set_cons_succ]
  refine wpAnyH_take (i := 10) (v := ?_) rfl (by kernel_rfl) (by kernel_rfl) (by kernel_rfl) (fun _ _ _ h => h) (Or.inl ⟨by rfl, ?_⟩) hHeld ?_
  rotate_left
  · intro w hSw; (try dsimp only at hSw); (try simp only [List.getElem_toArray, List.getElem_cons_succ, List.getElem_cons_zero]); first | (go_simp; done) | (go_simp; with_reducible rfl)
  try simp only [List.getElem_toArray, List.getElem_cons_succ, List.getElem_cons_zero, Act.put, List.setIfInBounds_toArray, List.set_cons_zero, List.set_cons_succ]
  refine wpAnyH_take (i := 11) (v := ?_) rfl (by kernel_rfl) (by kernel_rfl) (by kernel_rfl) (fun _ _ _ h => h) (Or.inl ⟨by rfl, ?_⟩) hHeld ?_
  rotate_left
  · intro w hSw; (try dsimp only at hSw); (try simp only [List.getElem_toArray, List.getElem_cons_succ, List.getElem_cons_zero]); first | (go_simp; done) | (go_simp; with_reducible rfl)
  try simp only [List.getElem_toArray, List.getElem_cons_succ, List.getElem_cons_zero, Act.put, List.setIfInBounds_toArray, List.set_cons_zero, List.set_cons_succ]
  refine wpAnyH_take (i := 13) (v := ?_) rfl (by kernel_rfl) (by kernel_rfl) (by kernel_rfl) (fun _ _ _ h => h) (Or.inl ⟨by rfl, ?_⟩) hHeld ?_
  rotate_left
  · intro w hSw; (try dsimp only at hSw); (try simp only [List.getElem_toArray, List.getElem_cons_succ, List.getElem_cons_zero]); first | (go_simp; done) | (go_simp; with_reducible rfl)
  try simp only [List.getElem_toArray, List.getElem_cons_succ, List.getElem_cons_zero, Act.put, List.setIfInBounds_toArray, List.set_cons_zero, List.set_cons_succ]
  refine wpAnyH_take (i := 14) (v := ?_) rfl (by kernel_rfl) (by kernel_rfl) (by kernel_rfl) (fun _ _ _ h => h) (Or.inl ⟨by rfl, ?_⟩) hHeld ?_
  rotate_left
  · intro w hSw; (try dsimp only at hSw); (try simp only [List.getElem_toArray, List.getElem_cons_succ, List.getElem_cons_zero]); first | (go_simp; done) | (go_simp; with_reducible rfl)
  try simp only [List.getElem_toArray, List.getElem_cons_succ, List.getElem_cons_zero, Act.put, List.setIfInBounds_toArray, List.set_cons_zero, List.set_cons_succ]
  refine wpAnyH_take (i := 15) (v := ?_) rfl (by kernel_rfl) (by kernel_rfl) (by kernel_rfl) (fun _ _ _ h => h) (Or.inl ⟨by rfl, ?_⟩) hHeld ?_
  rotate_left
  · intro w hSw; (try dsimp only at hSw); (try simp only [List.getElem_toArray, List.getElem_cons_succ, List.getElem_cons_zero]); first | (go_simp; done) | (go_simp; with_reducible rfl)
  try simp only [List.getElem_toArray, List.getElem_cons_succ, List.getElem_cons_zero, Act.put, List.setIfInBounds_toArray, List.set_cons_zero, List.set_cons_succ]
  refine wpAnyH_take (i := 16) (v := ?_) rfl (by kernel_rfl) (by kernel_rfl) (by kernel_rfl) (fun _ _ _ h => h) (Or.inl ⟨by rfl, ?_⟩) hHeld ?_
  rotate_left
  · intro w hSw; (try dsimp only at hSw); (try simp only [List.getElem_toArray, List.getElem_cons_succ, List.getElem_cons_zero]); first | (go_simp; done) | (go_simp; with_reducible rfl)
  try simp only [List.getElem_toArray, List.getElem_cons_succ, List.getElem_cons_zero, Act.put, List.setIfInBounds_toArray, List.set_cons_zero, List.set_cons_succ]
  refine wpAnyH_ready (rs := [12]) (by kernel_rfl) (by simp) ?_
  refine AllReadyH.cons rfl (fun K hK => ?_) AllReadyH.nil
  try simp only [List.getElem_toArray, List.getElem_cons_succ, List.getElem_cons_zero]
  go_simp
  (with_reducible refine Calls.mono (P1 zz) ?_)
  rintro e w' ⟨pv, zz, rfl, rfl, HC⟩
  (try dsimp only)
  refine hK.out _ _ ?_ (fun hHeld2 => ?_)
  · (try dsimp only)
    first | (with_reducible exact ⟨n0 yy.drew, n1 yy.drew, n2 yy.drew, m3 yy.drew, d00 yy.drew, d01 yy.drew, d02 yy.drew, d03 yy.drew⟩) | (with_reducible exact ⟨n0 zz, n1 zz, n2 zz, m3 zz, d00 zz, d01 zz, d02 zz, d03 zz⟩)
  clear hK K hHeld
  have hHeld := hHeld2
  clear hHeld2
  try simp only [List.getElem_toArray, List.getElem_cons_succ, List.getElem_cons_zero, Act.put, List.setIfInBounds_toArray, List.set_cons_zero, List.set_cons_succ]
  refine wpAnyH_ready (rs := [17]) (by kernel_rfl) (by simp) ?_
  refine AllReadyH.cons rfl (fun K hK => ?_) AllReadyH.nil
  try simp only [List.getElem_toArray, List.getElem_cons_succ, List.getElem_cons_zero]
  go_simp
  (with_reducible refine Calls.mono HC.out ?_)
  rintro e w' ⟨rfl, zz, rfl⟩
  (try dsimp only)
  refine hK.out _ _ ?_ (fun hHeld2 => ?_)
  · (try dsimp only)
    first | (with_reducible exact ⟨n0 yy.drew, n1 yy.drew, n2 yy.drew, m3 yy.drew, d00 yy.drew, d01 yy.drew, d02 yy.drew, d03 yy.drew⟩) | (with_reducible exact ⟨n0 zz, n1 zz, n2 zz, m3 zz, d00 zz, d01 zz, d02 zz, d03 zz⟩)
  clear hK K hHeld
  have hHeld := hHeld2
  clear hHeld2
  try simp only [List.getElem_toArray, List.getElem_cons_succ, List.getElem_cons_zero, Act.put, List.setIfInBounds_toArray, List.set_cons_zero, List.set_cons_succ]
  refine wpAnyH_take (i := 18) (v := ?_) rfl (by kernel_rfl) (by kernel_rfl) (by kernel_rfl) (fun _ _ _ h => h) (Or.inl ⟨by rfl, ?_⟩) hHeld ?_
  rotate_left
  · intro w hSw; (try dsimp only at hSw); (try simp only [List.getElem_toArray, List.getElem_cons_succ, List.getElem_cons_zero]); first | (go_simp; done) | (go_simp; with_reducible rfl)
  try simp only [List.getElem_toArray, List.getElem_cons_succ, List.getElem_cons_zero, Act.put, List.setIfInBounds_toArray, List.set_cons_zero, List.set_cons_succ]
  refine wpAnyH_take (i := 19) (v := ?_) rfl (by kernel_rfl) (by kernel_rfl) (by kernel_rfl) (fun _ _ _ h => h) (Or.inl ⟨by rfl, ?_⟩) hHeld ?_
  rotate_left
  · intro w hSw; (try dsimp only at hSw); (try simp only [List.getElem_toArray, List.getElem_cons_succ, List.getElem_cons_zero]); first | (go_simp; done) | (go_simp; with_reducible rfl)
  try simp only [List.getElem_toArray, List.getElem_cons_succ, List.getElem_cons_zero, Act.put, List.setIfInBounds_toArray, List.set_cons_zero, List.set_cons_succ]
  refine wpAnyH_done (by kernel_rfl) ?_ _
  go_wp2_with fail
  go_ret
  exact ⟨rfl, hback zz⟩

set_option maxRecDepth 100000 in
set_option maxHeartbeats 16000000 in
theorem l5Sum7_t {A B : Ty} (ihB : B.Ok → B.Data → ∀ {W : World} {b o c : Nat} (_ : Row W (Value.int .i64) (some ⟨b, o, none⟩) B.enc) (_ : B.enc.length ≤ 40) (_ : B.enc.length ≤ c) {lo : Nat} {v : Tm} {r : TV} (_ : TmIn W lo v r) {size vars : Int} {closed : Bool} (_ : OkT size closed vars v) (x : Ext W), Calls Tryd.prog 78 #[.slice (some ⟨b, o, none⟩) B.enc.length c, r.val v] x.w (Ans W (.bool (B.place v).isSome))) (hok : (Ty.two 2 A B).Ok) (hd : (Ty.two 2 A B).Data) {W : World} {b o c : Nat} (hr : Row W (Value.int .i64) (some ⟨b, o, none⟩) (Ty.two 2 A B).enc) (hl : (Ty.two 2 A B).enc.length ≤ 40) (hc : (Ty.two 2 A B).enc.length ≤ c)
    {lo : Nat} {v : Tm} {r : TV} (hv : TmIn W lo v r) {size vars : Int} {closed : Bool} (ok : OkT size closed vars v) (ho : v.op = 7) (ht : v.ty = A.enc) {k0 : Tm} (hk : v.kids = [k0]) (hoa : (B.place k0).isSome = true) (x : Ext W) :
    Calls Tryd.prog 78 #[.slice (some ⟨b, o, none⟩) (Ty.two 2 A B).enc.length c, r.val v] x.w (Ans W (.bool (true))) := by
  obtain ⟨ra, rc, rb, rd⟩ := r
  unfold TV.val
  have hA := A.enc_pos
  have hB := B.enc_pos
  have hlen := Ty.len_two 2 A B
  have ok0 := ok.kid (i := 0) (k := k0) (by rw [hk]; rfl)
  have HK := Lib.hid hk
  have HO0 := Lib.hid hoa
  clear hk hoa
  have HO := Lib.hid ho
  have HT := Lib.hid ht
  clear ho ht
  have hvl : v.ty.length ≤ 40 := ok.node.ty40
  go_enter Tryd.func78, Tryd.ntmps78
  go_upto_region 1 with fail
  generalize hW : x.w.alloc _ = W1
  generalize hB : x.w.heap.size = BQ
  obtain ⟨c0, c1, c2, c3, h1, hback, yy, hy0⟩ := boxedT hv x hB hW
  have hr1 : Row W1 (Value.int .i64) (some ⟨b, o, none⟩) (Ty.two 2 A B).enc := by rw [← hW]; exact hr.ext (x.alloc _)
  clear hW hB
  rw [← hy0]
  clear hy0
  obtain ⟨kr, AT⟩ := h1.out
  have hvrow := AT.row
  have m0 : ∀ y : Ext W1, y.w.cell? ⟨b, o, none⟩ = some (.int .i64 (2)) := fun y => y.cell (row_head hr1 (l' := A.enc ++ B.enc) rfl)
  have n0 := c0
  have n1 := c1
  have n2 := c2
  have n3 := c3
  clear c0 c1 c2 c3
  obtain ⟨bb, oo, hrb, KK⟩ := AT.kid 0 k0 (by rw [HK.out]; rfl)
  have hs0 := AT.sub 0 k0 (by rw [HK.out]; rfl)
  dsimp only at hrb
  obtain ⟨kb, hkb⟩ : ∃ z, z = bb := ⟨_, rfl⟩
  obtain ⟨ko, hko⟩ : ∃ z, z = oo := ⟨_, rfl⟩
  rw [← hkb, ← hko] at KK hrb
  clear hkb hko bb oo
  have HR := hrb
  clear hrb
  have d00 : ∀ u : Ext W1, u.w.cell? ⟨kb, ko, none⟩ = some (.int .i64 k0.op) := fun u => by have := u.cell KK.c0; simpa using this
  have d01 : ∀ u : Ext W1, u.w.cell? ⟨kb, ko + 1, none⟩ = some (.int .i64 k0.n) := fun u => by have := u.cell KK.c1; simpa using this
  have d02 : ∀ u : Ext W1, u.w.cell? ⟨kb, ko + 2, none⟩ = some (.slice (kr 0).a k0.ty.length (kr 0).c) := fun u => by have := u.cell KK.c2; simpa using this
  have d03 : ∀ u : Ext W1, u.w.cell? ⟨kb, ko + 3, none⟩ = some (.slice (kr 0).b k0.kids.length (kr 0).d) := fun u => by have := u.cell KK.c3; simpa using this
  clear KK
  have hlk : v.kids.length = 1 := by rw [HK.out]; rfl
  have hlk' : (v.kids.length : Int) = 1 := by rw [hlk]; rfl
  have m3 : ∀ u : Ext W1, u.w.cell? ⟨BQ, 3, none⟩ = some (.slice (some ⟨kb, ko, none⟩) 1 rd) := fun u => by rw [n3 u, HR, hlk]
  have P0 : ∀ y : Ext W1, Calls Tryd.prog 124 #[.slice (some ⟨b, o, none⟩) (Ty.two 2 A B).enc.length c, .int .i64 0] y.w (fun e w' => ∃ (pv : Value) (z : Ext W1), e = .returned pv ∧ w' = z.w ∧ Hid (Calls Tryd.prog 125 #[.slice ra v.ty.length rc, pv] z.w (Ans W1 (.bool (true))))) := fun y => Calls.mono (l2Part0_ans (W := y.w) (hr1.ext y) (by omega) hc (Ty.end_two hok) (by omega) (by omega) (by omega) (row_two1 (hr1.ext y)) (Ext.self y.w)) (by
    rintro e w' ⟨pv, z, rfl, rfl, own⟩
    obtain ⟨g, gc, rfl, row, hcap, _⟩ := own_some own (Ty.enc_pos _)
    exact ⟨_, y.trans z, rfl, rfl, by have h := l1Same_ans (W := z.w) ((hvrow.ext y).ext z) row (by omega) true (c := rc) (d := gc) (by refine iff_tf ?_; exact HT.out) (Ext.self z.w); exact Calls.mono h fun _ _ q => ans_lift (z := y.trans z) q⟩)
  have P1 : ∀ y : Ext W1, Calls Tryd.prog 124 #[.slice (some ⟨b, o, none⟩) (Ty.two 2 A B).enc.length c, .int .i64 1] y.w (fun e w' => ∃ (pv : Value) (z : Ext W1), e = .returned pv ∧ w' = z.w ∧ Hid (Calls Tryd.prog 78 #[pv, (.agg #[.int .i64 k0.op, .int .i64 k0.n, .slice (kr 0).a k0.ty.length (kr 0).c, .slice (kr 0).b k0.kids.length (kr 0).d])] z.w (Ans W1 (.bool (true))))) := fun y => Calls.mono (l2Part1_ans (W := y.w) (hr1.ext y) (by omega) hc (Ty.end_two hok) (by omega) (by omega) (by omega) (row_two2 (hr1.ext y)) (Ext.self y.w)) (by
    rintro e w' ⟨pv, z, rfl, rfl, own⟩
    obtain ⟨g, gc, rfl, row, hcap, _⟩ := own_some own (Ty.enc_pos _)
    exact ⟨_, y.trans z, rfl, rfl, by have h := ihB hok.2.2 hd.2.2 (W := z.w) row (by omega) hcap ((hs0.ext y).ext z) ok0 (Ext.self z.w); rw [HO0.out] at h; exact Calls.mono h fun _ _ q => ans_lift (z := y.trans z) q⟩)
  clear n3 hlk hlk' HR AT hs0 hvrow
  have hlp : 0 < (Ty.two 2 A B).enc.length := Ty.enc_pos _
  generalize (Ty.two 2 A B).enc.length = len at *
  clear hr hok hd hl hc hr1 hv h1 ok hA hB hlen hvl ok0 ihB
  have hlp' : (0 : Int) < (len : Int) := by omega
  have f6 : (v.op == 6) = false := by rw [HO.out]; decide
  have f7 : (v.op == 7) = true := by rw [HO.out]; decide
  go_upto_region 9 with fail
  refine wp_region_held_drew (S := (fun w' => w'.cell? ⟨BQ, 0, none⟩ = some (.int .i64 v.op) ∧ w'.cell? ⟨BQ, 1, none⟩ = some (.int .i64 v.n) ∧ w'.cell? ⟨BQ, 2, none⟩ = some (.slice ra v.ty.length rc) ∧ w'.cell? ⟨BQ, 3, none⟩ = some (.slice (some ⟨kb, ko, none⟩) 1 rd) ∧ w'.cell? ⟨kb, ko, none⟩ = some (.int .i64 k0.op) ∧ w'.cell? ⟨kb, ko + 1, none⟩ = some (.int .i64 k0.n) ∧ w'.cell? ⟨kb, ko + 2, none⟩ = some (.slice (kr 0).a k0.ty.length (kr 0).c) ∧ w'.cell? ⟨kb, ko + 3, none⟩ = some (.slice (kr 0).b k0.kids.length (kr 0).d))) (by kernel_rfl) ?_ (fun hHeld => ?_)
  · (try dsimp only)
    first | (with_reducible exact ⟨n0 yy.drew, n1 yy.drew, n2 yy.drew, m3 yy.drew, d00 yy.drew, d01 yy.drew, d02 yy.drew, d03 yy.drew⟩) | (with_reducible exact ⟨n0 zz, n1 zz, n2 zz, m3 zz, d00 zz, d01 zz, d02 zz, d03 zz⟩)
  refine wpAnyH_take (i := 0) (v := ?_) rfl (by kernel_rfl) (by kernel_rfl) (by kernel_rfl) (fun _ _ _ h => h) (Or.inl ⟨by rfl, ?_⟩) hHeld ?_
  rotate_left
  · intro w hSw; (try dsimp only at hSw); (try simp only [List.getElem_toArray, List.getElem_cons_zero]); first | (go_simp; done) | (go_simp; with_reducible rfl)
  try simp only [List.getElem_toArray, List.getElem_cons_zero, Act.put, List.setIfInBounds_toArray, List.set_cons_zero, List.set_cons_succ]
  refine wpAnyH_take (i := 1) (v := ?_) rfl (by kernel_rfl) (by kernel_rfl) (by kernel_rfl) (fun _ _ _ h => h) (Or.inl ⟨by rfl, ?_⟩) hHeld ?_
  rotate_left
  · intro w hSw; (try dsimp only at hSw); (try simp only [List.getElem_toArray, List.getElem_cons_succ, List.getElem_cons_zero]); first | (go_simp; done) | (go_simp; with_reducible rfl)
  try simp only [List.getElem_toArray, List.getElem_cons_succ, List.getElem_cons_zero, Act.put, List.setIfInBounds_toArray, List.set_cons_zero, List.set_cons_succ]
  refine wpAnyH_take (i := 2) (v := ?_) rfl (by kernel_rfl) (by kernel_rfl) (by kernel_rfl) (fun _ _ _ h => h) (Or.inl ⟨by rfl, ?_⟩) hHeld ?_
  rotate_left
  · intro w hSw; (try dsimp only at hSw); (try simp only [List.getElem_toArray, List.getElem_cons_succ, List.getElem_cons_zero]); first | (go_simp; done) | (go_simp; with_reducible rfl)
  try simp only [List.getElem_toArray, List.getElem_cons_succ, List.getElem_cons_zero, Act.put, List.setIfInBounds_toArray, List.set_cons_zero, List.set_cons_succ]
  refine wpAnyH_take (i := 3) (v := ?_) rfl (by kernel_rfl) (by kernel_rfl) (by kernel_rfl) (fun _ _ _ h => h) (Or.inl ⟨by rfl, ?_⟩) hHeld ?_
  rotate_left
  · intro w hSw; (try dsimp only at hSw); (try simp only [List.getElem_toArray, List.getElem_cons_succ, List.getElem_cons_zero]); first | (go_simp; done) | (go_simp; with_reducible rfl)
  try simp only [List.getElem_toArray, List.getElem_cons_succ, List.getElem_cons_zero, Act.put, List.setIfInBounds_toArray, List.set_cons_zero, List.set_cons_succ]
  refine wpAnyH_take (i := 4) (v := ?_) rfl (by kernel_rfl) (by kernel_rfl) (by kernel_rfl) (fun _ _ _ h => h) (Or.inl ⟨by rfl, ?_⟩) hHeld ?_
  rotate_left
  · intro w hSw; (try dsimp only at hSw); (try simp only [List.getElem_toArray, List.getElem_cons_succ, List.getElem_cons_zero]); first | (go_simp; done) | (go_simp; with_reducible rfl)
  try simp only [List.getElem_toArray, List.getElem_cons_succ, List.getElem_cons_zero, Act.put, List.setIfInBounds_toArray, List.set_cons_zero, List.set_cons_succ]
  refine wpAnyH_take (i := 5) (v := ?_) rfl (by kernel_rfl) (by kernel_rfl) (by kernel_rfl) (fun _ _ _ h => h) (Or.inl ⟨by rfl, ?_⟩) hHeld ?_
  rotate_left
  · intro w hSw; (try dsimp only at hSw); (try simp only [List.getElem_toArray, List.getElem_cons_succ, List.getElem_cons_zero]); first | (go_simp; done) | (go_simp; with_reducible rfl)
  try simp only [List.getElem_toArray, List.getElem_cons_succ, List.getElem_cons_zero, Act.put, List.setIfInBounds_toArray, List.set_cons_zero, List.set_cons_succ]
  refine wpAnyH_take (i := 6) (v := ?_) rfl (by kernel_rfl) (by kernel_rfl) (by kernel_rfl) (fun _ _ _ h => h) (Or.inl ⟨by rfl, ?_⟩) hHeld ?_
  rotate_left
  · intro w hSw; (try dsimp only at hSw); (try simp only [List.getElem_toArray, List.getElem_cons_succ, List.getElem_cons_zero]); first | (go_simp; done) | (go_simp; with_reducible rfl)
  try simp only [List.getElem_toArray, List.getElem_cons_succ, List.getElem_cons_zero, Act.put, List.setIfInBounds_toArray, List.set_cons_zero, List.set_cons_succ]
  refine wpAnyH_ready (rs := [7]) (by kernel_rfl) (by simp) ?_
  refine AllReadyH.cons rfl (fun K hK => ?_) AllReadyH.nil
  try simp only [List.getElem_toArray, List.getElem_cons_succ, List.getElem_cons_zero]
  go_simp
  (with_reducible refine Calls.mono (P0 yy.drew) ?_)
  rintro e w' ⟨pv, zz, rfl, rfl, HC⟩
  (try dsimp only)
  refine hK.out _ _ ?_ (fun hHeld2 => ?_)
  · (try dsimp only)
    first | (with_reducible exact ⟨n0 yy.drew, n1 yy.drew, n2 yy.drew, m3 yy.drew, d00 yy.drew, d01 yy.drew, d02 yy.drew, d03 yy.drew⟩) | (with_reducible exact ⟨n0 zz, n1 zz, n2 zz, m3 zz, d00 zz, d01 zz, d02 zz, d03 zz⟩)
  clear hK K hHeld
  have hHeld := hHeld2
  clear hHeld2
  try simp only [List.getElem_toArray, List.getElem_cons_succ, List.getElem_cons_zero, Act.put, List.setIfInBounds_toArray, List.set_cons_zero, List.set_cons_succ]
  refine wpAnyH_ready (rs := [8]) (by kernel_rfl) (by simp) ?_
  refine AllReadyH.cons rfl (fun K hK => ?_) AllReadyH.nil
  try simp only [List.getElem_toArray, List.getElem_cons_succ, List.getElem_cons_zero]
  go_simp
  (with_reducible refine Calls.mono HC.out ?_)
  rintro e w' ⟨rfl, zz, rfl⟩
  (try dsimp only)
  refine hK.out _ _ ?_ (fun hHeld2 => ?_)
  · (try dsimp only)
    first | (with_reducible exact ⟨n0 yy.drew, n1 yy.drew, n2 yy.drew, m3 yy.drew, d00 yy.drew, d01 yy.drew, d02 yy.drew, d03 yy.drew⟩) | (with_reducible exact ⟨n0 zz, n1 zz, n2 zz, m3 zz, d00 zz, d01 zz, d02 zz, d03 zz⟩)
  clear hK K hHeld
  have hHeld := hHeld2
  clear hHeld2
  try simp only [List.getElem_toArray, List.getElem_cons_succ, List.getElem_cons_zero, Act.put, List.setIfInBounds_toArray, List.set_cons_zero, List.set_cons_succ]
  refine wpAnyH_take (i := 9) (v := ?_) rfl (by kernel_rfl) (by kernel_rfl) (by kernel_rfl) (fun _ _ _ h => h) (Or.inl ⟨by rfl, ?_⟩) hHeld ?_
  rotate_left
  · intro w hSw; (try dsimp only at hSw); (try simp only [List.getElem_toArray, List.getElem_cons_succ, List.getElem_cons_zero]); first | (go_simp; done) | (go_simp; with_reducible rfl)
  try simp only [List.getElem_toArray, List.getElem_cons_succ, List.getElem_cons_zero, Act.put, List.setIfInBounds_toArray, List.set_cons_zero, List.set_cons_succ]
  refine wpAnyH_take (i := 10) (v := ?_) rfl (by kernel_rfl) (by kernel_rfl) (by kernel_rfl) (fun _ _ _ h => h) (Or.inl ⟨by rfl, ?_⟩) hHeld ?_
  rotate_left
  · intro w hSw; (try dsimp only at hSw); (try simp only [List.getElem_toArray, List.getElem_cons_succ, List.getElem_cons_zero]); first | (go_simp; done) | (go_simp; with_reducible rfl)
  try simp only [List.getElem_toArray, List.getElem_cons_succ, List.getElem_cons_zero, Act.put, List.setIfInBounds_toArray, List.set_cons_zero, List.set_cons_succ]
  refine wpAnyH_take (i := 11) (v := ?_) rfl (by kernel_rfl) (by kernel_rfl) (by kernel_rfl) (fun _ _ _ h => h) (Or.inl ⟨by rfl, ?_⟩) hHeld ?_
  rotate_left
  · intro w hSw; (try dsimp only at hSw); (try simp only [List.getElem_toArray, List.getElem_cons_succ, List.getElem_cons_zero]); first | (go_simp; done) | (go_simp; with_reducible rfl)
  try simp only [List.getElem_toArray, List.getElem_cons_succ, List.getElem_cons_zero, Act.put, List.setIfInBounds_toArray, List.set_cons_zero, List.set_cons_succ]
  refine wpAnyH_take (i := 13) (v := ?_) rfl (by kernel_rfl) (by kernel_rfl) (by kernel_rfl) (fun _ _ _ h => h) (Or.inl ⟨by rfl, ?_⟩) hHeld ?_
  rotate_left
  · intro w hSw; (try dsimp only at hSw); (try simp only [List.getElem_toArray, List.getElem_cons_succ, List.getElem_cons_zero]); first | (go_simp; done) | (go_simp; with_reducible rfl)
  try simp only [List.getElem_toArray, List.getElem_cons_succ, List.getElem_cons_zero, Act.put, List.setIfInBounds_toArray, List.set_cons_zero, List.set_cons_succ]
  refine wpAnyH_take (i := 14) (v := ?_) rfl (by kernel_rfl) (by kernel_rfl) (by kernel_rfl) (fun _ _ _ h => h) (Or.inl ⟨by rfl, ?_⟩) hHeld ?_
  rotate_left
  · intro w hSw; (try dsimp only at hSw); (try simp only [List.getElem_toArray, List.getElem_cons_succ, List.getElem_cons_zero]); first | (go_simp; done) | (go_simp; with_reducible rfl)
  try simp only [List.getElem_toArray, List.getElem_cons_succ, List.getElem_cons_zero, Act.put, List.setIfInBounds_toArray, List.set_cons_zero, List.set_cons_succ]
  refine wpAnyH_take (i := 15) (v := ?_) rfl (by kernel_rfl) (by kernel_rfl) (by kernel_rfl) (fun _ _ _ h => h) (Or.inl ⟨by rfl, ?_⟩) hHeld ?_
  rotate_left
  · intro w hSw; (try dsimp only at hSw); (try simp only [List.getElem_toArray, List.getElem_cons_succ, List.getElem_cons_zero]); first | (go_simp; done) | (go_simp; with_reducible rfl)
  try simp only [List.getElem_toArray, List.getElem_cons_succ, List.getElem_cons_zero, Act.put, List.setIfInBounds_toArray, List.set_cons_zero, List.set_cons_succ]
  refine wpAnyH_take (i := 16) (v := ?_) rfl (by kernel_rfl) (by kernel_rfl) (by kernel_rfl) (fun _ _ _ h => h) (Or.inl ⟨by rfl, ?_⟩) hHeld ?_
  rotate_left
  · intro w hSw; (try dsimp only at hSw); (try simp only [List.getElem_toArray, List.getElem_cons_succ, List.getElem_cons_zero]); first | (go_simp; done) | (go_simp; with_reducible rfl)
  try simp only [List.getElem_toArray, List.getElem_cons_succ, List.getElem_cons_zero, Act.put, List.setIfInBounds_toArray, List.set_cons_zero, List.set_cons_succ]
  refine wpAnyH_ready (rs := [12]) (by kernel_rfl) (by simp) ?_
  refine AllReadyH.cons rfl (fun K hK => ?_) AllReadyH.nil
  try simp only [List.getElem_toArray, List.getElem_cons_succ, List.getElem_cons_zero]
  go_simp
  (with_reducible refine Calls.mono (P1 zz) ?_)
  rintro e w' ⟨pv, zz, rfl, rfl, HC⟩
  (try dsimp only)
  refine hK.out _ _ ?_ (fun hHeld2 => ?_)
  · (try dsimp only)
    first | (with_reducible exact ⟨n0 yy.drew, n1 yy.drew, n2 yy.drew, m3 yy.drew, d00 yy.drew, d01 yy.drew, d02 yy.drew, d03 yy.drew⟩) | (with_reducible exact ⟨n0 zz, n1 zz, n2 zz, m3 zz, d00 zz, d01 zz, d02 zz, d03 zz⟩)
  clear hK K hHeld
  have hHeld := hHeld2
  clear hHeld2
  try simp only [List.getElem_toArray, List.getElem_cons_succ, List.getElem_cons_zero, Act.put, List.setIfInBounds_toArray, List.set_cons_zero, List.set_cons_succ]
  refine wpAnyH_ready (rs := [17]) (by kernel_rfl) (by simp) ?_
  refine AllReadyH.cons rfl (fun K hK => ?_) AllReadyH.nil
  try simp only [List.getElem_toArray, List.getElem_cons_succ, List.getElem_cons_zero]
  go_simp
  (with_reducible refine Calls.mono HC.out ?_)
  rintro e w' ⟨rfl, zz, rfl⟩
  (try dsimp only)
  refine hK.out _ _ ?_ (fun hHeld2 => ?_)
  · (try dsimp only)
    first | (with_reducible exact ⟨n0 yy.drew, n1 yy.drew, n2 yy.drew, m3 yy.drew, d00 yy.drew, d01 yy.drew, d02 yy.drew, d03 yy.drew⟩) | (with_reducible exact ⟨n0 zz, n1 zz, n2 zz, m3 zz, d00 zz, d01 zz, d02 zz, d03 zz⟩)
  clear hK K hHeld
  have hHeld := hHeld2
  clear hHeld2
  try simp only [List.getElem_toArray, List.getElem_cons_succ, List.getElem_cons_zero, Act.put, List.setIfInBounds_toArray, List.set_cons_zero, List.set_cons_succ]
  refine wpAnyH_take (i := 18) (v := ?_) rfl (by kernel_rfl) (by kernel_rfl) (by kernel_rfl) (fun _ _ _ h => h) (Or.inl ⟨by rfl, ?_⟩) hHeld ?_
  rotate_left
  · intro w hSw; (try dsimp only at hSw); (try simp only [List.getElem_toArray, List.getElem_cons_succ, List.getElem_cons_zero]); first | (go_simp; done) | (go_simp; with_reducible rfl)
  try simp only [List.getElem_toArray, List.getElem_cons_succ, List.getElem_cons_zero, Act.put, List.setIfInBounds_toArray, List.set_cons_zero, List.set_cons_succ]
  refine wpAnyH_take (i := 19) (v := ?_) rfl (by kernel_rfl) (by kernel_rfl) (by kernel_rfl) (fun _ _ _ h => h) (Or.inl ⟨by rfl, ?_⟩) hHeld ?_
  rotate_left
  · intro w hSw; (try dsimp only at hSw); (try simp only [List.getElem_toArray, List.getElem_cons_succ, List.getElem_cons_zero]); first | (go_simp; done) | (go_simp; with_reducible rfl)
  try simp only [List.getElem_toArray, List.getElem_cons_succ, List.getElem_cons_zero, Act.put, List.setIfInBounds_toArray, List.set_cons_zero, List.set_cons_succ]
  refine wpAnyH_done (by kernel_rfl) ?_ _
  go_wp2_with fail
  go_ret
  exact ⟨rfl, hback zz⟩

end Go.Proofs.YtoefeijnnnioeaaDoor

/- Which terms are values, by the model: boxes, numbers. -/
set_option linter.unusedVariables false
namespace Go.Proofs.YtoefeijnnnioeaaDoor
open Go.RowKit

set_option maxRecDepth 100000 in
set_option maxHeartbeats 16000000 in
theorem l5One_no {cc : Int} {A : Ty} (hok : (Ty.one cc A).Ok) (hd : (Ty.one cc A).Data) {W : World} {b o c : Nat} (hr : Row W (Value.int .i64) (some ⟨b, o, none⟩) (Ty.one cc A).enc) (hl : (Ty.one cc A).enc.length ≤ 40) (hc : (Ty.one cc A).enc.length ≤ c)
    {lo : Nat} {v : Tm} {r : TV} (hv : TmIn W lo v r) {size vars : Int} {closed : Bool} (ok : OkT size closed vars v) (ho : v.op = 11) (hn : ¬ v.n = gradeOf cc) (x : Ext W) :
    Calls Tryd.prog 78 #[.slice (some ⟨b, o, none⟩) (Ty.one cc A).enc.length c, r.val v] x.w (Ans W (.bool (false))) := by
  obtain ⟨ra, rc, rb, rd⟩ := r
  unfold TV.val
  have hA := A.enc_pos
  have hlen := Ty.len_one cc A
  have hbx := Ty.bx_of hok.1
  have hc0 : 0 ≤ cc := by unfold Bx at hbx; omega
  have hc1 : cc ≤ 1000 := by unfold Bx at hbx; omega
  have e0 : (cc == 0) = false := by rw [beq_eq_false_iff_ne]; unfold Bx at hbx; omega
  have e1 : (cc == 1) = false := by rw [beq_eq_false_iff_ne]; unfold Bx at hbx; omega
  have e2 : (cc == 2) = false := by rw [beq_eq_false_iff_ne]; unfold Bx at hbx; omega
  have HO := Lib.hid ho
  have fn : (v.n == gradeOf cc) = false := by exact beq_eq_false_iff_ne.2 hn
  clear ho hn
  go_enter Tryd.func78, Tryd.ntmps78
  go_upto_region 1 with fail
  generalize hW : x.w.alloc _ = W1
  generalize hB : x.w.heap.size = BQ
  obtain ⟨c0, c1, c2, c3, h1, hback, yy, hy0⟩ := boxedT hv x hB hW
  have hr1 : Row W1 (Value.int .i64) (some ⟨b, o, none⟩) (Ty.one cc A).enc := by rw [← hW]; exact hr.ext (x.alloc _)
  clear hW hB
  rw [← hy0]
  clear hy0
  obtain ⟨kr, AT⟩ := h1.out
  have m0 : ∀ y : Ext W1, y.w.cell? ⟨b, o, none⟩ = some (.int .i64 (cc)) := fun y => y.cell (row_head hr1 (l' := A.enc) rfl)
  have n0 := c0
  have n1 := c1
  have n2 := c2
  have n3 := c3
  clear c0 c1 c2 c3
  have GC : ∀ y : Ext W1, Calls Tryd.prog 57 #[.int .i64 cc] y.w (Ans W1 (.int .i64 (gradeOf cc))) := fun y => l2Grade_ans cc hc0 hc1 y
  clear n3 AT
  generalize gradeOf cc = gg at *
  have hlp : 0 < (Ty.one cc A).enc.length := Ty.enc_pos _
  generalize (Ty.one cc A).enc.length = len at *
  clear hr hok hd hl hc hr1 hv h1 ok hA hlen hbx hc0 hc1
  have hlp' : (0 : Int) < (len : Int) := by omega
  have f11 : (v.op == 11) = true := by rw [HO.out]; decide
  go_upto_region 10 with fail
  refine wp_region_held_drew (S := (fun w' => w'.cell? ⟨BQ, 0, none⟩ = some (.int .i64 v.op) ∧ w'.cell? ⟨BQ, 1, none⟩ = some (.int .i64 v.n) ∧ w'.cell? ⟨BQ, 2, none⟩ = some (.slice ra v.ty.length rc))) (by kernel_rfl) ?_ (fun hHeld => ?_)
  · (try dsimp only)
    first | (with_reducible exact ⟨n0 yy.drew, n1 yy.drew, n2 yy.drew⟩) | (with_reducible exact ⟨n0 zz, n1 zz, n2 zz⟩)
  refine wpAnyH_take (i := 0) (v := ?_) rfl (by kernel_rfl) (by kernel_rfl) (by kernel_rfl) (fun _ _ _ h => h) (Or.inl ⟨by rfl, ?_⟩) hHeld ?_
  rotate_left
  · intro w hSw; (try dsimp only at hSw); (try simp only [List.getElem_toArray, List.getElem_cons_zero]); first | (go_simp; done) | (go_simp; with_reducible rfl)
  try simp only [List.getElem_toArray, List.getElem_cons_zero, Act.put, List.setIfInBounds_toArray, List.set_cons_zero, List.set_cons_succ]
  refine wpAnyH_take (i := 1) (v := ?_) rfl (by kernel_rfl) (by kernel_rfl) (by kernel_rfl) (fun _ _ _ h => h) (Or.inl ⟨by rfl, ?_⟩) hHeld ?_
  rotate_left
  · intro w hSw; (try dsimp only at hSw); (try simp only [List.getElem_toArray, List.getElem_cons_succ, List.getElem_cons_zero]); first | (go_simp; done) | (go_simp; with_reducible rfl)
  try simp only [List.getElem_toArray, List.getElem_cons_succ, List.getElem_cons_zero, Act.put, List.setIfInBounds_toArray, List.set_cons_zero, List.set_cons_succ]
  refine wpAnyH_take (i := 2) (v := ?_) rfl (by kernel_rfl) (by kernel_rfl) (by kernel_rfl) (fun _ _ _ h => h) (Or.inl ⟨by rfl, ?_⟩) hHeld ?_
  rotate_left
  · intro w hSw; (try dsimp only at hSw); (try simp only [List.getElem_toArray, List.getElem_cons_succ, List.getElem_cons_zero]); first | (go_simp; done) | (go_simp; with_reducible rfl)
  try simp only [List.getElem_toArray, List.getElem_cons_succ, List.getElem_cons_zero, Act.put, List.setIfInBounds_toArray, List.set_cons_zero, List.set_cons_succ]
  refine wpAnyH_take (i := 3) (v := ?_) rfl (by kernel_rfl) (by kernel_rfl) (by kernel_rfl) (fun _ _ _ h => h) (Or.inl ⟨by rfl, ?_⟩) hHeld ?_
  rotate_left
  · intro w hSw; (try dsimp only at hSw); (try simp only [List.getElem_toArray, List.getElem_cons_succ, List.getElem_cons_zero]); first | (go_simp; done) | (go_simp; with_reducible rfl)
  try simp only [List.getElem_toArray, List.getElem_cons_succ, List.getElem_cons_zero, Act.put, List.setIfInBounds_toArray, List.set_cons_zero, List.set_cons_succ]
  refine wpAnyH_take (i := 4) (v := ?_) rfl (by kernel_rfl) (by kernel_rfl) (by kernel_rfl) (fun _ _ _ h => h) (Or.inl ⟨by rfl, ?_⟩) hHeld ?_
  rotate_left
  · intro w hSw; (try dsimp only at hSw); (try simp only [List.getElem_toArray, List.getElem_cons_succ, List.getElem_cons_zero]); first | (go_simp; done) | (go_simp; with_reducible rfl)
  try simp only [List.getElem_toArray, List.getElem_cons_succ, List.getElem_cons_zero, Act.put, List.setIfInBounds_toArray, List.set_cons_zero, List.set_cons_succ]
  refine wpAnyH_take (i := 5) (v := ?_) rfl (by kernel_rfl) (by kernel_rfl) (by kernel_rfl) (fun _ _ _ h => h) (Or.inl ⟨by rfl, ?_⟩) hHeld ?_
  rotate_left
  · intro w hSw; (try dsimp only at hSw); (try simp only [List.getElem_toArray, List.getElem_cons_succ, List.getElem_cons_zero]); first | (go_simp; done) | (go_simp; with_reducible rfl)
  try simp only [List.getElem_toArray, List.getElem_cons_succ, List.getElem_cons_zero, Act.put, List.setIfInBounds_toArray, List.set_cons_zero, List.set_cons_succ]
  refine wpAnyH_take (i := 6) (v := ?_) rfl (by kernel_rfl) (by kernel_rfl) (by kernel_rfl) (fun _ _ _ h => h) (Or.inl ⟨by rfl, ?_⟩) hHeld ?_
  rotate_left
  · intro w hSw; (try dsimp only at hSw); (try simp only [List.getElem_toArray, List.getElem_cons_succ, List.getElem_cons_zero]); first | (go_simp; done) | (go_simp; with_reducible rfl)
  try simp only [List.getElem_toArray, List.getElem_cons_succ, List.getElem_cons_zero, Act.put, List.setIfInBounds_toArray, List.set_cons_zero, List.set_cons_succ]
  refine wpAnyH_ready (rs := [7]) (by kernel_rfl) (by simp) ?_
  refine AllReadyH.cons rfl (fun K hK => ?_) AllReadyH.nil
  try simp only [List.getElem_toArray, List.getElem_cons_succ, List.getElem_cons_zero]
  go_simp
  (with_reducible refine Calls.mono (GC yy.drew) ?_)
  rintro e w' ⟨rfl, zz, rfl⟩
  (try dsimp only)
  refine hK.out _ _ ?_ (fun hHeld2 => ?_)
  · (try dsimp only)
    first | (with_reducible exact ⟨n0 yy.drew, n1 yy.drew, n2 yy.drew⟩) | (with_reducible exact ⟨n0 zz, n1 zz, n2 zz⟩)
  clear hK K hHeld
  have hHeld := hHeld2
  clear hHeld2
  try simp only [List.getElem_toArray, List.getElem_cons_succ, List.getElem_cons_zero, Act.put, List.setIfInBounds_toArray, List.set_cons_zero, List.set_cons_succ]
  refine wpAnyH_take (i := 8) (v := ?_) rfl (by kernel_rfl) (by kernel_rfl) (by kernel_rfl) (fun _ _ _ h => h) (Or.inl ⟨by rfl, ?_⟩) hHeld ?_
  rotate_left
  · intro w hSw; (try dsimp only at hSw); (try simp only [List.getElem_toArray, List.getElem_cons_succ, List.getElem_cons_zero]); first | (go_simp; done) | (go_simp; with_reducible rfl)
  try simp only [List.getElem_toArray, List.getElem_cons_succ, List.getElem_cons_zero, Act.put, List.setIfInBounds_toArray, List.set_cons_zero, List.set_cons_succ]
  refine wpAnyH_take (i := 9) (v := ?_) rfl (by kernel_rfl) (by kernel_rfl) (by kernel_rfl) (fun _ _ _ h => h) (Or.inl ⟨by rfl, ?_⟩) hHeld ?_
  rotate_left
  · intro w hSw; (try dsimp only at hSw); (try simp only [List.getElem_toArray, List.getElem_cons_succ, List.getElem_cons_zero]); first | (go_simp; done) | (go_simp; with_reducible rfl)
  try simp only [List.getElem_toArray, List.getElem_cons_succ, List.getElem_cons_zero, Act.put, List.setIfInBounds_toArray, List.set_cons_zero, List.set_cons_succ]
  refine wpAnyH_take (i := 10) (v := ?_) rfl (by kernel_rfl) (by kernel_rfl) (by kernel_rfl) (fun _ _ _ h => h) (Or.inl ⟨by rfl, ?_⟩) hHeld ?_
  rotate_left
  · intro w hSw; (try dsimp only at hSw); (try simp only [List.getElem_toArray, List.getElem_cons_succ, List.getElem_cons_zero]); first | (go_simp; done) | (go_simp; with_reducible rfl)
  try simp only [List.getElem_toArray, List.getElem_cons_succ, List.getElem_cons_zero, Act.put, List.setIfInBounds_toArray, List.set_cons_zero, List.set_cons_succ]
  refine wpAnyH_take (i := 11) (v := undef) rfl (by kernel_rfl) (by kernel_rfl) (by kernel_rfl) (fun _ _ _ h => h) (Or.inr ⟨by rfl, rfl⟩) hHeld ?_
  try simp only [List.getElem_toArray, List.getElem_cons_succ, List.getElem_cons_zero, Act.put, List.setIfInBounds_toArray, List.set_cons_zero, List.set_cons_succ]
  refine wpAnyH_take (i := 12) (v := undef) rfl (by kernel_rfl) (by kernel_rfl) (by kernel_rfl) (fun _ _ _ h => h) (Or.inr ⟨by rfl, rfl⟩) hHeld ?_
  try simp only [List.getElem_toArray, List.getElem_cons_succ, List.getElem_cons_zero, Act.put, List.setIfInBounds_toArray, List.set_cons_zero, List.set_cons_succ]
  refine wpAnyH_take (i := 13) (v := undef) rfl (by kernel_rfl) (by kernel_rfl) (by kernel_rfl) (fun _ _ _ h => h) (Or.inr ⟨by rfl, rfl⟩) hHeld ?_
  try simp only [List.getElem_toArray, List.getElem_cons_succ, List.getElem_cons_zero, Act.put, List.setIfInBounds_toArray, List.set_cons_zero, List.set_cons_succ]
  refine wpAnyH_take (i := 14) (v := undef) rfl (by kernel_rfl) (by kernel_rfl) (by kernel_rfl) (fun _ _ _ h => h) (Or.inr ⟨by rfl, rfl⟩) hHeld ?_
  try simp only [List.getElem_toArray, List.getElem_cons_succ, List.getElem_cons_zero, Act.put, List.setIfInBounds_toArray, List.set_cons_zero, List.set_cons_succ]
  refine wpAnyH_take (i := 15) (v := undef) rfl (by kernel_rfl) (by kernel_rfl) (by kernel_rfl) (fun _ _ _ h => h) (Or.inr ⟨by rfl, rfl⟩) hHeld ?_
  try simp only [List.getElem_toArray, List.getElem_cons_succ, List.getElem_cons_zero, Act.put, List.setIfInBounds_toArray, List.set_cons_zero, List.set_cons_succ]
  refine wpAnyH_take (i := 16) (v := undef) rfl (by kernel_rfl) (by kernel_rfl) (by kernel_rfl) (fun _ _ _ h => h) (Or.inr ⟨by rfl, rfl⟩) hHeld ?_
  try simp only [List.getElem_toArray, List.getElem_cons_succ, List.getElem_cons_zero, Act.put, List.setIfInBounds_toArray, List.set_cons_zero, List.set_cons_succ]
  refine wpAnyH_take (i := 17) (v := undef) rfl (by kernel_rfl) (by kernel_rfl) (by kernel_rfl) (fun _ _ _ h => h) (Or.inr ⟨by rfl, rfl⟩) hHeld ?_
  try simp only [List.getElem_toArray, List.getElem_cons_succ, List.getElem_cons_zero, Act.put, List.setIfInBounds_toArray, List.set_cons_zero, List.set_cons_succ]
  refine wpAnyH_take (i := 18) (v := ?_) rfl (by kernel_rfl) (by kernel_rfl) (by kernel_rfl) (fun _ _ _ h => h) (Or.inl ⟨by rfl, ?_⟩) hHeld ?_
  rotate_left
  · intro w hSw; (try dsimp only at hSw); (try simp only [List.getElem_toArray, List.getElem_cons_succ, List.getElem_cons_zero]); first | (go_simp; done) | (go_simp; with_reducible rfl)
  try simp only [List.getElem_toArray, List.getElem_cons_succ, List.getElem_cons_zero, Act.put, List.setIfInBounds_toArray, List.set_cons_zero, List.set_cons_succ]
  refine wpAnyH_take (i := 19) (v := ?_) rfl (by kernel_rfl) (by kernel_rfl) (by kernel_rfl) (fun _ _ _ h => h) (Or.inl ⟨by rfl, ?_⟩) hHeld ?_
  rotate_left
  · intro w hSw; (try dsimp only at hSw); (try simp only [List.getElem_toArray, List.getElem_cons_succ, List.getElem_cons_zero]); first | (go_simp; done) | (go_simp; with_reducible rfl)
  try simp only [List.getElem_toArray, List.getElem_cons_succ, List.getElem_cons_zero, Act.put, List.setIfInBounds_toArray, List.set_cons_zero, List.set_cons_succ]
  refine wpAnyH_done (by kernel_rfl) ?_ _
  go_wp2_with fail
  go_ret
  exact ⟨rfl, hback zz⟩

set_option maxRecDepth 100000 in
set_option maxHeartbeats 16000000 in
theorem l5One_f {cc : Int} {A : Ty} (ihA : A.Ok → A.Data → ∀ {W : World} {b o c : Nat} (_ : Row W (Value.int .i64) (some ⟨b, o, none⟩) A.enc) (_ : A.enc.length ≤ 40) (_ : A.enc.length ≤ c) {lo : Nat} {v : Tm} {r : TV} (_ : TmIn W lo v r) {size vars : Int} {closed : Bool} (_ : OkT size closed vars v) (x : Ext W), Calls Tryd.prog 78 #[.slice (some ⟨b, o, none⟩) A.enc.length c, r.val v] x.w (Ans W (.bool (A.place v).isSome))) (hok : (Ty.one cc A).Ok) (hd : (Ty.one cc A).Data) {W : World} {b o c : Nat} (hr : Row W (Value.int .i64) (some ⟨b, o, none⟩) (Ty.one cc A).enc) (hl : (Ty.one cc A).enc.length ≤ 40) (hc : (Ty.one cc A).enc.length ≤ c)
    {lo : Nat} {v : Tm} {r : TV} (hv : TmIn W lo v r) {size vars : Int} {closed : Bool} (ok : OkT size closed vars v) (ho : v.op = 11) (hn : v.n = gradeOf cc) {k0 : Tm} (hk : v.kids = [k0]) (hoa : (A.place k0).isSome = false) (x : Ext W) :
    Calls Tryd.prog 78 #[.slice (some ⟨b, o, none⟩) (Ty.one cc A).enc.length c, r.val v] x.w (Ans W (.bool (false))) := by
  obtain ⟨ra, rc, rb, rd⟩ := r
  unfold TV.val
  have hA := A.enc_pos
  have hlen := Ty.len_one cc A
  have hbx := Ty.bx_of hok.1
  have hc0 : 0 ≤ cc := by unfold Bx at hbx; omega
  have hc1 : cc ≤ 1000 := by unfold Bx at hbx; omega
  have e0 : (cc == 0) = false := by rw [beq_eq_false_iff_ne]; unfold Bx at hbx; omega
  have e1 : (cc == 1) = false := by rw [beq_eq_false_iff_ne]; unfold Bx at hbx; omega
  have e2 : (cc == 2) = false := by rw [beq_eq_false_iff_ne]; unfold Bx at hbx; omega
  have HO := Lib.hid ho
  have ok0 := ok.kid (i := 0) (k := k0) (by rw [hk]; rfl)
  have HK := Lib.hid hk
  have HO0 := Lib.hid hoa
  clear hk hoa
  have fn : (v.n == gradeOf cc) = true := by exact beq_iff_eq.2 hn
  clear ho hn
  go_enter Tryd.func78, Tryd.ntmps78
  go_upto_region 1 with fail
  generalize hW : x.w.alloc _ = W1
  generalize hB : x.w.heap.size = BQ
  obtain ⟨c0, c1, c2, c3, h1, hback, yy, hy0⟩ := boxedT hv x hB hW
  have hr1 : Row W1 (Value.int .i64) (some ⟨b, o, none⟩) (Ty.one cc A).enc := by rw [← hW]; exact hr.ext (x.alloc _)
  clear hW hB
  rw [← hy0]
  clear hy0
  obtain ⟨kr, AT⟩ := h1.out
  have m0 : ∀ y : Ext W1, y.w.cell? ⟨b, o, none⟩ = some (.int .i64 (cc)) := fun y => y.cell (row_head hr1 (l' := A.enc) rfl)
  have n0 := c0
  have n1 := c1
  have n2 := c2
  have n3 := c3
  clear c0 c1 c2 c3
  have GC : ∀ y : Ext W1, Calls Tryd.prog 57 #[.int .i64 cc] y.w (Ans W1 (.int .i64 (gradeOf cc))) := fun y => l2Grade_ans cc hc0 hc1 y
  obtain ⟨bb, oo, hrb, KK⟩ := AT.kid 0 k0 (by rw [HK.out]; rfl)
  have hs0 := AT.sub 0 k0 (by rw [HK.out]; rfl)
  dsimp only at hrb
  obtain ⟨kb, hkb⟩ : ∃ z, z = bb := ⟨_, rfl⟩
  obtain ⟨ko, hko⟩ : ∃ z, z = oo := ⟨_, rfl⟩
  rw [← hkb, ← hko] at KK hrb
  clear hkb hko bb oo
  have HR := hrb
  clear hrb
  have d00 : ∀ u : Ext W1, u.w.cell? ⟨kb, ko, none⟩ = some (.int .i64 k0.op) := fun u => by have := u.cell KK.c0; simpa using this
  have d01 : ∀ u : Ext W1, u.w.cell? ⟨kb, ko + 1, none⟩ = some (.int .i64 k0.n) := fun u => by have := u.cell KK.c1; simpa using this
  have d02 : ∀ u : Ext W1, u.w.cell? ⟨kb, ko + 2, none⟩ = some (.slice (kr 0).a k0.ty.length (kr 0).c) := fun u => by have := u.cell KK.c2; simpa using this
  have d03 : ∀ u : Ext W1, u.w.cell? ⟨kb, ko + 3, none⟩ = some (.slice (kr 0).b k0.kids.length (kr 0).d) := fun u => by have := u.cell KK.c3; simpa using this
  clear KK
  have hlk : v.kids.length = 1 := by rw [HK.out]; rfl
  have hlk' : (v.kids.length : Int) = 1 := by rw [hlk]; rfl
  have m3 : ∀ u : Ext W1, u.w.cell? ⟨BQ, 3, none⟩ = some (.slice (some ⟨kb, ko, none⟩) 1 rd) := fun u => by rw [n3 u, HR, hlk]
  have P0 : ∀ y : Ext W1, Calls Tryd.prog 124 #[.slice (some ⟨b, o, none⟩) (Ty.one cc A).enc.length c, .int .i64 0] y.w (fun e w' => ∃ (pv : Value) (z : Ext W1), e = .returned pv ∧ w' = z.w ∧ Hid (Calls Tryd.prog 78 #[pv, (.agg #[.int .i64 k0.op, .int .i64 k0.n, .slice (kr 0).a k0.ty.length (kr 0).c, .slice (kr 0).b k0.kids.length (kr 0).d])] z.w (Ans W1 (.bool (false))))) := fun y => Calls.mono (l2Part0_ans (W := y.w) (hr1.ext y) (by omega) hc (Ty.end_one hok) (by omega) (by omega) (by omega) (row_one (hr1.ext y)) (Ext.self y.w)) (by
    rintro e w' ⟨pv, z, rfl, rfl, own⟩
    obtain ⟨g, gc, rfl, row, hcap, _⟩ := own_some own (Ty.enc_pos _)
    exact ⟨_, y.trans z, rfl, rfl, by have h := ihA hok.2 hd (W := z.w) row (by omega) hcap ((hs0.ext y).ext z) ok0 (Ext.self z.w); rw [HO0.out] at h; exact Calls.mono h fun _ _ q => ans_lift (z := y.trans z) q⟩)
  clear n3 hlk hlk' HR AT hs0
  generalize gradeOf cc = gg at *
  have hlp : 0 < (Ty.one cc A).enc.length := Ty.enc_pos _
  generalize (Ty.one cc A).enc.length = len at *
  clear hr hok hd hl hc hr1 hv h1 ok hA hlen hbx hc0 hc1 ok0 ihA
  have hlp' : (0 : Int) < (len : Int) := by omega
  have f11 : (v.op == 11) = true := by rw [HO.out]; decide
  go_upto_region 10 with fail
  refine wp_region_held_drew (S := (fun w' => w'.cell? ⟨BQ, 0, none⟩ = some (.int .i64 v.op) ∧ w'.cell? ⟨BQ, 1, none⟩ = some (.int .i64 v.n) ∧ w'.cell? ⟨BQ, 2, none⟩ = some (.slice ra v.ty.length rc) ∧ w'.cell? ⟨BQ, 3, none⟩ = some (.slice (some ⟨kb, ko, none⟩) 1 rd) ∧ w'.cell? ⟨kb, ko, none⟩ = some (.int .i64 k0.op) ∧ w'.cell? ⟨kb, ko + 1, none⟩ = some (.int .i64 k0.n) ∧ w'.cell? ⟨kb, ko + 2, none⟩ = some (.slice (kr 0).a k0.ty.length (kr 0).c) ∧ w'.cell? ⟨kb, ko + 3, none⟩ = some (.slice (kr 0).b k0.kids.length (kr 0).d))) (by kernel_rfl) ?_ (fun hHeld => ?_)
  · (try dsimp only)
    first | (with_reducible exact ⟨n0 yy.drew, n1 yy.drew, n2 yy.drew, m3 yy.drew, d00 yy.drew, d01 yy.drew, d02 yy.drew, d03 yy.drew⟩) | (with_reducible exact ⟨n0 zz, n1 zz, n2 zz, m3 zz, d00 zz, d01 zz, d02 zz, d03 zz⟩)
  refine wpAnyH_take (i := 0) (v := ?_) rfl (by kernel_rfl) (by kernel_rfl) (by kernel_rfl) (fun _ _ _ h => h) (Or.inl ⟨by rfl, ?_⟩) hHeld ?_
  rotate_left
  · intro w hSw; (try dsimp only at hSw); (try simp only [List.getElem_toArray, List.getElem_cons_zero]); first | (go_simp; done) | (go_simp; with_reducible rfl)
  try simp only [List.getElem_toArray, List.getElem_cons_zero, Act.put, List.setIfInBounds_toArray, List.set_cons_zero, List.set_cons_succ]
  refine wpAnyH_take (i := 1) (v := ?_) rfl (by kernel_rfl) (by kernel_rfl) (by kernel_rfl) (fun _ _ _ h => h) (Or.inl ⟨by rfl, ?_⟩) hHeld ?_
  rotate_left
  · intro w hSw; (try dsimp only at hSw); (try simp only [List.getElem_toArray, List.getElem_cons_succ, List.getElem_cons_zero]); first | (go_simp; done) | (go_simp; with_reducible rfl)
  try simp only [List.getElem_toArray, List.getElem_cons_succ, List.getElem_cons_zero, Act.put, List.setIfInBounds_toArray, List.set_cons_zero, List.set_cons_succ]
  refine wpAnyH_take (i := 2) (v := ?_) rfl (by kernel_rfl) (by kernel_rfl) (by kernel_rfl) (fun _ _ _ h => h) (Or.inl ⟨by rfl, ?_⟩) hHeld ?_
  rotate_left
  · intro w hSw; (try dsimp only at hSw); (try simp only [List.getElem_toArray, List.getElem_cons_succ, List.getElem_cons_zero]); first | (go_simp; done) | (go_simp; with_reducible rfl)
  try simp only [List.getElem_toArray, List.getElem_cons_succ, List.getElem_cons_zero, Act.put, List.setIfInBounds_toArray, List.set_cons_zero, List.set_cons_succ]
  refine wpAnyH_take (i := 3) (v := ?_) rfl (by kernel_rfl) (by kernel_rfl) (by kernel_rfl) (fun _ _ _ h => h) (Or.inl ⟨by rfl, ?_⟩) hHeld ?_
  rotate_left
  · intro w hSw; (try dsimp only at hSw); (try simp only [List.getElem_toArray, List.getElem_cons_succ, List.getElem_cons_zero]); first | (go_simp; done) | (go_simp; with_reducible rfl)
  try simp only [List.getElem_toArray, List.getElem_cons_succ, List.getElem_cons_zero, Act.put, List.setIfInBounds_toArray, List.set_cons_zero, List.set_cons_succ]
  refine wpAnyH_take (i := 4) (v := ?_) rfl (by kernel_rfl) (by kernel_rfl) (by kernel_rfl) (fun _ _ _ h => h) (Or.inl ⟨by rfl, ?_⟩) hHeld ?_
  rotate_left
  · intro w hSw; (try dsimp only at hSw); (try simp only [List.getElem_toArray, List.getElem_cons_succ, List.getElem_cons_zero]); first | (go_simp; done) | (go_simp; with_reducible rfl)
  try simp only [List.getElem_toArray, List.getElem_cons_succ, List.getElem_cons_zero, Act.put, List.setIfInBounds_toArray, List.set_cons_zero, List.set_cons_succ]
  refine wpAnyH_take (i := 5) (v := ?_) rfl (by kernel_rfl) (by kernel_rfl) (by kernel_rfl) (fun _ _ _ h => h) (Or.inl ⟨by rfl, ?_⟩) hHeld ?_
  rotate_left
  · intro w hSw; (try dsimp only at hSw); (try simp only [List.getElem_toArray, List.getElem_cons_succ, List.getElem_cons_zero]); first | (go_simp; done) | (go_simp; with_reducible rfl)
  try simp only [List.getElem_toArray, List.getElem_cons_succ, List.getElem_cons_zero, Act.put, List.setIfInBounds_toArray, List.set_cons_zero, List.set_cons_succ]
  refine wpAnyH_take (i := 6) (v := ?_) rfl (by kernel_rfl) (by kernel_rfl) (by kernel_rfl) (fun _ _ _ h => h) (Or.inl ⟨by rfl, ?_⟩) hHeld ?_
  rotate_left
  · intro w hSw; (try dsimp only at hSw); (try simp only [List.getElem_toArray, List.getElem_cons_succ, List.getElem_cons_zero]); first | (go_simp; done) | (go_simp; with_reducible rfl)
  try simp only [List.getElem_toArray, List.getElem_cons_succ, List.getElem_cons_zero, Act.put, List.setIfInBounds_toArray, List.set_cons_zero, List.set_cons_succ]
  refine wpAnyH_ready (rs := [7]) (by kernel_rfl) (by simp) ?_
  refine AllReadyH.cons rfl (fun K hK => ?_) AllReadyH.nil
  try simp only [List.getElem_toArray, List.getElem_cons_succ, List.getElem_cons_zero]
  go_simp
  (with_reducible refine Calls.mono (GC yy.drew) ?_)
  rintro e w' ⟨rfl, zz, rfl⟩
  (try dsimp only)
  refine hK.out _ _ ?_ (fun hHeld2 => ?_)
  · (try dsimp only)
    first | (with_reducible exact ⟨n0 yy.drew, n1 yy.drew, n2 yy.drew, m3 yy.drew, d00 yy.drew, d01 yy.drew, d02 yy.drew, d03 yy.drew⟩) | (with_reducible exact ⟨n0 zz, n1 zz, n2 zz, m3 zz, d00 zz, d01 zz, d02 zz, d03 zz⟩)
  clear hK K hHeld
  have hHeld := hHeld2
  clear hHeld2
  try simp only [List.getElem_toArray, List.getElem_cons_succ, List.getElem_cons_zero, Act.put, List.setIfInBounds_toArray, List.set_cons_zero, List.set_cons_succ]
  refine wpAnyH_take (i := 8) (v := ?_) rfl (by kernel_rfl) (by kernel_rfl) (by kernel_rfl) (fun _ _ _ h => h) (Or.inl ⟨by rfl, ?_⟩) hHeld ?_
  rotate_left
  · intro w hSw; (try dsimp only at hSw); (try simp only [List.getElem_toArray, List.getElem_cons_succ, List.getElem_cons_zero]); first | (go_simp; done) | (go_simp; with_reducible rfl)
  try simp only [List.getElem_toArray, List.getElem_cons_succ, List.getElem_cons_zero, Act.put, List.setIfInBounds_toArray, List.set_cons_zero, List.set_cons_succ]
  refine wpAnyH_take (i := 9) (v := ?_) rfl (by kernel_rfl) (by kernel_rfl) (by kernel_rfl) (fun _ _ _ h => h) (Or.inl ⟨by rfl, ?_⟩) hHeld ?_
  rotate_left
  · intro w hSw; (try dsimp only at hSw); (try simp only [List.getElem_toArray, List.getElem_cons_succ, List.getElem_cons_zero]); first | (go_simp; done) | (go_simp; with_reducible rfl)
  try simp only [List.getElem_toArray, List.getElem_cons_succ, List.getElem_cons_zero, Act.put, List.setIfInBounds_toArray, List.set_cons_zero, List.set_cons_succ]
  refine wpAnyH_take (i := 10) (v := ?_) rfl (by kernel_rfl) (by kernel_rfl) (by kernel_rfl) (fun _ _ _ h => h) (Or.inl ⟨by rfl, ?_⟩) hHeld ?_
  rotate_left
  · intro w hSw; (try dsimp only at hSw); (try simp only [List.getElem_toArray, List.getElem_cons_succ, List.getElem_cons_zero]); first | (go_simp; done) | (go_simp; with_reducible rfl)
  try simp only [List.getElem_toArray, List.getElem_cons_succ, List.getElem_cons_zero, Act.put, List.setIfInBounds_toArray, List.set_cons_zero, List.set_cons_succ]
  refine wpAnyH_take (i := 11) (v := ?_) rfl (by kernel_rfl) (by kernel_rfl) (by kernel_rfl) (fun _ _ _ h => h) (Or.inl ⟨by rfl, ?_⟩) hHeld ?_
  rotate_left
  · intro w hSw; (try dsimp only at hSw); (try simp only [List.getElem_toArray, List.getElem_cons_succ, List.getElem_cons_zero]); first | (go_simp; done) | (go_simp; with_reducible rfl)
  try simp only [List.getElem_toArray, List.getElem_cons_succ, List.getElem_cons_zero, Act.put, List.setIfInBounds_toArray, List.set_cons_zero, List.set_cons_succ]
  refine wpAnyH_take (i := 13) (v := ?_) rfl (by kernel_rfl) (by kernel_rfl) (by kernel_rfl) (fun _ _ _ h => h) (Or.inl ⟨by rfl, ?_⟩) hHeld ?_
  rotate_left
  · intro w hSw; (try dsimp only at hSw); (try simp only [List.getElem_toArray, List.getElem_cons_succ, List.getElem_cons_zero]); first | (go_simp; done) | (go_simp; with_reducible rfl)
  try simp only [List.getElem_toArray, List.getElem_cons_succ, List.getElem_cons_zero, Act.put, List.setIfInBounds_toArray, List.set_cons_zero, List.set_cons_succ]
  refine wpAnyH_take (i := 14) (v := ?_) rfl (by kernel_rfl) (by kernel_rfl) (by kernel_rfl) (fun _ _ _ h => h) (Or.inl ⟨by rfl, ?_⟩) hHeld ?_
  rotate_left
  · intro w hSw; (try dsimp only at hSw); (try simp only [List.getElem_toArray, List.getElem_cons_succ, List.getElem_cons_zero]); first | (go_simp; done) | (go_simp; with_reducible rfl)
  try simp only [List.getElem_toArray, List.getElem_cons_succ, List.getElem_cons_zero, Act.put, List.setIfInBounds_toArray, List.set_cons_zero, List.set_cons_succ]
  refine wpAnyH_take (i := 15) (v := ?_) rfl (by kernel_rfl) (by kernel_rfl) (by kernel_rfl) (fun _ _ _ h => h) (Or.inl ⟨by rfl, ?_⟩) hHeld ?_
  rotate_left
  · intro w hSw; (try dsimp only at hSw); (try simp only [List.getElem_toArray, List.getElem_cons_succ, List.getElem_cons_zero]); first | (go_simp; done) | (go_simp; with_reducible rfl)
  try simp only [List.getElem_toArray, List.getElem_cons_succ, List.getElem_cons_zero, Act.put, List.setIfInBounds_toArray, List.set_cons_zero, List.set_cons_succ]
  refine wpAnyH_take (i := 16) (v := ?_) rfl (by kernel_rfl) (by kernel_rfl) (by kernel_rfl) (fun _ _ _ h => h) (Or.inl ⟨by rfl, ?_⟩) hHeld ?_
  rotate_left
  · intro w hSw; (try dsimp only at hSw); (try simp only [List.getElem_toArray, List.getElem_cons_succ, List.getElem_cons_zero]); first | (go_simp; done) | (go_simp; with_reducible rfl)
  try simp only [List.getElem_toArray, List.getElem_cons_succ, List.getElem_cons_zero, Act.put, List.setIfInBounds_toArray, List.set_cons_zero, List.set_cons_succ]
  refine wpAnyH_ready (rs := [12]) (by kernel_rfl) (by simp) ?_
  refine AllReadyH.cons rfl (fun K hK => ?_) AllReadyH.nil
  try simp only [List.getElem_toArray, List.getElem_cons_succ, List.getElem_cons_zero]
  go_simp
  (with_reducible refine Calls.mono (P0 zz) ?_)
  rintro e w' ⟨pv, zz, rfl, rfl, HC⟩
  (try dsimp only)
  refine hK.out _ _ ?_ (fun hHeld2 => ?_)
  · (try dsimp only)
    first | (with_reducible exact ⟨n0 yy.drew, n1 yy.drew, n2 yy.drew, m3 yy.drew, d00 yy.drew, d01 yy.drew, d02 yy.drew, d03 yy.drew⟩) | (with_reducible exact ⟨n0 zz, n1 zz, n2 zz, m3 zz, d00 zz, d01 zz, d02 zz, d03 zz⟩)
  clear hK K hHeld
  have hHeld := hHeld2
  clear hHeld2
  try simp only [List.getElem_toArray, List.getElem_cons_succ, List.getElem_cons_zero, Act.put, List.setIfInBounds_toArray, List.set_cons_zero, List.set_cons_succ]
  refine wpAnyH_ready (rs := [17]) (by kernel_rfl) (by simp) ?_
  refine AllReadyH.cons rfl (fun K hK => ?_) AllReadyH.nil
  try simp only [List.getElem_toArray, List.getElem_cons_succ, List.getElem_cons_zero]
  go_simp
  (with_reducible refine Calls.mono HC.out ?_)
  rintro e w' ⟨rfl, zz, rfl⟩
  (try dsimp only)
  refine hK.out _ _ ?_ (fun hHeld2 => ?_)
  · (try dsimp only)
    first | (with_reducible exact ⟨n0 yy.drew, n1 yy.drew, n2 yy.drew, m3 yy.drew, d00 yy.drew, d01 yy.drew, d02 yy.drew, d03 yy.drew⟩) | (with_reducible exact ⟨n0 zz, n1 zz, n2 zz, m3 zz, d00 zz, d01 zz, d02 zz, d03 zz⟩)
  clear hK K hHeld
  have hHeld := hHeld2
  clear hHeld2
  try simp only [List.getElem_toArray, List.getElem_cons_succ, List.getElem_cons_zero, Act.put, List.setIfInBounds_toArray, List.set_cons_zero, List.set_cons_succ]
  refine wpAnyH_take (i := 18) (v := ?_) rfl (by kernel_rfl) (by kernel_rfl) (by kernel_rfl) (fun _ _ _ h => h) (Or.inl ⟨by rfl, ?_⟩) hHeld ?_
  rotate_left
  · intro w hSw; (try dsimp only at hSw); (try simp only [List.getElem_toArray, List.getElem_cons_succ, List.getElem_cons_zero]); first | (go_simp; done) | (go_simp; with_reducible rfl)
  try simp only [List.getElem_toArray, List.getElem_cons_succ, List.getElem_cons_zero, Act.put, List.setIfInBounds_toArray, List.set_cons_zero, List.set_cons_succ]
  refine wpAnyH_take (i := 19) (v := ?_) rfl (by kernel_rfl) (by kernel_rfl) (by kernel_rfl) (fun _ _ _ h => h) (Or.inl ⟨by rfl, ?_⟩) hHeld ?_
  rotate_left
  · intro w hSw; (try dsimp only at hSw); (try simp only [List.getElem_toArray, List.getElem_cons_succ, List.getElem_cons_zero]); first | (go_simp; done) | (go_simp; with_reducible rfl)
  try simp only [List.getElem_toArray, List.getElem_cons_succ, List.getElem_cons_zero, Act.put, List.setIfInBounds_toArray, List.set_cons_zero, List.set_cons_succ]
  refine wpAnyH_done (by kernel_rfl) ?_ _
  go_wp2_with fail
  go_ret
  exact ⟨rfl, hback zz⟩

set_option maxRecDepth 100000 in
set_option maxHeartbeats 16000000 in
theorem l5One_t {cc : Int} {A : Ty} (ihA : A.Ok → A.Data → ∀ {W : World} {b o c : Nat} (_ : Row W (Value.int .i64) (some ⟨b, o, none⟩) A.enc) (_ : A.enc.length ≤ 40) (_ : A.enc.length ≤ c) {lo : Nat} {v : Tm} {r : TV} (_ : TmIn W lo v r) {size vars : Int} {closed : Bool} (_ : OkT size closed vars v) (x : Ext W), Calls Tryd.prog 78 #[.slice (some ⟨b, o, none⟩) A.enc.length c, r.val v] x.w (Ans W (.bool (A.place v).isSome))) (hok : (Ty.one cc A).Ok) (hd : (Ty.one cc A).Data) {W : World} {b o c : Nat} (hr : Row W (Value.int .i64) (some ⟨b, o, none⟩) (Ty.one cc A).enc) (hl : (Ty.one cc A).enc.length ≤ 40) (hc : (Ty.one cc A).enc.length ≤ c)
    {lo : Nat} {v : Tm} {r : TV} (hv : TmIn W lo v r) {size vars : Int} {closed : Bool} (ok : OkT size closed vars v) (ho : v.op = 11) (hn : v.n = gradeOf cc) {k0 : Tm} (hk : v.kids = [k0]) (hoa : (A.place k0).isSome = true) (x : Ext W) :
    Calls Tryd.prog 78 #[.slice (some ⟨b, o, none⟩) (Ty.one cc A).enc.length c, r.val v] x.w (Ans W (.bool (true))) := by
  obtain ⟨ra, rc, rb, rd⟩ := r
  unfold TV.val
  have hA := A.enc_pos
  have hlen := Ty.len_one cc A
  have hbx := Ty.bx_of hok.1
  have hc0 : 0 ≤ cc := by unfold Bx at hbx; omega
  have hc1 : cc ≤ 1000 := by unfold Bx at hbx; omega
  have e0 : (cc == 0) = false := by rw [beq_eq_false_iff_ne]; unfold Bx at hbx; omega
  have e1 : (cc == 1) = false := by rw [beq_eq_false_iff_ne]; unfold Bx at hbx; omega
  have e2 : (cc == 2) = false := by rw [beq_eq_false_iff_ne]; unfold Bx at hbx; omega
  have HO := Lib.hid ho
  have ok0 := ok.kid (i := 0) (k := k0) (by rw [hk]; rfl)
  have HK := Lib.hid hk
  have HO0 := Lib.hid hoa
  clear hk hoa
  have fn : (v.n == gradeOf cc) = true := by exact beq_iff_eq.2 hn
  clear ho hn
  go_enter Tryd.func78, Tryd.ntmps78
  go_upto_region 1 with fail
  generalize hW : x.w.alloc _ = W1
  generalize hB : x.w.heap.size = BQ
  obtain ⟨c0, c1, c2, c3, h1, hback, yy, hy0⟩ := boxedT hv x hB hW
  have hr1 : Row W1 (Value.int .i64) (some ⟨b, o, none⟩) (Ty.one cc A).enc := by rw [← hW]; exact hr.ext (x.alloc _)
  clear hW hB
  rw [← hy0]
  clear hy0
  obtain ⟨kr, AT⟩ := h1.out
  have m0 : ∀ y : Ext W1, y.w.cell? ⟨b, o, none⟩ = some (.int .i64 (cc)) := fun y => y.cell (row_head hr1 (l' := A.enc) rfl)
  have n0 := c0
  have n1 := c1
  have n2 := c2
  have n3 := c3
  clear c0 c1 c2 c3
  have GC : ∀ y : Ext W1, Calls Tryd.prog 57 #[.int .i64 cc] y.w (Ans W1 (.int .i64 (gradeOf cc))) := fun y => l2Grade_ans cc hc0 hc1 y
  obtain ⟨bb, oo, hrb, KK⟩ := AT.kid 0 k0 (by rw [HK.out]; rfl)
  have hs0 := AT.sub 0 k0 (by rw [HK.out]; rfl)
  dsimp only at hrb
  obtain ⟨kb, hkb⟩ : ∃ z, z = bb := ⟨_, rfl⟩
  obtain ⟨ko, hko⟩ : ∃ z, z = oo := ⟨_, rfl⟩
  rw [← hkb, ← hko] at KK hrb
  clear hkb hko bb oo
  have HR := hrb
  clear hrb
  have d00 : ∀ u : Ext W1, u.w.cell? ⟨kb, ko, none⟩ = some (.int .i64 k0.op) := fun u => by have := u.cell KK.c0; simpa using this
  have d01 : ∀ u : Ext W1, u.w.cell? ⟨kb, ko + 1, none⟩ = some (.int .i64 k0.n) := fun u => by have := u.cell KK.c1; simpa using this
  have d02 : ∀ u : Ext W1, u.w.cell? ⟨kb, ko + 2, none⟩ = some (.slice (kr 0).a k0.ty.length (kr 0).c) := fun u => by have := u.cell KK.c2; simpa using this
  have d03 : ∀ u : Ext W1, u.w.cell? ⟨kb, ko + 3, none⟩ = some (.slice (kr 0).b k0.kids.length (kr 0).d) := fun u => by have := u.cell KK.c3; simpa using this
  clear KK
  have hlk : v.kids.length = 1 := by rw [HK.out]; rfl
  have hlk' : (v.kids.length : Int) = 1 := by rw [hlk]; rfl
  have m3 : ∀ u : Ext W1, u.w.cell? ⟨BQ, 3, none⟩ = some (.slice (some ⟨kb, ko, none⟩) 1 rd) := fun u => by rw [n3 u, HR, hlk]
  have P0 : ∀ y : Ext W1, Calls Tryd.prog 124 #[.slice (some ⟨b, o, none⟩) (Ty.one cc A).enc.length c, .int .i64 0] y.w (fun e w' => ∃ (pv : Value) (z : Ext W1), e = .returned pv ∧ w' = z.w ∧ Hid (Calls Tryd.prog 78 #[pv, (.agg #[.int .i64 k0.op, .int .i64 k0.n, .slice (kr 0).a k0.ty.length (kr 0).c, .slice (kr 0).b k0.kids.length (kr 0).d])] z.w (Ans W1 (.bool (true))))) := fun y => Calls.mono (l2Part0_ans (W := y.w) (hr1.ext y) (by omega) hc (Ty.end_one hok) (by omega) (by omega) (by omega) (row_one (hr1.ext y)) (Ext.self y.w)) (by
    rintro e w' ⟨pv, z, rfl, rfl, own⟩
    obtain ⟨g, gc, rfl, row, hcap, _⟩ := own_some own (Ty.enc_pos _)
    exact ⟨_, y.trans z, rfl, rfl, by have h := ihA hok.2 hd (W := z.w) row (by omega) hcap ((hs0.ext y).ext z) ok0 (Ext.self z.w); rw [HO0.out] at h; exact Calls.mono h fun _ _ q => ans_lift (z := y.trans z) q⟩)
  clear n3 hlk hlk' HR AT hs0
  generalize gradeOf cc = gg at *
  have hlp : 0 < (Ty.one cc A).enc.length := Ty.enc_pos _
  generalize (Ty.one cc A).enc.length = len at *
  clear hr hok hd hl hc hr1 hv h1 ok hA hlen hbx hc0 hc1 ok0 ihA
  have hlp' : (0 : Int) < (len : Int) := by omega
  have f11 : (v.op == 11) = true := by rw [HO.out]; decide
  go_upto_region 10 with fail
  refine wp_region_held_drew (S := (fun w' => w'.cell? ⟨BQ, 0, none⟩ = some (.int .i64 v.op) ∧ w'.cell? ⟨BQ, 1, none⟩ = some (.int .i64 v.n) ∧ w'.cell? ⟨BQ, 2, none⟩ = some (.slice ra v.ty.length rc) ∧ w'.cell? ⟨BQ, 3, none⟩ = some (.slice (some ⟨kb, ko, none⟩) 1 rd) ∧ w'.cell? ⟨kb, ko, none⟩ = some (.int .i64 k0.op) ∧ w'.cell? ⟨kb, ko + 1, none⟩ = some (.int .i64 k0.n) ∧ w'.cell? ⟨kb, ko + 2, none⟩ = some (.slice (kr 0).a k0.ty.length (kr 0).c) ∧ w'.cell? ⟨kb, ko + 3, none⟩ = some (.slice (kr 0).b k0.kids.length (kr 0).d))) (by kernel_rfl) ?_ (fun hHeld => ?_)
  · (try dsimp only)
    first | (with_reducible exact ⟨n0 yy.drew, n1 yy.drew, n2 yy.drew, m3 yy.drew, d00 yy.drew, d01 yy.drew, d02 yy.drew, d03 yy.drew⟩) | (with_reducible exact ⟨n0 zz, n1 zz, n2 zz, m3 zz, d00 zz, d01 zz, d02 zz, d03 zz⟩)
  refine wpAnyH_take (i := 0) (v := ?_) rfl (by kernel_rfl) (by kernel_rfl) (by kernel_rfl) (fun _ _ _ h => h) (Or.inl ⟨by rfl, ?_⟩) hHeld ?_
  rotate_left
  · intro w hSw; (try dsimp only at hSw); (try simp only [List.getElem_toArray, List.getElem_cons_zero]); first | (go_simp; done) | (go_simp; with_reducible rfl)
  try simp only [List.getElem_toArray, List.getElem_cons_zero, Act.put, List.setIfInBounds_toArray, List.set_cons_zero, List.set_cons_succ]
  refine wpAnyH_take (i := 1) (v := ?_) rfl (by kernel_rfl) (by kernel_rfl) (by kernel_rfl) (fun _ _ _ h => h) (Or.inl ⟨by rfl, ?_⟩) hHeld ?_
  rotate_left
  · intro w hSw; (try dsimp only at hSw); (try simp only [List.getElem_toArray, List.getElem_cons_succ, List.getElem_cons_zero]); first | (go_simp; done) | (go_simp; with_reducible rfl)
  try simp only [List.getElem_toArray, List.getElem_cons_succ, List.getElem_cons_zero, Act.put, List.setIfInBounds_toArray, List.set_cons_zero, List.set_cons_succ]
  refine wpAnyH_take (i := 2) (v := ?_) rfl (by kernel_rfl) (by kernel_rfl) (by kernel_rfl) (fun _ _ _ h => h) (Or.inl ⟨by rfl, ?_⟩) hHeld ?_
  rotate_left
  · intro w hSw; (try dsimp only at hSw); (try simp only [List.getElem_toArray, List.getElem_cons_succ, List.getElem_cons_zero]); first | (go_simp; done) | (go_simp; with_reducible rfl)
  try simp only [List.getElem_toArray, List.getElem_cons_succ, List.getElem_cons_zero, Act.put, List.setIfInBounds_toArray, List.set_cons_zero, List.set_cons_succ]
  refine wpAnyH_take (i := 3) (v := ?_) rfl (by kernel_rfl) (by kernel_rfl) (by kernel_rfl) (fun _ _ _ h => h) (Or.inl ⟨by rfl, ?_⟩) hHeld ?_
  rotate_left
  · intro w hSw; (try dsimp only at hSw); (try simp only [List.getElem_toArray, List.getElem_cons_succ, List.getElem_cons_zero]); first | (go_simp; done) | (go_simp; with_reducible rfl)
  try simp only [List.getElem_toArray, List.getElem_cons_succ, List.getElem_cons_zero, Act.put, List.setIfInBounds_toArray, List.set_cons_zero, List.set_cons_succ]
  refine wpAnyH_take (i := 4) (v := ?_) rfl (by kernel_rfl) (by kernel_rfl) (by kernel_rfl) (fun _ _ _ h => h) (Or.inl ⟨by rfl, ?_⟩) hHeld ?_
  rotate_left
  · intro w hSw; (try dsimp only at hSw); (try simp only [List.getElem_toArray, List.getElem_cons_succ, List.getElem_cons_zero]); first | (go_simp; done) | (go_simp; with_reducible rfl)
  try simp only [List.getElem_toArray, List.getElem_cons_succ, List.getElem_cons_zero, Act.put, List.setIfInBounds_toArray, List.set_cons_zero, List.set_cons_succ]
  refine wpAnyH_take (i := 5) (v := ?_) rfl (by kernel_rfl) (by kernel_rfl) (by kernel_rfl) (fun _ _ _ h => h) (Or.inl ⟨by rfl, ?_⟩) hHeld ?_
  rotate_left
  · intro w hSw; (try dsimp only at hSw); (try simp only [List.getElem_toArray, List.getElem_cons_succ, List.getElem_cons_zero]); first | (go_simp; done) | (go_simp; with_reducible rfl)
  try simp only [List.getElem_toArray, List.getElem_cons_succ, List.getElem_cons_zero, Act.put, List.setIfInBounds_toArray, List.set_cons_zero, List.set_cons_succ]
  refine wpAnyH_take (i := 6) (v := ?_) rfl (by kernel_rfl) (by kernel_rfl) (by kernel_rfl) (fun _ _ _ h => h) (Or.inl ⟨by rfl, ?_⟩) hHeld ?_
  rotate_left
  · intro w hSw; (try dsimp only at hSw); (try simp only [List.getElem_toArray, List.getElem_cons_succ, List.getElem_cons_zero]); first | (go_simp; done) | (go_simp; with_reducible rfl)
  try simp only [List.getElem_toArray, List.getElem_cons_succ, List.getElem_cons_zero, Act.put, List.setIfInBounds_toArray, List.set_cons_zero, List.set_cons_succ]
  refine wpAnyH_ready (rs := [7]) (by kernel_rfl) (by simp) ?_
  refine AllReadyH.cons rfl (fun K hK => ?_) AllReadyH.nil
  try simp only [List.getElem_toArray, List.getElem_cons_succ, List.getElem_cons_zero]
  go_simp
  (with_reducible refine Calls.mono (GC yy.drew) ?_)
  rintro e w' ⟨rfl, zz, rfl⟩
  (try dsimp only)
  refine hK.out _ _ ?_ (fun hHeld2 => ?_)
  · (try dsimp only)
    first | (with_reducible exact ⟨n0 yy.drew, n1 yy.drew, n2 yy.drew, m3 yy.drew, d00 yy.drew, d01 yy.drew, d02 yy.drew, d03 yy.drew⟩) | (with_reducible exact ⟨n0 zz, n1 zz, n2 zz, m3 zz, d00 zz, d01 zz, d02 zz, d03 zz⟩)
  clear hK K hHeld
  have hHeld := hHeld2
  clear hHeld2
  try simp only [List.getElem_toArray, List.getElem_cons_succ, List.getElem_cons_zero, Act.put, List.setIfInBounds_toArray, List.set_cons_zero, List.set_cons_succ]
  refine wpAnyH_take (i := 8) (v := ?_) rfl (by kernel_rfl) (by kernel_rfl) (by kernel_rfl) (fun _ _ _ h => h) (Or.inl ⟨by rfl, ?_⟩) hHeld ?_
  rotate_left
  · intro w hSw; (try dsimp only at hSw); (try simp only [List.getElem_toArray, List.getElem_cons_succ, List.getElem_cons_zero]); first | (go_simp; done) | (go_simp; with_reducible rfl)
  try simp only [List.getElem_toArray, List.getElem_cons_succ, List.getElem_cons_zero, Act.put, List.setIfInBounds_toArray, List.set_cons_zero, List.set_cons_succ]
  refine wpAnyH_take (i := 9) (v := ?_) rfl (by kernel_rfl) (by kernel_rfl) (by kernel_rfl) (fun _ _ _ h => h) (Or.inl ⟨by rfl, ?_⟩) hHeld ?_
  rotate_left
  · intro w hSw; (try dsimp only at hSw); (try simp only [List.getElem_toArray, List.getElem_cons_succ, List.getElem_cons_zero]); first | (go_simp; done) | (go_simp; with_reducible rfl)
  try simp only [List.getElem_toArray, List.getElem_cons_succ, List.getElem_cons_zero, Act.put, List.setIfInBounds_toArray, List.set_cons_zero, List.set_cons_succ]
  refine wpAnyH_take (i := 10) (v := ?_) rfl (by kernel_rfl) (by kernel_rfl) (by kernel_rfl) (fun _ _ _ h => h) (Or.inl ⟨by rfl, ?_⟩) hHeld ?_
  rotate_left
  · intro w hSw; (try dsimp only at hSw); (try simp only [List.getElem_toArray, List.getElem_cons_succ, List.getElem_cons_zero]); first | (go_simp; done) | (go_simp; with_reducible rfl)
  try simp only [List.getElem_toArray, List.getElem_cons_succ, List.getElem_cons_zero, Act.put, List.setIfInBounds_toArray, List.set_cons_zero, List.set_cons_succ]
  refine wpAnyH_take (i := 11) (v := ?_) rfl (by kernel_rfl) (by kernel_rfl) (by kernel_rfl) (fun _ _ _ h => h) (Or.inl ⟨by rfl, ?_⟩) hHeld ?_
  rotate_left
  · intro w hSw; (try dsimp only at hSw); (try simp only [List.getElem_toArray, List.getElem_cons_succ, List.getElem_cons_zero]); first | (go_simp; done) | (go_simp; with_reducible rfl)
  try simp only [List.getElem_toArray, List.getElem_cons_succ, List.getElem_cons_zero, Act.put, List.setIfInBounds_toArray, List.set_cons_zero, List.set_cons_succ]
  refine wpAnyH_take (i := 13) (v := ?_) rfl (by kernel_rfl) (by kernel_rfl) (by kernel_rfl) (fun _ _ _ h => h) (Or.inl ⟨by rfl, ?_⟩) hHeld ?_
  rotate_left
  · intro w hSw; (try dsimp only at hSw); (try simp only [List.getElem_toArray, List.getElem_cons_succ, List.getElem_cons_zero]); first | (go_simp; done) | (go_simp; with_reducible rfl)
  try simp only [List.getElem_toArray, List.getElem_cons_succ, List.getElem_cons_zero, Act.put, List.setIfInBounds_toArray, List.set_cons_zero, List.set_cons_succ]
  refine wpAnyH_take (i := 14) (v := ?_) rfl (by kernel_rfl) (by kernel_rfl) (by kernel_rfl) (fun _ _ _ h => h) (Or.inl ⟨by rfl, ?_⟩) hHeld ?_
  rotate_left
  · intro w hSw; (try dsimp only at hSw); (try simp only [List.getElem_toArray, List.getElem_cons_succ, List.getElem_cons_zero]); first | (go_simp; done) | (go_simp; with_reducible rfl)
  try simp only [List.getElem_toArray, List.getElem_cons_succ, List.getElem_cons_zero, Act.put, List.setIfInBounds_toArray, List.set_cons_zero, List.set_cons_succ]
  refine wpAnyH_take (i := 15) (v := ?_) rfl (by kernel_rfl) (by kernel_rfl) (by kernel_rfl) (fun _ _ _ h => h) (Or.inl ⟨by rfl, ?_⟩) hHeld ?_
  rotate_left
  · intro w hSw; (try dsimp only at hSw); (try simp only [List.getElem_toArray, List.getElem_cons_succ, List.getElem_cons_zero]); first | (go_simp; done) | (go_simp; with_reducible rfl)
  try simp only [List.getElem_toArray, List.getElem_cons_succ, List.getElem_cons_zero, Act.put, List.setIfInBounds_toArray, List.set_cons_zero, List.set_cons_succ]
  refine wpAnyH_take (i := 16) (v := ?_) rfl (by kernel_rfl) (by kernel_rfl) (by kernel_rfl) (fun _ _ _ h => h) (Or.inl ⟨by rfl, ?_⟩) hHeld ?_
  rotate_left
  · intro w hSw; (try dsimp only at hSw); (try simp only [List.getElem_toArray, List.getElem_cons_succ, List.getElem_cons_zero]); first | (go_simp; done) | (go_simp; with_reducible rfl)
  try simp only [List.getElem_toArray, List.getElem_cons_succ, List.getElem_cons_zero, Act.put, List.setIfInBounds_toArray, List.set_cons_zero, List.set_cons_succ]
  refine wpAnyH_ready (rs := [12]) (by kernel_rfl) (by simp) ?_
  refine AllReadyH.cons rfl (fun K hK => ?_) AllReadyH.nil
  try simp only [List.getElem_toArray, List.getElem_cons_succ, List.getElem_cons_zero]
  go_simp
  (with_reducible refine Calls.mono (P0 zz) ?_)
  rintro e w' ⟨pv, zz, rfl, rfl, HC⟩
  (try dsimp only)
  refine hK.out _ _ ?_ (fun hHeld2 => ?_)
  · (try dsimp only)
    first | (with_reducible exact ⟨n0 yy.drew, n1 yy.drew, n2 yy.drew, m3 yy.drew, d00 yy.drew, d01 yy.drew, d02 yy.drew, d03 yy.drew⟩) | (with_reducible exact ⟨n0 zz, n1 zz, n2 zz, m3 zz, d00 zz, d01 zz, d02 zz, d03 zz⟩)
  clear hK K hHeld
  have hHeld := hHeld2
  clear hHeld2
  try simp only [List.getElem_toArray, List.getElem_cons_succ, List.getElem_cons_zero, Act.put, List.setIfInBounds_toArray, List.set_cons_zero, List.set_cons_succ]
  refine wpAnyH_ready (rs := [17]) (by kernel_rfl) (by simp) ?_
  refine AllReadyH.cons rfl (fun K hK => ?_) AllReadyH.nil
  try simp only [List.getElem_toArray, List.getElem_cons_succ, List.getElem_cons_zero]
  go_simp
  (with_reducible refine Calls.mono HC.out ?_)
  rintro e w' ⟨rfl, zz, rfl⟩
  (try dsimp only)
  refine hK.out _ _ ?_ (fun hHeld2 => ?_)
  · (try dsimp only)
    first | (with_reducible exact ⟨n0 yy.drew, n1 yy.drew, n2 yy.drew, m3 yy.drew, d00 yy.drew, d01 yy.drew, d02 yy.drew, d03 yy.drew⟩) | (with_reducible exact ⟨n0 zz, n1 zz, n2 zz, m3 zz, d00 zz, d01 zz, d02 zz, d03 zz⟩)
  clear hK K hHeld
  have hHeld := hHeld2
  clear hHeld2
  try simp only [List.getElem_toArray, List.getElem_cons_succ, List.getElem_cons_zero, Act.put, List.setIfInBounds_toArray, List.set_cons_zero, List.set_cons_succ]
  refine wpAnyH_take (i := 18) (v := ?_) rfl (by kernel_rfl) (by kernel_rfl) (by kernel_rfl) (fun _ _ _ h => h) (Or.inl ⟨by rfl, ?_⟩) hHeld ?_
  rotate_left
  · intro w hSw; (try dsimp only at hSw); (try simp only [List.getElem_toArray, List.getElem_cons_succ, List.getElem_cons_zero]); first | (go_simp; done) | (go_simp; with_reducible rfl)
  try simp only [List.getElem_toArray, List.getElem_cons_succ, List.getElem_cons_zero, Act.put, List.setIfInBounds_toArray, List.set_cons_zero, List.set_cons_succ]
  refine wpAnyH_take (i := 19) (v := ?_) rfl (by kernel_rfl) (by kernel_rfl) (by kernel_rfl) (fun _ _ _ h => h) (Or.inl ⟨by rfl, ?_⟩) hHeld ?_
  rotate_left
  · intro w hSw; (try dsimp only at hSw); (try simp only [List.getElem_toArray, List.getElem_cons_succ, List.getElem_cons_zero]); first | (go_simp; done) | (go_simp; with_reducible rfl)
  try simp only [List.getElem_toArray, List.getElem_cons_succ, List.getElem_cons_zero, Act.put, List.setIfInBounds_toArray, List.set_cons_zero, List.set_cons_succ]
  refine wpAnyH_done (by kernel_rfl) ?_ _
  go_wp2_with fail
  go_ret
  exact ⟨rfl, hback zz⟩

set_option maxRecDepth 100000 in
set_option maxHeartbeats 16000000 in
theorem l5One_no11 {cc : Int} {A : Ty} (hok : (Ty.one cc A).Ok) (hd : (Ty.one cc A).Data) {W : World} {b o c : Nat} (hr : Row W (Value.int .i64) (some ⟨b, o, none⟩) (Ty.one cc A).enc) (hl : (Ty.one cc A).enc.length ≤ 40) (hc : (Ty.one cc A).enc.length ≤ c)
    {lo : Nat} {v : Tm} {r : TV} (hv : TmIn W lo v r) {size vars : Int} {closed : Bool} (ok : OkT size closed vars v) (ho : v.op ≠ 11) (x : Ext W) :
    Calls Tryd.prog 78 #[.slice (some ⟨b, o, none⟩) (Ty.one cc A).enc.length c, r.val v] x.w (Ans W (.bool (false))) := by
  obtain ⟨ra, rc, rb, rd⟩ := r
  unfold TV.val
  have hA := A.enc_pos
  have hlen := Ty.len_one cc A
  have hbx := Ty.bx_of hok.1
  have hc0 : 0 ≤ cc := by unfold Bx at hbx; omega
  have hc1 : cc ≤ 1000 := by unfold Bx at hbx; omega
  have e0 : (cc == 0) = false := by rw [beq_eq_false_iff_ne]; unfold Bx at hbx; omega
  have e1 : (cc == 1) = false := by rw [beq_eq_false_iff_ne]; unfold Bx at hbx; omega
  have e2 : (cc == 2) = false := by rw [beq_eq_false_iff_ne]; unfold Bx at hbx; omega
  have HO := Lib.hid ho
  clear ho
  go_enter Tryd.func78, Tryd.ntmps78
  go_upto_region 1 with fail
  generalize hW : x.w.alloc _ = W1
  generalize hB : x.w.heap.size = BQ
  obtain ⟨c0, c1, c2, c3, h1, hback, yy, hy0⟩ := boxedT hv x hB hW
  have hr1 : Row W1 (Value.int .i64) (some ⟨b, o, none⟩) (Ty.one cc A).enc := by rw [← hW]; exact hr.ext (x.alloc _)
  clear hW hB
  rw [← hy0]
  clear hy0
  have m0 : ∀ y : Ext W1, y.w.cell? ⟨b, o, none⟩ = some (.int .i64 (cc)) := fun y => y.cell (row_head hr1 (l' := A.enc) rfl)
  have n0 := c0
  have n1 := c1
  have n2 := c2
  have n3 := c3
  clear c0 c1 c2 c3
  have hlp : 0 < (Ty.one cc A).enc.length := Ty.enc_pos _
  generalize (Ty.one cc A).enc.length = len at *
  clear hr hok hd hl hc hr1 hv h1 ok hA hlen hbx hc0 hc1
  have hlp' : (0 : Int) < (len : Int) := by omega
  have f11 : (v.op == 11) = false := by have := HO.out; rw [beq_eq_false_iff_ne]; exact this
  go_upto_region 10 with fail
  refine region_ext yy (by kernel_rfl) (by kernel_rfl) ?_
  repeat (go_big_quiet_step (fail))
  refine wpQuiet_nil ?_
  rintro _ ⟨yy, rfl⟩
  go_wp2_with fail
  go_ret
  exact ⟨rfl, hback yy⟩

set_option maxRecDepth 100000 in
set_option maxHeartbeats 16000000 in
theorem l5Leaf_t (hok : Ty.leaf.Ok) (hd : Ty.leaf.Data) {W : World} {b o c : Nat} (hr : Row W (Value.int .i64) (some ⟨b, o, none⟩) Ty.leaf.enc) (hl : Ty.leaf.enc.length ≤ 40) (hc : Ty.leaf.enc.length ≤ c)
    {lo : Nat} {v : Tm} {r : TV} (hv : TmIn W lo v r) {size vars : Int} {closed : Bool} (ok : OkT size closed vars v) (ho : v.op = 1) (x : Ext W) :
    Calls Tryd.prog 78 #[.slice (some ⟨b, o, none⟩) Ty.leaf.enc.length c, r.val v] x.w (Ans W (.bool (true))) := by
  obtain ⟨ra, rc, rb, rd⟩ := r
  unfold TV.val
  have hlen := Ty.len_leaf
  have HO := Lib.hid ho
  clear ho
  go_enter Tryd.func78, Tryd.ntmps78
  go_upto_region 1 with fail
  generalize hW : x.w.alloc _ = W1
  generalize hB : x.w.heap.size = BQ
  obtain ⟨c0, c1, c2, c3, h1, hback, yy, hy0⟩ := boxedT hv x hB hW
  have hr1 : Row W1 (Value.int .i64) (some ⟨b, o, none⟩) Ty.leaf.enc := by rw [← hW]; exact hr.ext (x.alloc _)
  clear hW hB
  rw [← hy0]
  clear hy0
  have m0 : ∀ y : Ext W1, y.w.cell? ⟨b, o, none⟩ = some (.int .i64 (0)) := fun y => y.cell (row_head hr1 (l' := []) rfl)
  have n0 := c0
  have n1 := c1
  have n2 := c2
  have n3 := c3
  clear c0 c1 c2 c3
  have hlp : 0 < Ty.leaf.enc.length := Ty.enc_pos _
  generalize Ty.leaf.enc.length = len at *
  clear hr hok hd hl hc hr1 hv h1 ok hlen
  have hlp' : (0 : Int) < (len : Int) := by omega
  have f1 : (v.op == 1) = true := by rw [HO.out]; decide
  go_wp2_with fail
  go_ret
  exact ⟨rfl, hback yy⟩

set_option maxRecDepth 100000 in
set_option maxHeartbeats 16000000 in
theorem l5Leaf_f (hok : Ty.leaf.Ok) (hd : Ty.leaf.Data) {W : World} {b o c : Nat} (hr : Row W (Value.int .i64) (some ⟨b, o, none⟩) Ty.leaf.enc) (hl : Ty.leaf.enc.length ≤ 40) (hc : Ty.leaf.enc.length ≤ c)
    {lo : Nat} {v : Tm} {r : TV} (hv : TmIn W lo v r) {size vars : Int} {closed : Bool} (ok : OkT size closed vars v) (ho : v.op ≠ 1) (x : Ext W) :
    Calls Tryd.prog 78 #[.slice (some ⟨b, o, none⟩) Ty.leaf.enc.length c, r.val v] x.w (Ans W (.bool (false))) := by
  obtain ⟨ra, rc, rb, rd⟩ := r
  unfold TV.val
  have hlen := Ty.len_leaf
  have HO := Lib.hid ho
  clear ho
  go_enter Tryd.func78, Tryd.ntmps78
  go_upto_region 1 with fail
  generalize hW : x.w.alloc _ = W1
  generalize hB : x.w.heap.size = BQ
  obtain ⟨c0, c1, c2, c3, h1, hback, yy, hy0⟩ := boxedT hv x hB hW
  have hr1 : Row W1 (Value.int .i64) (some ⟨b, o, none⟩) Ty.leaf.enc := by rw [← hW]; exact hr.ext (x.alloc _)
  clear hW hB
  rw [← hy0]
  clear hy0
  have m0 : ∀ y : Ext W1, y.w.cell? ⟨b, o, none⟩ = some (.int .i64 (0)) := fun y => y.cell (row_head hr1 (l' := []) rfl)
  have n0 := c0
  have n1 := c1
  have n2 := c2
  have n3 := c3
  clear c0 c1 c2 c3
  have hlp : 0 < Ty.leaf.enc.length := Ty.enc_pos _
  generalize Ty.leaf.enc.length = len at *
  clear hr hok hd hl hc hr1 hv h1 ok hlen
  have hlp' : (0 : Int) < (len : Int) := by omega
  have f1 : (v.op == 1) = false := by have := HO.out; rw [beq_eq_false_iff_ne]; exact this
  go_wp2_with fail
  go_ret
  exact ⟨rfl, hback yy⟩

end Go.Proofs.YtoefeijnnnioeaaDoor

/- Which terms are values, by the model. -/
namespace Go.Proofs.YtoefeijnnnioeaaDoor
open Go.RowKit

section
variable {c : Int} {a b : Ty} {v x y : Tm}
theorem isSome_pair (h : v.op = 4) (hk : v.kids = [x, y]) : ((Ty.two 1 a b).place v).isSome = ((a.place x).isSome && (b.place y).isSome) := by
  rw [Ty.place_pair h hk]
  cases a.place x <;> cases b.place y <;> rfl
theorem isSome_right (h : v.op = 7) (ht : v.ty = a.enc) (hk : v.kids = [x]) : ((Ty.two 2 a b).place v).isSome = (b.place x).isSome := by
  rw [Ty.place_right h ht hk]
  cases b.place x <;> rfl
end

theorem l5Value_ans (T : Ty) : ∀ (_ : T.Ok) (_ : T.Data) {W : World} {b o c : Nat} (_ : Row W (Value.int .i64) (some ⟨b, o, none⟩) T.enc) (_ : T.enc.length ≤ 40) (_ : T.enc.length ≤ c) {lo : Nat} {v : Tm} {r : TV} (_ : TmIn W lo v r) {size vars : Int} {closed : Bool} (_ : OkT size closed vars v) (x : Ext W),
    Calls Tryd.prog 78 #[.slice (some ⟨b, o, none⟩) T.enc.length c, r.val v] x.w (Ans W (.bool (T.place v).isSome)) := by
  induction T with
  | leaf =>
    intro hok hd W b o c hr hl hc lo v r hv size vars closed ok x
    by_cases ho : v.op = 1
    · rw [Ty.place_leaf ho]
      exact l5Leaf_t hok hd hr hl hc hv ok ho x
    · rw [Ty.place_leaf_no ho]
      exact l5Leaf_f hok hd hr hl hc hv ok ho x
  | two cc A B ihA ihB =>
    intro hok hd W b o c hr hl hc lo v r hv size vars closed ok x
    rcases hd.1 with rfl | rfl
    · by_cases ho : v.op = 4
      · obtain ⟨k0, k1, hk⟩ : ∃ k0 k1, v.kids = [k0, k1] := len2 (by have := ok.node.many; rw [ho] at this; exact this)
        rw [isSome_pair ho hk]
        cases hoa : (A.place k0).isSome with
        | false => exact l5Pair_f ihA hok hd hr hl hc hv ok ho hk hoa x
        | true =>
          cases hob : (B.place k1).isSome with
          | false => exact l5Pair_tf ihA ihB hok hd hr hl hc hv ok ho hk hoa hob x
          | true => exact l5Pair_tt ihA ihB hok hd hr hl hc hv ok ho hk hoa hob x
      · rw [Ty.place_pair_no ho]
        exact l5Pair_no hok hd hr hl hc hv ok ho x
    · by_cases h6 : v.op = 6
      · by_cases ht : v.ty = B.enc
        · obtain ⟨k0, hk⟩ : ∃ k0, v.kids = [k0] := len1 (by have := ok.node.many; rw [h6] at this; exact this)
          rw [Ty.place_left h6 ht hk]
          cases hoa : (A.place k0).isSome with
          | false => exact l5Sum6_f ihA hok hd hr hl hc hv ok h6 ht hk hoa x
          | true => exact l5Sum6_t ihA hok hd hr hl hc hv ok h6 ht hk hoa x
        · rw [Ty.place_sum_no (fun q => ht q.2) (fun q => by have := q.1; omega)]
          exact l5Sum6_no hok hd hr hl hc hv ok h6 ht x
      · by_cases h7 : v.op = 7
        · by_cases ht : v.ty = A.enc
          · obtain ⟨k0, hk⟩ : ∃ k0, v.kids = [k0] := len1 (by have := ok.node.many; rw [h7] at this; exact this)
            rw [isSome_right h7 ht hk]
            cases hoa : (B.place k0).isSome with
            | false => exact l5Sum7_f ihB hok hd hr hl hc hv ok h7 ht hk hoa x
            | true => exact l5Sum7_t ihB hok hd hr hl hc hv ok h7 ht hk hoa x
          · rw [Ty.place_sum_no (fun q => h6 q.1) (fun q => ht q.2)]
            exact l5Sum7_no hok hd hr hl hc hv ok h7 ht x
        · rw [Ty.place_sum_no (fun q => h6 q.1) (fun q => h7 q.1)]
          exact l5Sum_no hok hd hr hl hc hv ok ⟨h6, h7⟩ x
  | one cc A ihA =>
    intro hok hd W b o c hr hl hc lo v r hv size vars closed ok x
    by_cases ho : v.op = 11
    · by_cases hn : v.n = gradeOf cc
      · obtain ⟨k0, hk⟩ : ∃ k0, v.kids = [k0] := len1 (by have := ok.node.many; rw [ho] at this; exact this)
        rw [Ty.place_box ho hn hk]
        cases hoa : (A.place k0).isSome with
        | false => exact l5One_f ihA hok hd hr hl hc hv ok ho hn hk hoa x
        | true => exact l5One_t ihA hok hd hr hl hc hv ok ho hn hk hoa x
      · rw [Ty.place_box_no (fun q => hn q.2)]
        exact l5One_no hok hd hr hl hc hv ok ho hn x
    · rw [Ty.place_box_no (fun q => ho q.1)]
      exact l5One_no11 hok hd hr hl hc hv ok ho x

end Go.Proofs.YtoefeijnnnioeaaDoor
