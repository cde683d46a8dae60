/- Texts of one claim, laid together: MarkTm, HeldTm, Got, Hold, LawSz, LawEq, LCopy, BoxNew. -/
import Derived.Test.YtncfbljablbglaaDoorZ3GF
import Derived.Test.YtncfbljablbglaaDoorZ3GE
import Derived.Test.YtncfbljablbglaaDoorZ3GA
set_option linter.unusedVariables false
set_option linter.unusedSimpArgs false
/- The laws' marks of terms, walked. -/
namespace Go.Proofs.YtncfbljablbglaaDoor
open Go.RowKit

def MarkedK (w : World) (ks : List Tm) (b : Option Addr) (d : Nat) (kr : Nat → TV) (KB : Nat → Nat → Prop) (m : Int) : Ending → World → Prop := fun e w' =>
  e = .returned (.int .i64 (m + (Tm.cntL ks : Nat))) ∧ (∃ xs', KidsOwn w' (Tm.mkdL ks m) b d kr xs' KB) ∧ Only w w' (KBlocks ks.length b KB)
def MarkedT (w : World) (t : Tm) (r : TV) (B : Nat → Prop) (m : Int) : Ending → World → Prop := fun e w' =>
  e = .returned (.int .i64 (m + (t.cnt : Nat))) ∧ TmOwn w' (t.mkd m) r B ∧ Only w w' B

theorem marks_upto (m : Int) (n : Nat) : marksI m n = (Tm.upto m n).map (Value.int .i64) := by simp [marksI, Tm.upto, List.map_map]

set_option maxHeartbeats 8000000 in
theorem markTermS_ans (t : Tm) : ∀ {w : World} {b : Option Addr} {d : Nat} {kr : Nat → TV} {xs : List Value} {KB : Nat → Nat → Prop} (_ : KidsOwn w t.kids b d kr xs KB) (m : Int) (_ : 0 ≤ m) (_ : m + (Tm.cntL t.kids : Nat) ≤ 100000000),
    Calls Tryd.prog 41 #[.slice b t.kids.length d, .int .i64 m] w (MarkedK w t.kids b d kr KB m) := by
  induction t using Tm.ind with
  | h t ih =>
    intro w b d kr xs KB h m hm0 hm1
    have HI := Lib.hid ih
    clear ih
    have hlen := owns_len h.row
    have H := Lib.hid h
    have HM1 := Lib.hid hm1
    clear h hm1
    go_enter Tryd.func41, Tryd.ntmps41
    go_wp2
    go_loopw [5, 1] (fun i q wr => ∃ (j : Nat) (ks : List Tm) (ys : List Value), i = .int .i64 j ∧ q = .int .i64 (m + (Tm.cntL (t.kids.take j) : Nat)) ∧ j ≤ t.kids.length ∧ Hid (ks.length = t.kids.length) ∧ Hid (KidsOwn wr ks b d kr ys KB) ∧ Hid (Only w wr (KBlocks t.kids.length b KB)) ∧
      Hid (∀ i u, t.kids[i]? = some u → (i < j → ks[i]? = some (Tm.mk1 u (m + (Tm.cntL (t.kids.take i) : Nat)))) ∧ (j ≤ i → ks[i]? = some u))) (fun i _ _ => t.kids.length - (intOf i).toNat)
    case atStart => exact ⟨0, t.kids, xs, rfl, by simp [Tm.cntL], by omega, rfl, H.out, Only.refl _ _, fun i u hu => ⟨fun q => by omega, fun _ => hu⟩⟩
    case round =>
      obtain ⟨j, ks, ys, rfl, rfl, hj, HL, HK, HO, HU⟩ := hrel
      by_cases hlt : j < t.kids.length
      · have hlt' : (j : Int) < (t.kids.length : Int) := by omega
        obtain ⟨u, hu⟩ : ∃ u, t.kids[j]? = some u := ⟨_, List.getElem?_eq_getElem hlt⟩
        have hmem : u ∈ t.kids := List.mem_of_getElem? hu
        have hcs := Tm.cntL_take_succ hu
        have hcl := Tm.cntL_take_le t.kids (j + 1)
        have hku : ks[j]? = some u := (HU.out j u hu).2 (Nat.le_refl _)
        have hjk : j < ks.length := by rw [HL.out]; exact hlt
        have hce := u.cnt_eq
        obtain ⟨M, hM⟩ : ∃ M : Int, M = m + (Tm.cntL (t.kids.take j) : Nat) := ⟨_, rfl⟩
        have hM0 : 0 ≤ M := by omega
        have hM1 : M + 2 + (u.cnt : Nat) ≤ 100000000 := by have := HM1.out; omega
        have hM2 : M + 2 + (u.ty.length : Nat) + (Tm.cntL u.kids : Nat) ≤ 100000000 := by omega
        have hut : u.ty.length ≤ 100000000 := by omega
        rw [← hM]
        have HMM := Lib.hid hM
        have HCS := Lib.hid hcs
        have HCE := Lib.hid hce
        clear hM hcs hcl hce
        obtain ⟨g, hb, K4⟩ := (HK.out.cell j u hku).kid HK.out.row hjk
        subst hb
        rw [Nat.zero_add] at K4
        have hfz := HK.out.row.frozenAt
        have c0 := K4.c0
        have c1 := K4.c1
        have c2 := K4.c2
        have z0 := hfz (j * 4)
        have z1 := hfz (j * 4 + 1)
        have HKU := Lib.hid hku
        have HUU := Lib.hid hu
        clear K4 hfz hku hu
        go_wp2_with fail
        clear c0 c1 c2 z0 z1
        generalize hw1 : World.setCell wr _ _ = w1
        generalize hw2 : World.setCell w1 _ _ = w2
        obtain ⟨K2, gr2⟩ := HK.out.head HKU.out rfl M (M + 1) hw1 hw2
        have O2 : Only w w2 (KBlocks t.kids.length (some ⟨g, 0, none⟩) KB) := HO.out.trans (Only.grown gr2 (fun q e => .inl e))
        have hku2 : (ks.set j (.mk M (M + 1) u.ty u.kids))[j]? = some (.mk M (M + 1) u.ty u.kids) := List.getElem?_set_self hjk
        have T2 := K2.sub j _ hku2
        obtain ⟨kr2, xs2, KB2, ty2, KK2, da2, hB2⟩ := T2.out
        have ty2' : w2.ownsRow 0 3 1 (.slice (kr j).a u.ty.length (kr j).c) u.ty.length (u.ty.map (Value.int .i64)) := ty2
        have P2 := Lib.hid (⟨K2, O2, hku2, T2⟩ : _ ∧ _ ∧ _ ∧ _)
        clear hw1 hw2 gr2 K2 O2 hku2 T2 ty2 KK2 da2 hB2 kr2 xs2 KB2 HK HO
        refine Calls.mono (markIntS_ans ty2' (by omega) (M + 1 + 1) (by omega) (by omega)) ?_
        rintro e w3 ⟨rfl, own3, gr3⟩
        obtain ⟨K2, O2, hku2, T2⟩ := P2.out
        rw [ob_eq] at gr3
        rw [marks_upto] at own3
        obtain ⟨T3, O3⟩ := T2.setTy (l := Tm.upto (M + 1 + 1) u.ty.length) (Tm.upto_len _ _) own3 gr3
        have K3 := K2.kid (k' := .mk M (M + 1) (Tm.upto (M + 1 + 1) u.ty.length) u.kids) hku2 rfl rfl (Tm.upto_len _ _) rfl T3 O3
        have O3' := O2.trans (O3.mono (B' := KBlocks t.kids.length (some ⟨g, 0, none⟩) KB) (fun q _ hq => .inr ⟨j, hlt, hq⟩))
        rw [List.set_set] at K3
        have hku3 : (ks.set j (.mk M (M + 1) (Tm.upto (M + 1 + 1) u.ty.length) u.kids))[j]? = some (.mk M (M + 1) (Tm.upto (M + 1 + 1) u.ty.length) u.kids) := List.getElem?_set_self hjk
        obtain ⟨g', hb', K4⟩ := (K3.cell j _ hku3).kid K3.row (by simpa using hjk)
        obtain rfl : g = g' := by cases hb'; rfl
        rw [Nat.zero_add] at K4
        have c3 : w3.cell? ⟨g, j * 4 + 3, none⟩ = some (.slice (kr j).b u.kids.length (kr j).d) := K4.c3
        obtain ⟨kr3, xs3, KB3, ty3, KK3, da3, hB3⟩ := T3.out
        have C := HI.out u hmem (w := w3) KK3 (M + 1 + 1 + (u.ty.length : Nat)) (by omega) (by omega)
        have P3 := Lib.hid (⟨K3, O3', hku3, T3, ty3, da3, hB3⟩ : _ ∧ _ ∧ _ ∧ _ ∧ _ ∧ _ ∧ _)
        clear hb' K4 own3 gr3 T2 T3 O3 O3' K2 K3 O2 hku2 hku3 P2 ty2' KK3 ty3 da3 hB3 hmem
        go_wp2_with fail
        refine Calls.mono C ?_
        rintro e w4 ⟨rfl, ⟨xs4, KK4⟩, O4⟩
        obtain ⟨K3, O3', hku3, T3, ty3, da3, hB3⟩ := P3.out
        obtain ⟨T4, O4'⟩ := TmOwn.setKids (w' := w4) (Tm.mkdL_len _ _) ty3 da3 hB3 KK4 O4
        have K5 := K3.kid (k' := .mk M (M + 1) (Tm.upto (M + 1 + 1) u.ty.length) (Tm.mkdL u.kids (M + 1 + 1 + (u.ty.length : Nat)))) hku3 rfl rfl rfl (Tm.mkdL_len _ _) T4 O4'
        have O5 := O3'.trans (O4'.mono (B' := KBlocks t.kids.length (some ⟨g, 0, none⟩) KB) (fun q _ hq => .inr ⟨j, hlt, hq⟩))
        rw [List.set_set] at K5
        have P5 := Lib.hid (⟨K5, O5⟩ : _ ∧ _)
        clear c3 C P3 KK4 O4 K3 O3' hku3 T3 ty3 da3 hB3 T4 O4' K5 O5
        go_wp2
        go_roundw
        case rel =>
          obtain ⟨K5, O5⟩ := P5.out
          have e1 := HMM.out
          have e2 := HCS.out
          have e3 := HCE.out
          refine ⟨j + 1, _, _, by go_num, ?_, by omega, ?_, K5, O5, ?_⟩
          · congr 1
            omega
          · show _ = _
            rw [List.length_set]; exact HL.out
          · show ∀ _, _
            intro i v hv
            by_cases e : i = j
            · subst e
              obtain rfl := Option.some.inj (hv.symm.trans HUU.out)
              refine ⟨fun _ => ?_, fun _ => by omega⟩
              rw [List.getElem?_set_self hjk, ← e1]
              congr 1
              unfold Tm.mk1
              congr 1
              · congr 1
                omega
              · congr 1
                omega
            · rw [List.getElem?_set_ne (fun q => e q.symm)]
              exact ⟨fun q => (HU.out i v hv).1 (by omega), fun q => (HU.out i v hv).2 (by omega)⟩
        case measure => simp [intOf]; omega
      · have hlt' : ¬ (j : Int) < (t.kids.length : Int) := by omega
        have hje : j = t.kids.length := by omega
        have HJ := Lib.hid hje
        clear hje
        go_wp2
        go_ret
        have e1 : t.kids.take j = t.kids := List.take_of_length_le (by rw [HJ.out]; omega)
        refine ⟨by rw [e1]; rfl, ⟨ys, ?_⟩, HO.out⟩
        have e2 : Tm.mkdL t.kids m = ks := by
          apply List.ext_getElem?
          intro i
          by_cases hi : i < t.kids.length
          · obtain ⟨u, hu⟩ : ∃ u, t.kids[i]? = some u := ⟨_, List.getElem?_eq_getElem hi⟩
            rw [Tm.mkdL_at hu, (HU.out i u hu).1 (by rw [HJ.out]; exact hi)]
          · rw [List.getElem?_eq_none (by rw [Tm.mkdL_len]; omega), List.getElem?_eq_none (by rw [HL.out]; omega)]
        rw [e2]
        exact HK.out

end Go.Proofs.YtncfbljablbglaaDoor
/- The laws' marks of terms, read again; marks of a whole term. -/
namespace Go.Proofs.YtncfbljablbglaaDoor
open Go.RowKit

set_option maxHeartbeats 8000000 in
theorem heldTermS_ans (t0 : Tm) : ∀ {W : World} {lo : Nat} {t : Tm} {r : TV} {kr : Nat → TV} (_ : TmAt W lo t r kr) (m : Int) (_ : 0 ≤ m) (_ : m + (Tm.cntL t0.kids : Nat) ≤ 100000000) (_ : t.kids = Tm.mkdL t0.kids m) (x : Ext W),
    Calls Tryd.prog 42 #[.slice r.b t.kids.length r.d, .int .i64 m] x.w (Ans W (.int .i64 (m + (Tm.cntL t0.kids : Nat)))) := by
  induction t0 using Tm.ind with
  | h t0 ih =>
    intro W lo t r kr A m hm0 hm1 hk x
    have HI := Lib.hid ih
    clear ih
    obtain ⟨ra, rc, rb, rd⟩ := r
    dsimp only
    have hlk := A.lk
    have hll : t.kids.length = t0.kids.length := by rw [hk, Tm.mkdL_len]
    have HK := Lib.hid hk
    have HM1 := Lib.hid hm1
    clear hk hm1
    obtain ⟨yy, hyy⟩ : ∃ y : Ext W, x = y := ⟨x, rfl⟩
    rw [hyy]
    clear hyy
    have HLL := Lib.hid hll
    clear hll
    go_enter Tryd.func42, Tryd.ntmps42
    go_wp2
    go_loopw [5, 1] (fun i q wr => ∃ j : Nat, i = .int .i64 j ∧ q = .int .i64 (m + (Tm.cntL (t0.kids.take j) : Nat)) ∧ j ≤ t.kids.length ∧ (∃ y : Ext W, wr = y.w)) (fun i _ _ => t.kids.length - (intOf i).toNat)
    case atStart => exact ⟨0, rfl, by simp [Tm.cntL], by omega, ⟨yy, rfl⟩⟩
    case round =>
      obtain ⟨j, rfl, rfl, hj, ⟨yy, rfl⟩⟩ := hrel
      by_cases hlt : j < t.kids.length
      · have hlt' : (j : Int) < (t.kids.length : Int) := by omega
        obtain ⟨u0, hu0⟩ : ∃ u, t0.kids[j]? = some u := ⟨_, List.getElem?_eq_getElem (by rw [← HLL.out]; exact hlt)⟩
        have hmem : u0 ∈ t0.kids := List.mem_of_getElem? hu0
        have hcs := Tm.cntL_take_succ hu0
        have hcl := Tm.cntL_take_le t0.kids (j + 1)
        have hce := u0.cnt_eq
        have hu : t.kids[j]? = some (Tm.mk1 u0 (m + (Tm.cntL (t0.kids.take j) : Nat))) := by rw [HK.out]; exact Tm.mkdL_at hu0 m
        obtain ⟨M, hM⟩ : ∃ M : Int, M = m + (Tm.cntL (t0.kids.take j) : Nat) := ⟨_, rfl⟩
        have hM0 : 0 ≤ M := by omega
        have hM1 : M + 2 + (u0.cnt : Nat) ≤ 100000000 := by have := HM1.out; omega
        have hM2 : M + 2 + (u0.ty.length : Nat) + (Tm.cntL u0.kids : Nat) ≤ 100000000 := by omega
        rw [← hM] at hu
        rw [← hM]
        obtain ⟨b0, o0, hrb, K⟩ := A.kid j _ hu
        have hsub := A.sub j _ hu
        dsimp only at hrb
        subst hrb
        have d0 : ∀ y : Ext W, y.w.cell? ⟨b0, o0 + j * 4, none⟩ = some (.int .i64 M) := fun y => y.cell K.c0
        have d1 : ∀ y : Ext W, y.w.cell? ⟨b0, o0 + j * 4 + 1, none⟩ = some (.int .i64 (M + 1)) := fun y => y.cell K.c1
        have el : (Tm.mk1 u0 M).ty.length = u0.ty.length := Tm.upto_len _ _
        have el2 : (Tm.mk1 u0 M).kids.length = u0.kids.length := Tm.mkdL_len _ _
        have d2 : ∀ y : Ext W, y.w.cell? ⟨b0, o0 + j * 4 + 2, none⟩ = some (.slice (kr j).a u0.ty.length (kr j).c) := fun y => by rw [← el]; exact y.cell K.c2
        have d3 : ∀ y : Ext W, y.w.cell? ⟨b0, o0 + j * 4 + 3, none⟩ = some (.slice (kr j).b u0.kids.length (kr j).d) := fun y => by rw [← el2]; exact y.cell K.c3
        obtain ⟨kr2, A2⟩ := hsub.out
        have C1 : ∀ y : Ext W, Calls Tryd.prog 20 #[.slice (kr j).a u0.ty.length (kr j).c, .int .i64 (M + 1 + 1)] y.w (Ans W (.int .i64 (M + 1 + 1 + (u0.ty.length : Nat)))) := fun y => by
          have := heldIntS_ans (c := (kr j).c) A2.row (by rw [el]; omega) (M + 1 + 1) (by omega) (by omega) (fun i u hi => by have := Tm.upto_at hi; omega) y
          rw [el] at this
          exact this
        have C2 : ∀ y : Ext W, Calls Tryd.prog 42 #[.slice (kr j).b u0.kids.length (kr j).d, .int .i64 (M + 1 + 1 + (u0.ty.length : Nat))] y.w (Ans W (.int .i64 (M + 1 + 1 + (u0.ty.length : Nat) + (Tm.cntL u0.kids : Nat)))) := fun y => by
          have := HI.out u0 hmem A2 (M + 1 + 1 + (u0.ty.length : Nat)) (by omega) (by omega) (by show Tm.mkdL _ _ = _; congr 1; omega) y
          rw [el2] at this
          exact this
        have HMM := Lib.hid hM
        have HCS := Lib.hid hcs
        have HCE := Lib.hid hce
        clear K hu0 hu el el2 hsub A2 hmem hM hcs hcl hce
        go_wp2_with (first | (go_at_call 20; with_reducible refine Calls.mono (C1 _) ?_; rintro e w' ⟨rfl, yy, rfl⟩) | (go_at_call 42; with_reducible refine Calls.mono (C2 _) ?_; rintro e w' ⟨rfl, yy, rfl⟩))
        go_roundw
        case rel =>
          have e1 := HMM.out
          have e2 := HCS.out
          have e3 := HCE.out
          refine ⟨j + 1, by go_num, ?_, by omega, ⟨yy, rfl⟩⟩
          congr 1
          omega
        case measure => simp [intOf]; omega
      · have hlt' : ¬ (j : Int) < (t.kids.length : Int) := by omega
        have hje : j = t.kids.length := by omega
        have HJ := Lib.hid hje
        clear hje
        go_wp2
        go_ret
        have e1 : t0.kids.take j = t0.kids := List.take_of_length_le (by rw [HJ.out, HLL.out]; omega)
        exact fin_int (by rw [e1]) ⟨yy, rfl⟩

set_option maxHeartbeats 8000000 in
theorem markTerm_ans {w : World} {t : Tm} {r : TV} {B : Nat → Prop} (h : TmOwn w t r B) (m : Int) (hm0 : 0 ≤ m) (hm1 : m + (t.cnt : Nat) ≤ 100000000) :
    Calls Tryd.prog 13 #[r.val t, .int .i64 m] w (MarkedT w t r B m) := by
  have hce := t.cnt_eq
  have hlt := h.lt
  have hty : t.ty.length ≤ 100000000 := by omega
  have hm2 : m + (t.ty.length : Nat) + (Tm.cntL t.kids : Nat) ≤ 100000000 := by omega
  have HCE := Lib.hid hce
  clear hce hm1
  obtain ⟨ra, rc, rb, rd⟩ := r
  unfold TV.val
  go_enter Tryd.func13, Tryd.ntmps13
  go_wp2_with fail
  generalize hWb : w.alloc _ = Wb
  generalize hBB : w.heap.size = b at *
  have bB : Wb.heap[b]? = some (.cells #[.int .i64 t.op, .int .i64 t.n, .slice ra t.ty.length rc, .slice rb t.kids.length rd] 29 (0, 0)) := by
    subst hBB; exact new_blk hWb
  have hk : ∀ g, B g → Wb.heap[g]? = w.heap[g]? := fun g hg => by
    subst hWb
    have := hlt g hg
    show (w.heap.push _)[g]? = _
    rw [Array.getElem?_push_lt (by omega), Array.getElem?_eq_getElem (by omega)]
  have on0 : Only w Wb B := by subst hWb; exact Only.alloc _ _ _
  have hb := h.keep hk
  have hBs : b < Wb.heap.size := (Array.getElem?_eq_some_iff.1 bB).1
  clear hWb hk
  obtain ⟨kr, xs, KB, ty, K, da, hB⟩ := hb.out
  have HK := Lib.hid (⟨K, da, hB, on0⟩ : _ ∧ _ ∧ _ ∧ _)
  clear K da hB on0 h
  refine Calls.mono (markIntS_ans ty (by omega) m (by omega) (by omega)) ?_
  rintro e wa ⟨rfl, own1, gr1⟩
  obtain ⟨K, da, hB, on0⟩ := HK.out
  rw [ob_eq] at gr1
  rw [marks_upto] at own1
  obtain ⟨T1, O1⟩ := hb.setTy (l := Tm.upto m t.ty.length) (Tm.upto_len _ _) own1 gr1
  have bBa : wa.heap[b]? = _ := (gr1.block b hBs (fun e => by have := hlt b ((hB b).2 (.inl e.symm)); omega)).trans bB
  have O1' := on0.trans O1
  have k3 := blk_cell bBa 3
  have z3 : wa.cell? ⟨b, 3, none⟩ = some (.slice rb t.kids.length rd) := k3
  obtain ⟨kr1, xs1, KB1, ty1, K1, da1, hB1⟩ := T1.out
  have C := markTermS_ans t (w := wa) K1 (m + (t.ty.length : Nat)) (by omega) (by omega)
  have P := Lib.hid (⟨O1', ty1, da1, hB1⟩ : _ ∧ _ ∧ _ ∧ _)
  clear k3 bB bBa K da hB on0 HK own1 gr1 T1 O1 O1' K1 ty1 da1 hB1 hb ty
  go_wp2_with fail
  refine Calls.mono C ?_
  rintro e w4 ⟨rfl, ⟨xs4, KK4⟩, O4⟩
  go_wp2_with fail
  go_ret
  obtain ⟨O1', ty1, da1, hB1⟩ := P.out
  obtain ⟨T4, O4'⟩ := TmOwn.setKids (t := .mk t.op t.n (Tm.upto m t.ty.length) t.kids) (w' := w4) (r := ⟨ra, rc, rb, rd⟩) (ks := Tm.mkdL t.kids (m + (t.ty.length : Nat))) (Tm.mkdL_len _ _) ty1 da1 hB1 KK4 O4
  refine ⟨?_, ?_, O1'.trans O4'⟩
  · have := HCE.out
    have e : m + (t.ty.length : Nat) + (Tm.cntL t.kids : Nat) = m + (t.cnt : Nat) := by omega
    rw [e]
    rfl
  · rw [Tm.mkd_eq]
    exact T4

set_option maxHeartbeats 8000000 in
theorem heldTerm_ans {W : World} {lo : Nat} {t : Tm} {m : Int} {r : TV} (h : TmIn W lo (t.mkd m) r) (hm0 : 0 ≤ m) (hm1 : m + (t.cnt : Nat) ≤ 100000000) (x : Ext W) :
    Calls Tryd.prog 14 #[r.val (t.mkd m), .int .i64 m] x.w (Ans W (.int .i64 (m + (t.cnt : Nat)))) := by
  have hce := t.cnt_eq
  have hty : t.ty.length ≤ 100000000 := by omega
  have hm2 : m + (t.ty.length : Nat) + (Tm.cntL t.kids : Nat) ≤ 100000000 := by omega
  have HCE := Lib.hid hce
  clear hce hm1
  have e1 : (t.mkd m).ty = Tm.upto m t.ty.length := by rw [Tm.mkd_eq]; rfl
  have e2 : (t.mkd m).kids = Tm.mkdL t.kids (m + (t.ty.length : Nat)) := by rw [Tm.mkd_eq]; rfl
  have l1 : (t.mkd m).ty.length = t.ty.length := by rw [e1, Tm.upto_len]
  have l2 : (t.mkd m).kids.length = t.kids.length := by rw [e2, Tm.mkdL_len]
  generalize t.mkd m = q at *
  obtain ⟨ra, rc, rb, rd⟩ := r
  unfold TV.val
  have E1 := Lib.hid e1
  have E2 := Lib.hid e2
  have L1 := Lib.hid l1
  have L2 := Lib.hid l2
  have hq1 : q.ty.length ≤ 100000000 := by omega
  clear e1 e2 l1 l2
  go_enter Tryd.func14, Tryd.ntmps14
  go_wp2_with fail
  generalize hW : x.w.alloc _ = W1
  generalize hB : x.w.heap.size = B
  obtain ⟨c0, c1, c2, c3, h1, hback, yy, hy0⟩ := boxedT h x hB hW
  clear hW hB
  rw [← hy0]
  clear hy0
  obtain ⟨kr, A⟩ := h1.out
  have C1 : ∀ y : Ext W1, Calls Tryd.prog 20 #[.slice ra q.ty.length rc, .int .i64 m] y.w (Ans W1 (.int .i64 (m + (t.ty.length : Nat)))) := fun y => by
    have := heldIntS_ans (c := rc) A.row (by rw [L1.out]; omega) m (by omega) (by omega) (fun i u hi => by rw [E1.out] at hi; have := Tm.upto_at hi; omega) y
    rw [L1.out] at this ⊢
    exact this
  have C2 : ∀ y : Ext W1, Calls Tryd.prog 42 #[.slice rb q.kids.length rd, .int .i64 (m + (t.ty.length : Nat))] y.w (Ans W1 (.int .i64 (m + (t.ty.length : Nat) + (Tm.cntL t.kids : Nat)))) := fun y => heldTermS_ans t A (m + (t.ty.length : Nat)) (by omega) (by omega) E2.out y
  clear A h h1
  go_wp2_with (first | (go_at_call 20; with_reducible refine Calls.mono (C1 _) ?_; rintro e w' ⟨rfl, yy, rfl⟩) | (go_at_call 42; with_reducible refine Calls.mono (C2 _) ?_; rintro e w' ⟨rfl, yy, rfl⟩))
  go_ret
  exact fin_int (by have := HCE.out; omega) (hback yy)

end Go.Proofs.YtncfbljablbglaaDoor
/- What a law has got of a term: a box that reads as it; small steps from world to world. Nothing is walked here. -/
namespace Go.Proofs.YtncfbljablbglaaDoor
open Go.RowKit

theorem tm_alloc {w : World} {lo : Nat} {t : Tm} {r : TV} (h : TmIn w lo t r) (o : Obj) : TmIn (w.alloc o) lo t r := h.ext ((Ext.self w).alloc o)
/-- The four cells of a box read as a term's. -/
def Box4 (w : World) (D : Nat) (o : Tm) (r : TV) : Prop :=
  w.cell? ⟨D, 0, none⟩ = some (.int .i64 o.op) ∧ w.cell? ⟨D, 1, none⟩ = some (.int .i64 o.n) ∧ w.cell? ⟨D, 2, none⟩ = some (.slice r.a o.ty.length r.c) ∧ w.cell? ⟨D, 3, none⟩ = some (.slice r.b o.kids.length r.d)
theorem Box4.ext {w : World} {D : Nat} {o : Tm} {r : TV} (h : Box4 w D o r) (y : Ext w) : Box4 y.w D o r := ⟨y.cell h.1, y.cell h.2.1, y.cell h.2.2.1, y.cell h.2.2.2⟩
theorem Box4.lt {w : World} {D : Nat} {o : Tm} {r : TV} (h : Box4 w D o r) : D < w.heap.size := cell_lt h.1
theorem Box4.only {w w' : World} {D : Nat} {o : Tm} {r : TV} {B : Nat → Prop} (h : Box4 w D o r) (ho : Only w w' B) (hd : ¬ B D) : Box4 w' D o r := by
  have hk : w'.heap[D]? = w.heap[D]? := ho.block D h.lt hd
  obtain ⟨a, b, c, d⟩ := h
  refine ⟨?_, ?_, ?_, ?_⟩
  · rw [World.cell?_of_block (w := w) (a := ⟨D, 0, none⟩) hk]; exact a
  · rw [World.cell?_of_block (w := w) (a := ⟨D, 1, none⟩) hk]; exact b
  · rw [World.cell?_of_block (w := w) (a := ⟨D, 2, none⟩) hk]; exact c
  · rw [World.cell?_of_block (w := w) (a := ⟨D, 3, none⟩) hk]; exact d
theorem Box4.new {w Y : World} {o : Tm} {r : TV} (h : w.alloc (boxT o.op o.n r.a o.ty.length r.c r.b o.kids.length r.d) = Y) : Box4 Y w.heap.size o r := by
  have hb := new_blk h
  exact ⟨blk_cell hb 0, blk_cell hb 1, blk_cell hb 2, blk_cell hb 3⟩
/-- A term and a flag that have been got: the term lies in a box of its own. -/
def GotT (M : World) (o : Tm) (b : Bool) (s6 s7 : Value) (w : World) : Prop := ∃ (D : Nat) (r : TV), s6 = .pointer (some ⟨D, 0, none⟩) ∧ s7 = .bool b ∧ Below M.heap.size M w ∧ M.heap.size ≤ D ∧ Box4 w D o r ∧ TmIn w 0 o r
abbrev zbox : Obj := boxT 0 0 none 0 0 none 0 0
theorem zfacts {w : World} {D : Nat} (h : w.heap[D]? = some zbox) : w.cell? ⟨D, 0, none⟩ = some (.int .i64 0) ∧ w.cell? ⟨D, 1, none⟩ = some (.int .i64 0) ∧ w.cell? ⟨D, 2, none⟩ = some (.slice none 0 0) ∧ w.cell? ⟨D, 3, none⟩ = some (.slice none 0 0) ∧
    w.frozen? ⟨D, 0, none⟩ = false ∧ w.frozen? ⟨D, 1, none⟩ = false ∧ w.frozen? ⟨D, 2, none⟩ = false ∧ w.frozen? ⟨D, 3, none⟩ = false :=
  ⟨blk_cell h 0, blk_cell h 1, blk_cell h 2, blk_cell h 3, blk_free h 0, blk_free h 1, blk_free h 2, blk_free h 3⟩
theorem got_new {M w Y : World} {o : Tm} {r : TV} {NB : Nat → Prop} {b : Bool} (bel : Below M.heap.size M w) (hn : TmOwn w o r NB)
    (hY : w.alloc (boxT o.op o.n r.a o.ty.length r.c r.b o.kids.length r.d) = Y) : GotT M o b (.pointer (some ⟨w.heap.size, 0, none⟩)) (.bool b) Y := by
  refine ⟨_, r, rfl, rfl, ?_, bel.size, Box4.new hY, ?_⟩
  · rw [← hY]; exact below_alloc bel _
  · rw [← hY]; exact tm_alloc (hn.tm (fun g _ => Nat.zero_le g)) _
end Go.Proofs.YtncfbljablbglaaDoor
/- What is held beside what is walked: rows and terms, each in a stretch of blocks. Nothing is walked here but marks. -/
namespace Go.Proofs.YtncfbljablbglaaDoor
open Go.RowKit

/-- A term in blocks of its own within a stretch, and its box. -/
def HoldT (w : World) (lo hi D : Nat) (o : Tm) (r : TV) : Prop :=
  Box4 w D o r ∧ (lo ≤ D ∧ D < hi) ∧ ∃ B : Nat → Prop, TmOwn w o r B ∧ ∀ g, B g → lo ≤ g ∧ g < hi ∧ g ≠ D

section
variable {w w' : World} {lo hi l2 h2 D : Nat}
theorem HoldT.ext {o : Tm} {r : TV} (h : HoldT w lo hi D o r) (y : Ext w) : HoldT y.w lo hi D o r := by
  obtain ⟨h1, h2, B, h3, h4⟩ := h
  exact ⟨h1.ext y, h2, B, h3.ext y, h4⟩
theorem HoldT.only {o : Tm} {r : TV} (h : HoldT w lo hi D o r) (ho : Only w w' (Str l2 h2)) (hd : hi ≤ l2 ∨ h2 ≤ lo) : HoldT w' lo hi D o r := by
  obtain ⟨h1, h3, B, h4, h5⟩ := h
  refine ⟨h1.only ho (fun e => by have e1 := e.1; have e2 := e.2; omega), h3, B, h4.only ho (fun g hg e => by have := h5 g hg; have e1 := e.1; have e2 := e.2; omega), h5⟩
theorem HoldT.tm {o : Tm} {r : TV} (h : HoldT w lo hi D o r) : TmIn w 0 o r := by
  obtain ⟨h1, h3, B, h4, h5⟩ := h
  exact h4.tm (fun g _ => Nat.zero_le g)
theorem HoldT.box {o : Tm} {r : TV} (h : HoldT w lo hi D o r) : Box4 w D o r := h.1
theorem HoldT.new {o : Tm} {r : TV} {B : Nat → Prop} {V : World} (h : TmOwn w o r B) (hlo : ∀ g, B g → lo ≤ g) (hw : lo ≤ w.heap.size) (hV : w.alloc (boxT o.op o.n r.a o.ty.length r.c r.b o.kids.length r.d) = V) : HoldT V lo V.heap.size w.heap.size o r := by
  have hs : w.heap.size < V.heap.size := by rw [← hV]; simp
  refine ⟨Box4.new hV, ⟨hw, hs⟩, B, ?_, fun g hg => ⟨hlo g hg, by have := h.lt g hg; omega, by have := h.lt g hg; omega⟩⟩
  rw [← hV]
  exact h.ext ((Ext.self w).alloc _)
theorem HoldT.mark {t : Tm} {r : TV} (h : HoldT w lo hi D t r) (m : Int) (hm0 : 0 ≤ m) (hm1 : m + (t.cnt : Nat) ≤ 100000000) :
    Calls Tryd.prog 13 #[r.val t, .int .i64 m] w (fun e w' => e = .returned (.int .i64 (m + (t.cnt : Nat))) ∧ Only w w' (Str lo hi) ∧ HoldT w' lo hi D (t.mkd m) r) := by
  obtain ⟨h1, h3, B, h4, h5⟩ := h
  refine Calls.mono (markTerm_ans h4 m hm0 hm1) ?_
  rintro e w' ⟨rfl, ht, ho⟩
  have hb := h1.only ho (fun e => (h5 D e).2.2 rfl)
  refine ⟨rfl, ho.mono (fun g _ e => ⟨(h5 g e).1, (h5 g e).2.1⟩), ?_, h3, B, ht, h5⟩
  obtain ⟨b0, b1, b2, b3⟩ := hb
  have e := t.mkd_eq m
  rw [e]
  refine ⟨b0, b1, ?_, ?_⟩
  · show _ = some (Value.slice r.a (Tm.upto m t.ty.length).length r.c)
    rw [Tm.upto_len]; exact b2
  · show _ = some (Value.slice r.b (Tm.mkdL t.kids (m + (t.ty.length : Nat))).length r.d)
    rw [Tm.mkdL_len]; exact b3
theorem HoldT.held {t : Tm} {r : TV} {m : Int} (h : HoldT w lo hi D (t.mkd m) r) (hm0 : 0 ≤ m) (hm1 : m + (t.cnt : Nat) ≤ 100000000) :
    Calls Tryd.prog 14 #[r.val (t.mkd m), .int .i64 m] w (Ans w (.int .i64 (m + (t.cnt : Nat)))) := heldTerm_ans h.tm hm0 hm1 (Ext.self w)
end

end Go.Proofs.YtncfbljablbglaaDoor
/- The laws' sizes of terms. -/
namespace Go.Proofs.YtncfbljablbglaaDoor
open Go.RowKit

def WtV (n : Nat) (left v : Int) : Prop := ((n : Int) ≤ left ∧ v = left - n) ∨ (left < (n : Int) ∧ v = -1)
theorem wtV_ex (n : Nat) (left : Int) : ∃ v, WtV n left v := by
  by_cases h : (n : Int) ≤ left
  · exact ⟨_, .inl ⟨h, rfl⟩⟩
  · exact ⟨_, .inr ⟨by omega, rfl⟩⟩
set_option maxHeartbeats 1600000 in
theorem szTermS_ans {W : World} {lo : Nat} {t : Tm} {r : TV} {kr : Nat → TV} (A : TmAt W lo t r kr)
    (HI : Hid (∀ kid ∈ t.kids, ∀ {W : World} {lo : Nat} {r : TV} (_ : TmIn W lo kid r) (left : Int) (_ : 0 ≤ left) (_ : left ≤ 1048576) (v : Int) (_ : WtV kid.wt left v) (x : Ext W), Calls Tryd.prog 8 #[r.val kid, .int .i64 left] x.w (Ans W (.int .i64 v))))
    (left : Int) (hl0 : 0 ≤ left) (hl1 : left ≤ 1048576) (v : Int) (hv : WtV (t.kids.length + Tm.wtL t.kids) left v) (x : Ext W) :
    Calls Tryd.prog 28 #[.slice r.b t.kids.length r.d, .int .i64 left] x.w (Ans W (.int .i64 v)) := by
  have HV := Lib.hid hv
  clear hv
  obtain ⟨ra, rc, rb, rd⟩ := r
  dsimp only
  have hlk := A.lk
  obtain ⟨yy, hyy⟩ : ∃ y : Ext W, x = y := ⟨x, rfl⟩
  rw [hyy]
  clear hyy
  by_cases hs : left < (t.kids.length : Int)
  · have hs2 : left - (t.kids.length : Int) < 0 := by omega
    go_enter Tryd.func28, Tryd.ntmps28
    go_wp2
    go_ret
    refine fin_int ?_ ⟨yy, rfl⟩
    rcases HV.out with ⟨b1, b2⟩ | ⟨b1, b2⟩ <;> omega
  · have hs2 : ¬ left - (t.kids.length : Int) < 0 := by omega
    go_enter Tryd.func28, Tryd.ntmps28
    go_wp2
    go_loopw [5, 1] (fun i q wr => ∃ k : Nat, ∃ u : Int, i = .int .i64 k ∧ q = .int .i64 u ∧ k ≤ t.kids.length ∧ 0 ≤ u ∧ u ≤ left ∧ (∃ y : Ext W, wr = y.w) ∧ Hid (u = left - t.kids.length - Tm.wtL (t.kids.take k))) (fun i _ _ => t.kids.length - (intOf i).toNat)
    case atStart => exact ⟨0, _, rfl, rfl, by omega, by omega, by omega, ⟨yy, rfl⟩, by show _ = _; simp [Tm.wtL]⟩
    case round =>
      obtain ⟨k, u, rfl, rfl, hk, hu1, hu2, ⟨yy, rfl⟩, HU⟩ := hrel
      by_cases hlt : k < t.kids.length
      · have hlt' : (k : Int) < (t.kids.length : Int) := by omega
        obtain ⟨kid, hkid⟩ : ∃ kid, t.kids[k]? = some kid := ⟨_, List.getElem?_eq_getElem hlt⟩
        have hmem : kid ∈ t.kids := List.mem_of_getElem? hkid
        have HKID := Lib.hid hkid
        obtain ⟨b0, o0, hrb, K⟩ := A.kid k kid hkid
        have hsub := A.sub k kid hkid
        dsimp only at hrb
        subst hrb
        have d0 : ∀ y : Ext W, y.w.cell? ⟨b0, o0 + k * 4, none⟩ = some (.int .i64 kid.op) := fun y => y.cell K.c0
        have d1 : ∀ y : Ext W, y.w.cell? ⟨b0, o0 + k * 4 + 1, none⟩ = some (.int .i64 kid.n) := fun y => y.cell K.c1
        have d2 : ∀ y : Ext W, y.w.cell? ⟨b0, o0 + k * 4 + 2, none⟩ = some (.slice (kr k).a kid.ty.length (kr k).c) := fun y => y.cell K.c2
        have d3 : ∀ y : Ext W, y.w.cell? ⟨b0, o0 + k * 4 + 3, none⟩ = some (.slice (kr k).b kid.kids.length (kr k).d) := fun y => y.cell K.c3
        clear K hkid
        obtain ⟨m, hm⟩ := wtV_ex kid.wt u
        have HM := Lib.hid hm
        clear hm
        have C : ∀ y : Ext W, Calls Tryd.prog 8 #[(kr k).val kid, .int .i64 u] y.w (Ans W (.int .i64 m)) := fun y => HI.out kid hmem hsub u hu1 (by omega) m HM.out y
        unfold TV.val at C
        have HMEM := Lib.hid hmem
        clear hmem hsub
        by_cases hm0 : m < 0
        · go_wp2_with (go_at_call 8; with_reducible refine Calls.mono (C _) ?_; rintro e w' ⟨rfl, yy, rfl⟩)
          go_ret
          refine fin_int ?_ ⟨yy, rfl⟩
          have h1 := Tm.wtL_take_succ HKID.out
          have h2 := Tm.wtL_take_le t.kids (k + 1)
          have h3 := HU.out
          rcases HM.out with ⟨a1, a2⟩ | ⟨a1, a2⟩
          · omega
          · rcases HV.out with ⟨b1, b2⟩ | ⟨b1, b2⟩ <;> omega
        · have hm2 : m ≤ u := by rcases HM.out with h | h <;> omega
          go_wp2_with (go_at_call 8; with_reducible refine Calls.mono (C _) ?_; rintro e w' ⟨rfl, yy, rfl⟩)
          go_roundw
          case rel =>
            refine ⟨k + 1, m, by go_num, rfl, by omega, by omega, by omega, ⟨yy, rfl⟩, ?_⟩
            have h1 := Tm.wtL_take_succ HKID.out
            have h3 := HU.out
            show _ = _
            rcases HM.out with ⟨a1, a2⟩ | ⟨a1, a2⟩ <;> omega
          case measure => simp [intOf]; omega
      · go_wp2
        go_ret
        refine fin_int ?_ ⟨yy, rfl⟩
        have h4 : t.kids.take k = t.kids := List.take_of_length_le (by omega)
        have h3 := HU.out
        rw [h4] at h3
        rcases HV.out with ⟨b1, b2⟩ | ⟨b1, b2⟩ <;> omega

set_option maxHeartbeats 1600000 in
theorem szTerm_ans (t : Tm) : ∀ {W : World} {lo : Nat} {r : TV} (_ : TmIn W lo t r) (left : Int) (_ : 0 ≤ left) (_ : left ≤ 1048576) (v : Int) (_ : WtV t.wt left v) (x : Ext W), Calls Tryd.prog 8 #[r.val t, .int .i64 left] x.w (Ans W (.int .i64 v)) := by
  induction t using Tm.ind with
  | h t ih =>
    intro W lo r h left hl0 hl1 v hv x
    have HV := Lib.hid hv
    have HI := Lib.hid ih
    clear hv ih
    obtain ⟨ra, rc, rb, rd⟩ := r
    unfold TV.val
    by_cases hs : left < (t.ty.length : Int)
    · skip
      go_enter Tryd.func8, Tryd.ntmps8
      go_wp2_with fail
      generalize hW : x.w.alloc _ = W1
      generalize hB : x.w.heap.size = B
      obtain ⟨c0, c1, c2, c3, h1, hback, yy, hy0⟩ := boxedT h x hB hW
      clear hW hB
      rw [← hy0]
      clear hy0
      obtain ⟨kr, A⟩ := h1.out
      have hlt1 := A.lt
      go_wp2_with (go_at_call 27; with_reducible refine Calls.mono (szIntS_ans _ _ t.ty left hl0 hl1 hlt1 (-1) (by rw [if_pos (by omega)]) _) ?_; rintro e w' ⟨rfl, yy, rfl⟩)
      go_ret
      refine fin_int ?_ (hback yy)
      have h3 := t.wt_eq
      rcases HV.out with ⟨b1, b2⟩ | ⟨b1, b2⟩ <;> omega
    · obtain ⟨m, hm⟩ := wtV_ex (t.kids.length + Tm.wtL t.kids) (left - t.ty.length)
      have HM := Lib.hid hm
      clear hm
      have hs2 : ¬ left - (t.ty.length : Int) < 0 := by omega
      go_enter Tryd.func8, Tryd.ntmps8
      go_wp2_with fail
      generalize hW : x.w.alloc _ = W1
      generalize hB : x.w.heap.size = B
      obtain ⟨c0, c1, c2, c3, h1, hback, yy, hy0⟩ := boxedT h x hB hW
      clear hW hB
      rw [← hy0]
      clear hy0
      obtain ⟨kr, A⟩ := h1.out
      have hlt1 := A.lt
      by_cases hm0 : m < 0
      · go_wp2_with (first | (go_at_call 27; with_reducible refine Calls.mono (szIntS_ans _ _ t.ty left hl0 hl1 hlt1 (left - t.ty.length) (by rw [if_neg (by omega)]) _) ?_; rintro e w' ⟨rfl, yy, rfl⟩) | (go_at_call 28; with_reducible refine Calls.mono (szTermS_ans A HI (left - t.ty.length) (by omega) (by omega) m HM.out _) ?_; rintro e w' ⟨rfl, yy, rfl⟩))
        go_ret
        refine fin_int ?_ (hback yy)
        have h3 := t.wt_eq
        rcases HM.out with ⟨a1, a2⟩ | ⟨a1, a2⟩
        · omega
        · rcases HV.out with ⟨b1, b2⟩ | ⟨b1, b2⟩ <;> omega
      · go_wp2_with (first | (go_at_call 27; with_reducible refine Calls.mono (szIntS_ans _ _ t.ty left hl0 hl1 hlt1 (left - t.ty.length) (by rw [if_neg (by omega)]) _) ?_; rintro e w' ⟨rfl, yy, rfl⟩) | (go_at_call 28; with_reducible refine Calls.mono (szTermS_ans A HI (left - t.ty.length) (by omega) (by omega) m HM.out _) ?_; rintro e w' ⟨rfl, yy, rfl⟩))
        go_ret
        refine fin_int ?_ (hback yy)
        have h3 := t.wt_eq
        rcases HM.out with ⟨a1, a2⟩ | ⟨a1, a2⟩
        · rcases HV.out with ⟨b1, b2⟩ | ⟨b1, b2⟩ <;> omega
        · omega

end Go.Proofs.YtncfbljablbglaaDoor
/- The laws' comparison of terms. -/
namespace Go.Proofs.YtncfbljablbglaaDoor
open Go.RowKit

set_option maxHeartbeats 4000000 in
theorem eqTermS_ans {W : World} {lo lo' : Nat} {t t' : Tm} {r r' : TV} {kr kr' : Nat → TV} (A : TmAt W lo t r kr) (A' : TmAt W lo' t' r' kr')
    (HI : Hid (∀ kid ∈ t.kids, ∀ {W : World} {lo lo' : Nat} {t' : Tm} {r r' : TV} (_ : TmIn W lo kid r) (_ : TmIn W lo' t' r') (_ : kid.wt ≤ 1048576) (p : Bool) (_ : p = true ↔ kid = t') (x : Ext W), Calls Tryd.prog 12 #[r.val kid, r'.val t'] x.w (Ans W (.bool p))))
    (hwt : t.wt ≤ 1048576) (p : Bool) (hp : p = true ↔ t.kids = t'.kids) (x : Ext W) :
    Calls Tryd.prog 40 #[.slice r.b t.kids.length r.d, .slice r'.b t'.kids.length r'.d] x.w (Ans W (.bool p)) := by
  have HP := Lib.hid hp
  clear hp
  obtain ⟨ra, rc, rb, rd⟩ := r
  obtain ⟨ra', rc', rb', rd'⟩ := r'
  dsimp only
  have hlk := A.lk
  have hlk' := A'.lk
  have HWT := Lib.hid hwt
  clear hwt
  obtain ⟨yy, hyy⟩ : ∃ y : Ext W, x = y := ⟨x, rfl⟩
  rw [hyy]
  clear hyy
  by_cases hlen : t.kids.length = t'.kids.length
  · have fl : ((t.kids.length : Int) != (t'.kids.length : Int)) = false := by simp; omega
    have HL := Lib.hid hlen
    clear hlen
    go_enter Tryd.func40, Tryd.ntmps40
    go_wp2
    clear fl
    go_loopw [5] (fun i wr => ∃ k : Nat, i = .int .i64 k ∧ k ≤ t.kids.length ∧ (∃ y : Ext W, wr = y.w) ∧ Hid (∀ j, j < k → t.kids[j]? = t'.kids[j]?)) (fun i _ => t.kids.length - (intOf i).toNat)
    case atStart => exact ⟨0, rfl, by omega, ⟨yy, rfl⟩, fun j hj => by omega⟩
    case round =>
      obtain ⟨k, rfl, hk, ⟨yy, rfl⟩, HU⟩ := hrel
      by_cases hlt : k < t.kids.length
      · have hlt' : (k : Int) < (t.kids.length : Int) := by omega
        have hlt2 : k < t'.kids.length := by have := HL.out; omega
        have hlt3 : (k : Int) < (t'.kids.length : Int) := by omega
        obtain ⟨kid, hkid⟩ : ∃ kid, t.kids[k]? = some kid := ⟨_, List.getElem?_eq_getElem hlt⟩
        have hmem : kid ∈ t.kids := List.mem_of_getElem? hkid
        have HKID := Lib.hid hkid
        obtain ⟨b0, o0, hrb, K⟩ := A.kid k kid hkid
        have hsub := A.sub k kid hkid
        dsimp only at hrb
        subst hrb
        have d0 : ∀ y : Ext W, y.w.cell? ⟨b0, o0 + k * 4, none⟩ = some (.int .i64 kid.op) := fun y => y.cell K.c0
        have d1 : ∀ y : Ext W, y.w.cell? ⟨b0, o0 + k * 4 + 1, none⟩ = some (.int .i64 kid.n) := fun y => y.cell K.c1
        have d2 : ∀ y : Ext W, y.w.cell? ⟨b0, o0 + k * 4 + 2, none⟩ = some (.slice (kr k).a kid.ty.length (kr k).c) := fun y => y.cell K.c2
        have d3 : ∀ y : Ext W, y.w.cell? ⟨b0, o0 + k * 4 + 3, none⟩ = some (.slice (kr k).b kid.kids.length (kr k).d) := fun y => y.cell K.c3
        clear K hkid
        obtain ⟨kid', hkid'⟩ : ∃ kid', t'.kids[k]? = some kid' := ⟨_, List.getElem?_eq_getElem hlt2⟩
        have HKID' := Lib.hid hkid'
        obtain ⟨b0', o0', hrb', K'⟩ := A'.kid k kid' hkid'
        have hsub' := A'.sub k kid' hkid'
        dsimp only at hrb'
        subst hrb'
        have g0 : ∀ y : Ext W, y.w.cell? ⟨b0', o0' + k * 4, none⟩ = some (.int .i64 kid'.op) := fun y => y.cell K'.c0
        have g1 : ∀ y : Ext W, y.w.cell? ⟨b0', o0' + k * 4 + 1, none⟩ = some (.int .i64 kid'.n) := fun y => y.cell K'.c1
        have g2 : ∀ y : Ext W, y.w.cell? ⟨b0', o0' + k * 4 + 2, none⟩ = some (.slice (kr' k).a kid'.ty.length (kr' k).c) := fun y => y.cell K'.c2
        have g3 : ∀ y : Ext W, y.w.cell? ⟨b0', o0' + k * 4 + 3, none⟩ = some (.slice (kr' k).b kid'.kids.length (kr' k).d) := fun y => y.cell K'.c3
        clear K' hkid'
        obtain ⟨m, hm⟩ := bool_of (kid = kid')
        have HM := Lib.hid hm
        clear hm
        have hkw := Tm.wt_kid hmem
        have C : ∀ y : Ext W, Calls Tryd.prog 12 #[(kr k).val kid, (kr' k).val kid'] y.w (Ans W (.bool m)) := fun y => HI.out kid hmem hsub hsub' (by have := HWT.out; omega) m HM.out y
        unfold TV.val at C
        clear hmem hsub hsub' hkw
        cases m
        · go_wp2
          refine region_ext yy (by kernel_rfl) (by kernel_rfl) ?_
          repeat (go_big_quiet_step ((go_at_call 12; with_reducible exact C _)))
          refine wpQuiet_nil ?_
          rintro _ ⟨yy, rfl⟩
          go_wp2
          go_ret
          refine fin_false HP (fun q => ?_) ⟨yy, rfl⟩
          have e1 := HKID.out
          rw [q, HKID'.out] at e1
          have := HM.out.2 (Option.some.inj e1).symm
          cases this
        · go_wp2
          refine region_ext yy (by kernel_rfl) (by kernel_rfl) ?_
          repeat (go_big_quiet_step ((go_at_call 12; with_reducible exact C _)))
          refine wpQuiet_nil ?_
          rintro _ ⟨yy, rfl⟩
          go_wp2
          go_roundw
          case rel =>
            refine ⟨k + 1, by go_num, by omega, ⟨yy, rfl⟩, fun j hj => ?_⟩
            by_cases e : j = k
            · subst e
              rw [HKID.out, HKID'.out, HM.out.1 (by simp)]
            · exact HU.out j (by omega)
          case measure => simp [intOf]; omega
      · go_wp2
        go_ret
        refine fin_true HP (List.ext_getElem? fun i => ?_) ⟨yy, rfl⟩
        by_cases hi : i < t.kids.length
        · exact HU.out i (by omega)
        · have := HL.out
          rw [List.getElem?_eq_none (by omega), List.getElem?_eq_none (by omega)]
  · have fl : ((t.kids.length : Int) != (t'.kids.length : Int)) = true := by simp; omega
    have HL := Lib.hid hlen
    clear hlen
    go_enter Tryd.func40, Tryd.ntmps40
    go_wp2
    go_ret
    exact fin_false HP (fun q => HL.out (by rw [q])) ⟨yy, rfl⟩

/-- Two terms that a function has been handed. -/
theorem boxedTT {W W1 : World} {lo lo' : Nat} {t t' : Tm} {r r' : TV} (h : TmIn W lo t r) (h' : TmIn W lo' t' r') (x : Ext W) {T T' : TypeId} {B : Nat} (hB : x.w.heap.size = B)
    (hW : (x.w.alloc (.cells #[.int .i64 t.op, .int .i64 t.n, .slice r.a t.ty.length r.c, .slice r.b t.kids.length r.d] T)).alloc (.cells #[.int .i64 t'.op, .int .i64 t'.n, .slice r'.a t'.ty.length r'.c, .slice r'.b t'.kids.length r'.d] T') = W1) :
    (∀ y : Ext W1, y.w.cell? ⟨B, 0, none⟩ = some (.int .i64 t.op)) ∧ (∀ y : Ext W1, y.w.cell? ⟨B, 1, none⟩ = some (.int .i64 t.n)) ∧
    (∀ y : Ext W1, y.w.cell? ⟨B, 2, none⟩ = some (.slice r.a t.ty.length r.c)) ∧ (∀ y : Ext W1, y.w.cell? ⟨B, 3, none⟩ = some (.slice r.b t.kids.length r.d)) ∧
    (∀ y : Ext W1, y.w.cell? ⟨B + 1, 0, none⟩ = some (.int .i64 t'.op)) ∧ (∀ y : Ext W1, y.w.cell? ⟨B + 1, 1, none⟩ = some (.int .i64 t'.n)) ∧
    (∀ y : Ext W1, y.w.cell? ⟨B + 1, 2, none⟩ = some (.slice r'.a t'.ty.length r'.c)) ∧ (∀ y : Ext W1, y.w.cell? ⟨B + 1, 3, none⟩ = some (.slice r'.b t'.kids.length r'.d)) ∧
    TmIn W1 lo t r ∧ TmIn W1 lo' t' r' ∧ (∀ y : Ext W1, ∃ z : Ext W, y.w = z.w) ∧ ∃ y0 : Ext W1, y0.w = W1 := by
  obtain ⟨a0, a1, a2, a3, g1, gb, _, _⟩ := boxedT h x (W1 := x.w.alloc _) hB rfl
  obtain ⟨b0, b1, b2, b3, g2, gb2, y1, hy1⟩ := boxedT (h'.ext (x.alloc _)) (Ext.self (x.w.alloc _)) (T := T') (B := B + 1) (by rw [← hB]; simp) hW
  have hf : ∀ y : Ext W1, ∃ z : Ext (x.w.alloc (.cells #[.int .i64 t.op, .int .i64 t.n, .slice r.a t.ty.length r.c, .slice r.b t.kids.length r.d] T)), y.w = z.w := gb2
  refine ⟨?_, ?_, ?_, ?_, b0, b1, b2, b3, ?_, g2, ?_, y1, hy1⟩
  · intro y; obtain ⟨z, hz⟩ := hf y; rw [hz]; exact a0 z
  · intro y; obtain ⟨z, hz⟩ := hf y; rw [hz]; exact a1 z
  · intro y; obtain ⟨z, hz⟩ := hf y; rw [hz]; exact a2 z
  · intro y; obtain ⟨z, hz⟩ := hf y; rw [hz]; exact a3 z
  · obtain ⟨z, hz⟩ := hf y1; rw [← hy1, hz]; exact g1.ext z
  · intro y; obtain ⟨z, hz⟩ := hf y; obtain ⟨u, hu⟩ := gb z; exact ⟨u, by rw [hz, hu]⟩

set_option maxHeartbeats 4000000 in
theorem eqTerm_ans (t : Tm) : ∀ {W : World} {lo lo' : Nat} {t' : Tm} {r r' : TV} (_ : TmIn W lo t r) (_ : TmIn W lo' t' r') (_ : t.wt ≤ 1048576) (p : Bool) (_ : p = true ↔ t = t') (x : Ext W), Calls Tryd.prog 12 #[r.val t, r'.val t'] x.w (Ans W (.bool p)) := by
  induction t using Tm.ind with
  | h t ih =>
    intro W lo lo' t' r r' h h' hwt p hp x
    have HP := Lib.hid hp
    have HI := Lib.hid ih
    clear hp ih
    have hl40 : t.ty.length ≤ 1099511627776 := by rw [t.wt_eq] at hwt; omega
    obtain ⟨ra, rc, rb, rd⟩ := r
    obtain ⟨ra', rc', rb', rd'⟩ := r'
    unfold TV.val
    by_cases e1 : t.op = t'.op
    · have f1 : (t.op != t'.op) = false := by simpa using e1
      have E1 := Lib.hid e1
      clear e1
      by_cases e2 : t.n = t'.n
      · have f2 : (t.n != t'.n) = false := by simpa using e2
        have E2 := Lib.hid e2
        clear e2
        by_cases e3 : t.ty = t'.ty
        · have E3 := Lib.hid e3
          clear e3
          by_cases e4 : t.kids = t'.kids
          · have E4 := Lib.hid e4
            clear e4
            go_enter Tryd.func12, Tryd.ntmps12
            go_wp2_with fail
            generalize hW : (x.w.alloc _).alloc _ = W1
            generalize hB : x.w.heap.size = B
            obtain ⟨c0, c1, c2, c3, d0, d1, d2, d3, h1, h1', hback, yy, hy0⟩ := boxedTT h h' x hB hW
            clear hW hB
            rw [← hy0]
            clear hy0
            obtain ⟨kr, A⟩ := h1.out
            obtain ⟨kr', A'⟩ := h1'.out
            have hlk := A.lk
            have hlk' := A'.lk
            go_wp2_with (first | (go_at_call 18; with_reducible refine Calls.mono (eqIntS_ans A.row A'.row hl40 true (by refine iff_tf ?_; dsimp only; exact E3.out) _) ?_; rintro e w' ⟨rfl, yy, rfl⟩) | (go_at_call 40; with_reducible refine Calls.mono (eqTermS_ans A A' HI hwt true (by refine iff_tf ?_; dsimp only; exact E4.out) _) ?_; rintro e w' ⟨rfl, yy, rfl⟩))
            go_ret
            exact fin_true HP (Tm.ext' E1.out E2.out E3.out E4.out) (hback yy)
          · have E4 := Lib.hid e4
            clear e4
            go_enter Tryd.func12, Tryd.ntmps12
            go_wp2_with fail
            generalize hW : (x.w.alloc _).alloc _ = W1
            generalize hB : x.w.heap.size = B
            obtain ⟨c0, c1, c2, c3, d0, d1, d2, d3, h1, h1', hback, yy, hy0⟩ := boxedTT h h' x hB hW
            clear hW hB
            rw [← hy0]
            clear hy0
            obtain ⟨kr, A⟩ := h1.out
            obtain ⟨kr', A'⟩ := h1'.out
            have hlk := A.lk
            have hlk' := A'.lk
            go_wp2_with (first | (go_at_call 18; with_reducible refine Calls.mono (eqIntS_ans A.row A'.row hl40 true (by refine iff_tf ?_; dsimp only; exact E3.out) _) ?_; rintro e w' ⟨rfl, yy, rfl⟩) | (go_at_call 40; with_reducible refine Calls.mono (eqTermS_ans A A' HI hwt false (by refine iff_tf ?_; dsimp only; exact E4.out) _) ?_; rintro e w' ⟨rfl, yy, rfl⟩))
            go_ret
            exact fin_false HP (fun q => E4.out (by rw [q])) (hback yy)
        · have E3 := Lib.hid e3
          clear e3
          go_enter Tryd.func12, Tryd.ntmps12
          go_wp2_with fail
          generalize hW : (x.w.alloc _).alloc _ = W1
          generalize hB : x.w.heap.size = B
          obtain ⟨c0, c1, c2, c3, d0, d1, d2, d3, h1, h1', hback, yy, hy0⟩ := boxedTT h h' x hB hW
          clear hW hB
          rw [← hy0]
          clear hy0
          obtain ⟨kr, A⟩ := h1.out
          obtain ⟨kr', A'⟩ := h1'.out
          have hlk := A.lk
          have hlk' := A'.lk
          go_wp2_with (go_at_call 18; with_reducible refine Calls.mono (eqIntS_ans A.row A'.row hl40 false (by refine iff_tf ?_; dsimp only; exact E3.out) _) ?_; rintro e w' ⟨rfl, yy, rfl⟩)
          go_ret
          exact fin_false HP (fun q => E3.out (by rw [q])) (hback yy)
      · have f2 : (t.n != t'.n) = true := by simpa using e2
        have E2 := Lib.hid e2
        clear e2
        go_enter Tryd.func12, Tryd.ntmps12
        go_wp2_with fail
        generalize hW : (x.w.alloc _).alloc _ = W1
        generalize hB : x.w.heap.size = B
        obtain ⟨c0, c1, c2, c3, d0, d1, d2, d3, h1, h1', hback, yy, hy0⟩ := boxedTT h h' x hB hW
        clear hW hB
        rw [← hy0]
        clear hy0
        obtain ⟨kr, A⟩ := h1.out
        obtain ⟨kr', A'⟩ := h1'.out
        have hlk := A.lk
        have hlk' := A'.lk
        go_wp2
        go_ret
        exact fin_false HP (fun q => E2.out (by rw [q])) (hback yy)
    · have f1 : (t.op != t'.op) = true := by simpa using e1
      have E1 := Lib.hid e1
      clear e1
      go_enter Tryd.func12, Tryd.ntmps12
      go_wp2_with fail
      generalize hW : (x.w.alloc _).alloc _ = W1
      generalize hB : x.w.heap.size = B
      obtain ⟨c0, c1, c2, c3, d0, d1, d2, d3, h1, h1', hback, yy, hy0⟩ := boxedTT h h' x hB hW
      clear hW hB
      rw [← hy0]
      clear hy0
      obtain ⟨kr, A⟩ := h1.out
      obtain ⟨kr', A'⟩ := h1'.out
      have hlk := A.lk
      have hlk' := A'.lk
      go_wp2
      go_ret
      exact fin_false HP (fun q => E1.out (by rw [q])) (hback yy)

end Go.Proofs.YtncfbljablbglaaDoor
/- The model's copy of a list. -/
namespace Go.Proofs.YtncfbljablbglaaDoor
open Go.RowKit

theorem NodeOk.ty40 {size vars : Int} {closed : Bool} {t : Tm} (h : NodeOk size closed vars t) : t.ty.length ≤ 40 := by
  have := h.tok
  unfold TyOk at this
  split at this
  · exact this.1.1
  · rw [this]; simp

set_option maxHeartbeats 4000000 in
theorem l1Copy_ans {W : World} {a : Option Addr} {c : Nat} {l : List Int} (h : Row W (Value.int .i64) a l) (hl : l.length ≤ 1099511627776) (x : Ext W) :
    Calls Tryd.prog 64 #[.slice a l.length c] x.w (NewRow W 22 3 (Value.int .i64) l) := by
  obtain ⟨i0, hi0, hz0, hz1, hz2⟩ := info_parts info_int
  go_enter Tryd.func64, Tryd.ntmps64
  have hs : ∀ o, Src (x.w.alloc o) a l.length 1 (l.map (Value.int .i64)) := fun o => src_ints ((h.ext x).ext ((Ext.self x.w).alloc o))
  have hsz := x.size
  have ho : (x.w.alloc (.cells #[] 3)).ownsRow W.heap.size 3 1 (.slice (some ⟨x.w.heap.size, 0, none⟩) 0 0) 0 [] := World.ownsRow_lit x.w #[] 0 hsz (by unfold maxLen; omega) (by simp)
  go_wp2_with (at_builtin; refine wpList_app_src rfl _ _ 22 rfl W.heap.size 3 i0 (.int .i64 0) 1 8 Tryd.underlying22 hi0 hz0 hz1 hz2 rfl (by omega) (.slice (some ⟨x.w.heap.size, 0, none⟩) 0 0) 0 [] rfl ho a l.length c (l.map (Value.int .i64)) rfl (hs _) (by unfold maxLen; omega) (by omega) (by simp; omega) ?_; intro A' c' w1 own1 gr1 hat1)
  go_ret
  have bel : Below W.heap.size W w1 := (x.below.alloc hsz _).grown gr1 (by simp; omega) (by intro g hg; rw [ob_eq] at hg; cases hg; exact hsz)
  exact ⟨_, ⟨w1, bel⟩, rfl, rfl, by simpa using own1⟩

end Go.Proofs.YtncfbljablbglaaDoor
/- The box of a term in the midst of being built: made at once, or made empty and filled. Nothing is walked here. -/
namespace Go.Proofs.YtncfbljablbglaaDoor
open Go.RowKit

section
variable {Y w : World} {op n : Int} {l : List Int} {a : Option Addr} {c : Nat}
theorem TB.new (bel : Below Y.heap.size Y w) (own : w.ownsRow Y.heap.size 3 1 (.slice a l.length c) l.length (l.map (Value.int .i64))) :
    TB Y (w.alloc (boxT op n a l.length c none 0 0)) w.heap.size op n l a c [] none 0 (fun _ => ⟨none, 0, none, 0⟩) [] (fun _ _ => False) :=
  TB.start (new_blk rfl) (owns_ext own ((Ext.self w).alloc _)) bel.size (below_alloc bel _)
theorem TB.set {D : Nat} (bel : Below Y.heap.size Y w) (hD : Y.heap.size ≤ D) (hb : w.heap[D]? = some zbox) (own : w.ownsRow Y.heap.size 3 1 (.slice a l.length c) l.length (l.map (Value.int .i64))) {w' : World}
    (hw : (((w.setCell ⟨D, 0, none⟩ (.int .i64 op)).setCell ⟨D, 1, none⟩ (.int .i64 n)).setCell ⟨D, 2, none⟩ (.slice a l.length c)).setCell ⟨D, 3, none⟩ (.slice none 0 0) = w') :
    TB Y w' D op n l a c [] none 0 (fun _ => ⟨none, 0, none, 0⟩) [] (fun _ _ => False) := by
  have ha : ob a ≠ some D := fun e => own_ne' own hb no_int_term (by rw [ob_eq]; exact e)
  have h1 := set_blk hb 0 (.int .i64 op) rfl
  have h2 := set_blk h1 1 (.int .i64 n) rfl
  have h3 := set_blk h2 2 (.slice a l.length c) rfl
  have h4 := set_blk h3 3 (.slice none 0 0) hw
  refine TB.start (by simpa using h4) (owns_of_block own fun g hg => ?_) hD ?_
  · have hg' : g ≠ D := fun e => ha (by rw [← e, ← ob_eq]; exact hg)
    rw [set_other hw hg', set_other rfl hg', set_other rfl hg', set_other rfl hg']
  · subst hw
    exact (((bel.setCell hD _).setCell hD _).setCell hD _).setCell hD _
/-- Its second cell is turned. -/
theorem TB.setN {C : Nat} {ks : List Tm} {b : Option Addr} {d : Nat} {kr : Nat → TV} {xs : List Value} {KB : Nat → Nat → Prop} (h : TB Y w C op n l a c ks b d kr xs KB) {m : Int} {w' : World} (hw : w.setCell ⟨C, 1, none⟩ (.int .i64 m) = w') :
    TB Y w' C op m l a c ks b d kr xs KB := by
  have h1 := set_blk h.box 1 (.int .i64 m) hw
  refine ⟨by simpa using h1, owns_of_block h.ty fun g hg => set_other hw (fun e => h.aC (by rw [← e, ← ob_eq]; exact hg)), h.kids.keep (fun g hg => set_other hw (h.lk g hg).2), h.da, h.lk, h.lo, ?_⟩
  subst hw
  exact h.bel.setCell h.lo _
end
end Go.Proofs.YtncfbljablbglaaDoor
