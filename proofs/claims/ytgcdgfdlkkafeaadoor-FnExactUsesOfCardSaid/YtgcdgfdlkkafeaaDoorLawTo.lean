/- The laws' copies of terms. -/
import Derived.Test.YtgcdgfdlkkafeaaDoorTermA
import Derived.Test.YtgcdgfdlkkafeaaDoorLawA
namespace Go.Proofs.YtgcdgfdlkkafeaaDoor
open Go.RowKit

theorem info_term : (Tryd.prog.info? 47).map (fun i => (i.zero, i.size, i.bytes)) = some (some (.agg #[.int .i64 0, .int .i64 0, .slice none 0 0, .slice none 0 0]), 4, 64) := by kernel_rfl
/-- A call hands back a new term, of its own memory. -/
def NewTm (W : World) (t : Tm) : Ending → World → Prop := fun e w' => ∃ (r : TV) (y : Ext W), e = .returned (r.val t) ∧ w' = y.w ∧ TmIn y.w W.heap.size t r
/-- Kids that lie in blocks from lo on. -/
def KidsIn (w : World) (lo : Nat) (ks : List Tm) (b : Option Addr) (kr : Nat → TV) : Prop :=
  (ks = [] ∨ ∃ bb o, b = some ⟨bb, o, none⟩ ∧ lo ≤ bb ∧ ∀ i k, ks[i]? = some k → Kid4 w bb (o + i * 4) (kr i) k) ∧ (∀ i k, ks[i]? = some k → TmIn w lo k (kr i))
theorem KidsIn.keep {w w' : World} {lo : Nat} {ks : List Tm} {b : Option Addr} {kr : Nat → TV} (h : KidsIn w lo ks b kr) (hk : ∀ k, lo ≤ k → k < w.heap.size → w'.heap[k]? = w.heap[k]?) : KidsIn w' lo ks b kr := by
  refine ⟨?_, fun i k hi => (h.2 i k hi).keep hk⟩
  rcases h.1 with e | ⟨bb, o, e, hlo, hc⟩
  · exact .inl e
  · exact .inr ⟨bb, o, e, hlo, fun i k hi => (hc i k hi).keep (hk bb hlo (cell_lt (hc i k hi).c0))⟩
def NewKids (W : World) (t : Tm) : Ending → World → Prop := fun e w' => ∃ (b : Option Addr) (d : Nat) (kr : Nat → TV) (y : Ext W), e = .returned (.slice b t.kids.length d) ∧ w' = y.w ∧ KidsIn y.w W.heap.size t.kids b kr
/-- The cells of the kid at a place of an array. -/
def Cur4 (cur : Array Value) (j : Nat) (r : TV) (k : Tm) : Prop :=
  cur[j * 4]? = some (.int .i64 k.op) ∧ cur[j * 4 + 1]? = some (.int .i64 k.n) ∧ cur[j * 4 + 2]? = some (.slice r.a k.ty.length r.c) ∧ cur[j * 4 + 3]? = some (.slice r.b k.kids.length r.d)

set_option maxHeartbeats 8000000 in
theorem toTermS_ans {W : World} {lo : Nat} {t : Tm} {r : TV} {kr : Nat → TV} (A : TmAt W lo t r kr)
    (HI : Hid (∀ kid ∈ t.kids, ∀ {W : World} {lo : Nat} {r : TV} (_ : TmIn W lo kid r) (_ : kid.wt ≤ 1048576) (x : Ext W), Calls Tryd.prog 30 #[r.val kid] x.w (NewTm W kid)))
    (hwt : t.wt ≤ 1048576) (x : Ext W) :
    Calls Tryd.prog 70 #[.slice r.b t.kids.length r.d] x.w (NewKids W t) := by
  have hl : t.kids.length ≤ 1048576 := by rw [t.wt_eq] at hwt; omega
  obtain ⟨ra, rc, rb, rd⟩ := r
  dsimp only
  have HWT := Lib.hid hwt
  clear hwt
  obtain ⟨i0, hi, hz0, hz1, hz2⟩ := info_parts info_term
  have HN : Hid (∀ e w', NewKids W t e w' ↔ NewKids W t e w') := fun _ _ => Iff.rfl
  go_enter Tryd.func70, Tryd.ntmps70
  go_wp2_with (at_make; refine wpList_make_full _ rfl _ _ 45 rfl x.w.heap.size 47 i0 (.agg #[.int .i64 0, .int .i64 0, .slice none 0 0, .slice none 0 0]) 4 Tryd.underlying45 hi hz0 hz1 .i64 .i64 _ _ t.kids.length rfl rfl rfl rfl (by rw [hz2]; omega) (by unfold maxLen; omega) (Nat.le_refl _) ?_; intro w0 hown0 hgrow0)
  have hb0 : Below W.heap.size W w0 := x.below.grown hgrow0 x.size (fun k hk => by cases hk)
  have hsz := x.size
  generalize x.w.heap.size = g at *
  obtain ⟨cur0, hg0, hc0⟩ : ∃ cur : Array Value, w0.heap[g]? = some (.cells cur 47 (0, 0)) ∧ cur.size = t.kids.length * 4 := by
    rcases hown0.2 with ⟨e, _⟩ | ⟨g', cap, cur, e, _, hg, _, _, hs, _⟩
    · cases e
    · cases e
      exact ⟨cur, hg, hs⟩
  clear hgrow0 hi hz0 hz1 hz2 hown0
  go_loopw [4] (fun i wr => ∃ (k : Nat) (cur : Array Value) (ks : Nat → TV), i = .int .i64 k ∧ k ≤ t.kids.length ∧ wr.heap[g]? = some (.cells cur 47 (0, 0)) ∧ cur.size = t.kids.length * 4 ∧ Below W.heap.size W wr ∧ Hid (∀ (j : Nat) u, j < k → t.kids[j]? = some u → Cur4 cur j (ks j) u ∧ TmIn wr (g + 1) u (ks j))) (fun i _ => t.kids.length - (intOf i).toNat)
  case atStart => exact ⟨0, cur0, fun _ => ⟨none, 0, none, 0⟩, rfl, by omega, hg0, hc0, hb0, fun j u hj => by omega⟩
  case round =>
    obtain ⟨k, cur, ks, rfl, hk, hg, hcs, hb, HU⟩ := hrel
    by_cases hlt : k < t.kids.length
    · have hlt' : (k : Int) < (t.kids.length : Int) := by omega
      obtain ⟨kid, hkid⟩ : ∃ kid, t.kids[k]? = some kid := ⟨_, List.getElem?_eq_getElem hlt⟩
      have hmem : kid ∈ t.kids := List.mem_of_getElem? hkid
      have HKID := Lib.hid hkid
      obtain ⟨b0, o0, hrb, K⟩ := A.kid k kid hkid
      have hsub := A.sub k kid hkid
      dsimp only at hrb
      subst hrb
      have d0 : ∀ y : Ext W, y.w.cell? ⟨b0, o0 + k * 4, none⟩ = some (.int .i64 kid.op) := fun y => y.cell K.c0
      have d1 : ∀ y : Ext W, y.w.cell? ⟨b0, o0 + k * 4 + 1, none⟩ = some (.int .i64 kid.n) := fun y => y.cell K.c1
      have d2 : ∀ y : Ext W, y.w.cell? ⟨b0, o0 + k * 4 + 2, none⟩ = some (.slice (kr k).a kid.ty.length (kr k).c) := fun y => y.cell K.c2
      have d3 : ∀ y : Ext W, y.w.cell? ⟨b0, o0 + k * 4 + 3, none⟩ = some (.slice (kr k).b kid.kids.length (kr k).d) := fun y => y.cell K.c3
      clear K hkid
      have hmw := Tm.wt_kid hmem
      have C : Calls Tryd.prog 30 #[(kr k).val kid] wr (NewTm wr kid) := HI.out kid hmem (hsub.ext ⟨wr, hb⟩) (by have := HWT.out; omega) (Ext.self wr)
      unfold TV.val at C
      have d0 : wr.cell? _ = _ := d0 ⟨wr, hb⟩
      have d1 : wr.cell? _ = _ := d1 ⟨wr, hb⟩
      have d2 : wr.cell? _ = _ := d2 ⟨wr, hb⟩
      have d3 : wr.cell? _ = _ := d3 ⟨wr, hb⟩
      clear hmem hsub hmw
      go_wp2_with fail
      with_reducible refine Calls.mono C ?_
      rintro e w' ⟨nr, zz, rfl, rfl, hnew⟩
      have bz := zz.blk hg
      have hgw : g < wr.heap.size := (Array.getElem?_eq_some_iff.1 hg).1
      obtain ⟨v0, hv0⟩ : ∃ v, cur[k * 4]? = some v := ⟨_, Array.getElem?_eq_getElem (by omega)⟩
      obtain ⟨v1, hv1⟩ : ∃ v, cur[k * 4 + 1]? = some v := ⟨_, Array.getElem?_eq_getElem (by omega)⟩
      obtain ⟨v2, hv2⟩ : ∃ v, cur[k * 4 + 2]? = some v := ⟨_, Array.getElem?_eq_getElem (by omega)⟩
      obtain ⟨v3, hv3⟩ : ∃ v, cur[k * 4 + 3]? = some v := ⟨_, Array.getElem?_eq_getElem (by omega)⟩
      have k0 : zz.w.cell? ⟨g, k * 4, none⟩ = some v0 := (blk_cell bz _).trans hv0
      have k1 : zz.w.cell? ⟨g, k * 4 + 1, none⟩ = some v1 := (blk_cell bz _).trans hv1
      have k2 : zz.w.cell? ⟨g, k * 4 + 2, none⟩ = some v2 := (blk_cell bz _).trans hv2
      have k3 : zz.w.cell? ⟨g, k * 4 + 3, none⟩ = some v3 := (blk_cell bz _).trans hv3
      have z0 := blk_free bz (k * 4)
      have z1 := blk_free bz (k * 4 + 1)
      have z2 := blk_free bz (k * 4 + 2)
      have z3 := blk_free bz (k * 4 + 3)
      have HV : Hid (cur[k * 4]? = some v0 ∧ cur[k * 4 + 1]? = some v1 ∧ cur[k * 4 + 2]? = some v2 ∧ cur[k * 4 + 3]? = some v3) := ⟨hv0, hv1, hv2, hv3⟩
      have HB := Lib.hid bz
      have HBW := Lib.hid hb
      clear hv0 hv1 hv2 hv3 bz hb d0 d1 d2 d3 hg C
      go_wp2
      generalize hY1 : zz.w.setCell _ _ = Y1
      generalize hY2 : Y1.setCell _ _ = Y2
      generalize hY3 : Y2.setCell _ _ = Y3
      generalize hY4 : Y3.setCell _ _ = Y4
      have q4 := set_blk (set_blk (set_blk (set_blk HB.out (k * 4) _ hY1) (k * 4 + 1) _ hY2) (k * 4 + 2) _ hY3) (k * 4 + 3) _ hY4
      have hsame : ∀ j, j ≠ g → Y4.heap[j]? = zz.w.heap[j]? := fun j hj => by rw [set_other hY4 hj, set_other hY3 hj, set_other hY2 hj, set_other hY1 hj]
      have hb4 : Below W.heap.size W Y4 := by
        subst hY4; subst hY3; subst hY2; subst hY1
        exact ((((HBW.out.trans (zz.below.mono HBW.out.size)).setCell (by simpa using hsz) _).setCell (by simpa using hsz) _).setCell (by simpa using hsz) _).setCell (by simpa using hsz) _
      clear hY1 hY2 hY3 hY4 k0 k1 k2 k3 z0 z1 z2 z3
      have Q4 := Lib.hid q4
      have HS := Lib.hid hsame
      clear q4 hsame
      go_roundw
      case rel =>
        refine ⟨k + 1, _, fun j => if j = k then nr else ks j, by go_num, by omega, Q4.out, by simp; exact hcs, hb4, fun j u hj hu => ?_⟩
        have hkeep : ∀ i, g + 1 ≤ i → i < zz.w.heap.size → Y4.heap[i]? = zz.w.heap[i]? := fun i h1 _ => HS.out i (by omega)
        by_cases e : j = k
        · subst e
          obtain rfl := Option.some.inj (hu.symm.trans HKID.out)
          dsimp only
          rw [if_pos rfl]
          refine ⟨?_, (hnew.lower (by omega)).keep hkeep⟩
          unfold Cur4
          have := hcs
          simp [Array.getElem?_setIfInBounds]
          omega
        · dsimp only
          rw [if_neg e]
          obtain ⟨h1, h2⟩ := HU.out j u (by omega) hu
          refine ⟨?_, (h2.ext zz).keep hkeep⟩
          unfold Cur4 at h1 ⊢
          obtain ⟨a0, a1, a2, a3⟩ := h1
          have n0 : ∀ p q : Nat, p < 4 → q < 4 → k * 4 + p ≠ j * 4 + q := fun p q _ _ => by omega
          refine ⟨?_, ?_, ?_, ?_⟩
          · have h0 := n0 0 0 (by omega) (by omega); have h1 := n0 1 0 (by omega) (by omega); have h2 := n0 2 0 (by omega) (by omega); have h3 := n0 3 0 (by omega) (by omega)
            simp only [Nat.add_zero] at h0 h1 h2 h3
            rw [Array.getElem?_setIfInBounds_ne h3, Array.getElem?_setIfInBounds_ne h2, Array.getElem?_setIfInBounds_ne h1, Array.getElem?_setIfInBounds_ne h0]; exact a0
          · have h0 := n0 0 1 (by omega) (by omega); have h1 := n0 1 1 (by omega) (by omega); have h2 := n0 2 1 (by omega) (by omega); have h3 := n0 3 1 (by omega) (by omega)
            simp only [Nat.add_zero] at h0
            rw [Array.getElem?_setIfInBounds_ne h3, Array.getElem?_setIfInBounds_ne h2, Array.getElem?_setIfInBounds_ne h1, Array.getElem?_setIfInBounds_ne h0]; exact a1
          · have h0 := n0 0 2 (by omega) (by omega); have h1 := n0 1 2 (by omega) (by omega); have h2 := n0 2 2 (by omega) (by omega); have h3 := n0 3 2 (by omega) (by omega)
            simp only [Nat.add_zero] at h0
            rw [Array.getElem?_setIfInBounds_ne h3, Array.getElem?_setIfInBounds_ne h2, Array.getElem?_setIfInBounds_ne h1, Array.getElem?_setIfInBounds_ne h0]; exact a2
          · have h0 := n0 0 3 (by omega) (by omega); have h1 := n0 1 3 (by omega) (by omega); have h2 := n0 2 3 (by omega) (by omega); have h3 := n0 3 3 (by omega) (by omega)
            simp only [Nat.add_zero] at h0
            rw [Array.getElem?_setIfInBounds_ne h3, Array.getElem?_setIfInBounds_ne h2, Array.getElem?_setIfInBounds_ne h1, Array.getElem?_setIfInBounds_ne h0]; exact a3
      case measure => simp [intOf]; omega
    · go_wp2
      go_ret
      refine ⟨_, _, ks, ⟨wr, hb⟩, rfl, rfl, .inr ⟨g, 0, rfl, hsz, fun i u hi => ?_⟩, fun i u hi => ?_⟩
      · have hi2 : i < k := by have := (List.getElem?_eq_some_iff.1 hi).1; omega
        obtain ⟨⟨a0, a1, a2, a3⟩, _⟩ := HU.out i u hi2 hi
        rw [Nat.zero_add]
        exact ⟨(blk_cell hg _).trans a0, (blk_cell hg _).trans a1, (blk_cell hg _).trans a2, (blk_cell hg _).trans a3⟩
      · have hi2 : i < k := by have := (List.getElem?_eq_some_iff.1 hi).1; omega
        exact ((HU.out i u hi2 hi).2).lower (by omega)

end Go.Proofs.YtgcdgfdlkkafeaaDoor
