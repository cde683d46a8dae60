
/- The law of PartsOfType. -/
import Derived.Test.YtjknnlnkgpoceaaDoorKHoldL
import Derived.Test.YtjknnlnkgpoceaaDoorKKidsP
import Derived.Test.YtjknnlnkgpoceaaDoorKKidsM
import Derived.Deep.RegionHeld3
import Derived.Deep.Cut
import Derived.RegionTactic
import Derived.Outline
set_option linter.unusedVariables false
set_option linter.unusedSimpArgs false
namespace Go.Proofs.YtjknnlnkgpoceaaDoor
open Go.RowKit

set_option maxRecDepth 100000 in
set_option maxHeartbeats 16000000 in
theorem partsOfType_law {W : World} (F : Forms W) {a0 : Option Addr} {p0 : Nat} {f0 : List Int} (hr0 : Row W (Value.int .i64) a0 f0) (kr0 : f0.length ≤ 9223372036854775807) (hcb0 : CodesB f0) :
    Calls Tryd.prog 6 #[.slice a0 f0.length p0] W (LawEnd W) := by
  obtain ⟨x, hx⟩ : ∃ x : Ext W, x.w = W := ⟨Ext.self W, rfl⟩
  suffices hs : Calls Tryd.prog 6 #[.slice a0 f0.length p0] x.w (LawEnd W) by rw [hx] at hs; exact hs
  clear hx
  by_cases bb0 : (1048576 : Int) < (f0.length : Int)
  · go_enter Tryd.func6, Tryd.ntmps6
    go_wp2
    go_ret
    exact law_end ⟨x, rfl⟩
  have hff0 : f0.length ≤ 1099511627776 := by omega
  obtain ⟨o, ho⟩ := partsV_ex f0
  have hwo : lsWt o ≤ 1048576 := by have := ho.wt; omega
  have hcn : cntLs o ≤ 100 := by have := ho.wt; unfold lsWt at this; omega
  have HO := Lib.hid ho
  clear ho
  have hback : ∀ y : Ext W, ∃ z : Ext W, y.w = z.w := fun y => ⟨y, rfl⟩
  obtain ⟨yy, hyy⟩ : ∃ y : Ext W, x = y := ⟨x, rfl⟩
  rw [hyy]
  clear hyy x
  go_enter Tryd.func6, Tryd.ntmps6
  go_upto_region 3 with fail
  obtain ⟨U0, hU0⟩ : ∃ U0 : World, U0 = yy.w := ⟨_, rfl⟩
  have bel0 : Below W.heap.size W U0 := by rw [hU0]; exact yy.below
  rw [← hU0]
  clear hU0 yy
  have hrb0 : Row W (Value.int .i64) a0 f0 := hr0
  have Fb : Forms W := F
  have TO0 : Hid (∀ w, Below W.heap.size W w → Calls Tryd.prog 16 #[.slice a0 f0.length p0] w (NewRow w 22 3 (Value.int .i64) f0)) := fun w q => toIntS_ans (hrb0.ext ⟨w, q⟩) hff0 (Ext.self w)
  have SPC : Hid (∀ w c0 (d0 : Nat), Below W.heap.size W w → Row w (Value.int .i64) c0 f0 → f0.length ≤ d0 → Calls Tryd.prog 31 #[.slice c0 f0.length d0] w (GetLs w o)) := fun w c0 d0 q e0 k0 => (specParts_ans e0 k0 hff0 o HO.out (Ext.self w)).mono fun _ _ h => h.get hwo
  have IMP : Hid (∀ w c0 (d0 : Nat), Below W.heap.size W w → Row w (Value.int .i64) c0 f0 → f0.length ≤ d0 → Calls Tryd.prog 32 #[.slice c0 f0.length d0] w (NewLs w o)) := fun w c0 d0 q e0 k0 => partsTop_ans (Fb.ext ⟨w, q⟩) e0 k0 hcb0 o HO.out (Ext.self w)
  have IMQ : Hid (∀ w c0 (d0 : Nat), Below W.heap.size W w → Row w (Value.int .i64) c0 f0 → f0.length ≤ d0 → Calls Tryd.prog 32 #[.slice c0 f0.length d0] w (GetLs w o)) := fun w c0 d0 q e0 k0 => (partsTop_ans (Fb.ext ⟨w, q⟩) e0 k0 hcb0 o HO.out (Ext.self w)).mono fun _ _ h => h.get hwo
  clear  Fb hrb0
  have C := TO0.out U0 bel0
  go_wp2_with fail
  refine Calls.mono C ?_
  clear C
  rintro e w' ⟨v, y0, rfl, rfl, own0⟩
  obtain ⟨cz0, dz0, rfl, tn0, -⟩ := owned_row own0
  have cp0 := owns_cap own0
  clear own0
  have C := SPC.out y0.w cz0 dz0 (below_ext bel0 y0) tn0 cp0
  go_wp2_with fail
  refine Calls.mono C ?_
  clear C tn0 cp0
  rintro e w' ⟨aw, dw, hw, y2, rfl, rfl, tw⟩
  go_upto_region 4 with fail
  obtain ⟨wc, hwc⟩ : ∃ wc, wc = y2.w := ⟨_, rfl⟩
  have bel6 : Below U0.heap.size U0 wc := by rw [hwc]; exact below_ext y0.below y2
  rw [← hwc] at tw ⊢
  clear hwc
  obtain ⟨U, hU⟩ : ∃ U : World, U = wc := ⟨_, rfl⟩
  rw [← hU] at bel6 tw ⊢
  clear hU
  have belU : Below W.heap.size W U := bel0.trans (bel6.mono bel0.size)
  clear bel6
  have W6 : Hid (∀ z, Below U.heap.size U z → LsIn z aw o hw) := fun z b => tw.ext ⟨z, b⟩
  have toW : Hid (∀ z, Below U.heap.size U z → Below W.heap.size W z) := fun z b => belU.trans (b.mono belU.size)
  clear tw bel0
  obtain ⟨L0, eL⟩ : ∃ L, L = U.heap.size := ⟨_, rfl⟩
  have hLU : U.heap.size ≤ L0 := by omega
  have bU : Below U.heap.size U U := Below.refl _ _
  -- an argument, in blocks of its own
  go_wp2_with fail
  refine Calls.mono (TO0.out U (toW.out _ bU)) ?_
  rintro e w' ⟨v, y, rfl, rfl, own⟩
  obtain ⟨cx0, dx0, rfl, -, l⟩ := owned_row own
  have X0 : HoldR y.w U.heap.size y.w.heap.size cx0 dx0 f0 := HoldR.new own (fun p e => ⟨(l p e).1, (l p e).2⟩)
  replace bU := below_ext bU y
  have q := y.size
  go_upto_region 5 with fail
  obtain ⟨Z1, hZ⟩ : ∃ Z : World, Z = y.w := ⟨_, rfl⟩
  rw [← hZ] at  X0 q bU ⊢
  clear hZ own l y
  rw [← eL] at X0
  obtain ⟨L1, eL2⟩ : ∃ L, L = Z1.heap.size := ⟨_, rfl⟩
  rw [← eL2] at X0
  have hL1 : L0 ≤ L1 := by omega
  clear eL q
  have eL := eL2
  clear eL2
  -- the call
  have C := IMP.out Z1 cx0 dx0 (toW.out _ bU) X0.row X0.cap
  go_wp2_with fail
  refine Calls.mono C ?_
  clear C
  rintro e w' ⟨ag, dg, hg, BG, y, rfl, rfl, own, l⟩
  have XG := HoldL.new own l
  clear l
  replace X0 := X0.ext y
  replace bU := below_ext bU y
  have q := y.size
  go_upto_region 6 with fail
  obtain ⟨Z2, hZ⟩ : ∃ Z : World, Z = y.w := ⟨_, rfl⟩
  rw [← hZ] at X0 XG q bU ⊢
  clear hZ own y
  rw [← eL] at XG
  obtain ⟨L2, eL2⟩ : ∃ L, L = Z2.heap.size := ⟨_, rfl⟩
  rw [← eL2] at XG
  have hL2 : L1 ≤ L2 := by omega
  clear eL q
  have eL := eL2
  clear eL2
  clear eL
  -- it is what the model says
  have C := eqIntSS_ans (c := dg) (d := dw) (XG.ins hwo) (W6.out Z2 bU) true (by simp) (Ext.self Z2)
  go_wp2_with fail
  refine Calls.mono C ?_
  clear C
  rintro e w' ⟨rfl, y, rfl⟩
  replace X0 := X0.ext y
  replace XG := XG.ext y
  replace bU := below_ext bU y
  go_upto_region 8 with fail
  obtain ⟨Z3, hZ⟩ : ∃ Z : World, Z = y.w := ⟨_, rfl⟩
  rw [← hZ] at X0 XG bU ⊢
  clear hZ
  go_wp2_with fail
  refine Calls.mono (TO0.out Z3 (toW.out _ bU)) ?_
  rintro e w' ⟨v, y, rfl, rfl, ow⟩
  obtain ⟨ct, dt, rfl, rt, -⟩ := owned_row ow
  clear ow
  replace X0 := X0.ext y
  replace XG := XG.ext y
  replace bU := below_ext bU y
  go_wp2_with fail
  refine Calls.mono (eqIntS_ans X0.row rt hff0 true (by simp) (Ext.self y.w)) ?_
  clear rt
  rintro e w' ⟨rfl, y2, rfl⟩
  replace X0 := X0.ext y2
  replace XG := XG.ext y2
  replace bU := below_ext bU y2
  obtain ⟨y, hy⟩ : ∃ y : Ext y.w, y.w = y2.w := ⟨y2, rfl⟩
  rw [← hy] at X0 XG bU ⊢
  clear hy y2
  -- the arguments are marked
  go_wp2_with fail
  obtain ⟨Z4, hZ⟩ : ∃ Z : World, Z = y.w := ⟨_, rfl⟩
  rw [← hZ] at X0 XG bU ⊢
  clear hZ
  refine Calls.mono (X0.mark (by omega) (1) (by omega) (by omega)) ?_
  rintro e M0 ⟨rfl, on⟩
  replace XG := XG.only on (by omega)
  replace bU := on.str_below bU (by omega)
  clear X0 on
  have C := eqIntSS_ans (c := dg) (d := dw) (XG.ins hwo) (W6.out M0 bU) true (by simp) (Ext.self M0)
  go_wp2_with fail
  refine Calls.mono C ?_
  clear C
  rintro e w' ⟨rfl, y, rfl⟩
  replace XG := XG.ext y
  replace bU := below_ext bU y
  obtain ⟨Z5, hZ⟩ : ∃ Z : World, Z = y.w := ⟨_, rfl⟩
  rw [← hZ] at XG bU ⊢
  clear hZ
  -- the answer is marked
  go_wp2_with fail
  refine Calls.mono (XG.mark 1 (by omega) (by omega)) ?_
  rintro e MG ⟨rfl, on, XM⟩
  replace bU := on.str_below bU (by omega)
  clear XG on
  go_wp2_with fail
  refine Calls.mono (XM.held hwo (by omega) (by omega)) ?_
  rintro e w' ⟨rfl, y, rfl⟩
  replace XM := XM.ext y
  replace bU := below_ext bU y
  go_upto_region 22 with fail
  obtain ⟨U1, hU1⟩ : ∃ U1 : World, U1 = y.w := ⟨_, rfl⟩
  rw [← hU1] at XM bU ⊢
  clear hU1 y
  have bel0 := toW.out _ bU
  have C := TO0.out U1 bel0
  go_wp2_with fail
  refine Calls.mono C ?_
  clear C
  rintro e w' ⟨v, y0, rfl, rfl, own0⟩
  obtain ⟨cz0, dz0, rfl, tn0, -⟩ := owned_row own0
  have cp0 := owns_cap own0
  clear own0
  have C := IMQ.out y0.w cz0 dz0 (below_ext bel0 y0) tn0 cp0
  go_wp2_with fail
  refine Calls.mono C ?_
  clear C tn0 cp0
  rintro e w' ⟨ah, dh, hh, y2, rfl, rfl, tw⟩
  go_upto_region 23 with fail
  obtain ⟨wc, hwc⟩ : ∃ wc, wc = y2.w := ⟨_, rfl⟩
  have bel6 : Below U1.heap.size U1 wc := by rw [hwc]; exact below_ext y0.below y2
  rw [← hwc] at tw ⊢
  clear hwc
  have XM2 : HoldL wc _ _ _ _ _ _ := XM.ext ⟨_, bel6⟩
  have bU2 := bU.trans (bel6.mono bU.size)
  clear bel0 XM bU bel6
  obtain ⟨U2, hU2⟩ : ∃ U2 : World, U2 = wc := ⟨_, rfl⟩
  rw [← hU2] at tw bU2 XM2 ⊢
  clear hU2
  have C := eqIntSS_ans (c := dh) (d := dw) tw (W6.out _ bU2) true (by simp) (Ext.self U2)
  go_wp2_with fail
  refine Calls.mono C ?_
  clear C tw
  rintro e w' ⟨rfl, y8, rfl⟩
  have XM := XM2.ext y8
  have bU := below_ext bU2 y8
  go_wp2_with fail
  refine Calls.mono (XM.held hwo (by omega) (by omega)) ?_
  rintro e w' ⟨rfl, y9, rfl⟩
  have bU := below_ext bU y9
  go_wp2_with fail
  go_ret
  exact law_end (hback ⟨_, toW.out _ bU⟩)

end Go.Proofs.YtjknnlnkgpoceaaDoor
