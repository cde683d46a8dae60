
/- ValueAt, by the program. -/
import Derived.Test.YtoefeijnnnioeaaDoorKAtV
import Derived.Test.YtoefeijnnnioeaaDoorKAtP
import Derived.Test.YtoefeijnnnioeaaDoorGD
set_option linter.unusedVariables false
set_option linter.unusedSimpArgs false
namespace Go.Proofs.YtoefeijnnnioeaaDoor
open Go.RowKit

set_option maxRecDepth 20000 in
set_option maxHeartbeats 8000000 in
theorem valueAtTop_ans {W : World} (F : Forms W) {r : Ref} {s : Sys} (h : SysIn W r s) {a : Option Addr} {c : Nat} {l : List Int} (hr : Row W (Value.int .i64) a l) (hll : l.length ≤ 1099511627776) (hcap : l.length ≤ c) (hw : CodesB l) (k : Int) (o : Tm) (bb : Bool) (ho : AtV s l k o bb) (x : Ext W) :
    Calls Tryd.prog 49 #[r.val s, .slice a l.length c, .int .i64 k] x.w (NewTmB W o bb) := by
  obtain ⟨xx, hxx⟩ : ∃ y : Ext W, x = y := ⟨x, rfl⟩
  rw [hxx]
  clear hxx x
  unfold Ref.val
  obtain ⟨v, hv, ho⟩ := ho
  have hb := hv.bounds
  obtain ⟨bq, oq, ha⟩ : ∃ bq oq, l ≠ [] → a = some ⟨bq, oq, none⟩ := by
    by_cases hl : l = []
    · exact ⟨0, 0, fun e => absurd hl e⟩
    · obtain ⟨b', o', e, -⟩ := hr.at (List.length_pos_iff.2 hl)
      exact ⟨b', o', fun _ => e⟩
  have HV := Lib.hid hv
  have HB := Lib.hid hb
  have HA := Lib.hid ha
  clear ha
  rcases ho with ⟨hp, ⟨T, kn, hok, hdt, hcl, rfl, h40, rfl, hk, hn, rfl⟩, rfl⟩ | ⟨hp, rfl, rfl⟩
  · obtain ⟨b, o', rfl, -⟩ := hr.at T.enc_pos
    have HK := Lib.hid hk
    have HN := Lib.hid hn
    clear hk hn
    have HP := Lib.hid hp
    clear hp hv hb
    go_enter Tryd.func49, Tryd.ntmps49
    go_upto_region 1 with fail
    have hxW := xx.size
    generalize hWa : (xx.w.alloc _).alloc _ = Wa
    generalize hB : xx.w.heap.size = BB at *
    obtain ⟨bS, bA, sA, bel⟩ := blocks2 hB hWa
    have belA : Below W.heap.size W Wa := xx.below.trans (bel.mono (by omega))
    clear hWa bel
    have h1 := h.ext ⟨Wa, belA⟩
    have c0 : Wa.cell? ⟨BB, 0, none⟩ = some (.int .i64 s.n) := blk_cell bS 0
    have c1 : Wa.cell? ⟨BB, 1, none⟩ = some (.slice r.pa s.plus.length r.pc) := blk_cell bS 1
    have c2 : Wa.cell? ⟨BB, 2, none⟩ = some (.slice r.ta s.times.length r.tc) := blk_cell bS 2
    have c3 : Wa.cell? ⟨BB, 3, none⟩ = some (.slice r.ba s.below.length r.bc) := blk_cell bS 3
    have CT := countValues_ans (F.ext ⟨Wa, belA⟩) (b := bq) (o := oq) h1 hll (hr.ext ⟨Wa, belA⟩) hw hcap HA.out v HV.out (Ext.self Wa)
    unfold Ref.val at CT
    go_wp2_with fail
    refine Calls.mono CT ?_
    clear CT c0 c1 c2 c3
    rintro e w' ⟨rfl, y1, rfl⟩
    have bel1 : Below W.heap.size W y1.w := below_ext belA y1
    have bA1 := y1.blk bA
    have IR := inRange_ans (W := y1.w) (kn : Int) v true (by refine iff_tf ?_; dsimp only; exact HP.out) (Ext.self y1.w)
    go_wp2_with fail
    refine Calls.mono IR ?_
    clear IR
    rintro e w' ⟨rfl, y2, rfl⟩
    replace bel1 := below_ext bel1 y2
    replace bA1 := y2.blk bA1
    have z1 : Wa.heap.size ≤ y2.w.heap.size := Nat.le_trans y1.size y2.size
    have DC : ∀ (U : World) (bU : Below W.heap.size W U), Calls Tryd.prog 102 #[.slice (some ⟨b, o', none⟩) T.enc.length c, .int .i64 kn] U (NewTmO U (T.at_ kn)) := fun U bU => valueAt_ans T hok hdt hcl (F.ext ⟨U, bU⟩) HK.out HN.out (hr.ext ⟨U, bU⟩) h40 hcap (Ext.self U)
    go_wp2_with fail
    refine Calls.mono (DC y2.w bel1) ?_
    clear DC
    rintro e w' ⟨r4, K4, y4, rfl, rfl, own4, lo4⟩
    have bel4 : Below W.heap.size W y4.w := below_ext bel1 y4
    have bA4 := y4.blk bA1
    unfold TV.val
    have n0 := blk_cell bA4 0
    have n1 := blk_cell bA4 1
    have n2 := blk_cell bA4 2
    have n3 := blk_cell bA4 3
    have p0 := blk_free bA4 0
    have p1 := blk_free bA4 1
    have p2 := blk_free bA4 2
    have p3 := blk_free bA4 3
    simp at n0 n1 n2 n3
    go_wp2
    clear n0 n1 n2 n3 p0 p1 p2 p3
    generalize hY : World.setCell _ _ _ = Y
    obtain ⟨⟨NB9, y9, rfl, own9, lo9⟩, r0, r1, r2, r3⟩ := dft_end (W := W) bA4 own4 (fun g h => by have : y2.w.heap.size ≤ g := lo4 g h; exact ⟨by omega, by omega⟩) bel4 (by omega) hY
    refine bodyPost_ret (v := .tuple #[r4.val (T.at_ kn), .bool true]) (by simp [TV.val, results, Tryd.results49, go_sem, r0, r1, r2, r3]) rfl ?_
    exact ⟨_, NB9, y9, rfl, rfl, own9, lo9⟩
  · have HP := Lib.hid hp
    clear hp hv hb
    go_enter Tryd.func49, Tryd.ntmps49
    go_upto_region 1 with fail
    have hxW := xx.size
    generalize hWa : (xx.w.alloc _).alloc _ = Wa
    generalize hB : xx.w.heap.size = BB at *
    obtain ⟨bS, bA, sA, bel⟩ := blocks2 hB hWa
    have belA : Below W.heap.size W Wa := xx.below.trans (bel.mono (by omega))
    clear hWa bel
    have h1 := h.ext ⟨Wa, belA⟩
    have c0 : Wa.cell? ⟨BB, 0, none⟩ = some (.int .i64 s.n) := blk_cell bS 0
    have c1 : Wa.cell? ⟨BB, 1, none⟩ = some (.slice r.pa s.plus.length r.pc) := blk_cell bS 1
    have c2 : Wa.cell? ⟨BB, 2, none⟩ = some (.slice r.ta s.times.length r.tc) := blk_cell bS 2
    have c3 : Wa.cell? ⟨BB, 3, none⟩ = some (.slice r.ba s.below.length r.bc) := blk_cell bS 3
    have CT := countValues_ans (F.ext ⟨Wa, belA⟩) (b := bq) (o := oq) h1 hll (hr.ext ⟨Wa, belA⟩) hw hcap HA.out v HV.out (Ext.self Wa)
    unfold Ref.val at CT
    go_wp2_with fail
    refine Calls.mono CT ?_
    clear CT c0 c1 c2 c3
    rintro e w' ⟨rfl, y1, rfl⟩
    have bel1 : Below W.heap.size W y1.w := below_ext belA y1
    have bA1 := y1.blk bA
    have IR := inRange_ans (W := y1.w) k v false (by refine iff_tf ?_; dsimp only; exact HP.out) (Ext.self y1.w)
    go_wp2_with fail
    refine Calls.mono IR ?_
    clear IR
    rintro e w' ⟨rfl, y2, rfl⟩
    replace bel1 := below_ext bel1 y2
    replace bA1 := y2.blk bA1
    have z1 : Wa.heap.size ≤ y2.w.heap.size := Nat.le_trans y1.size y2.size
    have n0 := blk_cell bA1 0
    have n1 := blk_cell bA1 1
    have n2 := blk_cell bA1 2
    have n3 := blk_cell bA1 3
    have p0 := blk_free bA1 0
    have p1 := blk_free bA1 1
    have p2 := blk_free bA1 2
    have p3 := blk_free bA1 3
    simp at n0 n1 n2 n3
    go_wp2
    clear n0 n1 n2 n3 p0 p1 p2 p3
    generalize hY4 : World.setCell _ _ _ = Y4
    obtain ⟨belD, hsame, hgr, r0, r1, r2, r3⟩ := ret4 (W := W) bel1 (by omega) bA1 hY4
    refine bodyPost_ret (v := .tuple #[TV.val ⟨none, 0, none, 0⟩ zeroT, .bool false]) (by simp [TV.val, Tm.op, Tm.n, Tm.ty, Tm.kids, results, Tryd.results49, go_sem, r0, r1, r2, r3]) rfl ?_
    exact ⟨_, _, ⟨Y4, belD⟩, rfl, rfl, zero_own _, fun q hq => hq.elim⟩
end Go.Proofs.YtoefeijnnnioeaaDoor
