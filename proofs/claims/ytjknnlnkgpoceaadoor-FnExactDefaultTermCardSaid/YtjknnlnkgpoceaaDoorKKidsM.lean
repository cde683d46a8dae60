
/- The model's PartsOfType. -/
import Derived.Test.YtjknnlnkgpoceaaDoorKKidsSpec
import Derived.Test.YtjknnlnkgpoceaaDoorKGrowL
import Derived.Test.YtjknnlnkgpoceaaDoorGS
import Derived.Test.YtjknnlnkgpoceaaDoorGD
set_option linter.unusedVariables false
set_option linter.unusedSimpArgs false
namespace Go.Proofs.YtjknnlnkgpoceaaDoor
open Go.RowKit

theorem cell_one_at (w : World) (x : Value) (t : TypeId) (n : Nat) (hn : n = w.heap.size) : ∀ j u, [x][j]? = some u → (w.alloc (.cells #[x] t)).cell? ((⟨n, 0, none⟩ : Addr).add j) = some u := by
  subst hn
  exact cell_one_new w x t
theorem l2PartK_ans {W : World} {b o c : Nat} {T p : Ty} (hok : T.Ok) (hr : Row W (Value.int .i64) (some ⟨b, o, none⟩) T.enc) (hl : T.enc.length ≤ 1000) (hc : T.enc.length ≤ c) {k : Nat} (hp : T.parts[k]? = some p) (x : Ext W) :
    Calls Tryd.prog 79 #[.slice (some ⟨b, o, none⟩) T.enc.length c, .int .i64 k] x.w (NewRow W 22 3 (Value.int .i64) p.enc) := by
  cases T with
  | leaf => simp [Ty.parts] at hp
  | two cc A B =>
    have hlen := Ty.len_two cc A B
    have hA := A.enc_pos
    have hB := B.enc_pos
    match k, hp with
    | 0, hp =>
      simp [Ty.parts] at hp
      subst hp
      exact l2Part0_ans hr hl hc (Ty.end_two hok) (by omega) (by omega) (by omega) (row_two1 hr) x
    | 1, hp =>
      simp [Ty.parts] at hp
      subst hp
      exact l2Part1_ans hr hl hc (Ty.end_two hok) (by omega) (by omega) (by omega) (row_two2 hr) x
    | k + 2, hp => simp [Ty.parts] at hp
  | one cc A =>
    have hlen := Ty.len_one cc A
    have hA := A.enc_pos
    match k, hp with
    | 0, hp =>
      simp [Ty.parts] at hp
      subst hp
      exact l2Part0_ans hr hl hc (Ty.end_one hok) (by omega) (by omega) (by omega) (row_one hr) x
    | k + 1, hp => simp [Ty.parts] at hp

set_option maxHeartbeats 4000000 in
theorem specParts_ans {W : World} {a : Option Addr} {c : Nat} {l : List Int} (hr : Row W (Value.int .i64) a l) (hcap : l.length ≤ c) (hll : l.length ≤ 1099511627776) (o : List (List Int)) (ho : PartsV l o) (x : Ext W) :
    Calls Tryd.prog 31 #[.slice a l.length c] x.w (NewLs W o) := by
  obtain ⟨yy, hyy⟩ : ∃ y : Ext W, x = y := ⟨x, rfl⟩
  rw [hyy]
  clear hyy
  rcases ho with ⟨hwt, T, hok, rfl, rfl⟩ | ⟨hwt, rfl⟩
  · have hl40 := hwt.1
    obtain ⟨b, o1, rfl, -⟩ := hr.at T.enc_pos
    have TY := l2Type_ans (c := c) hr hll true (by simpa using hwt) yy
    have hd0 : ∀ y : Ext W, y.w.cell? ⟨b, o1, none⟩ = some (.int .i64 T.code) := fun y => y.cell (row_head hr T.enc_parts)
    have KI : ∀ (U : World) (y : Ext U), Calls Tryd.prog 56 #[.int .i64 T.code] y.w (Ans U (.int .i64 (T.parts.length : Nat))) := fun U y => by have := l2Kids_ans (W := U) T.code y; rw [Ty.kids_parts hok] at this; exact this
    have PT : Hid (∀ (k : Nat) (p : Ty), T.parts[k]? = some p → ∀ y : Ext W, Calls Tryd.prog 79 #[.slice (some ⟨b, o1, none⟩) T.enc.length c, .int .i64 k] y.w (NewRow y.w 22 3 (Value.int .i64) p.enc)) := fun k p hp y => l2PartK_ans (W := y.w) hok (hr.ext y) (by omega) hcap hp (Ext.self y.w)
    have hlp : 0 < T.enc.length := T.enc_pos
    have hpl := T.parts_le
    generalize T.code = cc at *
    generalize T.enc.length = len at *
    clear hwt hok
    go_enter Tryd.func31, Tryd.ntmps31
    go_wp2_with fail
    refine Calls.mono TY ?_
    rintro e w' ⟨rfl, y1, rfl⟩
    clear TY
    go_wp2_with fail
    have st0 : GrowL W (y1.w.alloc (.cells #[] 22)) (some ⟨y1.w.heap.size, 0, none⟩) 0 (hds ((T.parts.map Ty.enc).take 0) (fun _ => (none, 0))) ((T.parts.map Ty.enc).take 0) (fun _ => (none, 0)) := GrowL.start (out := []) (y1.below.alloc y1.size _) (World.ownsRow_lit y1.w #[] 0 y1.size (by unfold maxLen; omega) (by simp)) _
    go_loopw [4, 3] (fun i v wr => ∃ (k : Nat) (a' : Option Addr) (c' : Nat) (hd : Nat → Option Addr × Nat), i = .int .i64 k ∧ v = .slice a' k c' ∧ k ≤ T.parts.length ∧ Hid (GrowL W wr a' c' (hds ((T.parts.map Ty.enc).take k) hd) ((T.parts.map Ty.enc).take k) hd)) (fun i _ _ => T.parts.length - (intOf i).toNat)
    case atStart => exact ⟨0, _, _, _, rfl, rfl, by omega, st0⟩
    case round =>
      obtain ⟨k, a', c', hd, rfl, rfl, hk, HG⟩ := hrel
      clear st0
      have hbel := HG.out.bel
      have d3 : wr.cell? ⟨b, o1, none⟩ = some (.int .i64 cc) := hd0 ⟨wr, hbel⟩
      have KI2 : ∀ y : Ext wr, Calls Tryd.prog 56 #[.int .i64 cc] y.w (Ans wr (.int .i64 (T.parts.length : Nat))) := fun y => KI wr y
      by_cases hlt : k < T.parts.length
      · have hlt' : (k : Int) < (T.parts.length : Int) := by omega
        obtain ⟨p, hp⟩ : ∃ p, T.parts[k]? = some p := ⟨_, List.getElem?_eq_getElem hlt⟩
        have HP := Lib.hid hp
        have e0 : Hid (((T.parts.map Ty.enc).take k).length = k) := by show _ = _; simp; omega
        have PTK : ∀ y : Ext wr, Calls Tryd.prog 79 #[.slice (some ⟨b, o1, none⟩) len c, .int .i64 k] y.w (NewRow y.w 22 3 (Value.int .i64) p.enc) := fun y => PT.out k p hp ⟨y.w, hbel.trans (y.below.mono hbel.size)⟩
        clear hp hd0 KI
        go_wp2_with fail
        refine Calls.mono (KI2 (Ext.self wr)) ?_
        rintro e w' ⟨rfl, y3, rfl⟩
        go_wp2_with fail
        refine Calls.mono (PTK y3) ?_
        rintro e w' ⟨v, y4, rfl, rfl, own⟩
        obtain ⟨ac, dc, rfl, -, -⟩ := owned_row own
        have HG2 := (HG.out.ext y3).add y4 own
        clear own PTK KI2 d3
        go_wp2_with (at_builtin; refine wpList_growL rfl (.tmp 17) (.tmp 21) rfl (HG2.alloc _) (by rw [hds_len, e0.out]; omega) (n := k) (by rw [hds_len, e0.out]) rfl (u := .slice ac p.enc.length dc) rfl rfl (cell_one_at _ _ _ _ rfl) ?_; intro a2 c2 w2 g2)
        have H3 := Lib.hid g2
        clear g2 HG2
        go_roundw
        case rel =>
          refine ⟨k + 1, a2, c2, upd hd k (ac, dc), by go_num, rfl, by omega, ?_⟩
          show GrowL _ _ _ _ _ _ _
          have e1 := parts_take_succ HP.out
          have e3 := hds_snoc ((T.parts.map Ty.enc).take k) p.enc hd (ac, dc)
          have h3 := H3.out
          rw [e0.out] at e3 h3
          rw [e1, e3]
          exact h3
        case measure => simp [intOf]; omega
      · have hke : k = T.parts.length := by omega
        have HK := Lib.hid hke
        clear hke hd0 KI
        go_wp2_with fail
        refine Calls.mono (KI2 (Ext.self wr)) ?_
        rintro e w' ⟨rfl, y3, rfl⟩
        go_wp2
        go_ret
        have e1 : (T.parts.map Ty.enc).take k = T.parts.map Ty.enc := List.take_of_length_le (by simp [HK.out])
        have H3 := HG.out.ext y3
        rw [e1] at H3
        have := H3.newLs
        rw [List.length_map, ← HK.out] at this
        exact this
  · have HW := Lib.hid hwt
    clear hwt
    go_enter Tryd.func31, Tryd.ntmps31
    go_wp2_with fail
    refine Calls.mono (l2Type_ans hr hll false (by simpa using HW.out) yy) ?_
    rintro e w' ⟨rfl, y1, rfl⟩
    go_wp2_with fail
    go_ret
    exact newLs_nil y1
end Go.Proofs.YtjknnlnkgpoceaaDoor
