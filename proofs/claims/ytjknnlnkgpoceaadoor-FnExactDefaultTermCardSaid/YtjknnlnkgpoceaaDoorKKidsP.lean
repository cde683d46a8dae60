
/- The program's PartsOfType. -/
import Derived.Test.YtjknnlnkgpoceaaDoorKKidsSpec
import Derived.Test.YtjknnlnkgpoceaaDoorKGrowL
import Derived.Test.YtjknnlnkgpoceaaDoorGS
import Derived.Test.YtjknnlnkgpoceaaDoorKFlatP
import Derived.Lib.LazyBuf
set_option linter.unusedVariables false
set_option linter.unusedSimpArgs false
namespace Go.Proofs.YtjknnlnkgpoceaaDoor
open Go.RowKit

set_option maxRecDepth 100000 in
set_option maxHeartbeats 1600000 in
theorem cloneInts_ans {W : World} {ad : Addr} {c : Nat} {l : List Int} (h : Row W (Value.int .i64) (some ad) l) (hl : l.length ≤ 1000) (x : Ext W) :
    Calls Tryd.prog 81 #[.slice (some ad) l.length c] x.w (NewRow W 22 3 (Value.int .i64) l) := by
  obtain ⟨i0, hi0, hz0, hz1, hz2⟩ := info_parts info_int
  go_enter Tryd.func81, Tryd.ntmps81
  have hq : ∀ w : World, (binOp .eql 22 (.slice (some ad) l.length c) (.slice none 0 0)).run Tryd.prog w = .ok (.bool false) w := fun w => run_eql_slice_nil w 22 _ (some ad) l.length c Tryd.underlying22
  have hs : ∀ o, Src (x.w.alloc o) (some ad) l.length 1 (l.map (Value.int .i64)) := fun o => src_ints ((h.ext x).ext ((Ext.self x.w).alloc o))
  have hsz := x.size
  have ho : (x.w.alloc (.cells #[] 3)).ownsRow W.heap.size 3 1 (.slice (some ⟨x.w.heap.size, 0, none⟩) 0 0) 0 [] := World.ownsRow_lit x.w #[] 0 hsz (by unfold maxLen; omega) (by simp)
  go_wp2_with (at_builtin; refine wpList_app_src rfl _ _ 22 rfl W.heap.size 3 i0 (.int .i64 0) 1 8 Tryd.underlying22 hi0 hz0 hz1 hz2 rfl (by omega) (.slice (some ⟨x.w.heap.size, 0, none⟩) 0 0) 0 [] rfl ho (some ad) l.length c (l.map (Value.int .i64)) rfl (hs _) (by unfold maxLen; omega) (by omega) (by simp; omega) ?_; intro A' c' w1 own1 gr1 hat1)
  go_ret
  have bel : Below W.heap.size W w1 := (x.below.alloc hsz _).grown gr1 (by simp; omega) (by intro g hg; rw [ob_eq] at hg; cases hg; exact hsz)
  exact ⟨_, ⟨w1, bel⟩, rfl, rfl, by simpa using own1⟩

theorem sls_at {ts : List Ty} {k : Nat} {t : Ty} (h : ts[k]? = some t) (b o : Nat) : (sls b o ts)[k]? = some (.slice (some ⟨b, o + posP ts k, none⟩) t.enc.length t.enc.length) := by
  induction ts generalizing o k with
  | nil => simp at h
  | cons u ts ih =>
    cases k with
    | zero => simp at h; subst h; simp [sls, posP, Ty.encs]
    | succ k =>
      simp at h
      simp only [sls, List.getElem?_cons_succ]
      rw [ih h]
      simp [posP, Ty.encs, Nat.add_assoc]

set_option maxHeartbeats 4000000 in
theorem partsTop_ans {W : World} (F : Forms W) {a : Option Addr} {c : Nat} {l : List Int} (hr : Row W (Value.int .i64) a l) (hcap : l.length ≤ c) (hw : CodesB l) (o : List (List Int)) (ho : PartsV l o) (x : Ext W) :
    Calls Tryd.prog 32 #[.slice a l.length c] x.w (NewLs W o) := by
  obtain ⟨yy, hyy⟩ : ∃ y : Ext W, x = y := ⟨x, rfl⟩
  rw [hyy]
  clear hyy
  rcases ho with ⟨hwt, T, hok, rfl, rfl⟩ | ⟨hwt, rfl⟩
  · have hl40 := hwt.1
    obtain ⟨b, o1, rfl, -⟩ := hr.at T.enc_pos
    have h36 := hwt.codes36
    have IWT : ∀ y : Ext W, Calls Tryd.prog 61 #[.slice (some ⟨b, o1, none⟩) T.enc.length c] y.w (Ans W (.bool true)) := fun y => isWrittenType_ok F hr hw true (by simpa using hwt) y
    have PW : ∀ y : Ext W, Calls Tryd.prog 80 #[.slice (some ⟨b, o1, none⟩) T.enc.length c] y.w (NewRow W 47 22 id (sls b (o1 + 1) T.parts)) := fun y => partsWithin_ans F (Ty.ok_parts hok) T.enc_parts hr (by omega) h36 hcap y
    have HOK := Lib.hid hok
    have hpl := T.parts_le
    clear h36 hwt hok
    go_enter Tryd.func32, Tryd.ntmps32
    go_wp2_with fail
    refine Calls.mono (IWT _) ?_
    rintro e w' ⟨rfl, y1, rfl⟩
    clear IWT
    go_wp2_with fail
    refine Calls.mono (PW y1) ?_
    rintro e w' ⟨v, y2, rfl, rfl, own⟩
    clear PW
    obtain ⟨ag, cg, rfl, -, -⟩ := owned_row own
    have hln : (sls b (o1 + 1) T.parts).length = T.parts.length := sls_len _ _ _
    rw [List.map_id] at own
    have st0 : GrowL W y2.w ag cg (hds ((T.parts.map Ty.enc).take 0) (fun _ => (none, 0)) ++ (sls b (o1 + 1) T.parts).drop 0) ((T.parts.map Ty.enc).take 0) (fun _ => (none, 0)) := GrowL.start y2.below (by simpa [hds] using own) _
    rw [hln]
    clear own
    go_wp2_with fail
    go_loopw [13] (fun i wr => ∃ (k : Nat) (hd : Nat → Option Addr × Nat), i = .int .i64 k ∧ k ≤ T.parts.length ∧ Hid (GrowL W wr ag cg (hds ((T.parts.map Ty.enc).take k) hd ++ (sls b (o1 + 1) T.parts).drop k) ((T.parts.map Ty.enc).take k) hd)) (fun i _ => T.parts.length - (intOf i).toNat)
    case atStart => exact ⟨0, _, rfl, by omega, st0⟩
    case round =>
      obtain ⟨k, hd, rfl, hk, HG⟩ := hrel
      clear st0
      have hol : (hds ((T.parts.map Ty.enc).take k) hd ++ (sls b (o1 + 1) T.parts).drop k).length = T.parts.length := by simp [hds_len, hln]; omega
      by_cases hlt : k < T.parts.length
      · have hlt' : (k : Int) < (T.parts.length : Int) := by omega
        obtain ⟨p, hp⟩ : ∃ p, T.parts[k]? = some p := ⟨_, List.getElem?_eq_getElem hlt⟩
        have HP := Lib.hid hp
        have hrow := HG.out.own
        rw [hol] at hrow
        obtain ⟨g, rfl, hob⟩ := owns_at hrow (by omega)
        have hat0 : (hds ((T.parts.map Ty.enc).take k) hd ++ (sls b (o1 + 1) T.parts).drop k)[k]? = some (.slice (some ⟨b, o1 + 1 + posP T.parts k, none⟩) p.enc.length p.enc.length) := by
          rw [List.getElem?_append_right (by simp [hds_len]; omega), List.getElem?_drop]
          have : k + (k - (hds ((T.parts.map Ty.enc).take k) hd).length) = k := by simp [hds_len]; omega
          rw [this]
          exact sls_at hp b (o1 + 1)
        have hat : wr.cell? ⟨g, k, none⟩ = some (.slice (some ⟨b, o1 + 1 + posP T.parts k, none⟩) p.enc.length p.enc.length) := by
          rw [hrow.cellAt k (by omega)]
          exact hat0
        have hbel := HG.out.bel
        have hpr : Row wr (Value.int .i64) (some ⟨b, o1 + 1 + posP T.parts k, none⟩) p.enc := by
          have := row_part (hr.ext ⟨wr, hbel⟩) hp
          rw [show o1 + (1 + posP T.parts k) = o1 + 1 + posP T.parts k by omega] at this
          exact this
        have hpl : p.enc.length ≤ 1000 := by
          have h1 := posP_all T
          have h2 := posP_succ hp
          have h3 : posP T.parts (k + 1) ≤ posP T.parts T.parts.length := by
            unfold posP
            rw [List.take_length]
            have : Ty.encs T.parts = Ty.encs (T.parts.take (k + 1)) ++ Ty.encs (T.parts.drop (k + 1)) := by rw [← encs_append, List.take_append_drop]
            rw [this, List.length_append]
            omega
          omega
        have CL := cloneInts_ans (c := p.enc.length) hpr hpl (Ext.self wr)
        generalize o1 + 1 + posP T.parts k = op at *
        clear hrow hat0 hpr hbel
        go_wp2_with fail
        refine Calls.mono CL ?_
        rintro e w' ⟨v, y, rfl, rfl, own⟩
        obtain ⟨ac, dc, rfl, -, -⟩ := owned_row own
        have HG2 := HG.out.add y own
        have hrow := HG2.own
        rw [hol] at hrow
        obtain ⟨v0, hv0⟩ : ∃ v0, (hds ((T.parts.map Ty.enc).take k) hd ++ (sls b (o1 + 1) T.parts).drop k)[k]? = some v0 := ⟨_, List.getElem?_eq_getElem (by omega)⟩
        have hold : y.w.cell? ⟨g, k, none⟩ = some v0 := by rw [hrow.cellAt k (by omega)]; exact hv0
        have hfz : y.w.frozen? ⟨g, k, none⟩ = false := hrow.frozenAt k
        obtain ⟨hst, hgs⟩ := hrow.stored k (.slice ac p.enc.length dc)
        have HS := Lib.hid hst
        have HGS := Lib.hid hgs
        have H2 := Lib.hid HG2
        have HOL := Lib.hid hol
        clear hst hgs hrow HG2 own CL hat hv0
        go_wp2
        go_roundw
        case rel =>
          have e1 := parts_take_succ HP.out
          have hol := HOL.out
          have e0 : ((T.parts.map Ty.enc).take k).length = k := by simp; omega
          have e2 : hds ((T.parts.map Ty.enc).take (k + 1)) (upd hd k (ac, dc)) ++ (sls b (o1 + 1) T.parts).drop (k + 1) = (hds ((T.parts.map Ty.enc).take k) hd ++ (sls b (o1 + 1) T.parts).drop k).set k (.slice ac p.enc.length dc) := by
            have e3 := hds_snoc ((T.parts.map Ty.enc).take k) p.enc hd (ac, dc)
            rw [e0] at e3
            rw [e1, e3, List.set_append_right _ _ (by simp [hds_len]; omega)]
            have : k - (hds ((T.parts.map Ty.enc).take k) hd).length = 0 := by simp [hds_len]; omega
            rw [this, List.drop_eq_getElem_cons (show k < (sls b (o1 + 1) T.parts).length by omega), List.set_cons_zero, List.append_assoc]
            rfl
          refine ⟨k + 1, upd hd k (ac, dc), by go_num, by omega, ?_⟩
          show GrowL _ _ _ _ _ _ _
          rw [e2, e1]
          have H3 := H2.out
          rw [e0] at H3
          refine H3.put ?_ HGS.out (.inl rfl)
          rw [List.length_set, hol]
          exact HS.out
        case measure => simp [intOf]; omega
      · have hke : k = T.parts.length := by omega
        have HK := Lib.hid hke
        clear hke
        go_wp2
        go_ret
        have e1 : (T.parts.map Ty.enc).take k = T.parts.map Ty.enc := List.take_of_length_le (by simp [HK.out])
        have e2 : (sls b (o1 + 1) T.parts).drop k = [] := List.drop_eq_nil_of_le (by rw [hln]; have := HK.out; omega)
        have H3 := HG.out
        rw [e1, e2, List.append_nil] at H3
        have := H3.newLs
        rw [List.length_map] at this
        exact this
  · have HW := Lib.hid hwt
    clear hwt
    go_enter Tryd.func32, Tryd.ntmps32
    go_wp2_with fail
    refine Calls.mono (isWrittenType_ok F hr hw false (by simpa using HW.out) yy) ?_
    rintro e w' ⟨rfl, y1, rfl⟩
    go_wp2_with fail
    go_ret
    exact newLs_nil y1
end Go.Proofs.YtjknnlnkgpoceaaDoor
