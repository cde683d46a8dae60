
/- The model's test of a view. -/
import Derived.Test.YteffcfaoganciaaDoorKViewS
import Derived.Test.YteffcfaoganciaaDoorGA
set_option linter.unusedVariables false
set_option linter.unusedSimpArgs false
namespace Go.Proofs.YteffcfaoganciaaDoor
open Go.RowKit

theorem l1View_at {W : World} {r : Ref} {s : Sys} (h : SysIn W r s) (t : Tables s) {a : Option Addr} {c N : Nat} {m : List Bool} (hr : Row W Value.bool a m) (hm : (m.length : Int) = s.n) (hN : m.length = N) (p : Bool) (hp : p = true ↔ ViewP s (fun g => mkI m g = true)) (x : Ext W) :
    Calls Tryd.prog 114 #[r.val s, .slice a N c] x.w (Ans W (.bool p)) := by
  subst hN
  exact l1View_ans h t hr hm p hp x

set_option maxHeartbeats 8000000 in
theorem specIsView_ans {W : World} {r : Ref} {s : Sys} (h : SysIn W r s) {a : Option Addr} {c : Nat} {l : List Int} (hr : Row W (Value.int .i64) a l) (hl : l.length ≤ 1099511627776) (p : Bool) (hp : p = true ↔ IsViewP s l) (x : Ext W) :
    Calls Tryd.prog 71 #[r.val s, .slice a l.length c] x.w (Ans W (.bool p)) := by
  have HP := Lib.hid hp
  clear hp
  unfold Ref.val
  by_cases is : IsSys s
  · have t := is.tab
    have h2 := t.lo
    have h16 := t.hi
    have IS := Lib.hid is
    clear is
    obtain ⟨i0, hi, hz0, hz1, hz2⟩ := info_parts info_bool
    go_enter Tryd.func71, Tryd.ntmps71
    go_wp2_with fail
    generalize hW : x.w.alloc _ = W1
    generalize hB : x.w.heap.size = B
    have hrow : Row W1 (Value.int .i64) a l := by rw [← hW]; exact hr.ext (x.alloc _)
    obtain ⟨c0, c1, c2, c3, h1, hback, yy, hy0⟩ := boxed h x hB hW
    clear hW hB
    rw [← hy0]
    clear hy0
    (with_reducible refine Calls.mono (specIsSystem_ans h1 true (by simp only [true_iff]; exact IS.out) _) ?_)
    rintro e w' ⟨rfl, yy, rfl⟩
    have hNn : s.n = ((s.n.toNat : Nat) : Int) := by omega
    have HN := Lib.hid hNn
    have hN16 : s.n.toNat ≤ 16 := by omega
    clear hNn
    go_wp2_with (at_make; refine wpList_make_full _ rfl _ _ 23 rfl yy.w.heap.size 4 i0 (.bool false) 1 Tryd.underlying23 hi hz0 hz1 .i64 .i64 _ _ s.n.toNat rfl rfl HN.out HN.out (by rw [hz2]; omega) (by unfold maxLen; omega) (Nat.le_refl _) ?_; intro w0 hown0 hgrow0)
    have hx0 : ∀ i, i < s.n.toNat → (madeCells (Value.bool false).cells (s.n.toNat * 1)).toList[i]? = some (.bool false) := fun i hi => by simp [madeCells, Value.cells, hi, Nat.mod_one]
    generalize (madeCells (Value.bool false).cells (s.n.toNat * 1)).toList = xs0 at *
    generalize s.n.toNat = N at *
    have hNle : s.n ≤ (N : Int) := by have := HN.out; omega
    have hNge : (N : Int) ≤ s.n := by have := HN.out; omega
    have hys := yy.size
    generalize hg : yy.w.heap.size = g at *
    clear hi hz0 hz1 hz2
    have hgW : W1.heap.size ≤ g := by omega
    have hbel : Below W1.heap.size W1 w0 := yy.below.grown hgrow0 yy.size (fun k hk => by cases hk)
    go_loopw [6] (fun i wr => ∃ (k : Nat) (xs : List Value), i = .int .i64 k ∧ k ≤ l.length ∧ wr.ownsRow g 4 1 (.slice (some ⟨g, 0, none⟩) N N) N xs ∧ (∃ y : Ext W1, wr = y.w) ∧ Hid (AscP s.n (l.take k)) ∧
        Hid (∀ i, i < N → xs[i]? = some (.bool (decide ((i : Int) ∈ l.take k))))) (fun i _ => l.length - (intOf i).toNat)
    case atStart => exact ⟨0, _, rfl, by omega, hown0, ⟨⟨w0, hbel⟩, rfl⟩, fun i g h => by simp at h, fun i hi => by rw [hx0 i hi]; simp⟩
    case round =>
      obtain ⟨k, xs, rfl, hk, hown, ⟨yy, rfl⟩, hU, hX⟩ := hrel
      by_cases hlt : k < l.length
      · obtain ⟨b1, o1, rfl, hc⟩ := hrow.at hlt
        have HC := Lib.hid hc
        have HK : Hid (l[k]? = some l[k]) := List.getElem?_eq_getElem hlt
        obtain ⟨u, hu⟩ : ∃ u, u = l[k] := ⟨_, rfl⟩
        rw [← hu] at HK
        clear hc hu
        have hw : IntKind.i64.wrap (s.n - 1) = s.n - 1 := IntWalk.i64_in _ (by omega)
        have hltI : (k : Int) < (l.length : Int) := by omega
        have f0 : ∀ z : Ext yy.w, z.w.cell? ⟨B, 0, none⟩ = some (.int .i64 s.n) := fun z => c0 (yy.trans z)
        have hcell : ∀ z : Ext yy.w, z.w.cell? ⟨b1, o1 + k, none⟩ = some (.int .i64 u) := fun z => (yy.trans z).cell (HC.out k _ HK.out)
        have hcells := hcell (Ext.self _)
        by_cases e1 : 0 ≤ u ∧ u ≤ s.n - 1
        · have E1 : InB u 0 (s.n - 1) true := by unfold InB; simpa using e1
          have hu0 := e1.1
          have hu1 := e1.2
          clear e1
          by_cases k0 : k = 0
          · have hk0 : decide (0 < (k : Int)) = false ∧ decide (0 < k) = false := by constructor <;> (rw [decide_eq_false_iff_not]; omega)
            obtain ⟨hk0, hk0'⟩ := hk0
            have K0 := Lib.hid k0
            clear k0
            go_wp2_with fail
            obtain ⟨n, rfl⟩ := Int.eq_ofNat_of_zero_le hu0
            refine region_ext (Ext.self yy.w) (by kernel_rfl) (by kernel_rfl) ?_
            repeat (go_big_quiet_step ((go_at_call 66; with_reducible exact l1In_is (by assumption) _)))
            refine wpQuiet_nil ?_
            rintro _ ⟨zz, rfl⟩
            have hown2 := owns_ext hown zz
            have hln : n < N := by omega
            have hlnI : (n : Int) < (N : Int) := by omega
            have hlx : xs.length = N := by have := hown.1; omega
            obtain ⟨old, hv0⟩ : ∃ v0, xs[n]? = some v0 := ⟨_, List.getElem?_eq_getElem (by omega)⟩
            have hold : zz.w.cell? ⟨g, n, none⟩ = some old := by rw [hown2.cellAt n (by omega)]; exact hv0
            have hfz : zz.w.frozen? ⟨g, n, none⟩ = false := hown2.frozenAt n
            have hcz := hcell zz
            obtain ⟨hst, _⟩ := hown2.stored n (.bool true)
            have HS := Lib.hid hst
            have HL := Lib.hid hlx
            have hb2 : Below W1.heap.size W1 (zz.w.setCell ⟨g, n, none⟩ (.bool true)) := ((yy.trans zz).below).setCell (p := ⟨g, n, none⟩) (by exact hgW) _
            clear hst hlx hown hown2 hv0 HC
            go_wp2
            go_roundw
            case rel =>
              refine ⟨k + 1, _, by go_num, by omega, HS.out, ⟨⟨_, hb2⟩, rfl⟩, ?_, fun i hi => ?_⟩
              · intro i g' hg
                have hi : i < k + 1 := by
                  by_cases hi : i < k + 1
                  · exact hi
                  · rw [List.getElem?_take_eq_none (by omega)] at hg; cases hg
                rw [List.getElem?_take_of_lt hi] at hg
                have hk00 := K0.out
                obtain rfl : i = k := by omega
                rw [HK.out] at hg
                cases hg
                exact ⟨⟨by omega, by omega⟩, fun j f hj _ => by omega⟩
              · have hlx := HL.out
                rw [List.getElem?_set]
                have e5 := hX.out i hi
                by_cases e : n = i
                · subst e
                  rw [if_pos rfl, if_pos (by omega)]
                  have : ((n : Nat) : Int) ∈ l.take (k + 1) := by rw [List.mem_take_iff_getElem]; exact ⟨k, by omega, Option.some.inj (by rw [← List.getElem?_eq_getElem hlt]; exact HK.out)⟩
                  simp [this]
                · rw [if_neg e, e5]
                  congr 2
                  rw [decide_eq_decide, List.take_succ_eq_append_getElem hlt, List.mem_append, List.mem_singleton]
                  have e7 : l[k] = (n : Int) := Option.some.inj (by rw [← List.getElem?_eq_getElem hlt]; exact HK.out)
                  rw [e7]
                  constructor
                  · exact fun h => .inl h
                  · rintro (h | h)
                    · exact h
                    · omega
            case measure => simp [intOf]; omega
          · obtain ⟨m, rfl⟩ : ∃ m, k = m + 1 := ⟨k - 1, by omega⟩
            have hltm : m < l.length := by omega
            have HM : Hid (l[m]? = some l[m]) := List.getElem?_eq_getElem hltm
            obtain ⟨f, hf⟩ : ∃ f, f = l[m] := ⟨_, rfl⟩
            rw [← hf] at HM
            clear hf
            have hcellm : ∀ z : Ext yy.w, z.w.cell? ⟨b1, o1 + m, none⟩ = some (.int .i64 f) := fun z => (yy.trans z).cell (HC.out m _ HM.out)
            have hcellms := hcellm (Ext.self _)
            have hk0 : decide (0 < ((m + 1 : Nat) : Int)) = true := by rw [decide_eq_true_eq]; omega
            have hltmI : (m : Int) < (l.length : Int) := by omega
            by_cases e2 : u ≤ f
            · have fe : decide (u ≤ f) = true := by simpa using e2
              go_wp2_with fail
              refine region_ext (Ext.self yy.w) (by kernel_rfl) (by kernel_rfl) ?_
              repeat (go_big_quiet_step ((go_at_call 66; with_reducible exact l1In_is (by assumption) _)))
              refine wpQuiet_nil ?_
              rintro _ ⟨zz, rfl⟩
              go_wp2_with fail
              go_ret
              exact fin_false HP (fun q => by have := (q.2.1 (m + 1) u HK.out).2 m f rfl HM.out; omega) (hback (yy.trans zz))
            · have fe : decide (u ≤ f) = false := by simpa using e2
              go_wp2_with fail
              obtain ⟨n, rfl⟩ := Int.eq_ofNat_of_zero_le hu0
              refine region_ext (Ext.self yy.w) (by kernel_rfl) (by kernel_rfl) ?_
              repeat (go_big_quiet_step ((go_at_call 66; with_reducible exact l1In_is (by assumption) _)))
              refine wpQuiet_nil ?_
              rintro _ ⟨zz, rfl⟩
              have hown2 := owns_ext hown zz
              have hln : n < N := by omega
              have hlnI : (n : Int) < (N : Int) := by omega
              have hlx : xs.length = N := by have := hown.1; omega
              obtain ⟨old, hv0⟩ : ∃ v0, xs[n]? = some v0 := ⟨_, List.getElem?_eq_getElem (by omega)⟩
              have hold : zz.w.cell? ⟨g, n, none⟩ = some old := by rw [hown2.cellAt n (by omega)]; exact hv0
              have hfz : zz.w.frozen? ⟨g, n, none⟩ = false := hown2.frozenAt n
              have hcz := hcell zz
              obtain ⟨hst, _⟩ := hown2.stored n (.bool true)
              have HS := Lib.hid hst
              have HL := Lib.hid hlx
              have hb2 : Below W1.heap.size W1 (zz.w.setCell ⟨g, n, none⟩ (.bool true)) := ((yy.trans zz).below).setCell (p := ⟨g, n, none⟩) (by exact hgW) _
              clear hst hlx hown hown2 hv0 HC
              go_wp2
              go_roundw
              case rel =>
                refine ⟨(m + 1) + 1, _, by go_num, by omega, HS.out, ⟨⟨_, hb2⟩, rfl⟩, ?_, fun i hi => ?_⟩
                · intro i g' hg
                  have hi : i < m + 1 + 1 := by
                    by_cases hi : i < m + 1 + 1
                    · exact hi
                    · rw [List.getElem?_take_eq_none (by omega)] at hg; cases hg
                  rw [List.getElem?_take_of_lt hi] at hg
                  by_cases e : i = m + 1
                  · subst e
                    rw [HK.out] at hg
                    cases hg
                    refine ⟨⟨by omega, by omega⟩, fun j f' hj hf' => ?_⟩
                    obtain rfl : j = m := by omega
                    rw [List.getElem?_take_of_lt (by omega), HM.out] at hf'
                    cases hf'
                    omega
                  · have := hU.out i g' (by rw [List.getElem?_take_of_lt (by omega)]; exact hg)
                    refine ⟨this.1, fun j f' hj hf' => this.2 j f' hj ?_⟩
                    rw [List.getElem?_take_of_lt (by omega)] at hf' ⊢
                    exact hf'
                · have hlx := HL.out
                  rw [List.getElem?_set]
                  have e5 := hX.out i hi
                  by_cases e : n = i
                  · subst e
                    rw [if_pos rfl, if_pos (by omega)]
                    have : ((n : Nat) : Int) ∈ l.take ((m + 1) + 1) := by rw [List.mem_take_iff_getElem]; exact ⟨(m + 1), by omega, Option.some.inj (by rw [← List.getElem?_eq_getElem hlt]; exact HK.out)⟩
                    simp [this]
                  · rw [if_neg e, e5]
                    congr 2
                    rw [decide_eq_decide, List.take_succ_eq_append_getElem hlt, List.mem_append, List.mem_singleton]
                    have e7 : l[(m + 1)] = (n : Int) := Option.some.inj (by rw [← List.getElem?_eq_getElem hlt]; exact HK.out)
                    rw [e7]
                    constructor
                    · exact fun h => .inl h
                    · rintro (h | h)
                      · exact h
                      · omega
              case measure => simp [intOf]; omega
        · have E1 : InB u 0 (s.n - 1) false := by unfold InB; simp only [Bool.false_eq_true, false_iff]; exact e1
          have X1 := Lib.hid e1
          clear e1
          go_wp2_with fail
          refine region_ext (Ext.self yy.w) (by kernel_rfl) (by kernel_rfl) ?_
          repeat (go_big_quiet_step ((go_at_call 66; with_reducible exact l1In_is (by assumption) _)))
          refine wpQuiet_nil ?_
          rintro _ ⟨zz, rfl⟩
          go_wp2_with fail
          go_ret
          exact fin_false HP (fun q => X1.out (by have := (q.2.1 k u HK.out).1; omega)) (hback (yy.trans zz))
      · have hasc := hU.out
        rw [List.take_of_length_le (by omega)] at hasc
        have hXX := hX.out
        rw [List.take_of_length_le (by omega)] at hXX
        have HA := Lib.hid hasc
        have HXX := Lib.hid hXX
        clear hasc hXX
        have hxs : xs = ((List.range N).map (fun (i : Nat) => decide ((i : Int) ∈ l))).map Value.bool := by
          apply List.ext_getElem?
          intro i
          by_cases hi : i < N
          · rw [HXX.out i hi]; simp [hi]
          · have := hown.1
            rw [List.getElem?_eq_none (by omega), List.getElem?_eq_none (by simp; omega)]
        have hlen : ((List.range N).map (fun (i : Nat) => decide ((i : Int) ∈ l))).length = N := by simp
        generalize hM : (List.range N).map (fun (i : Nat) => decide ((i : Int) ∈ l)) = M at *
        have hmk : ∀ g, G s g → (mkI M g = true ↔ g ∈ l) := fun g hg => by
          have h1 := hg.1
          have h2 := hg.2
          rw [← hM]
          unfold mkI
          rw [List.getD_eq_getElem?_getD, List.getElem?_map, List.getElem?_range (by omega)]
          simp
          have : max g 0 = g := by omega
          rw [this]
        have hcong : ViewP s (fun g => mkI M g = true) ↔ ViewP s (fun g => g ∈ l) := viewP_congr t hmk
        have HCG := Lib.hid hcong
        have hrowM : Row yy.w Value.bool (some ⟨g, 0, none⟩) M := by
          have ho : yy.w.ownsRow g 4 1 (.slice (some ⟨g, 0, none⟩) N N) M.length (M.map Value.bool) := by rw [hlen, ← hxs]; exact hown
          obtain ⟨a', c', e, hro, _⟩ := owned_row ho
          simp only [Value.slice.injEq] at e
          obtain ⟨rfl, _, _⟩ := e
          exact hro
        have hMl : (M.length : Int) = s.n := by omega
        have HML := Lib.hid hMl
        have HLN := Lib.hid hlen
        clear hM hmk hcong hxs hlen hMl
        by_cases iv : ViewP s (fun g => mkI M g = true)
        · have IV := Lib.hid iv
          clear iv
          go_wp2_with fail
          (refine Calls.mono (l1View_at (h1.ext yy) t hrowM HML.out HLN.out true (by simp only [true_iff]; exact IV.out) (Ext.self yy.w)) ?_)
          rintro e w' ⟨rfl, zz, rfl⟩
          go_wp2_with fail
          go_ret
          exact fin_true HP ⟨IS.out, HA.out, HCG.out.1 IV.out⟩ (hback (yy.trans zz))
        · have IV := Lib.hid iv
          clear iv
          go_wp2_with fail
          (refine Calls.mono (l1View_at (h1.ext yy) t hrowM HML.out HLN.out false (by simp only [Bool.false_eq_true, false_iff]; exact IV.out) (Ext.self yy.w)) ?_)
          rintro e w' ⟨rfl, zz, rfl⟩
          go_wp2_with fail
          go_ret
          exact fin_false HP (fun q => IV.out (HCG.out.2 q.2.2)) (hback (yy.trans zz))
  · have IS := Lib.hid is
    clear is
    go_enter Tryd.func71, Tryd.ntmps71
    go_wp2_with fail
    generalize hW : x.w.alloc _ = W1
    generalize hB : x.w.heap.size = B
    have hrow : Row W1 (Value.int .i64) a l := by rw [← hW]; exact hr.ext (x.alloc _)
    obtain ⟨c0, c1, c2, c3, h1, hback, yy, hy0⟩ := boxed h x hB hW
    clear hW hB
    rw [← hy0]
    clear hy0
    (with_reducible refine Calls.mono (specIsSystem_ans h1 false (by simp only [Bool.false_eq_true, false_iff]; exact IS.out) _) ?_)
    rintro e w' ⟨rfl, yy, rfl⟩
    go_wp2_with fail
    go_ret
    exact fin_false HP (fun q => IS.out q.1) (hback yy)

end Go.Proofs.YteffcfaoganciaaDoor
