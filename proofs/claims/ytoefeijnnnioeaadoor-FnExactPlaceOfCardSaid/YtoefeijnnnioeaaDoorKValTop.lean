
/- IsValue, of the program and of the model. -/
import Derived.Test.YtoefeijnnnioeaaDoorGW
import Derived.Test.YtoefeijnnnioeaaDoorGT
import Derived.Test.YtoefeijnnnioeaaDoorGV
import Derived.Test.YtoefeijnnnioeaaDoorKTermU
set_option linter.unusedVariables false
set_option linter.unusedSimpArgs false
namespace Go.Proofs.YtoefeijnnnioeaaDoor
open Go.RowKit

theorem Ty.enc_app_inj {a a' : Ty} (h : a.Ok) (h' : a'.Ok) : ∀ {p p' : List Int}, a.enc ++ p = a'.enc ++ p' → a = a' ∧ p = p' := by
  induction a generalizing a' with
  | leaf =>
    intro p p' e
    cases a' with
    | leaf => simp [Ty.enc] at e; exact ⟨rfl, e⟩
    | two c x y =>
      simp only [Ty.enc, List.cons_append, List.cons.injEq] at e
      have := h'.1
      rw [← e.1] at this
      exact absurd this (by decide)
    | one c x =>
      simp only [Ty.enc, List.cons_append, List.cons.injEq] at e
      have := h'.1
      rw [← e.1] at this
      exact absurd this (by decide)
  | two c x y ihx ihy =>
    intro p p' e
    cases a' with
    | leaf =>
      simp only [Ty.enc, List.cons_append, List.cons.injEq] at e
      have := h.1
      rw [e.1] at this
      exact absurd this (by decide)
    | two c' x' y' =>
      simp only [Ty.enc, List.cons_append, List.cons.injEq, List.append_assoc] at e
      obtain ⟨e1, e2⟩ := e
      obtain ⟨rfl, e3⟩ := ihx h.2.1 h'.2.1 e2
      obtain ⟨rfl, e4⟩ := ihy h.2.2 h'.2.2 e3
      exact ⟨by rw [e1], e4⟩
    | one c' x' =>
      simp only [Ty.enc, List.cons_append, List.cons.injEq] at e
      have h1 := h.1
      have h2 := h'.1
      rw [e.1] at h1
      omega
  | one c x ihx =>
    intro p p' e
    cases a' with
    | leaf =>
      simp only [Ty.enc, List.cons_append, List.cons.injEq] at e
      have := h.1
      rw [e.1] at this
      exact absurd this (by decide)
    | two c' x' y' =>
      simp only [Ty.enc, List.cons_append, List.cons.injEq] at e
      have h1 := h.1
      have h2 := h'.1
      rw [e.1] at h1
      omega
    | one c' x' =>
      simp only [Ty.enc, List.cons_append, List.cons.injEq] at e
      obtain ⟨e1, e2⟩ := e
      obtain ⟨rfl, e3⟩ := ihx h.2 h'.2 e2
      exact ⟨by rw [e1], e3⟩
theorem Ty.enc_inj {a a' : Ty} (h : a.Ok) (h' : a'.Ok) (e : a.enc = a'.enc) : a = a' := (Ty.enc_app_inj (p := []) (p' := []) h h' (by simpa using e)).1

/-- A value of a data type. -/
def IsValP (s : Sys) (l : List Int) (v : Tm) : Prop := IsDataP s l ∧ IsTermP s v 0 ∧ ∃ T : Ty, T.Ok ∧ T.Data ∧ l = T.enc ∧ (T.place v).isSome = true
theorem isVal_yes {s : Sys} {T : Ty} (hok : T.Ok) {v : Tm} (h : IsValP s T.enc v) : (T.place v).isSome = true := by
  obtain ⟨_, _, T', h1, h2, h3, h4⟩ := h
  rw [Ty.enc_inj hok h1 h3]
  exact h4

set_option maxRecDepth 100000 in
set_option maxHeartbeats 8000000 in
theorem isValue_ans {W : World} (FO : Forms W) (TF : TForms W) {r : Ref} {s : Sys} (h : SysIn W r s) {b o c : Nat} {l : List Int} (hl : l.length ≤ 1099511627776) {a : Option Addr} (hr : Row W (Value.int .i64) a l) (hw : CodesB l) (hc : l.length ≤ c) (ha : l ≠ [] → a = some ⟨b, o, none⟩)
    {lo : Nat} {t : Tm} {q : TV} (k : TmIn W lo t q) (hTB : TmB t) (p : Bool) (hp : p = true ↔ IsValP s l t) (x : Ext W) :
    Calls Tryd.prog 31 #[r.val s, .slice a l.length c, q.val t] x.w (Ans W (.bool p)) := by
  obtain ⟨ta, tc, tb, td⟩ := q
  unfold Ref.val TV.val
  have HP := Lib.hid hp
  clear hp
  by_cases hd : IsDataP s l
  · by_cases ht : IsTermP s t 0
    · obtain ⟨T, hok, hdt, rfl, hl40⟩ := hd.tree
      obtain rfl : a = some ⟨b, o, none⟩ := ha (by exact fun e => by have := T.enc_pos; rw [e] at this; simp at this)
      have okt := ht.2.2.2
      have hcl : T.Cl := Ty.cl_of hok hd.1.2.2
      have HD := Lib.hid hd
      have HT := Lib.hid ht
      have HOK := Lib.hid hok
      have HDT := Lib.hid hdt
      clear hd ht ha
      go_enter Tryd.func31, Tryd.ntmps31
      go_upto_region 1 with fail
      generalize hW : (x.w.alloc _).alloc _ = W1
      generalize hB : x.w.heap.size = B
      have hb1 := boxedST h k x hB hW
      obtain ⟨c0, c1, c2, c3, d0, d1, d2, d3, h1, k1, hback, yy, hy0⟩ := hb1
      have hrow : Row W1 (Value.int .i64) (some ⟨b, o, none⟩) T.enc := by obtain ⟨z, hz⟩ := hback yy; rw [hy0] at hz; rw [hz]; exact hr.ext z
      have FF : Forms W1 := FO.on hback
      have TT : TForms W1 := TF.on hback
      clear hW hB
      rw [← hy0]
      clear hy0
      have TC : ∀ y : Ext W1, Calls Tryd.prog 81 #[r.val s, (TV.mk ta tc tb td).val t, .int .i64 0] y.w (Ans W1 (.bool true)) := fun y => isTerm_ans FF TT h1 k1 hTB 0 true (by refine iff_tf ?_; dsimp only; exact HT.out) y
      unfold Ref.val TV.val at TC
      have VC : ∀ y : Ext W1, Calls Tryd.prog 82 #[.slice (some ⟨b, o, none⟩) T.enc.length c, (TV.mk ta tc tb td).val t] y.w (Ans W1 (.int .i64 (Ty.placeI (T.place t)))) := fun y => Calls.mono (placeOf_ans T hok hdt hcl (FF.ext y) (hrow.ext y) hl40 hc (k1.ext y) okt (Ext.self y.w)) fun _ _ q => ans_lift (z := y) q
      unfold TV.val at VC
      clear hok hdt hl40 okt hcl
      cases hpl : T.place t with
      | none =>
        rw [hpl] at VC
        have HPL := Lib.hid hpl
        clear hpl
        rw [show Ty.placeI none = -1 from rfl] at VC
        go_wp2_with (first | (go_at_call 80; with_reducible refine Calls.mono (isData_ans h1 FF hrow hw hl true (by refine iff_tf ?_; dsimp only; exact HD.out) _) ?_; rintro e w' ⟨rfl, yy, rfl⟩) | (go_at_call 81; (with_reducible refine Calls.mono (TC _) ?_); rintro e w' ⟨rfl, yy, rfl⟩) | (go_at_call 82; (with_reducible refine Calls.mono (VC _) ?_); rintro e w' ⟨rfl, yy, rfl⟩))
        go_ret
        exact fin_false HP (fun z => by have := isVal_yes HOK.out z; rw [HPL.out] at this; cases this) (hback yy)
      | some pl =>
        rw [hpl] at VC
        have HPL := Lib.hid hpl
        clear hpl
        rw [show Ty.placeI (some pl) = (pl : Int) from rfl] at VC
        have hp0 : (0 : Int) ≤ (pl : Int) := by omega
        go_wp2_with (first | (go_at_call 80; with_reducible refine Calls.mono (isData_ans h1 FF hrow hw hl true (by refine iff_tf ?_; dsimp only; exact HD.out) _) ?_; rintro e w' ⟨rfl, yy, rfl⟩) | (go_at_call 81; (with_reducible refine Calls.mono (TC _) ?_); rintro e w' ⟨rfl, yy, rfl⟩) | (go_at_call 82; (with_reducible refine Calls.mono (VC _) ?_); rintro e w' ⟨rfl, yy, rfl⟩))
        go_ret
        exact fin_true HP ⟨HD.out, HT.out, T, HOK.out, HDT.out, rfl, by rw [HPL.out]; rfl⟩ (hback yy)
    · have HD := Lib.hid hd
      have HT := Lib.hid ht
      clear hd ht
      go_enter Tryd.func31, Tryd.ntmps31
      go_upto_region 1 with fail
      generalize hW : (x.w.alloc _).alloc _ = W1
      generalize hB : x.w.heap.size = B
      have hb1 := boxedST h k x hB hW
      obtain ⟨c0, c1, c2, c3, d0, d1, d2, d3, h1, k1, hback, yy, hy0⟩ := hb1
      have hrow : Row W1 (Value.int .i64) a l := by obtain ⟨z, hz⟩ := hback yy; rw [hy0] at hz; rw [hz]; exact hr.ext z
      have FF : Forms W1 := FO.on hback
      have TT : TForms W1 := TF.on hback
      clear hW hB
      rw [← hy0]
      clear hy0
      have TC : ∀ y : Ext W1, Calls Tryd.prog 81 #[r.val s, (TV.mk ta tc tb td).val t, .int .i64 0] y.w (Ans W1 (.bool false)) := fun y => isTerm_ans FF TT h1 k1 hTB 0 false (by refine iff_tf ?_; dsimp only; exact HT.out) y
      unfold Ref.val TV.val at TC
      go_wp2_with (first | (go_at_call 80; with_reducible refine Calls.mono (isData_ans h1 FF hrow hw hl true (by refine iff_tf ?_; dsimp only; exact HD.out) _) ?_; rintro e w' ⟨rfl, yy, rfl⟩) | (go_at_call 81; (with_reducible refine Calls.mono (TC _) ?_); rintro e w' ⟨rfl, yy, rfl⟩))
      go_ret
      exact fin_false HP (fun z => HT.out z.2.1) (hback yy)
  · have HD := Lib.hid hd
    clear hd
    go_enter Tryd.func31, Tryd.ntmps31
    go_upto_region 1 with fail
    generalize hW : (x.w.alloc _).alloc _ = W1
    generalize hB : x.w.heap.size = B
    have hb1 := boxedST h k x hB hW
    obtain ⟨c0, c1, c2, c3, d0, d1, d2, d3, h1, k1, hback, yy, hy0⟩ := hb1
    have hrow : Row W1 (Value.int .i64) a l := by obtain ⟨z, hz⟩ := hback yy; rw [hy0] at hz; rw [hz]; exact hr.ext z
    have FF : Forms W1 := FO.on hback
    have TT : TForms W1 := TF.on hback
    clear hW hB
    rw [← hy0]
    clear hy0
    go_wp2_with (go_at_call 80; with_reducible refine Calls.mono (isData_ans h1 FF hrow hw hl false (by refine iff_tf ?_; dsimp only; exact HD.out) _) ?_; rintro e w' ⟨rfl, yy, rfl⟩)
    go_ret
    exact fin_false HP (fun z => HD.out z.1) (hback yy)

set_option maxRecDepth 100000 in
set_option maxHeartbeats 8000000 in
theorem specIsValue_ans {W : World} {r : Ref} {s : Sys} (h : SysIn W r s) {b o c : Nat} {l : List Int} (hl : l.length ≤ 1099511627776) {a : Option Addr} (hr : Row W (Value.int .i64) a l) (hc : l.length ≤ c) (ha : l ≠ [] → a = some ⟨b, o, none⟩)
    {lo : Nat} {t : Tm} {q : TV} (k : TmIn W lo t q) (hwt : t.wt ≤ 1099511627776) (p : Bool) (hp : p = true ↔ IsValP s l t) (x : Ext W) :
    Calls Tryd.prog 29 #[r.val s, .slice a l.length c, q.val t] x.w (Ans W (.bool p)) := by
  obtain ⟨ta, tc, tb, td⟩ := q
  unfold Ref.val TV.val
  have HP := Lib.hid hp
  clear hp
  by_cases hd : IsDataP s l
  · by_cases ht : IsTermP s t 0
    · obtain ⟨T, hok, hdt, rfl, hl40⟩ := hd.tree
      obtain rfl : a = some ⟨b, o, none⟩ := ha (by exact fun e => by have := T.enc_pos; rw [e] at this; simp at this)
      have okt := ht.2.2.2
      have hcl : T.Cl := Ty.cl_of hok hd.1.2.2
      have HD := Lib.hid hd
      have HT := Lib.hid ht
      have HOK := Lib.hid hok
      have HDT := Lib.hid hdt
      clear hd ht ha
      go_enter Tryd.func29, Tryd.ntmps29
      go_upto_region 1 with fail
      generalize hW : (x.w.alloc _).alloc _ = W1
      generalize hB : x.w.heap.size = B
      have hb1 := boxedST h k x hB hW
      obtain ⟨c0, c1, c2, c3, d0, d1, d2, d3, h1, k1, hback, yy, hy0⟩ := hb1
      have hrow : Row W1 (Value.int .i64) (some ⟨b, o, none⟩) T.enc := by obtain ⟨z, hz⟩ := hback yy; rw [hy0] at hz; rw [hz]; exact hr.ext z
      clear hW hB
      rw [← hy0]
      clear hy0
      have TC : ∀ y : Ext W1, Calls Tryd.prog 77 #[r.val s, (TV.mk ta tc tb td).val t, .int .i64 0] y.w (Ans W1 (.bool true)) := fun y => specIsTerm_ans h1 k1 hwt 0 true (by refine iff_tf ?_; dsimp only; exact HT.out) y
      unfold Ref.val TV.val at TC
      have VC : ∀ y : Ext W1, Calls Tryd.prog 78 #[.slice (some ⟨b, o, none⟩) T.enc.length c, (TV.mk ta tc tb td).val t] y.w (Ans W1 (.bool (T.place t).isSome)) := fun y => Calls.mono (l5Value_ans T hok hdt (hrow.ext y) hl40 hc (k1.ext y) okt (Ext.self y.w)) fun _ _ q => ans_lift (z := y) q
      unfold TV.val at VC
      clear hok hdt hl40 okt hcl
      cases hpl : T.place t with
      | none =>
        rw [hpl] at VC
        have HPL := Lib.hid hpl
        clear hpl
        rw [show (none : Option Nat).isSome = false from rfl] at VC
        go_wp2_with (first | (go_at_call 76; with_reducible refine Calls.mono (specIsData_ans h1 hrow hl true (by refine iff_tf ?_; dsimp only; exact HD.out) _) ?_; rintro e w' ⟨rfl, yy, rfl⟩) | (go_at_call 77; (with_reducible refine Calls.mono (TC _) ?_); rintro e w' ⟨rfl, yy, rfl⟩) | (go_at_call 78; (with_reducible refine Calls.mono (VC _) ?_); rintro e w' ⟨rfl, yy, rfl⟩))
        go_ret
        exact fin_false HP (fun z => by have := isVal_yes HOK.out z; rw [HPL.out] at this; cases this) (hback yy)
      | some pl =>
        rw [hpl] at VC
        have HPL := Lib.hid hpl
        clear hpl
        rw [show (some pl).isSome = true from rfl] at VC
        go_wp2_with (first | (go_at_call 76; with_reducible refine Calls.mono (specIsData_ans h1 hrow hl true (by refine iff_tf ?_; dsimp only; exact HD.out) _) ?_; rintro e w' ⟨rfl, yy, rfl⟩) | (go_at_call 77; (with_reducible refine Calls.mono (TC _) ?_); rintro e w' ⟨rfl, yy, rfl⟩) | (go_at_call 78; (with_reducible refine Calls.mono (VC _) ?_); rintro e w' ⟨rfl, yy, rfl⟩))
        go_ret
        exact fin_true HP ⟨HD.out, HT.out, T, HOK.out, HDT.out, rfl, by rw [HPL.out]; rfl⟩ (hback yy)
    · have HD := Lib.hid hd
      have HT := Lib.hid ht
      clear hd ht
      go_enter Tryd.func29, Tryd.ntmps29
      go_upto_region 1 with fail
      generalize hW : (x.w.alloc _).alloc _ = W1
      generalize hB : x.w.heap.size = B
      have hb1 := boxedST h k x hB hW
      obtain ⟨c0, c1, c2, c3, d0, d1, d2, d3, h1, k1, hback, yy, hy0⟩ := hb1
      have hrow : Row W1 (Value.int .i64) a l := by obtain ⟨z, hz⟩ := hback yy; rw [hy0] at hz; rw [hz]; exact hr.ext z
      clear hW hB
      rw [← hy0]
      clear hy0
      have TC : ∀ y : Ext W1, Calls Tryd.prog 77 #[r.val s, (TV.mk ta tc tb td).val t, .int .i64 0] y.w (Ans W1 (.bool false)) := fun y => specIsTerm_ans h1 k1 hwt 0 false (by refine iff_tf ?_; dsimp only; exact HT.out) y
      unfold Ref.val TV.val at TC
      go_wp2_with (first | (go_at_call 76; with_reducible refine Calls.mono (specIsData_ans h1 hrow hl true (by refine iff_tf ?_; dsimp only; exact HD.out) _) ?_; rintro e w' ⟨rfl, yy, rfl⟩) | (go_at_call 77; (with_reducible refine Calls.mono (TC _) ?_); rintro e w' ⟨rfl, yy, rfl⟩))
      go_ret
      exact fin_false HP (fun z => HT.out z.2.1) (hback yy)
  · have HD := Lib.hid hd
    clear hd
    go_enter Tryd.func29, Tryd.ntmps29
    go_upto_region 1 with fail
    generalize hW : (x.w.alloc _).alloc _ = W1
    generalize hB : x.w.heap.size = B
    have hb1 := boxedST h k x hB hW
    obtain ⟨c0, c1, c2, c3, d0, d1, d2, d3, h1, k1, hback, yy, hy0⟩ := hb1
    have hrow : Row W1 (Value.int .i64) a l := by obtain ⟨z, hz⟩ := hback yy; rw [hy0] at hz; rw [hz]; exact hr.ext z
    clear hW hB
    rw [← hy0]
    clear hy0
    go_wp2_with (go_at_call 76; with_reducible refine Calls.mono (specIsData_ans h1 hrow hl false (by refine iff_tf ?_; dsimp only; exact HD.out) _) ?_; rintro e w' ⟨rfl, yy, rfl⟩)
    go_ret
    exact fin_false HP (fun z => HD.out z.1) (hback yy)

end Go.Proofs.YtoefeijnnnioeaaDoor
