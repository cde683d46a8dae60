/- Texts of one claim, laid together: MapTyS, MtSpec, MapTyI, MapTyA, MapTyB, MapTyC. -/
import Derived.Test.YtcjmkimegmpnbaaDoorGA
import Derived.Test.YtcjmkimegmpnbaaDoorGD
import Derived.Maps.AppendAt
import Derived.Test.YtcjmkimegmpnbaaDoorGH

/- Types with other grades, plainly. -/
namespace Go.Proofs.YtcjmkimegmpnbaaDoor
open Go.RowKit

/-- The code of an arrow or a box with another grade. -/
def codeOf (c u : Int) : Int := if Arr c then 3 + u else 19 + u
/-- The grade that a list has in place of one. -/
def imgOf (f : List Int) (g : Int) : Option Int := match f[g.toNat]? with | some u => if 0 ≤ u ∧ u ≤ 15 then some u else none | none => none
def mapC (f : List Int) (c : Int) : Option Int := if Graded c ∧ 0 ≤ gradeOf c then (imgOf f (gradeOf c)).map (codeOf c) else some c
def mapL (f : List Int) : List Int → Option (List Int) | [] => some [] | c :: l => (mapC f c).bind fun d => (mapL f l).map (d :: ·)
theorem mapL_append (f : List Int) (l m : List Int) : mapL f (l ++ m) = (mapL f l).bind fun xs => (mapL f m).map (xs ++ ·) := by
  induction l with
  | nil => cases h : mapL f m <;> simp [mapL, h]
  | cons c l ih =>
    simp only [List.cons_append, mapL, ih]
    cases mapC f c <;> cases mapL f l <;> cases mapL f m <;> rfl
theorem mapL_take_succ {f l : List Int} {k : Nat} {c : Int} (h : l[k]? = some c) : mapL f (l.take (k + 1)) = (mapL f (l.take k)).bind fun xs => (mapC f c).map fun d => xs ++ [d] := by
  obtain ⟨hk, h⟩ := List.getElem?_eq_some_iff.1 h
  rw [List.take_succ_eq_append_getElem hk, mapL_append, h]
  cases mapL f (l.take k) with
  | none => rfl
  | some xs => cases e : mapC f c <;> simp [mapL, e]
theorem mapL_step {f l xs : List Int} {k : Nat} {c d : Int} (h : l[k]? = some c) (hx : mapL f (l.take k) = some xs) (hd : mapC f c = some d) : mapL f (l.take (k + 1)) = some (xs ++ [d]) := by
  rw [mapL_take_succ h, hx, hd]; rfl
theorem mapL_none {f l : List Int} {k : Nat} {c : Int} (h : l[k]? = some c) (hd : mapC f c = none) : mapL f l = none := by
  obtain ⟨hk, h⟩ := List.getElem?_eq_some_iff.1 h
  rw [← List.take_append_drop k l, mapL_append, List.drop_eq_getElem_cons hk, h]
  cases mapL f (l.take k) <;> simp [mapL, hd]
theorem mapL_len {f l xs : List Int} (h : mapL f l = some xs) : xs.length = l.length := by
  induction l generalizing xs with
  | nil => simp [mapL] at h; subst h; rfl
  | cons c l ih =>
    simp only [mapL] at h
    cases hc : mapC f c with
    | none => rw [hc] at h; cases h
    | some d =>
      cases hl : mapL f l with
      | none => rw [hc, hl] at h; cases h
      | some ys => rw [hc, hl] at h; simp at h; subst h; simp [ih hl]
theorem mapC_plain {f : List Int} {c : Int} (h : ¬ Graded c) : mapC f c = some c := by unfold mapC; rw [if_neg (fun q => h q.1)]
theorem mapC_open {f : List Int} {c : Int} (h : gradeOf c < 0) : mapC f c = some c := by unfold mapC; rw [if_neg (fun q => by omega)]
theorem mapC_ok {f : List Int} {c u : Int} (h : Graded c) (hg : 0 ≤ gradeOf c) (hu : imgOf f (gradeOf c) = some u) : mapC f c = some (codeOf c u) := by unfold mapC; rw [if_pos ⟨h, hg⟩, hu]; rfl
theorem mapC_bad {f : List Int} {c : Int} (h : Graded c) (hg : 0 ≤ gradeOf c) (hu : imgOf f (gradeOf c) = none) : mapC f c = none := by unfold mapC; rw [if_pos ⟨h, hg⟩, hu]; rfl
theorem imgOf_some {f : List Int} {g u : Int} (h : imgOf f g = some u) : f[g.toNat]? = some u ∧ 0 ≤ u ∧ u ≤ 15 := by
  unfold imgOf at h
  split at h
  · rename_i v hv
    split at h
    · cases h; exact ⟨hv, by assumption⟩
    · cases h
  · cases h
theorem imgOf_none {f : List Int} {g : Int} (h : imgOf f g = none) : f.length ≤ g.toNat ∨ ∃ u, f[g.toNat]? = some u ∧ ¬ (0 ≤ u ∧ u ≤ 15) := by
  unfold imgOf at h
  split at h
  · rename_i v hv
    split at h
    · cases h
    · exact .inr ⟨v, hv, by assumption⟩
  · rename_i hv
    exact .inl (List.getElem?_eq_none_iff.1 hv)
/-- What MapType answers. -/
def MapTyV (f l : List Int) (o : List Int) : Prop := (WT l ∧ mapL f l = some o) ∨ (¬ (WT l ∧ ∃ xs, mapL f l = some xs) ∧ o = [])
theorem mapTyV_ex (f l : List Int) : ∃ o, MapTyV f l o := by
  by_cases h : WT l ∧ ∃ xs, mapL f l = some xs
  · obtain ⟨h1, xs, h2⟩ := h
    exact ⟨xs, .inl ⟨h1, h2⟩⟩
  · exact ⟨[], .inr ⟨h, rfl⟩⟩
theorem mapTyV_len {f l o : List Int} (h : MapTyV f l o) : o.length ≤ 40 := by
  rcases h with ⟨h1, h2⟩ | ⟨_, rfl⟩
  · rw [mapL_len h2]; exact h1.1
  · simp

end Go.Proofs.YtcjmkimegmpnbaaDoor

/- Terms with other grades, plainly. Nothing of a program stands here. -/
namespace Go.Proofs.YtcjmkimegmpnbaaDoor
open Go.RowKit

/-- What a list has in place of a grade; open ones stay. -/
def imgO (f : List Int) (g : Int) : Option Int := if g < 0 then some g else imgOf f g
/-- What stands in place of N. -/
def mapN (f : List Int) (op n : Int) : Option Int := if HasG op then imgO f n else some n
theorem mapN_plain {f : List Int} {op n : Int} (h : ¬ HasG op) : mapN f op n = some n := by unfold mapN; rw [if_neg h]
theorem mapN_open {f : List Int} {op n : Int} (h : n < 0) : mapN f op n = some n := by unfold mapN; split; unfold imgO; rw [if_pos h]; rfl
theorem mapN_ok {f : List Int} {op n : Int} (h : HasG op) (hn : 0 ≤ n) : mapN f op n = imgOf f n := by unfold mapN imgO; rw [if_pos h, if_neg (by omega)]
namespace Tm
mutual
/-- A term with other grades; none: there is no such grade. -/
def mapT (f : List Int) : Tm → Option Tm
  | .mk op n l ks => (mapL f l).bind fun l' => (mapN f op n).bind fun n' => (mapTL f ks).map fun ks' => .mk op n' l' ks'
def mapTL (f : List Int) : List Tm → Option (List Tm)
  | [] => some []
  | t :: l => (mapT f t).bind fun u => (mapTL f l).map fun r => u :: r
end
theorem mapT_eq (f : List Int) (t : Tm) : t.mapT f = (mapL f t.ty).bind fun l' => (mapN f t.op t.n).bind fun n' => (mapTL f t.kids).map fun ks' => .mk t.op n' l' ks' := by
  cases t; simp only [mapT, op, n, ty, kids]
theorem mapTL_append (f : List Int) (l m : List Tm) : mapTL f (l ++ m) = (mapTL f l).bind fun xs => (mapTL f m).map (xs ++ ·) := by
  induction l with
  | nil => cases h : mapTL f m <;> simp [mapTL, h]
  | cons c l ih =>
    simp only [List.cons_append, mapTL, ih]
    cases c.mapT f <;> cases mapTL f l <;> cases mapTL f m <;> rfl
theorem mapTL_take_succ {f : List Int} {l : List Tm} {k : Nat} {c : Tm} (h : l[k]? = some c) : mapTL f (l.take (k + 1)) = (mapTL f (l.take k)).bind fun xs => (c.mapT f).map fun d => xs ++ [d] := by
  obtain ⟨hk, h⟩ := List.getElem?_eq_some_iff.1 h
  rw [List.take_succ_eq_append_getElem hk, mapTL_append, h]
  cases mapTL f (l.take k) with
  | none => rfl
  | some xs => cases e : c.mapT f <;> simp [mapTL, e]
theorem mapTL_step {f : List Int} {l xs : List Tm} {k : Nat} {c d : Tm} (h : l[k]? = some c) (hx : mapTL f (l.take k) = some xs) (hd : c.mapT f = some d) : mapTL f (l.take (k + 1)) = some (xs ++ [d]) := by
  rw [mapTL_take_succ h, hx, hd]; rfl
theorem mapTL_none {f : List Int} {l : List Tm} {k : Nat} {c : Tm} (h : l[k]? = some c) (hd : c.mapT f = none) : mapTL f l = none := by
  obtain ⟨hk, h⟩ := List.getElem?_eq_some_iff.1 h
  rw [← List.take_append_drop k l, mapTL_append, List.drop_eq_getElem_cons hk, h]
  cases mapTL f (l.take k) <;> simp [mapTL, hd]
theorem mapTL_len {f : List Int} {l xs : List Tm} (h : mapTL f l = some xs) : xs.length = l.length := by
  induction l generalizing xs with
  | nil => simp [mapTL] at h; subst h; rfl
  | cons c l ih =>
    simp only [mapTL] at h
    cases hc : c.mapT f with
    | none => rw [hc] at h; cases h
    | some d =>
      cases hl : mapTL f l with
      | none => rw [hc, hl] at h; cases h
      | some ys => rw [hc, hl] at h; simp at h; subst h; simp [ih hl]
theorem mapTL_wt {f : List Int} {l xs : List Tm} (hi : ∀ k ∈ l, ∀ u, k.mapT f = some u → u.wt = k.wt) (h : mapTL f l = some xs) : wtL xs = wtL l := by
  induction l generalizing xs with
  | nil => simp [mapTL] at h; subst h; rfl
  | cons c l ih =>
    simp only [mapTL] at h
    cases hc : c.mapT f with
    | none => rw [hc] at h; cases h
    | some d =>
      cases hl : mapTL f l with
      | none => rw [hc, hl] at h; cases h
      | some ys =>
        rw [hc, hl] at h
        simp at h
        subst h
        simp only [wtL]
        rw [ih (fun k hk => hi k (by simp [hk])) hl, hi c (by simp) d hc]
theorem mapT_some {f : List Int} {t u : Tm} (h : t.mapT f = some u) : ∃ l' n' ks', mapL f t.ty = some l' ∧ mapN f t.op t.n = some n' ∧ mapTL f t.kids = some ks' ∧ u = .mk t.op n' l' ks' := by
  rw [mapT_eq] at h
  cases h1 : mapL f t.ty with
  | none => rw [h1] at h; cases h
  | some l' =>
    cases h2 : mapN f t.op t.n with
    | none => rw [h1, h2] at h; cases h
    | some n' =>
      cases h3 : mapTL f t.kids with
      | none => rw [h1, h2, h3] at h; cases h
      | some ks' =>
        rw [h1, h2, h3] at h
        simp at h
        exact ⟨l', n', ks', rfl, rfl, rfl, h.symm⟩
theorem mapT_mk {f : List Int} {t : Tm} {l' : List Int} {n' : Int} {ks' : List Tm} (h1 : mapL f t.ty = some l') (h2 : mapN f t.op t.n = some n') (h3 : mapTL f t.kids = some ks') : t.mapT f = some (.mk t.op n' l' ks') := by
  rw [mapT_eq, h1, h2, h3]; rfl
theorem mapT_no1 {f : List Int} {t : Tm} (h : mapL f t.ty = none) : t.mapT f = none := by rw [mapT_eq, h]; rfl
theorem mapT_no2 {f : List Int} {t : Tm} (h : mapN f t.op t.n = none) : t.mapT f = none := by rw [mapT_eq, h]; cases mapL f t.ty <;> rfl
theorem mapT_no3 {f : List Int} {t : Tm} (h : mapTL f t.kids = none) : t.mapT f = none := by rw [mapT_eq, h]; cases mapL f t.ty <;> cases mapN f t.op t.n <;> rfl
theorem mapT_wt {f : List Int} (t : Tm) : ∀ {u : Tm}, t.mapT f = some u → u.wt = t.wt := by
  induction t using ind with
  | h t ih =>
    intro u h
    obtain ⟨l', n', ks', h1, h2, h3, rfl⟩ := mapT_some h
    rw [wt_eq]
    show l'.length + (ks'.length + wtL ks') = _
    rw [wt_eq t, mapL_len h1, mapTL_len h3, mapTL_wt (fun k hk u hu => ih k hk hu) h3]
end Tm
/-- What MapTerm answers. -/
def MapTmV (f : List Int) (t o : Tm) (b : Bool) : Prop := (Written t ∧ t.mapT f = some o ∧ b = true) ∨ (¬ (Written t ∧ ∃ u, t.mapT f = some u) ∧ o = zeroT ∧ b = false)
theorem mapTmV_ex (f : List Int) (t : Tm) : ∃ o b, MapTmV f t o b := by
  by_cases h : Written t ∧ ∃ u, t.mapT f = some u
  · obtain ⟨h1, u, h2⟩ := h
    exact ⟨u, true, .inl ⟨h1, h2, rfl⟩⟩
  · exact ⟨zeroT, false, .inr ⟨h, rfl, rfl⟩⟩
theorem mapTmV_wt {f : List Int} {t o : Tm} {b : Bool} (h : MapTmV f t o b) : o.wt ≤ 20000 := by
  rcases h with ⟨h1, h2, _⟩ | ⟨_, rfl, _⟩
  · rw [Tm.mapT_wt t h2]
    have := h1.wt
    omega
  · simp [Tm.wt, Tm.wtL]
end Go.Proofs.YtcjmkimegmpnbaaDoor

/- What a list has in place of a grade; codes for grades. -/
namespace Go.Proofs.YtcjmkimegmpnbaaDoor
open Go.RowKit

/-- Two results, the first a number. -/
def ImgA (W : World) (v : Int) (b : Bool) : Ending → World → Prop := fun e w' => e = .returned (.tuple #[.int .i64 v, .bool b]) ∧ ∃ y : Ext W, w' = y.w

theorem imageOf_open {W : World} (a : Option Addr) (n c : Nat) (x : Ext W) : Calls Tryd.prog 109 #[.slice a n c, .int .i64 (-1)] x.w (ImgA W (-1) true) := by
  obtain ⟨yy, hyy⟩ : ∃ y : Ext W, x = y := ⟨x, rfl⟩
  rw [hyy]
  clear hyy
  go_enter Tryd.func109, Tryd.ntmps109
  go_wp2
  go_ret2
  exact ⟨rfl, yy, rfl⟩
set_option maxHeartbeats 1600000 in
theorem imageOf_ok {W : World} {a : Option Addr} {c : Nat} {f : List Int} (hr : Row W (Value.int .i64) a f) (_ : f.length ≤ 9223372036854775807) (g u : Int) (hg : 0 ≤ g) (hu : imgOf f g = some u) (x : Ext W) : Calls Tryd.prog 109 #[.slice a f.length c, .int .i64 g] x.w (ImgA W u true) := by
  obtain ⟨h1, h2, h3⟩ := imgOf_some hu
  have hlt : g.toNat < f.length := (List.getElem?_eq_some_iff.1 h1).1
  obtain ⟨k, rfl⟩ : ∃ k : Nat, g = k := ⟨g.toNat, by omega⟩
  simp only [Int.toNat_natCast] at h1 hlt
  obtain ⟨b1, o1, rfl, hc⟩ := hr.at hlt
  have c1 : ∀ y : Ext W, y.w.cell? ⟨b1, o1 + k, none⟩ = some (.int .i64 u) := fun y => y.cell (hc k u h1)
  have hlt' : (k : Int) < (f.length : Int) := by omega
  have hne : ((k : Int) == -1) = false := by rw [beq_eq_false_iff_ne]; omega
  clear hc h1 hu
  obtain ⟨yy, hyy⟩ : ∃ y : Ext W, x = y := ⟨x, rfl⟩
  rw [hyy]
  clear hyy
  go_enter Tryd.func109, Tryd.ntmps109
  go_wp2_with fail
  (with_reducible refine Calls.mono (inRange_ans k f.length true (by simp; omega) _) ?_)
  rintro e w' ⟨rfl, yy, rfl⟩
  go_wp2_with fail
  (with_reducible refine Calls.mono (inRange_ans u 16 true (by simp; omega) _) ?_)
  rintro e w' ⟨rfl, yy, rfl⟩
  go_wp2
  go_ret2
  exact ⟨rfl, yy, rfl⟩
set_option maxHeartbeats 1600000 in
theorem imageOf_bad {W : World} {a : Option Addr} {c : Nat} {f : List Int} (hr : Row W (Value.int .i64) a f) (_ : f.length ≤ 9223372036854775807) (g : Int) (hg : 0 ≤ g) (hg2 : g ≤ 1000) (hu : imgOf f g = none) (x : Ext W) : Calls Tryd.prog 109 #[.slice a f.length c, .int .i64 g] x.w (ImgA W 0 false) := by
  obtain ⟨k, rfl⟩ : ∃ k : Nat, g = k := ⟨g.toNat, by omega⟩
  have hne : ((k : Int) == -1) = false := by rw [beq_eq_false_iff_ne]; omega
  obtain ⟨yy, hyy⟩ : ∃ y : Ext W, x = y := ⟨x, rfl⟩
  rw [hyy]
  clear hyy
  rcases imgOf_none hu with h1 | ⟨u, h1, h2⟩
  · simp only [Int.toNat_natCast] at h1
    clear hu
    go_enter Tryd.func109, Tryd.ntmps109
    go_wp2_with fail
    (with_reducible refine Calls.mono (inRange_ans k f.length false (by simp; omega) _) ?_)
    rintro e w' ⟨rfl, yy, rfl⟩
    go_wp2
    go_ret2
    exact ⟨rfl, yy, rfl⟩
  · simp only [Int.toNat_natCast] at h1
    have hlt : k < f.length := (List.getElem?_eq_some_iff.1 h1).1
    obtain ⟨b1, o1, rfl, hc⟩ := hr.at hlt
    have c1 : ∀ y : Ext W, y.w.cell? ⟨b1, o1 + k, none⟩ = some (.int .i64 u) := fun y => y.cell (hc k u h1)
    have hlt' : (k : Int) < (f.length : Int) := by omega
    have H2 := Lib.hid h2
    clear hc h1 hu h2
    go_enter Tryd.func109, Tryd.ntmps109
    go_wp2_with fail
    (with_reducible refine Calls.mono (inRange_ans k f.length true (by simp; omega) _) ?_)
    rintro e w' ⟨rfl, yy, rfl⟩
    go_wp2_with fail
    (with_reducible refine Calls.mono (inRange_ans u 16 false (by refine iff_tf ?_; dsimp only; have := H2.out; omega) _) ?_)
    rintro e w' ⟨rfl, yy, rfl⟩
    go_wp2
    go_ret2
    exact ⟨rfl, yy, rfl⟩

set_option maxHeartbeats 1600000 in
theorem codeFor_ans {W : World} (m : ByteArray) (code opn parts g : Int) (hg : -1 ≤ g) (hg1 : g ≤ 100) (hc : 0 ≤ code ∧ code ≤ 100) (x : Ext W) : Calls Tryd.prog 118 #[.agg #[.string m, .int .i64 code, .int .i64 opn, .int .i64 parts, .bool true], .int .i64 g] x.w (Ans W (.int .i64 (if g = -1 then opn else code + g))) := by
  obtain ⟨hc0, hc1⟩ := hc
  have cells : ∀ (Y : World) (B : Nat), x.w.alloc (.cells #[.string m, .int .i64 code, .int .i64 opn, .int .i64 parts, .bool true] 87) = Y → x.w.heap.size = B → Y.cell? ⟨B, 1, none⟩ = some (.int .i64 code) ∧ Y.cell? ⟨B, 2, none⟩ = some (.int .i64 opn) ∧ Y.cell? ⟨B, 4, none⟩ = some (.bool true) := fun Y B h1 h2 => by
    subst h1; subst h2
    refine ⟨?_, ?_, ?_⟩ <;> rw [World.cell?_alloc_at _ _ _ _ rfl] <;> rfl
  by_cases h : g = -1
  · subst h
    rw [if_pos rfl]
    go_enter Tryd.func118, Tryd.ntmps118
    go_wp2
    go_ret
    exact ⟨rfl, x.alloc _, rfl⟩
  · rw [if_neg h]
    have f : (g == -1) = false := by simpa using h
    clear h
    go_enter Tryd.func118, Tryd.ntmps118
    go_wp2
    go_ret
    exact ⟨rfl, x.alloc _, rfl⟩

end Go.Proofs.YtcjmkimegmpnbaaDoor

/- The program's types with other grades. -/
namespace Go.Proofs.YtcjmkimegmpnbaaDoor
open Go.RowKit

def NewMap (W : World) (o : Option (List Int)) : Ending → World → Prop := fun e w' =>
  (∃ (xs : List Int) (v : Value) (y : Ext W), o = some xs ∧ e = .returned (.tuple #[v, .bool true]) ∧ w' = y.w ∧ y.w.ownsRow W.heap.size 3 1 v xs.length (xs.map (Value.int .i64))) ∨
  (o = none ∧ ∃ y : Ext W, e = .returned (.tuple #[.slice none 0 0, .bool false]) ∧ w' = y.w)
theorem cell_one_at (w : World) (x : Value) (t : TypeId) (n : Nat) (hn : n = w.heap.size) : ∀ j u, [x][j]? = some u → (w.alloc (.cells #[x] t)).cell? ((⟨n, 0, none⟩ : Addr).add j) = some u := by
  subst hn
  exact cell_one_new w x t

set_option maxRecDepth 100000 in
set_option maxHeartbeats 8000000 in
theorem mapType_ans {W : World} (F : Forms W) {af al : Option Addr} {cf cl : Nat} {f l : List Int} (hf : Row W (Value.int .i64) af f) (hfl : f.length ≤ 9223372036854775807) (hr : Row W (Value.int .i64) al l) (hl : l.length ≤ 1000) (x : Ext W) :
    Calls Tryd.prog 108 #[.slice af f.length cf, .slice al l.length cl] x.w (NewMap W (mapL f l)) := by
  obtain ⟨i0, hi0, hz0, hz1, hz2⟩ := info_parts info_int
  go_enter Tryd.func108, Tryd.ntmps108
  go_wp2_with fail
  go_loopw [16, 6] (fun i q wr => ∃ (k : Nat) (xs : List Int) (v : Value), i = .int .i64 k ∧ v = q ∧ k ≤ l.length ∧ Hid (mapL f (l.take k) = some xs) ∧ wr.ownsRow W.heap.size 3 1 v xs.length (xs.map (Value.int .i64)) ∧ Below W.heap.size W wr) (fun i _ _ => l.length - (intOf i).toNat)
  case atStart => exact ⟨0, [], _, rfl, rfl, by omega, by show _ = _; simp [mapL], World.ownsRow_nil _ _ _ _, x.below⟩
  case round =>
    obtain ⟨k, xs, v, rfl, rfl, hk, HXS, hown, hb⟩ := hrel
    have hxl : xs.length ≤ 1000 := by have := mapL_len HXS.out; simp at this; omega
    by_cases hlt : k < l.length
    · have hlt' : (k : Int) < (l.length : Int) := by omega
      obtain ⟨b1, o1, rfl, hc⟩ := hr.at hlt
      obtain ⟨c, hcc⟩ : ∃ c, l[k]? = some c := ⟨_, List.getElem?_eq_getElem hlt⟩
      have c1 : wr.cell? ⟨b1, o1 + k, none⟩ = some (.int .i64 c) := (Ext.mk wr hb).cell (hc k c hcc)
      have HC := Lib.hid hcc
      clear hc hcc
      by_cases hg : Graded c
      · by_cases ha : Arr c
        · clear hg
          have FO : Calls Tryd.prog 94 #[.int .i64 c] wr (Ans wr (.tuple #[.agg #[.string ⟨#[62]⟩, .int .i64 3, .int .i64 35, .int .i64 2, .bool true], .int .i64 (gradeOf c), .bool true])) := by
            have := formOf_ans (W := wr) (F.ext ⟨wr, hb⟩) c (Ext.self wr)
            rw [formV_arr ha] at this
            exact this
          have hG : Graded c := .inl ha
          have gge := gradeOf_ge hG
          have gle := gradeOf_le hG
          have hce : gradeOf c < 0 → c = 35 := fun q => by unfold gradeOf at q; unfold Arr at ha; split at q <;> (try split at q) <;> omega
          have hcf : ∀ u, codeOf c u = 3 + u := fun u => by unfold codeOf; rw [if_pos ha]
          have HCE := Lib.hid hce
          have HCF := Lib.hid hcf
          have HGR := Lib.hid hG
          have HA := Lib.hid ha
          clear hG hce hcf ha
          by_cases hop : 0 ≤ gradeOf c
          · cases him : imgOf f (gradeOf c) with
            | none =>
              have HIM := Lib.hid him
              clear him
              go_wp2_with ((go_at_call 94; (with_reducible refine Calls.mono FO ?_); rintro e w' ⟨rfl, yy, rfl⟩))
              generalize hY : yy.w.alloc _ = Y1
              have bY := new_blk hY
              have szy := yy.size
              obtain ⟨y1, hy1⟩ : ∃ y : Ext W, y.w = Y1 := ⟨⟨Y1, by rw [← hY]; exact (hb.trans (yy.below.mono hb.size)).alloc (by have := hb.size; omega) _⟩, rfl⟩
              have ownY : Y1.ownsRow W.heap.size 3 1 v xs.length (xs.map (Value.int .i64)) := by rw [← hY]; exact (owns_ext hown yy).alloc _
              generalize yy.w.heap.size = B1 at *
              have e0 : ∀ y : Ext Y1, y.w.cell? ⟨B1, 0, none⟩ = some (.string ⟨#[62]⟩) := fun y => blk_cell (y.blk bY) 0
              have e1 : ∀ y : Ext Y1, y.w.cell? ⟨B1, 1, none⟩ = some (.int .i64 3) := fun y => blk_cell (y.blk bY) 1
              have e2 : ∀ y : Ext Y1, y.w.cell? ⟨B1, 2, none⟩ = some (.int .i64 35) := fun y => blk_cell (y.blk bY) 2
              have e3 : ∀ y : Ext Y1, y.w.cell? ⟨B1, 3, none⟩ = some (.int .i64 2) := fun y => blk_cell (y.blk bY) 3
              have e4 : ∀ y : Ext Y1, y.w.cell? ⟨B1, 4, none⟩ = some (.bool true) := fun y => blk_cell (y.blk bY) 4
              have hfY : Row Y1 (Value.int .i64) af f := by rw [← hy1]; exact hf.ext y1
              have belY : Below W.heap.size W Y1 := by rw [← hy1]; exact y1.below
              clear hY bY FO szy y1 hy1
              refine Calls.mono (imageOf_bad (W := Y1) (c := cf) hfY hfl (gradeOf c) hop (by omega) HIM.out (Ext.self Y1)) ?_
              rintro e w' ⟨rfl, zz, rfl⟩
              clear e0 e1 e2 e3
              go_wp2
              go_ret2
              exact .inr ⟨mapL_none HC.out (mapC_bad HGR.out hop HIM.out), ⟨zz.w, belY.trans (zz.below.mono belY.size)⟩, rfl, rfl⟩
            | some u =>
              have HIM := Lib.hid him
              have him2 := imgOf_some him
              obtain ⟨_, hu0, hu1⟩ := him2
              clear him
              go_wp2_with ((go_at_call 94; (with_reducible refine Calls.mono FO ?_); rintro e w' ⟨rfl, yy, rfl⟩))
              generalize hY : yy.w.alloc _ = Y1
              have bY := new_blk hY
              have szy := yy.size
              obtain ⟨y1, hy1⟩ : ∃ y : Ext W, y.w = Y1 := ⟨⟨Y1, by rw [← hY]; exact (hb.trans (yy.below.mono hb.size)).alloc (by have := hb.size; omega) _⟩, rfl⟩
              have ownY : Y1.ownsRow W.heap.size 3 1 v xs.length (xs.map (Value.int .i64)) := by rw [← hY]; exact (owns_ext hown yy).alloc _
              generalize yy.w.heap.size = B1 at *
              have e0 : ∀ y : Ext Y1, y.w.cell? ⟨B1, 0, none⟩ = some (.string ⟨#[62]⟩) := fun y => blk_cell (y.blk bY) 0
              have e1 : ∀ y : Ext Y1, y.w.cell? ⟨B1, 1, none⟩ = some (.int .i64 3) := fun y => blk_cell (y.blk bY) 1
              have e2 : ∀ y : Ext Y1, y.w.cell? ⟨B1, 2, none⟩ = some (.int .i64 35) := fun y => blk_cell (y.blk bY) 2
              have e3 : ∀ y : Ext Y1, y.w.cell? ⟨B1, 3, none⟩ = some (.int .i64 2) := fun y => blk_cell (y.blk bY) 3
              have e4 : ∀ y : Ext Y1, y.w.cell? ⟨B1, 4, none⟩ = some (.bool true) := fun y => blk_cell (y.blk bY) 4
              have hfY : Row Y1 (Value.int .i64) af f := by rw [← hy1]; exact hf.ext y1
              have belY : Below W.heap.size W Y1 := by rw [← hy1]; exact y1.below
              clear hY bY FO szy y1 hy1
              refine Calls.mono (imageOf_ok (W := Y1) (c := cf) hfY hfl (gradeOf c) u hop HIM.out (Ext.self Y1)) ?_
              rintro e w' ⟨rfl, zz, rfl⟩
              go_wp2_with fail
              refine Calls.mono (codeFor_ans (W := Y1) ⟨#[62]⟩ 3 35 2 u (by omega) (by omega) (by omega) zz) ?_
              rintro e w' ⟨rfl, zz, rfl⟩
              rw [if_neg (by omega)]
              clear e0 e1 e2 e3 e4
              go_wp2_with ((at_builtin; refine wpList_append_own_at _ rfl (.tmp 39) (.tmp 41) 22 rfl W.heap.size 3 i0 (.int .i64 0) 1 8 Tryd.underlying22 hi0 hz0 hz1 hz2 rfl (by decide) v xs.length (xs.map (Value.int .i64)) rfl ((owns_ext ownY zz).alloc _) _ 1 1 [.int .i64 (3 + u)] rfl rfl (cell_one_at _ _ _ _ (by simp)) (by intro u hu; simp at hu; subst hu; rfl) (by unfold maxLen; omega) (by omega) (by have := belY.size; have := zz.size; simp; omega) ?_; intro v' w1 own1 gr1 _ hat1))
              have HB1 : Hid (Below W.heap.size W w1) := ((((belY.trans (zz.below.mono belY.size))).alloc (by have := belY.size; have := zz.size; omega) _).grown gr1 (by have := belY.size; have := zz.size; simp; omega) (fun k hk => (ownY.lt k hk).1))
              have HO1 := Lib.hid own1
              clear own1 gr1 hat1
              go_roundw
              case rel =>
                have own1 := HO1.out
                refine ⟨k + 1, xs ++ [3 + u], _, by go_num, rfl, by omega, mapL_step HC.out HXS.out (by rw [mapC_ok HGR.out hop HIM.out, HCF.out]), ?_, HB1.out⟩
                simpa using own1
              case measure => simp [intOf]; omega
          · skip
            have hopn : gradeOf c = -1 := by omega
            rw [hopn] at FO
            have HOP := Lib.hid hopn
            clear hopn
            go_wp2_with ((go_at_call 94; (with_reducible refine Calls.mono FO ?_); rintro e w' ⟨rfl, yy, rfl⟩))
            generalize hY : yy.w.alloc _ = Y1
            have bY := new_blk hY
            have szy := yy.size
            obtain ⟨y1, hy1⟩ : ∃ y : Ext W, y.w = Y1 := ⟨⟨Y1, by rw [← hY]; exact (hb.trans (yy.below.mono hb.size)).alloc (by have := hb.size; omega) _⟩, rfl⟩
            have ownY : Y1.ownsRow W.heap.size 3 1 v xs.length (xs.map (Value.int .i64)) := by rw [← hY]; exact (owns_ext hown yy).alloc _
            generalize yy.w.heap.size = B1 at *
            have e0 : ∀ y : Ext Y1, y.w.cell? ⟨B1, 0, none⟩ = some (.string ⟨#[62]⟩) := fun y => blk_cell (y.blk bY) 0
            have e1 : ∀ y : Ext Y1, y.w.cell? ⟨B1, 1, none⟩ = some (.int .i64 3) := fun y => blk_cell (y.blk bY) 1
            have e2 : ∀ y : Ext Y1, y.w.cell? ⟨B1, 2, none⟩ = some (.int .i64 35) := fun y => blk_cell (y.blk bY) 2
            have e3 : ∀ y : Ext Y1, y.w.cell? ⟨B1, 3, none⟩ = some (.int .i64 2) := fun y => blk_cell (y.blk bY) 3
            have e4 : ∀ y : Ext Y1, y.w.cell? ⟨B1, 4, none⟩ = some (.bool true) := fun y => blk_cell (y.blk bY) 4
            have hfY : Row Y1 (Value.int .i64) af f := by rw [← hy1]; exact hf.ext y1
            have belY : Below W.heap.size W Y1 := by rw [← hy1]; exact y1.below
            clear hY bY FO szy y1 hy1
            refine Calls.mono (imageOf_open (W := Y1) af f.length cf (Ext.self Y1)) ?_
            rintro e w' ⟨rfl, zz, rfl⟩
            go_wp2_with fail
            refine Calls.mono (codeFor_ans (W := Y1) ⟨#[62]⟩ 3 35 2 (-1) (by omega) (by omega) (by omega) zz) ?_
            rintro e w' ⟨rfl, zz, rfl⟩
            rw [if_pos rfl]
            clear e0 e1 e2 e3 e4
            go_wp2_with ((at_builtin; refine wpList_append_own_at _ rfl (.tmp 39) (.tmp 41) 22 rfl W.heap.size 3 i0 (.int .i64 0) 1 8 Tryd.underlying22 hi0 hz0 hz1 hz2 rfl (by decide) v xs.length (xs.map (Value.int .i64)) rfl ((owns_ext ownY zz).alloc _) _ 1 1 [.int .i64 35] rfl rfl (cell_one_at _ _ _ _ (by simp)) (by intro u hu; simp at hu; subst hu; rfl) (by unfold maxLen; omega) (by omega) (by have := belY.size; have := zz.size; simp; omega) ?_; intro v' w1 own1 gr1 _ hat1))
            have HB1 : Hid (Below W.heap.size W w1) := ((((belY.trans (zz.below.mono belY.size))).alloc (by have := belY.size; have := zz.size; omega) _).grown gr1 (by have := belY.size; have := zz.size; simp; omega) (fun k hk => (ownY.lt k hk).1))
            have HO1 := Lib.hid own1
            clear own1 gr1 hat1
            go_roundw
            case rel =>
              have own1 := HO1.out
              refine ⟨k + 1, xs ++ [35], _, by go_num, rfl, by omega, mapL_step HC.out HXS.out (by rw [mapC_open (by rw [HOP.out]; omega), HCE.out (by rw [HOP.out]; omega)]), ?_, HB1.out⟩
              simpa using own1
            case measure => simp [intOf]; omega
        · have ha : Bx c := by rcases hg with h | h; exact absurd h ha; exact h
          clear hg
          have FO : Calls Tryd.prog 94 #[.int .i64 c] wr (Ans wr (.tuple #[.agg #[.string ⟨#[33]⟩, .int .i64 19, .int .i64 36, .int .i64 1, .bool true], .int .i64 (gradeOf c), .bool true])) := by
            have := formOf_ans (W := wr) (F.ext ⟨wr, hb⟩) c (Ext.self wr)
            rw [formV_bx ha] at this
            exact this
          have hG : Graded c := .inr ha
          have gge := gradeOf_ge hG
          have gle := gradeOf_le hG
          have hce : gradeOf c < 0 → c = 36 := fun q => by unfold gradeOf at q; unfold Bx at ha; split at q <;> (try split at q) <;> omega
          have hcf : ∀ u, codeOf c u = 19 + u := fun u => by unfold codeOf; rw [if_neg (by unfold Arr; unfold Bx at ha; omega)]
          have HCE := Lib.hid hce
          have HCF := Lib.hid hcf
          have HGR := Lib.hid hG
          have HA := Lib.hid ha
          clear hG hce hcf ha
          by_cases hop : 0 ≤ gradeOf c
          · cases him : imgOf f (gradeOf c) with
            | none =>
              have HIM := Lib.hid him
              clear him
              go_wp2_with ((go_at_call 94; (with_reducible refine Calls.mono FO ?_); rintro e w' ⟨rfl, yy, rfl⟩))
              generalize hY : yy.w.alloc _ = Y1
              have bY := new_blk hY
              have szy := yy.size
              obtain ⟨y1, hy1⟩ : ∃ y : Ext W, y.w = Y1 := ⟨⟨Y1, by rw [← hY]; exact (hb.trans (yy.below.mono hb.size)).alloc (by have := hb.size; omega) _⟩, rfl⟩
              have ownY : Y1.ownsRow W.heap.size 3 1 v xs.length (xs.map (Value.int .i64)) := by rw [← hY]; exact (owns_ext hown yy).alloc _
              generalize yy.w.heap.size = B1 at *
              have e0 : ∀ y : Ext Y1, y.w.cell? ⟨B1, 0, none⟩ = some (.string ⟨#[33]⟩) := fun y => blk_cell (y.blk bY) 0
              have e1 : ∀ y : Ext Y1, y.w.cell? ⟨B1, 1, none⟩ = some (.int .i64 19) := fun y => blk_cell (y.blk bY) 1
              have e2 : ∀ y : Ext Y1, y.w.cell? ⟨B1, 2, none⟩ = some (.int .i64 36) := fun y => blk_cell (y.blk bY) 2
              have e3 : ∀ y : Ext Y1, y.w.cell? ⟨B1, 3, none⟩ = some (.int .i64 1) := fun y => blk_cell (y.blk bY) 3
              have e4 : ∀ y : Ext Y1, y.w.cell? ⟨B1, 4, none⟩ = some (.bool true) := fun y => blk_cell (y.blk bY) 4
              have hfY : Row Y1 (Value.int .i64) af f := by rw [← hy1]; exact hf.ext y1
              have belY : Below W.heap.size W Y1 := by rw [← hy1]; exact y1.below
              clear hY bY FO szy y1 hy1
              refine Calls.mono (imageOf_bad (W := Y1) (c := cf) hfY hfl (gradeOf c) hop (by omega) HIM.out (Ext.self Y1)) ?_
              rintro e w' ⟨rfl, zz, rfl⟩
              clear e0 e1 e2 e3
              go_wp2
              go_ret2
              exact .inr ⟨mapL_none HC.out (mapC_bad HGR.out hop HIM.out), ⟨zz.w, belY.trans (zz.below.mono belY.size)⟩, rfl, rfl⟩
            | some u =>
              have HIM := Lib.hid him
              have him2 := imgOf_some him
              obtain ⟨_, hu0, hu1⟩ := him2
              clear him
              go_wp2_with ((go_at_call 94; (with_reducible refine Calls.mono FO ?_); rintro e w' ⟨rfl, yy, rfl⟩))
              generalize hY : yy.w.alloc _ = Y1
              have bY := new_blk hY
              have szy := yy.size
              obtain ⟨y1, hy1⟩ : ∃ y : Ext W, y.w = Y1 := ⟨⟨Y1, by rw [← hY]; exact (hb.trans (yy.below.mono hb.size)).alloc (by have := hb.size; omega) _⟩, rfl⟩
              have ownY : Y1.ownsRow W.heap.size 3 1 v xs.length (xs.map (Value.int .i64)) := by rw [← hY]; exact (owns_ext hown yy).alloc _
              generalize yy.w.heap.size = B1 at *
              have e0 : ∀ y : Ext Y1, y.w.cell? ⟨B1, 0, none⟩ = some (.string ⟨#[33]⟩) := fun y => blk_cell (y.blk bY) 0
              have e1 : ∀ y : Ext Y1, y.w.cell? ⟨B1, 1, none⟩ = some (.int .i64 19) := fun y => blk_cell (y.blk bY) 1
              have e2 : ∀ y : Ext Y1, y.w.cell? ⟨B1, 2, none⟩ = some (.int .i64 36) := fun y => blk_cell (y.blk bY) 2
              have e3 : ∀ y : Ext Y1, y.w.cell? ⟨B1, 3, none⟩ = some (.int .i64 1) := fun y => blk_cell (y.blk bY) 3
              have e4 : ∀ y : Ext Y1, y.w.cell? ⟨B1, 4, none⟩ = some (.bool true) := fun y => blk_cell (y.blk bY) 4
              have hfY : Row Y1 (Value.int .i64) af f := by rw [← hy1]; exact hf.ext y1
              have belY : Below W.heap.size W Y1 := by rw [← hy1]; exact y1.below
              clear hY bY FO szy y1 hy1
              refine Calls.mono (imageOf_ok (W := Y1) (c := cf) hfY hfl (gradeOf c) u hop HIM.out (Ext.self Y1)) ?_
              rintro e w' ⟨rfl, zz, rfl⟩
              go_wp2_with fail
              refine Calls.mono (codeFor_ans (W := Y1) ⟨#[33]⟩ 19 36 1 u (by omega) (by omega) (by omega) zz) ?_
              rintro e w' ⟨rfl, zz, rfl⟩
              rw [if_neg (by omega)]
              clear e0 e1 e2 e3 e4
              go_wp2_with ((at_builtin; refine wpList_append_own_at _ rfl (.tmp 39) (.tmp 41) 22 rfl W.heap.size 3 i0 (.int .i64 0) 1 8 Tryd.underlying22 hi0 hz0 hz1 hz2 rfl (by decide) v xs.length (xs.map (Value.int .i64)) rfl ((owns_ext ownY zz).alloc _) _ 1 1 [.int .i64 (19 + u)] rfl rfl (cell_one_at _ _ _ _ (by simp)) (by intro u hu; simp at hu; subst hu; rfl) (by unfold maxLen; omega) (by omega) (by have := belY.size; have := zz.size; simp; omega) ?_; intro v' w1 own1 gr1 _ hat1))
              have HB1 : Hid (Below W.heap.size W w1) := ((((belY.trans (zz.below.mono belY.size))).alloc (by have := belY.size; have := zz.size; omega) _).grown gr1 (by have := belY.size; have := zz.size; simp; omega) (fun k hk => (ownY.lt k hk).1))
              have HO1 := Lib.hid own1
              clear own1 gr1 hat1
              go_roundw
              case rel =>
                have own1 := HO1.out
                refine ⟨k + 1, xs ++ [19 + u], _, by go_num, rfl, by omega, mapL_step HC.out HXS.out (by rw [mapC_ok HGR.out hop HIM.out, HCF.out]), ?_, HB1.out⟩
                simpa using own1
              case measure => simp [intOf]; omega
          · skip
            have hopn : gradeOf c = -1 := by omega
            rw [hopn] at FO
            have HOP := Lib.hid hopn
            clear hopn
            go_wp2_with ((go_at_call 94; (with_reducible refine Calls.mono FO ?_); rintro e w' ⟨rfl, yy, rfl⟩))
            generalize hY : yy.w.alloc _ = Y1
            have bY := new_blk hY
            have szy := yy.size
            obtain ⟨y1, hy1⟩ : ∃ y : Ext W, y.w = Y1 := ⟨⟨Y1, by rw [← hY]; exact (hb.trans (yy.below.mono hb.size)).alloc (by have := hb.size; omega) _⟩, rfl⟩
            have ownY : Y1.ownsRow W.heap.size 3 1 v xs.length (xs.map (Value.int .i64)) := by rw [← hY]; exact (owns_ext hown yy).alloc _
            generalize yy.w.heap.size = B1 at *
            have e0 : ∀ y : Ext Y1, y.w.cell? ⟨B1, 0, none⟩ = some (.string ⟨#[33]⟩) := fun y => blk_cell (y.blk bY) 0
            have e1 : ∀ y : Ext Y1, y.w.cell? ⟨B1, 1, none⟩ = some (.int .i64 19) := fun y => blk_cell (y.blk bY) 1
            have e2 : ∀ y : Ext Y1, y.w.cell? ⟨B1, 2, none⟩ = some (.int .i64 36) := fun y => blk_cell (y.blk bY) 2
            have e3 : ∀ y : Ext Y1, y.w.cell? ⟨B1, 3, none⟩ = some (.int .i64 1) := fun y => blk_cell (y.blk bY) 3
            have e4 : ∀ y : Ext Y1, y.w.cell? ⟨B1, 4, none⟩ = some (.bool true) := fun y => blk_cell (y.blk bY) 4
            have hfY : Row Y1 (Value.int .i64) af f := by rw [← hy1]; exact hf.ext y1
            have belY : Below W.heap.size W Y1 := by rw [← hy1]; exact y1.below
            clear hY bY FO szy y1 hy1
            refine Calls.mono (imageOf_open (W := Y1) af f.length cf (Ext.self Y1)) ?_
            rintro e w' ⟨rfl, zz, rfl⟩
            go_wp2_with fail
            refine Calls.mono (codeFor_ans (W := Y1) ⟨#[33]⟩ 19 36 1 (-1) (by omega) (by omega) (by omega) zz) ?_
            rintro e w' ⟨rfl, zz, rfl⟩
            rw [if_pos rfl]
            clear e0 e1 e2 e3 e4
            go_wp2_with ((at_builtin; refine wpList_append_own_at _ rfl (.tmp 39) (.tmp 41) 22 rfl W.heap.size 3 i0 (.int .i64 0) 1 8 Tryd.underlying22 hi0 hz0 hz1 hz2 rfl (by decide) v xs.length (xs.map (Value.int .i64)) rfl ((owns_ext ownY zz).alloc _) _ 1 1 [.int .i64 36] rfl rfl (cell_one_at _ _ _ _ (by simp)) (by intro u hu; simp at hu; subst hu; rfl) (by unfold maxLen; omega) (by omega) (by have := belY.size; have := zz.size; simp; omega) ?_; intro v' w1 own1 gr1 _ hat1))
            have HB1 : Hid (Below W.heap.size W w1) := ((((belY.trans (zz.below.mono belY.size))).alloc (by have := belY.size; have := zz.size; omega) _).grown gr1 (by have := belY.size; have := zz.size; simp; omega) (fun k hk => (ownY.lt k hk).1))
            have HO1 := Lib.hid own1
            clear own1 gr1 hat1
            go_roundw
            case rel =>
              have own1 := HO1.out
              refine ⟨k + 1, xs ++ [36], _, by go_num, rfl, by omega, mapL_step HC.out HXS.out (by rw [mapC_open (by rw [HOP.out]; omega), HCE.out (by rw [HOP.out]; omega)]), ?_, HB1.out⟩
              simpa using own1
            case measure => simp [intOf]; omega
      · skip
        have FO : Calls Tryd.prog 94 #[.int .i64 c] wr (Ans wr (.tuple #[.agg #[.string (markF c), .int .i64 (codeF c), .int .i64 (openF c), .int .i64 (partsF c), .bool false], .int .i64 (gF c), .bool (decide (0 ≤ kidsOf c))])) := by
          have := formOf_ans (W := wr) (F.ext ⟨wr, hb⟩) c (Ext.self wr)
          rw [formV, decide_eq_false hg] at this
          exact this
        have hx : mapC f c = some c := mapC_plain hg
        have HX := Lib.hid hx
        have HGG := Lib.hid hg
        clear hx hg
        go_wp2_with (first | (go_at_call 94; (with_reducible refine Calls.mono FO ?_); rintro e w' ⟨rfl, yy, rfl⟩) | (at_builtin; refine wpList_append_own_at _ rfl (.tmp 39) (.tmp 41) 22 rfl W.heap.size 3 i0 (.int .i64 0) 1 8 Tryd.underlying22 hi0 hz0 hz1 hz2 rfl (by decide) v xs.length (xs.map (Value.int .i64)) rfl (((owns_ext hown yy).alloc _).alloc _) _ 1 1 [.int .i64 (c)] rfl rfl (cell_one_at _ _ _ _ (by simp)) (by intro u hu; simp at hu; subst hu; rfl) (by unfold maxLen; omega) (by omega) (by have := hb.size; have := yy.size; simp; omega) ?_; intro v' w1 own1 gr1 _ hat1))
        have HB1 : Hid (Below W.heap.size W w1) := ((((hb.trans (yy.below.mono hb.size)).alloc (by have := hb.size; have := yy.size; omega) _).alloc (by have := hb.size; have := yy.size; simp; omega) _).grown gr1 (by have := hb.size; have := yy.size; simp; omega) (fun k hk => (hown.lt k hk).1))
        have HO1 := Lib.hid own1
        clear own1 gr1 hat1
        go_roundw
        case rel =>
          have own1 := HO1.out
          refine ⟨k + 1, xs ++ [c], _, by go_num, rfl, by omega, mapL_step HC.out HXS.out HX.out, ?_, HB1.out⟩
          simpa using own1
        case measure => simp [intOf]; omega
    · have hke : k = l.length := by omega
      have hlt' : ¬ (k : Int) < (l.length : Int) := by omega
      have HK := Lib.hid hke
      clear hke
      go_wp2
      go_ret2
      refine .inl ⟨xs, _, ⟨wr, hb⟩, ?_, rfl, rfl, hown⟩
      have := HXS.out
      rw [HK.out, List.take_length] at this
      exact this

end Go.Proofs.YtcjmkimegmpnbaaDoor

/- MapType of the program; the model's helpers. -/
namespace Go.Proofs.YtcjmkimegmpnbaaDoor
open Go.RowKit

theorem rule16 {l : List Int} : RuleP 16 true l ↔ WT l := by
  unfold RuleP
  refine ⟨fun h => h.1, fun h => ⟨h, fun u _ hg => ?_⟩⟩
  have h1 := gradeOf_ge hg
  have h2 := gradeOf_le hg
  unfold Allows
  by_cases h : gradeOf u = -1
  · exact .inr ⟨rfl, h⟩
  · exact .inl (by omega)
theorem isWrittenType_ans {W : World} (F : Forms W) {a : Option Addr} {c : Nat} {l : List Int} (hr : Row W (Value.int .i64) a l) (p : Bool) (hp : p = true ↔ WT l) (x : Ext W) :
    Calls Tryd.prog 53 #[.slice a l.length c] x.w (Ans W (.bool p)) := by
  obtain ⟨yy, hyy⟩ : ∃ y : Ext W, x = y := ⟨x, rfl⟩
  rw [hyy]
  clear hyy
  have C : ∀ y : Ext W, Calls Tryd.prog 93 #[.agg #[.int .i64 16, .bool true], .slice a l.length c] y.w (Ans W (.bool p)) := fun y => allowsType_ans F hr 16 true p (hp.trans rule16.symm) y
  clear hp
  go_enter Tryd.func53, Tryd.ntmps53
  go_wp2_with (first | (go_at_call 92; with_reducible refine Calls.mono (writtenRule_ans _) ?_; rintro e w' ⟨rfl, yy, rfl⟩) | (go_at_call 93; with_reducible refine Calls.mono (C _) ?_; rintro e w' ⟨rfl, yy, rfl⟩))
  go_ret
  exact ⟨rfl, yy, rfl⟩

set_option maxHeartbeats 1600000 in
theorem l3Mapped_ok {W : World} {a : Option Addr} {c : Nat} {f : List Int} (hr : Row W (Value.int .i64) a f) (_hl : f.length ≤ 9223372036854775807) (g u : Int) (hg : 0 ≤ g) (hu : imgOf f g = some u) (x : Ext W) : Calls Tryd.prog 105 #[.slice a f.length c, .int .i64 g] x.w (Ans W (.bool true)) := by
  obtain ⟨h1, h2, h3⟩ := imgOf_some hu
  have hlt : g.toNat < f.length := (List.getElem?_eq_some_iff.1 h1).1
  obtain ⟨k, rfl⟩ : ∃ k : Nat, g = k := ⟨g.toNat, by omega⟩
  simp only [Int.toNat_natCast] at h1 hlt
  obtain ⟨b1, o1, rfl, hc⟩ := hr.at hlt
  have c1 : ∀ y : Ext W, y.w.cell? ⟨b1, o1 + k, none⟩ = some (.int .i64 u) := fun y => y.cell (hc k u h1)
  have hlt' : (k : Int) < (f.length : Int) := by omega
  clear hc h1 hu
  obtain ⟨yy, hyy⟩ : ∃ y : Ext W, x = y := ⟨x, rfl⟩
  rw [hyy]
  clear hyy
  go_enter Tryd.func105, Tryd.ntmps105
  go_wp2_with (go_at_call 82; with_reducible refine Calls.mono (l1In_ans u 0 15 true (by refine iff_tf ?_; dsimp only; omega) _) ?_; rintro e w' ⟨rfl, yy, rfl⟩)
  go_ret
  exact ⟨rfl, yy, rfl⟩
set_option maxHeartbeats 1600000 in
theorem l3Mapped_bad {W : World} {a : Option Addr} {c : Nat} {f : List Int} (hr : Row W (Value.int .i64) a f) (_hl : f.length ≤ 9223372036854775807) (g : Int) (hg : 0 ≤ g) (hu : imgOf f g = none) (x : Ext W) : Calls Tryd.prog 105 #[.slice a f.length c, .int .i64 g] x.w (Ans W (.bool false)) := by
  obtain ⟨k, rfl⟩ : ∃ k : Nat, g = k := ⟨g.toNat, by omega⟩
  obtain ⟨yy, hyy⟩ : ∃ y : Ext W, x = y := ⟨x, rfl⟩
  rw [hyy]
  clear hyy
  rcases imgOf_none hu with h1 | ⟨u, h1, h2⟩
  · simp only [Int.toNat_natCast] at h1
    have hlt' : decide (k < f.length) = false := by rw [decide_eq_false_iff_not]; omega
    clear hu
    go_enter Tryd.func105, Tryd.ntmps105
    go_wp2
    go_ret
    exact ⟨rfl, yy, rfl⟩
  · simp only [Int.toNat_natCast] at h1
    have hlt : k < f.length := (List.getElem?_eq_some_iff.1 h1).1
    obtain ⟨b1, o1, rfl, hc⟩ := hr.at hlt
    have c1 : ∀ y : Ext W, y.w.cell? ⟨b1, o1 + k, none⟩ = some (.int .i64 u) := fun y => y.cell (hc k u h1)
    have hlt' : (k : Int) < (f.length : Int) := by omega
    have H2 := Lib.hid h2
    clear hc h1 hu h2
    go_enter Tryd.func105, Tryd.ntmps105
    go_wp2_with (go_at_call 82; with_reducible refine Calls.mono (l1In_ans u 0 15 false (by refine iff_tf ?_; dsimp only; have := H2.out; omega) _) ?_; rintro e w' ⟨rfl, yy, rfl⟩)
    go_ret
    exact ⟨rfl, yy, rfl⟩
theorem l2Code_ans {W : World} (b : Bool) (u : Int) (h0 : 0 ≤ u) (h1 : u ≤ 1000) (x : Ext W) : Calls Tryd.prog 117 #[.bool b, .int .i64 u] x.w (Ans W (.int .i64 (if b then 3 + u else 19 + u))) := by
  have f1 : ¬ u < 0 := by omega
  cases b
  · rw [if_neg (by simp)]
    go_enter Tryd.func117, Tryd.ntmps117
    go_wp2
    go_ret
    exact ⟨rfl, x, rfl⟩
  · rw [if_pos rfl]
    go_enter Tryd.func117, Tryd.ntmps117
    go_wp2
    go_ret
    exact ⟨rfl, x, rfl⟩

end Go.Proofs.YtcjmkimegmpnbaaDoor

/- The model's MapType. -/
namespace Go.Proofs.YtcjmkimegmpnbaaDoor
open Go.RowKit

theorem own_lit0 {base : Nat} {e : TypeId} {size : Nat} (w : World) (hb : base ≤ w.heap.size) : (w.alloc (.cells #[] e)).ownsRow base e size (.slice (some ⟨w.heap.size, 0, none⟩) 0 0) 0 [] :=
  ⟨by simp, .inr ⟨w.heap.size, 0, #[], rfl, hb, new_blk rfl, Nat.le_refl _, by unfold maxLen; omega, by simp, by simp⟩⟩

theorem endL_codes : ∀ (l : List Int) (i : Nat) (m : Int), endL l i m = ((i + l.length : Nat) : Int) → ∀ c ∈ l, 0 ≤ kidsOf c
  | [], _, _, _ => fun c h => by cases h
  | a :: l, i, m, h => by
    simp only [endL] at h
    by_cases hm : m = 0
    · rw [if_pos hm] at h; simp at h; omega
    · rw [if_neg hm] at h
      by_cases hk : kidsOf a < 0
      · rw [if_pos hk] at h; simp at h; omega
      · rw [if_neg hk] at h
        have ih := endL_codes l (i + 1) (m - 1 + kidsOf a) (by rw [h]; simp; omega)
        intro c hc
        rcases List.mem_cons.1 hc with rfl | hc
        · omega
        · exact ih c hc
theorem kidsOf_code {c : Int} (h : 0 ≤ kidsOf c) : 0 ≤ c ∧ c ≤ 36 := by
  by_cases a0 : c = 0
  · omega
  · by_cases a1 : c = 1 ∨ c = 2 ∨ Arr c
    · unfold Arr at a1; omega
    · by_cases a2 : Bx c
      · unfold Bx at a2; omega
      · rw [kidsOf_no a0 a1 a2] at h; omega
theorem WT.codes {l : List Int} (h : WT l) {k : Nat} {c : Int} (hk : l[k]? = some c) : 0 ≤ c ∧ c ≤ 36 := by
  refine kidsOf_code (endL_codes l 0 1 ?_ c (List.mem_of_getElem? hk))
  have := h.2
  unfold endOf at this
  simpa using this

set_option maxRecDepth 100000 in
set_option maxHeartbeats 8000000 in
theorem specMapType_ans {W : World} {af al : Option Addr} {cf cl : Nat} {f l : List Int} (hf : Row W (Value.int .i64) af f) (hfl : f.length ≤ 1099511627776) (hr : Row W (Value.int .i64) al l) (hll : l.length ≤ 1099511627776) (o : List Int) (ho : MapTyV f l o) (x : Ext W) :
    Calls Tryd.prog 107 #[.slice af f.length cf, .slice al l.length cl] x.w (NewRow W 22 3 (Value.int .i64) o) := by
  obtain ⟨i0, hi0, hz0, hz1, hz2⟩ := info_parts info_int
  obtain ⟨yy, hyy⟩ : ∃ y : Ext W, x = y := ⟨x, rfl⟩
  rw [hyy]
  clear hyy
  have HO := Lib.hid ho
  clear ho
  by_cases hw : WT l
  · have C : ∀ y : Ext W, Calls Tryd.prog 50 #[.slice al l.length cl] y.w (Ans W (.bool true)) := fun y => l2Type_ans hr hll true (by simp [hw]) y
    have HW := Lib.hid hw
    have hl : l.length ≤ 1000 := by have := hw.1; omega
    have hcodes : ∀ (k : Nat) c, l[k]? = some c → 0 ≤ c ∧ c ≤ 36 := fun k c hk => HW.out.codes hk
    have HCD := Lib.hid hcodes
    clear hw hcodes
    go_enter Tryd.func107, Tryd.ntmps107
    go_wp2_with fail
    refine Calls.mono (C _) ?_
    rintro e w' ⟨rfl, yy, rfl⟩
    clear C
    go_wp2_with fail
    go_loopw [6, 5] (fun i q wr => ∃ (k : Nat) (xs : List Int) (v : Value), i = .int .i64 k ∧ v = q ∧ k ≤ l.length ∧ Hid (mapL f (l.take k) = some xs) ∧ wr.ownsRow W.heap.size 3 1 v xs.length (xs.map (Value.int .i64)) ∧ Below W.heap.size W wr) (fun i _ _ => l.length - (intOf i).toNat)
    case atStart => exact ⟨0, [], _, rfl, rfl, by omega, by show _ = _; simp [mapL], own_lit0 _ yy.size, yy.below.alloc yy.size _⟩
    case round =>
      obtain ⟨k, xs, v, rfl, rfl, hk, HXS, hown, hb⟩ := hrel
      have hxl : xs.length ≤ 1000 := by have := mapL_len HXS.out; simp at this; omega
      by_cases hlt : k < l.length
      · have hlt' : (k : Int) < (l.length : Int) := by omega
        obtain ⟨b1, o1, rfl, hc⟩ := hr.at hlt
        obtain ⟨c, hcc⟩ : ∃ c, l[k]? = some c := ⟨_, List.getElem?_eq_getElem hlt⟩
        have c1 : wr.cell? ⟨b1, o1 + k, none⟩ = some (.int .i64 c) := (Ext.mk wr hb).cell (hc k c hcc)
        have c2 : ∀ y : Ext wr, y.w.cell? ⟨b1, o1 + k, none⟩ = some (.int .i64 c) := fun y => y.cell c1
        obtain ⟨hc0, hc1'⟩ := HCD.out k c hcc
        have hc1 : c ≤ 1000 := by omega
        have HC := Lib.hid hcc
        clear hc hcc c1
        have KI : ∀ y : Ext wr, Calls Tryd.prog 51 #[.int .i64 c] y.w (Ans wr (.int .i64 (kidsOf c))) := fun y => l2Kids_ans c y
        have GRC : ∀ y : Ext wr, Calls Tryd.prog 116 #[.int .i64 c] y.w (Ans wr (.int .i64 (gradeOf c))) := fun y => l2Grade_ans c hc0 hc1 y
        obtain ⟨yy, hyy⟩ : ∃ y : Ext wr, y.w = wr := ⟨Ext.self wr, rfl⟩
        by_cases hg : Graded c
        · obtain ⟨p1, p2⟩ := (graded_iff c).2 hg
          have gge := gradeOf_ge hg
          have gle := gradeOf_le hg
          have HG := Lib.hid hg
          clear hg
          generalize hkc : kidsOf c = kc at *
          generalize hgc : gradeOf c = gc at *
          by_cases hop : 0 ≤ gc
          · cases him : imgOf f gc with
            | none =>
              have HIM := Lib.hid him
              have M : ∀ y : Ext wr, Calls Tryd.prog 105 #[.slice af f.length cf, .int .i64 gc] y.w (Ans wr (.bool false)) := fun y => l3Mapped_bad (hf.ext ⟨wr, hb⟩) (by omega) gc hop him y
              clear him
              have HGC := Lib.hid hgc
              clear hgc hkc
              rw [← hyy]
              clear hyy
              go_wp2_with (first | (go_at_call 51; with_reducible refine Calls.mono (KI _) ?_; rintro e w' ⟨rfl, yy, rfl⟩) | (go_at_call 116; with_reducible refine Calls.mono (GRC _) ?_; rintro e w' ⟨rfl, yy, rfl⟩) | (go_at_call 105; with_reducible refine Calls.mono (M _) ?_; rintro e w' ⟨rfl, yy, rfl⟩))
              go_ret
              have e : o = [] := by
                rcases HO.out with ⟨_, h⟩ | ⟨_, h⟩
                · rw [mapL_none HC.out (mapC_bad HG.out (by rw [HGC.out]; exact hop) (by rw [HGC.out]; exact HIM.out))] at h; cases h
                · exact h
              subst e
              refine ⟨_, ⟨yy.w, hb.trans (yy.below.mono hb.size)⟩, rfl, rfl, World.ownsRow_nil _ _ _ _⟩
            | some u =>
              have HIM := Lib.hid him
              have M : ∀ y : Ext wr, Calls Tryd.prog 105 #[.slice af f.length cf, .int .i64 gc] y.w (Ans wr (.bool true)) := fun y => l3Mapped_ok (hf.ext ⟨wr, hb⟩) (by omega) gc u hop him y
              obtain ⟨m1, m2, m3⟩ := imgOf_some him
              obtain ⟨gk, rfl⟩ : ∃ gk : Nat, gc = gk := ⟨gc.toNat, by omega⟩
              simp only [Int.toNat_natCast] at m1
              have glt : gk < f.length := (List.getElem?_eq_some_iff.1 m1).1
              obtain ⟨b2, o2, rfl, hc2⟩ := hf.at glt
              have c3 : ∀ y : Ext wr, y.w.cell? ⟨b2, o2 + gk, none⟩ = some (.int .i64 u) := fun y => y.cell ((Ext.mk wr hb).cell (hc2 gk u m1))
              have glt' : (gk : Int) < (f.length : Int) := by omega
              clear hc2 m1
              clear him
              have HGC := Lib.hid hgc
              clear hgc hkc
              by_cases ha : Arr c
              · skip
                have ARC : ∀ y : Ext wr, Calls Tryd.prog 89 #[.int .i64 c] y.w (Ans wr (.bool true)) := fun y => l2Arrow_ans c true (by simp [ha]) y
                have HA := Lib.hid ha
                clear ha
                rw [← hyy]
                clear hyy
                go_wp2_with (first | (go_at_call 51; with_reducible refine Calls.mono (KI _) ?_; rintro e w' ⟨rfl, yy, rfl⟩) | (go_at_call 116; with_reducible refine Calls.mono (GRC _) ?_; rintro e w' ⟨rfl, yy, rfl⟩) | (go_at_call 105; with_reducible refine Calls.mono (M _) ?_; rintro e w' ⟨rfl, yy, rfl⟩) | (go_at_call 89; with_reducible refine Calls.mono (ARC _) ?_; rintro e w' ⟨rfl, yy, rfl⟩) | (go_at_call 117; with_reducible refine Calls.mono (l2Code_ans true u (by omega) (by omega) _) ?_; rintro e w' ⟨rfl, yy, rfl⟩) | (at_builtin; refine wpList_append_own_at _ rfl (.tmp 47) (.tmp 49) 22 rfl W.heap.size 3 i0 (.int .i64 0) 1 8 Tryd.underlying22 hi0 hz0 hz1 hz2 rfl (by decide) v xs.length (xs.map (Value.int .i64)) rfl ((owns_ext hown yy).alloc _) _ 1 1 [.int .i64 (3 + u)] rfl rfl (cell_one_at _ _ _ _ (by simp)) (by intro u hu; simp at hu; subst hu; rfl) (by unfold maxLen; omega) (by omega) (by have := hb.size; have := yy.size; simp; omega) ?_; intro v' w1 own1 gr1 _ hat1))
                have HB1 : Hid (Below W.heap.size W w1) := (((hb.trans (yy.below.mono hb.size)).alloc (by have := hb.size; have := yy.size; omega) _).grown gr1 (by have := hb.size; have := yy.size; simp; omega) (fun k hk => (hown.lt k hk).1))
                have HO1 := Lib.hid own1
                clear own1 gr1 hat1
                go_roundw
                case rel =>
                  have own1 := HO1.out
                  refine ⟨k + 1, xs ++ [3 + u], _, by go_num, rfl, by omega, mapL_step HC.out HXS.out (by rw [mapC_ok HG.out (by rw [HGC.out]; omega) (by rw [HGC.out]; exact HIM.out)]; unfold codeOf; rw [if_pos HA.out]), ?_, HB1.out⟩
                  simpa using own1
                case measure => simp [intOf]; omega
              · skip
                have ARC : ∀ y : Ext wr, Calls Tryd.prog 89 #[.int .i64 c] y.w (Ans wr (.bool false)) := fun y => l2Arrow_ans c false (by simp [ha]) y
                have HA := Lib.hid ha
                clear ha
                rw [← hyy]
                clear hyy
                go_wp2_with (first | (go_at_call 51; with_reducible refine Calls.mono (KI _) ?_; rintro e w' ⟨rfl, yy, rfl⟩) | (go_at_call 116; with_reducible refine Calls.mono (GRC _) ?_; rintro e w' ⟨rfl, yy, rfl⟩) | (go_at_call 105; with_reducible refine Calls.mono (M _) ?_; rintro e w' ⟨rfl, yy, rfl⟩) | (go_at_call 89; with_reducible refine Calls.mono (ARC _) ?_; rintro e w' ⟨rfl, yy, rfl⟩) | (go_at_call 117; with_reducible refine Calls.mono (l2Code_ans false u (by omega) (by omega) _) ?_; rintro e w' ⟨rfl, yy, rfl⟩) | (at_builtin; refine wpList_append_own_at _ rfl (.tmp 47) (.tmp 49) 22 rfl W.heap.size 3 i0 (.int .i64 0) 1 8 Tryd.underlying22 hi0 hz0 hz1 hz2 rfl (by decide) v xs.length (xs.map (Value.int .i64)) rfl ((owns_ext hown yy).alloc _) _ 1 1 [.int .i64 (19 + u)] rfl rfl (cell_one_at _ _ _ _ (by simp)) (by intro u hu; simp at hu; subst hu; rfl) (by unfold maxLen; omega) (by omega) (by have := hb.size; have := yy.size; simp; omega) ?_; intro v' w1 own1 gr1 _ hat1))
                have HB1 : Hid (Below W.heap.size W w1) := (((hb.trans (yy.below.mono hb.size)).alloc (by have := hb.size; have := yy.size; omega) _).grown gr1 (by have := hb.size; have := yy.size; simp; omega) (fun k hk => (hown.lt k hk).1))
                have HO1 := Lib.hid own1
                clear own1 gr1 hat1
                go_roundw
                case rel =>
                  have own1 := HO1.out
                  refine ⟨k + 1, xs ++ [19 + u], _, by go_num, rfl, by omega, mapL_step HC.out HXS.out (by rw [mapC_ok HG.out (by rw [HGC.out]; omega) (by rw [HGC.out]; exact HIM.out)]; unfold codeOf; rw [if_neg HA.out]), ?_, HB1.out⟩
                  simpa using own1
                case measure => simp [intOf]; omega
          · skip
            have HGC := Lib.hid hgc
            clear hgc hkc
            rw [← hyy]
            have hopf : decide (0 ≤ gc) = false := by rw [decide_eq_false_iff_not]; omega
            clear hyy
            go_wp2_with (first | (go_at_call 51; with_reducible refine Calls.mono (KI _) ?_; rintro e w' ⟨rfl, yy, rfl⟩) | (go_at_call 116; with_reducible refine Calls.mono (GRC _) ?_; rintro e w' ⟨rfl, yy, rfl⟩) | (at_builtin; refine wpList_append_own_at _ rfl (.tmp 47) (.tmp 49) 22 rfl W.heap.size 3 i0 (.int .i64 0) 1 8 Tryd.underlying22 hi0 hz0 hz1 hz2 rfl (by decide) v xs.length (xs.map (Value.int .i64)) rfl ((owns_ext hown yy).alloc _) _ 1 1 [.int .i64 (c)] rfl rfl (cell_one_at _ _ _ _ (by simp)) (by intro u hu; simp at hu; subst hu; rfl) (by unfold maxLen; omega) (by omega) (by have := hb.size; have := yy.size; simp; omega) ?_; intro v' w1 own1 gr1 _ hat1))
            have HB1 : Hid (Below W.heap.size W w1) := (((hb.trans (yy.below.mono hb.size)).alloc (by have := hb.size; have := yy.size; omega) _).grown gr1 (by have := hb.size; have := yy.size; simp; omega) (fun k hk => (hown.lt k hk).1))
            have HO1 := Lib.hid own1
            clear own1 gr1 hat1
            go_roundw
            case rel =>
              have own1 := HO1.out
              refine ⟨k + 1, xs ++ [c], _, by go_num, rfl, by omega, mapL_step HC.out HXS.out (mapC_open (by rw [HGC.out]; omega)), ?_, HB1.out⟩
              simpa using own1
            case measure => simp [intOf]; omega
        · have h3 : c = 0 ∨ c = 1 ∨ c = 2 := by unfold Graded Arr Bx at hg; omega
          clear hg GRC
          rcases h3 with rfl | rfl | rfl
          · skip
            have hkc : kidsOf 0 = 0 := by decide
            rw [hkc] at KI
            clear hkc
            rw [← hyy]
            clear hyy
            go_wp2_with (first | (go_at_call 51; with_reducible refine Calls.mono (KI _) ?_; rintro e w' ⟨rfl, yy, rfl⟩) | (at_builtin; refine wpList_append_own_at _ rfl (.tmp 47) (.tmp 49) 22 rfl W.heap.size 3 i0 (.int .i64 0) 1 8 Tryd.underlying22 hi0 hz0 hz1 hz2 rfl (by decide) v xs.length (xs.map (Value.int .i64)) rfl ((owns_ext hown yy).alloc _) _ 1 1 [.int .i64 (0)] rfl rfl (cell_one_at _ _ _ _ (by simp)) (by intro u hu; simp at hu; subst hu; rfl) (by unfold maxLen; omega) (by omega) (by have := hb.size; have := yy.size; simp; omega) ?_; intro v' w1 own1 gr1 _ hat1))
            have HB1 : Hid (Below W.heap.size W w1) := (((hb.trans (yy.below.mono hb.size)).alloc (by have := hb.size; have := yy.size; omega) _).grown gr1 (by have := hb.size; have := yy.size; simp; omega) (fun k hk => (hown.lt k hk).1))
            have HO1 := Lib.hid own1
            clear own1 gr1 hat1
            go_roundw
            case rel =>
              have own1 := HO1.out
              refine ⟨k + 1, xs ++ [0], _, by go_num, rfl, by omega, mapL_step HC.out HXS.out (mapC_plain (by decide)), ?_, HB1.out⟩
              simpa using own1
            case measure => simp [intOf]; omega
          · skip
            have hkc : kidsOf 1 = 2 := by decide
            rw [hkc] at KI
            clear hkc
            rw [← hyy]
            clear hyy
            go_wp2_with (first | (go_at_call 51; with_reducible refine Calls.mono (KI _) ?_; rintro e w' ⟨rfl, yy, rfl⟩) | (at_builtin; refine wpList_append_own_at _ rfl (.tmp 47) (.tmp 49) 22 rfl W.heap.size 3 i0 (.int .i64 0) 1 8 Tryd.underlying22 hi0 hz0 hz1 hz2 rfl (by decide) v xs.length (xs.map (Value.int .i64)) rfl ((owns_ext hown yy).alloc _) _ 1 1 [.int .i64 (1)] rfl rfl (cell_one_at _ _ _ _ (by simp)) (by intro u hu; simp at hu; subst hu; rfl) (by unfold maxLen; omega) (by omega) (by have := hb.size; have := yy.size; simp; omega) ?_; intro v' w1 own1 gr1 _ hat1))
            have HB1 : Hid (Below W.heap.size W w1) := (((hb.trans (yy.below.mono hb.size)).alloc (by have := hb.size; have := yy.size; omega) _).grown gr1 (by have := hb.size; have := yy.size; simp; omega) (fun k hk => (hown.lt k hk).1))
            have HO1 := Lib.hid own1
            clear own1 gr1 hat1
            go_roundw
            case rel =>
              have own1 := HO1.out
              refine ⟨k + 1, xs ++ [1], _, by go_num, rfl, by omega, mapL_step HC.out HXS.out (mapC_plain (by decide)), ?_, HB1.out⟩
              simpa using own1
            case measure => simp [intOf]; omega
          · skip
            have hkc : kidsOf 2 = 2 := by decide
            rw [hkc] at KI
            clear hkc
            rw [← hyy]
            clear hyy
            go_wp2_with (first | (go_at_call 51; with_reducible refine Calls.mono (KI _) ?_; rintro e w' ⟨rfl, yy, rfl⟩) | (at_builtin; refine wpList_append_own_at _ rfl (.tmp 47) (.tmp 49) 22 rfl W.heap.size 3 i0 (.int .i64 0) 1 8 Tryd.underlying22 hi0 hz0 hz1 hz2 rfl (by decide) v xs.length (xs.map (Value.int .i64)) rfl ((owns_ext hown yy).alloc _) _ 1 1 [.int .i64 (2)] rfl rfl (cell_one_at _ _ _ _ (by simp)) (by intro u hu; simp at hu; subst hu; rfl) (by unfold maxLen; omega) (by omega) (by have := hb.size; have := yy.size; simp; omega) ?_; intro v' w1 own1 gr1 _ hat1))
            have HB1 : Hid (Below W.heap.size W w1) := (((hb.trans (yy.below.mono hb.size)).alloc (by have := hb.size; have := yy.size; omega) _).grown gr1 (by have := hb.size; have := yy.size; simp; omega) (fun k hk => (hown.lt k hk).1))
            have HO1 := Lib.hid own1
            clear own1 gr1 hat1
            go_roundw
            case rel =>
              have own1 := HO1.out
              refine ⟨k + 1, xs ++ [2], _, by go_num, rfl, by omega, mapL_step HC.out HXS.out (mapC_plain (by decide)), ?_, HB1.out⟩
              simpa using own1
            case measure => simp [intOf]; omega
      · have hke : k = l.length := by omega
        have hlt' : ¬ (k : Int) < (l.length : Int) := by omega
        have HK := Lib.hid hke
        clear hke
        go_wp2
        go_ret
        have XS : mapL f l = some xs := by have := HXS.out; rw [HK.out, List.take_length] at this; exact this
        have e : o = xs := by
          rcases HO.out with ⟨_, h⟩ | ⟨h, _⟩
          · rw [XS] at h; cases h; rfl
          · exact absurd ⟨HW.out, xs, XS⟩ h
        subst e
        exact ⟨_, ⟨wr, hb⟩, rfl, rfl, hown⟩
  · have C : ∀ y : Ext W, Calls Tryd.prog 50 #[.slice al l.length cl] y.w (Ans W (.bool false)) := fun y => l2Type_ans hr hll false (by simp [hw]) y
    have HW := Lib.hid hw
    clear hw
    go_enter Tryd.func107, Tryd.ntmps107
    go_wp2_with fail
    refine Calls.mono (C _) ?_
    rintro e w' ⟨rfl, yy, rfl⟩
    go_wp2
    go_ret
    have e : o = [] := by
      rcases HO.out with ⟨h, _⟩ | ⟨_, h⟩
      · exact absurd h HW.out
      · exact h
    subst e
    exact ⟨_, yy, rfl, rfl, World.ownsRow_nil _ _ _ _⟩

end Go.Proofs.YtcjmkimegmpnbaaDoor
