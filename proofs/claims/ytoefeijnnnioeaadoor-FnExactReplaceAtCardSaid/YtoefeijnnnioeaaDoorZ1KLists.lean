/- Lists of lists of numbers: where they lie, in blocks of their own or not; the laws' comparison and marks of them. -/
import Derived.Test.YtoefeijnnnioeaaDoorZ1GE
set_option linter.unusedVariables false
set_option linter.unusedSimpArgs false
namespace Go.Proofs.YtoefeijnnnioeaaDoor
open Go.RowKit

/-- The values of the inner slices. -/
def hds (ls : List (List Int)) (hd : Nat → Option Addr × Nat) : List Value := (List.range ls.length).map fun i => Value.slice (hd i).1 (ls.getD i []).length (hd i).2
theorem hds_len (ls : List (List Int)) (hd : Nat → Option Addr × Nat) : (hds ls hd).length = ls.length := by simp [hds]
theorem hds_at {ls : List (List Int)} {i : Nat} {l : List Int} (h : ls[i]? = some l) (hd : Nat → Option Addr × Nat) : (hds ls hd)[i]? = some (.slice (hd i).1 l.length (hd i).2) := by
  obtain ⟨hi, rfl⟩ := List.getElem?_eq_some_iff.1 h
  simp [hds, hi]
theorem hds_congr {ls ms : List (List Int)} (hl : ls.length = ms.length) (h : ∀ (i : Nat) (l m : List Int), ls[i]? = some l → ms[i]? = some m → l.length = m.length) (hd : Nat → Option Addr × Nat) : hds ls hd = hds ms hd := by
  apply List.ext_getElem?
  intro i
  by_cases hi : i < ls.length
  · have e1 : ls[i]? = some ls[i] := List.getElem?_eq_getElem hi
    have e2 : ms[i]? = some (ms[i]'(by omega)) := List.getElem?_eq_getElem (by omega)
    rw [hds_at e1, hds_at e2, h i _ _ e1 e2]
  · rw [List.getElem?_eq_none (by simp [hds]; omega), List.getElem?_eq_none (by simp [hds]; omega)]
/-- Lists in rows. -/
structure LsIn (w : World) (a : Option Addr) (ls : List (List Int)) (hd : Nat → Option Addr × Nat) : Prop where
  row : Row w id a (hds ls hd)
  sub : ∀ (i : Nat) (l : List Int), ls[i]? = some l → Row w (Value.int .i64) (hd i).1 l
  len : ∀ (i : Nat) (l : List Int), ls[i]? = some l → l.length ≤ 1099511627776
  all : ls.length ≤ 1099511627776
theorem LsIn.ext {W : World} {a : Option Addr} {ls : List (List Int)} {hd : Nat → Option Addr × Nat} (h : LsIn W a ls hd) (x : Ext W) : LsIn x.w a ls hd :=
  ⟨h.row.ext x, fun i l hi => (h.sub i l hi).ext x, h.len, h.all⟩

/-- Lists in blocks of their own, no two in one; B: these blocks. -/
structure LsOwn (w : World) (a : Option Addr) (c : Nat) (ls : List (List Int)) (hd : Nat → Option Addr × Nat) (B : Nat → Prop) : Prop where
  row : w.ownsRow 0 22 1 (.slice a ls.length c) ls.length (hds ls hd)
  sub : ∀ (i : Nat) (l : List Int), ls[i]? = some l → w.ownsRow 0 3 1 (.slice (hd i).1 l.length (hd i).2) l.length (l.map (Value.int .i64))
  dj : ∀ (i j g : Nat), i < ls.length → j < ls.length → i ≠ j → ob (hd i).1 = some g → ob (hd j).1 ≠ some g
  da : ∀ (i g : Nat), i < ls.length → ob (hd i).1 = some g → ob a ≠ some g
  bl : ∀ g, B g ↔ (ob a = some g ∨ ∃ i : Nat, i < ls.length ∧ ob (hd i).1 = some g)
section
variable {w w' : World} {a : Option Addr} {c : Nat} {ls : List (List Int)} {hd : Nat → Option Addr × Nat} {B : Nat → Prop}
theorem LsOwn.keep (h : LsOwn w a c ls hd B) (hk : ∀ g, B g → w'.heap[g]? = w.heap[g]?) : LsOwn w' a c ls hd B :=
  ⟨owns_of_block h.row fun g hg => hk g ((h.bl g).2 (.inl (by rw [← ob_eq]; exact hg))),
    fun i l hi => owns_of_block (h.sub i l hi) fun g hg => hk g ((h.bl g).2 (.inr ⟨i, (List.getElem?_eq_some_iff.1 hi).1, by rw [← ob_eq]; exact hg⟩)), h.dj, h.da, h.bl⟩
theorem LsOwn.lt (h : LsOwn w a c ls hd B) : ∀ g, B g → g < w.heap.size := fun g hg => by
  rcases (h.bl g).1 hg with e | ⟨i, hi, e⟩
  · exact (h.row.lt g (by rw [ob_eq]; exact e)).2
  · exact ((h.sub i _ (List.getElem?_eq_getElem hi)).lt g (by rw [ob_eq]; exact e)).2
theorem LsOwn.ext (h : LsOwn w a c ls hd B) (y : Ext w) : LsOwn y.w a c ls hd B := h.keep fun g hg => y.below.block g (h.lt g hg)
theorem LsOwn.only {B' : Nat → Prop} (h : LsOwn w a c ls hd B) (ho : Only w w' B') (hd' : ∀ g, B g → ¬ B' g) : LsOwn w' a c ls hd B := h.keep fun g hg => ho.block g (h.lt g hg) (hd' g hg)
theorem LsOwn.ins (h : LsOwn w a c ls hd B) (hl : ls.length ≤ 1048576) (hll : ∀ (i : Nat) (l : List Int), ls[i]? = some l → l.length ≤ 1048576) : LsIn w a ls hd := by
  refine ⟨?_, fun i l hi => own_row (c := (hd i).2) (h.sub i l hi), fun i l hi => by have := hll i l hi; omega, by omega⟩
  have := h.row
  rw [← hds_len ls hd, ← List.map_id (hds ls hd)] at this
  have e : (hds ls hd).map id = hds ls hd := List.map_id _
  refine own_row (E := 22) (base := 0) (c := c) (mk := id) (l := hds ls hd) ?_
  rw [e, hds_len]
  exact h.row
end
/-- The marks of lists. -/
def mkdLs : List (List Int) → Int → List (List Int)
  | [], _ => []
  | l :: ls, m => uptoI m l.length :: mkdLs ls (m + l.length)
def cntLs : List (List Int) → Nat
  | [] => 0
  | l :: ls => l.length + cntLs ls
theorem mkdLs_len (ls : List (List Int)) (m : Int) : (mkdLs ls m).length = ls.length := by
  induction ls generalizing m with
  | nil => rfl
  | cons l ls ih => simp [mkdLs, ih]
theorem cntLs_take_succ {ls : List (List Int)} {i : Nat} {l : List Int} (h : ls[i]? = some l) : cntLs (ls.take (i + 1)) = cntLs (ls.take i) + l.length := by
  induction ls generalizing i with
  | nil => simp at h
  | cons a ls ih =>
    cases i with
    | zero => simp at h; subst h; simp [cntLs]
    | succ i => simp at h; simp [cntLs, ih h]; omega
theorem cntLs_take_le (ls : List (List Int)) (i : Nat) : cntLs (ls.take i) ≤ cntLs ls := by
  induction ls generalizing i with
  | nil => simp
  | cons a ls ih =>
    cases i with
    | zero => simp [cntLs]
    | succ i => have := ih i; simp [cntLs]; omega
theorem mkdLs_at {ls : List (List Int)} {i : Nat} {l : List Int} (h : ls[i]? = some l) (m : Int) : (mkdLs ls m)[i]? = some (uptoI (m + (cntLs (ls.take i) : Nat)) l.length) := by
  induction ls generalizing i m with
  | nil => simp at h
  | cons a ls ih =>
    cases i with
    | zero => simp at h; subst h; simp [mkdLs, cntLs]
    | succ i =>
      simp at h
      simp only [mkdLs, List.getElem?_cons_succ, List.take_succ_cons, cntLs]
      rw [ih h]
      congr 2
      omega
theorem len_le_cntLs {ls : List (List Int)} {i : Nat} {l : List Int} (h : ls[i]? = some l) : l.length ≤ cntLs ls := by
  have h1 := cntLs_take_succ h
  have h2 := cntLs_take_le ls (i + 1)
  omega

set_option maxHeartbeats 4000000 in
theorem heldIntSS_ans {W : World} {a : Option Addr} {c : Nat} {ls : List (List Int)} {hd : Nat → Option Addr × Nat} (m : Int) (h : LsIn W a (mkdLs ls m) hd) (h0 : 0 ≤ m) (h1 : m + (cntLs ls : Nat) ≤ 100000000) (x : Ext W) :
    Calls Tryd.prog 39 #[.slice a ls.length c, .int .i64 m] x.w (Ans W (.int .i64 (m + (cntLs ls : Nat)))) := by
  obtain ⟨yy, hyy⟩ : ∃ y : Ext W, x = y := ⟨x, rfl⟩
  rw [hyy]
  clear hyy
  have hall := h.all
  rw [mkdLs_len] at hall
  go_enter Tryd.func39, Tryd.ntmps39
  go_wp2
  go_loopw [5, 1] (fun i q wr => ∃ j : Nat, i = .int .i64 j ∧ q = .int .i64 (m + (cntLs (ls.take j) : Nat)) ∧ j ≤ ls.length ∧ (∃ y : Ext W, wr = y.w)) (fun i _ _ => ls.length - (intOf i).toNat)
  case atStart => exact ⟨0, rfl, by simp [cntLs], by omega, ⟨yy, rfl⟩⟩
  case round =>
    obtain ⟨j, rfl, rfl, hj, ⟨yy, rfl⟩⟩ := hrel
    by_cases hlt : j < ls.length
    · have hlt' : (j : Int) < (ls.length : Int) := by omega
      obtain ⟨l, hl⟩ : ∃ l, ls[j]? = some l := ⟨_, List.getElem?_eq_getElem hlt⟩
      have hcs := cntLs_take_succ hl
      have hcl := cntLs_take_le ls (j + 1)
      have hm := mkdLs_at hl m
      obtain ⟨M, hM⟩ : ∃ M : Int, M = m + (cntLs (ls.take j) : Nat) := ⟨_, rfl⟩
      have hM0 : 0 ≤ M := by omega
      have hM1 : M + (l.length : Nat) ≤ 100000000 := by omega
      rw [← hM] at hm ⊢
      obtain ⟨b1, o1, rfl, hc⟩ := h.row.at (i := j) (by rw [hds_len, mkdLs_len]; exact hlt)
      have c1 : ∀ y : Ext W, y.w.cell? ⟨b1, o1 + j, none⟩ = some (.slice (hd j).1 l.length (hd j).2) := fun y => by
        have := y.cell (hc j _ (hds_at hm hd))
        rw [uptoI_len] at this
        exact this
      have C : ∀ y : Ext W, Calls Tryd.prog 20 #[.slice (hd j).1 l.length (hd j).2, .int .i64 M] y.w (Ans W (.int .i64 (M + (l.length : Nat)))) := fun y => heldI_ans (h.sub j _ hm) (by omega) hM0 (by omega) y
      have HMM := Lib.hid hM
      have HCS := Lib.hid hcs
      clear hc hm hM hcs hcl hl
      go_wp2_with (go_at_call 20; with_reducible refine Calls.mono (C _) ?_; rintro e w' ⟨rfl, yy, rfl⟩)
      go_roundw
      case rel =>
        have e1 := HMM.out
        have e2 := HCS.out
        refine ⟨j + 1, by go_num, ?_, by omega, ⟨yy, rfl⟩⟩
        congr 1
        omega
      case measure => simp [intOf]; omega
    · have hje : j = ls.length := by omega
      have HJ := Lib.hid hje
      clear hje
      go_wp2
      go_ret
      have e1 : ls.take j = ls := List.take_of_length_le (by rw [HJ.out]; omega)
      exact fin_int (by rw [e1]) ⟨yy, rfl⟩

/-- Of the lists the first j are marked. -/
def mixLs (ls : List (List Int)) (m : Int) (j : Nat) : List (List Int) := (mkdLs ls m).take j ++ ls.drop j
theorem mixLs_len (ls : List (List Int)) (m : Int) (j : Nat) (hj : j ≤ ls.length) : (mixLs ls m j).length = ls.length := by simp [mixLs, mkdLs_len]; omega
theorem mixLs_lo {ls : List (List Int)} {m : Int} {i j : Nat} (hj : j ≤ ls.length) (h : i < j) : (mixLs ls m j)[i]? = (mkdLs ls m)[i]? := by
  unfold mixLs
  rw [List.getElem?_append_left (by simp [mkdLs_len]; omega), List.getElem?_take_of_lt h]
theorem mixLs_hi {ls : List (List Int)} {m : Int} {i j : Nat} (hj : j ≤ ls.length) (h : j ≤ i) : (mixLs ls m j)[i]? = ls[i]? := by
  unfold mixLs
  rw [List.getElem?_append_right (by simp [mkdLs_len]; omega), List.getElem?_drop]
  congr 1
  simp [mkdLs_len]
  omega
theorem mixLs_hds {ls : List (List Int)} {m : Int} {j : Nat} (hj : j ≤ ls.length) (hd : Nat → Option Addr × Nat) : hds (mixLs ls m j) hd = hds ls hd := by
  refine hds_congr (mixLs_len _ _ _ hj) (fun i l u h1 h2 => ?_) hd
  by_cases hi : i < j
  · rw [mixLs_lo hj hi, mkdLs_at h2] at h1
    cases h1
    exact uptoI_len _ _
  · rw [mixLs_hi hj (by omega), h2] at h1
    cases h1
    rfl

set_option maxHeartbeats 4000000 in
theorem markIntSS_ans {w : World} {a : Option Addr} {c : Nat} {ls : List (List Int)} {hd : Nat → Option Addr × Nat} {B : Nat → Prop} (h : LsOwn w a c ls hd B) (m : Int) (h0 : 0 ≤ m) (h1 : m + (cntLs ls : Nat) ≤ 100000000) :
    Calls Tryd.prog 38 #[.slice a ls.length c, .int .i64 m] w (fun e w' => e = .returned (.int .i64 (m + (cntLs ls : Nat))) ∧ Only w w' B ∧ LsOwn w' a c (mkdLs ls m) hd B) := by
  have hlen := owns_len h.row
  have H := Lib.hid h
  have HM1 := Lib.hid h1
  clear h h1
  go_enter Tryd.func38, Tryd.ntmps38
  go_wp2
  go_loopw [5, 1] (fun i q wr => ∃ j : Nat, i = .int .i64 j ∧ q = .int .i64 (m + (cntLs (ls.take j) : Nat)) ∧ j ≤ ls.length ∧ Hid (LsOwn wr a c (mixLs ls m j) hd B) ∧ Hid (Only w wr B)) (fun i _ _ => ls.length - (intOf i).toNat)
  case atStart => exact ⟨0, rfl, by simp [cntLs], by omega, by show LsOwn _ _ _ _ _ _; simpa [mixLs] using H.out, Only.refl _ _⟩
  case round =>
    obtain ⟨j, rfl, rfl, hj, HO, ON⟩ := hrel
    by_cases hlt : j < ls.length
    · have hlt' : (j : Int) < (ls.length : Int) := by omega
      obtain ⟨l, hl⟩ : ∃ l, ls[j]? = some l := ⟨_, List.getElem?_eq_getElem hlt⟩
      have hcs := cntLs_take_succ hl
      have hcl := cntLs_take_le ls (j + 1)
      obtain ⟨M, hM⟩ : ∃ M : Int, M = m + (cntLs (ls.take j) : Nat) := ⟨_, rfl⟩
      have hM0 : 0 ≤ M := by omega
      have hM1 : M + (l.length : Nat) ≤ 100000000 := by have := HM1.out; omega
      rw [← hM]
      have hx : (mixLs ls m j)[j]? = some l := by rw [mixLs_hi hj (Nat.le_refl _)]; exact hl
      have hrow := HO.out.row
      rw [mixLs_len _ _ _ hj, mixLs_hds hj] at hrow
      obtain ⟨g, rfl, hob⟩ := owns_at hrow (by omega)
      have hat : wr.cell? ⟨g, j, none⟩ = some (.slice (hd j).1 l.length (hd j).2) := by
        rw [hrow.cellAt j (by omega)]
        exact hds_at hl hd
      have hsub := HO.out.sub j l hx
      have HMM := Lib.hid hM
      have HCS := Lib.hid hcs
      have HL := Lib.hid hl
      have C := markIntS_ans hsub (by omega) M hM0 (by omega)
      clear hrow hsub hM hcs hcl hl hx hob
      go_wp2_with fail
      refine Calls.mono C ?_
      rintro e w1 ⟨rfl, own, gr⟩
      rw [ob_eq] at gr
      have P := Lib.hid (⟨own, gr⟩ : _ ∧ _)
      clear own gr C hat
      go_wp2
      go_roundw
      case rel =>
        obtain ⟨own, gr⟩ := P.out
        have e1 := HMM.out
        have e2 := HCS.out
        have hx : (mixLs ls m j)[j]? = some l := by rw [mixLs_hi hj (Nat.le_refl _)]; exact HL.out
        have hjm : j < (mixLs ls m j).length := by rw [mixLs_len _ _ _ hj]; exact hlt
        have hK : ∀ q, ob (hd j).1 = some q → B q := fun q hq => (HO.out.bl q).2 (.inr ⟨j, hjm, hq⟩)
        have O1 : Only wr w1 (fun q => ob (hd j).1 = some q) := Only.grown gr (fun q e => e)
        have hj1 : j + 1 ≤ ls.length := hlt
        have l1 := mixLs_len ls m (j + 1) hj1
        have l0 := mixLs_len ls m j hj
        refine ⟨j + 1, by go_num, ?_, by omega, ?_, ON.out.trans (O1.mono fun q _ e => hK q e)⟩
        · congr 1
          omega
        · refine ⟨?_, fun i u hu => ?_, fun i i2 q hi hi2 => ?_, fun i q hi => ?_, fun q => ?_⟩
          · rw [l1, mixLs_hds hj1]
            have r0 := HO.out.row
            rw [l0, mixLs_hds hj] at r0
            exact owns_of_block r0 fun q hq => O1.block q (r0.lt q hq).2 (fun e => HO.out.da j q hjm e (by rw [← ob_eq]; exact hq))
          · by_cases hij : i = j
            · subst hij
              rw [mixLs_lo hj1 (by omega), mkdLs_at HL.out] at hu
              cases hu
              rw [uptoI_len, ← e1, ← marksI_eq]
              have := own
              exact ⟨this.1, by rcases this.2 with ⟨q1, q2⟩ | ⟨q, cap, cur, z1, _, z3, z4, z5, z6, z7⟩; exact .inl ⟨q1, q2⟩; exact .inr ⟨q, cap, cur, z1, Nat.zero_le _, z3, z4, z5, z6, z7⟩⟩
            · have hu2 : (mixLs ls m j)[i]? = some u := by
                by_cases hi : i < j
                · rw [mixLs_lo hj hi]; rw [mixLs_lo hj1 (by omega)] at hu; exact hu
                · rw [mixLs_hi hj (by omega)]; rw [mixLs_hi hj1 (by omega)] at hu; exact hu
              have hs := HO.out.sub i u hu2
              have hi3 : i < (mixLs ls m j).length := (List.getElem?_eq_some_iff.1 hu2).1
              exact owns_of_block hs fun q hq => O1.block q (hs.lt q hq).2 (fun e => HO.out.dj i j q hi3 hjm hij (by rw [← ob_eq]; exact hq) e)
          · rw [l1] at hi hi2; exact HO.out.dj i i2 q (by omega) (by omega)
          · rw [l1] at hi; exact HO.out.da i q (by omega)
          · rw [HO.out.bl q, l0, l1]
      case measure => simp [intOf]; omega
    · have hje : j = ls.length := by omega
      have HJ := Lib.hid hje
      clear hje
      go_wp2
      go_ret
      have e1 : ls.take j = ls := List.take_of_length_le (by rw [HJ.out]; omega)
      refine ⟨by rw [e1] <;> rfl, ON.out, ?_⟩
      have := HO.out
      have e2 : mixLs ls m j = mkdLs ls m := by
        unfold mixLs
        rw [List.take_of_length_le (by rw [mkdLs_len, HJ.out]; omega), List.drop_eq_nil_of_le (by rw [HJ.out]; omega), List.append_nil]
      rw [e2] at this
      exact this

end Go.Proofs.YtoefeijnnnioeaaDoor
