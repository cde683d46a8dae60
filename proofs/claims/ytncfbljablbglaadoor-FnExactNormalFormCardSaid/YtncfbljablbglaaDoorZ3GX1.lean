/- Texts of one claim, laid together: CopyT, PutAt. -/
import Derived.Test.YtncfbljablbglaaDoorZ3GX0
import Derived.Test.YtncfbljablbglaaDoorZ3GI
import Derived.Test.YtncfbljablbglaaDoorZ3GF
import Derived.Test.YtncfbljablbglaaDoorZ3KCofA
import Derived.Laws.CopyRow
import Derived.Test.YtncfbljablbglaaDoorZ3KDefP
import Derived.Deep.RegionHeld3
import Derived.Deep.Cut
import Derived.RegionTactic
import Derived.Outline
set_option linter.unusedVariables false
set_option linter.unusedSimpArgs false
/- Terms that keep what they read; rows of terms that are copied whole. -/
namespace Go.Proofs.YtncfbljablbglaaDoor
open Go.RowKit

/-- Wherever the blocks of P are as they are here, the term lies. -/
def TmK (w : World) (t : Tm) (r : TV) (P : Nat → Prop) : Prop := ∀ w' : World, (∀ g, P g → g < w.heap.size → w'.heap[g]? = w.heap[g]?) → TmIn w' 0 t r
theorem TmK.of {W : World} {lo : Nat} {t : Tm} {r : TV} (h : TmIn W lo t r) : TmK W t r (fun g => g < W.heap.size) := fun w' hk => (h.lower (Nat.zero_le _)).keep fun k _ hs => hk k hs hs
theorem TmK.here {w : World} {t : Tm} {r : TV} {P : Nat → Prop} (h : TmK w t r P) : TmIn w 0 t r := h w fun _ _ _ => rfl
theorem TmK.step {w w2 : World} {t : Tm} {r : TV} {P : Nat → Prop} (h : TmK w t r P) (hs : w.heap.size ≤ w2.heap.size) (hk : ∀ g, P g → g < w.heap.size → w2.heap[g]? = w.heap[g]?) : TmK w2 t r P := fun w' q => h w' fun g hg hl => (q g hg (Nat.lt_of_lt_of_le hl hs)).trans (hk g hg hl)
theorem TmK.mono {w : World} {t : Tm} {r : TV} {P Q : Nat → Prop} (h : TmK w t r P) (hq : ∀ g, P g → Q g) : TmK w t r Q := fun w' q => h w' fun g hg hl => q g (hq g hg) hl
theorem TmK.ext {w : World} {t : Tm} {r : TV} {P : Nat → Prop} (h : TmK w t r P) (y : Ext w) : TmK y.w t r P := h.step y.size fun g _ hl => y.below.block g hl
theorem zero_k (w : World) (P : Nat → Prop) : TmK w zeroT ⟨none, 0, none, 0⟩ P := fun w' _ => leaf_in w' 0 0
section
variable {M w Y : World} {o : Tm} {r : TV} {P : Nat → Prop}
theorem gotk_set {D : Nat} (bel : Below M.heap.size M w) (hD : M.heap.size ≤ D) (hb : w.heap[D]? = some zbox) (hn : TmK w o r P) (hd : ¬ P D)
    (hY : (((w.setCell ⟨D, 0, none⟩ (.int .i64 o.op)).setCell ⟨D, 1, none⟩ (.int .i64 o.n)).setCell ⟨D, 2, none⟩ (.slice r.a o.ty.length r.c)).setCell ⟨D, 3, none⟩ (.slice r.b o.kids.length r.d) = Y) : M.heap.size ≤ D ∧ Below M.heap.size M Y ∧ Box4 Y D o r ∧ TmK Y o r P := by
  obtain ⟨belD, hsame, hgr, r0, r1, r2, r3⟩ := ret4 (W := M) bel hD hb hY
  exact ⟨hD, belD, ⟨r0, r1, r2, r3⟩, hn.step hgr.size fun g hg _ => hsame g fun e => hd (e ▸ hg)⟩
theorem gotk_new (bel : Below M.heap.size M w) (hn : TmK w o r P)
    (hY : w.alloc (boxT o.op o.n r.a o.ty.length r.c r.b o.kids.length r.d) = Y) : M.heap.size ≤ w.heap.size ∧ Below M.heap.size M Y ∧ Box4 Y w.heap.size o r ∧ TmK Y o r P := by
  refine ⟨bel.size, by rw [← hY]; exact below_alloc bel _, Box4.new hY, ?_⟩
  rw [← hY]
  exact hn.ext ((Ext.self w).alloc _)
theorem gotk_late (bel : Below M.heap.size M w) (hn : TmK w o r P)
    (hY : ((((w.alloc zbox).setCell ⟨w.heap.size, 0, none⟩ (.int .i64 o.op)).setCell ⟨w.heap.size, 1, none⟩ (.int .i64 o.n)).setCell ⟨w.heap.size, 2, none⟩ (.slice r.a o.ty.length r.c)).setCell ⟨w.heap.size, 3, none⟩ (.slice r.b o.kids.length r.d) = Y) : M.heap.size ≤ w.heap.size ∧ Below M.heap.size M Y ∧ Box4 Y w.heap.size o r ∧ TmK Y o r P := by
  obtain ⟨belD, hsame, hgr, r0, r1, r2, r3⟩ := ret4 (W := M) (below_alloc bel _) bel.size (new_blk rfl) hY
  refine ⟨bel.size, belD, ⟨r0, r1, r2, r3⟩, hn.step (by have := hgr.size; simp at this; omega) fun g _ hl => ?_⟩
  rw [hsame g (by omega)]
  exact ((Ext.self w).alloc zbox).below.block g hl
end
theorem early_no {W U : World} (b : Below W.heap.size W U) {o : Obj} : ¬ (U.heap.size < W.heap.size ∨ (U.alloc o).drew.heap.size ≤ U.heap.size) := by
  rintro (e | e)
  · have := b.size
    omega
  · have e2 : (U.alloc o).drew.heap.size = U.heap.size + 1 := by show (U.alloc o).heap.size = _; simp
    omega
theorem early_mono {n : Nat} {U : World} {o : Obj} (g : Nat) (h : g < n ∨ (U.alloc o).drew.heap.size ≤ g) : g < n ∨ U.heap.size ≤ g := by
  have e2 : (U.alloc o).drew.heap.size = U.heap.size + 1 := by show (U.alloc o).heap.size = _; simp
  omega
theorem run_copy4 (w : World) {N n cap sc : Nat} {ad : Addr} {cur : Array Value} {T : TypeId} {cs : List Value} (hg : w.heap[N]? = some (.cells cur T (0, 0))) (hn : cs.length = n * 4) (hz : cur.size = n * 4)
    (hsrc : ∀ j v, cs[j]? = some v → w.cell? (ad.add j) = some v) (h1 : ∀ v ∈ cs, v.oneCell' = true) :
    (Builtin.copy_ #[27, 27] 3 #[.slice (some ⟨N, 0, none⟩) n cap, .slice (some ad) n sc]).run Tryd.prog w = .ok (goInt n) (w.setRow N cs.toArray) := by
  obtain ⟨i0, hi, hz0, hz1, hz2⟩ := info_parts info_term
  have hl := run_loadCells_list (P := Tryd.prog) w ad cs hsrc
  have hst := run_storeCells_at Tryd.prog N 0 T cs 0 cur w hg (by omega) h1
  have e : (cur.toList.take (0 + 0) ++ cs ++ cur.toList.drop (0 + 0 + cs.length)) = cs := by
    rw [List.drop_eq_nil_of_le (by simp; omega)]
    simp
  rw [e] at hst
  rw [hn] at hl
  simp [Builtin.copy_, run_underlying Tryd.underlying27, Builtin.lenOf, Builtin.firstCells, sizeOf, typeInfo, hi, hz1, hl, hst]
theorem wpList_copy4 {ops : Array Oper} {rest : List Oper} {o : Oper} {a : Act} {Q : Exit → Act → World → Prop} {w : World} (hgd : o.guard = none) (d s : Operand)
    (ho : o.op = .call { callee := .builtin .copy, args := #[d, s], argTypes := #[27, 27] }) (hty : o.type = 3)
    {N n cap sc : Nat} {ad : Addr} {cur : Array Value} {T : TypeId} {cs : List Value} (hd : a.eval d = .slice (some ⟨N, 0, none⟩) n cap) (hs : a.eval s = .slice (some ad) n sc) (hg : w.heap[N]? = some (.cells cur T (0, 0))) (hn : cs.length = n * 4) (hz : cur.size = n * 4)
    (hsrc : ∀ j v, cs[j]? = some v → w.cell? (ad.add j) = some v) (h1 : ∀ v ∈ cs, v.oneCell' = true)
    (h : ∀ w2, w2 = w.setRow N cs.toArray → wpList Tryd.prog ops Q rest (a.put o.dst (goInt n)) w2) : wpList Tryd.prog ops Q (o :: rest) a w := by
  refine wpList_plain hgd fun K hK => ?_
  have hrun := run_copy4 (cap := cap) (sc := sc) w hg hn hz hsrc h1
  unfold Oper.wp execOp
  rw [hty]
  simp only [ho, resolve, invoke, builtin, Sem.run_bind, Sem.run_pure, Result.andThen_ok, List.map_toArray, List.map_cons, List.map_nil, hd, hs, hrun]
  exact hK _ _ (h _ rfl)
/-- The cells of kids, as they lie. -/
theorem kid_cells {w : World} {b o : Nat} {kr : Nat → TV} {ks : List Tm} (h : ∀ i k, ks[i]? = some k → Kid4 w b (o + i * 4) (kr i) k) :
    ∃ cs : List Value, cs.length = ks.length * 4 ∧ (∀ j v, cs[j]? = some v → w.cell? ((⟨b, o, none⟩ : Addr).add j) = some v) ∧ (∀ v ∈ cs, v.oneCell' = true) ∧
      ∀ i k, ks[i]? = some k → cs[i * 4]? = some (.int .i64 k.op) ∧ cs[i * 4 + 1]? = some (.int .i64 k.n) ∧ cs[i * 4 + 2]? = some (.slice (kr i).a k.ty.length (kr i).c) ∧ cs[i * 4 + 3]? = some (.slice (kr i).b k.kids.length (kr i).d) := by
  induction ks generalizing o kr with
  | nil => exact ⟨[], by simp, by simp, by simp, by simp⟩
  | cons k ks ih =>
    obtain ⟨cs, h1, h2, h3, h4⟩ := ih (o := o + 4) (kr := fun i => kr (i + 1)) (fun i u hi => by
      have := h (i + 1) u (by simpa using hi)
      rw [show o + (i + 1) * 4 = o + 4 + i * 4 by omega] at this
      exact this)
    have h0 := h 0 k rfl
    rw [show o + 0 * 4 = o by omega] at h0
    refine ⟨[.int .i64 k.op, .int .i64 k.n, .slice (kr 0).a k.ty.length (kr 0).c, .slice (kr 0).b k.kids.length (kr 0).d] ++ cs, by simp [h1]; omega, fun j v hj => ?_, fun v hv => ?_, fun i u hi => ?_⟩
    · match j, hj with
      | 0, hj => cases hj; simpa [Addr.add] using h0.c0
      | 1, hj => cases hj; simpa [Addr.add] using h0.c1
      | 2, hj => cases hj; simpa [Addr.add] using h0.c2
      | 3, hj => cases hj; simpa [Addr.add] using h0.c3
      | j + 4, hj =>
        have := h2 j v (by simpa using hj)
        have e : (⟨b, o, none⟩ : Addr).add (j + 4) = (⟨b, o + 4, none⟩ : Addr).add j := by
          unfold Addr.add
          split <;> split <;> simp_all <;> omega
        rw [e]
        exact this
    · rcases List.mem_append.1 hv with hv | hv
      · simp at hv
        rcases hv with rfl | rfl | rfl | rfl <;> rfl
      · exact h3 v hv
    · match i, hi with
      | 0, hi => cases hi; exact ⟨rfl, rfl, rfl, rfl⟩
      | i + 1, hi =>
        have := h4 i u (by simpa using hi)
        rw [show (i + 1) * 4 = i * 4 + 4 by omega]
        obtain ⟨e0, e1, e2, e3⟩ := this
        refine ⟨?_, ?_, ?_, ?_⟩
        · simpa using e0
        · rw [show i * 4 + 4 + 1 = (i * 4 + 1) + 4 by omega]; simpa using e1
        · rw [show i * 4 + 4 + 2 = (i * 4 + 2) + 4 by omega]; simpa using e2
        · rw [show i * 4 + 4 + 3 = (i * 4 + 3) + 4 by omega]; simpa using e3
end Go.Proofs.YtncfbljablbglaaDoor
/- The program's putAt. -/
namespace Go.Proofs.YtncfbljablbglaaDoor
open Go.RowKit

/-- What putAt answers. -/
def PutA (n0 : Nat) (w0 : World) (t : Tm) (p : List Int) (u : Tm) : Ending → World → Prop := fun e w' => ∃ (z : Tm) (rz : TV) (b : Bool) (y : Ext w0), e = .returned (.tuple #[.agg #[.int .i64 z.op, .int .i64 z.n, .slice rz.a z.ty.length rz.c, .slice rz.b z.kids.length rz.d], .bool b]) ∧ w' = y.w ∧
  ((t.putP p u = some z ∧ b = true) ∨ (t.putP p u = none ∧ b = false)) ∧ TmK y.w z rz (fun g => g < n0 ∨ w0.heap.size ≤ g)
/-- What the call on a kid leaves. -/
def GotK (n0 : Nat) (M : World) (c : Tm) (p : List Int) (u : Tm) (s9 s10 : Value) (w : World) : Prop := ∃ (D : Nat) (z : Tm) (rz : TV) (b : Bool), s9 = .pointer (some ⟨D, 0, none⟩) ∧ s10 = .bool b ∧ ((c.putP p u = some z ∧ b = true) ∨ (c.putP p u = none ∧ b = false)) ∧
  M.heap.size ≤ D ∧ Below M.heap.size M w ∧ Box4 w D z rz ∧ TmK w z rz (fun g => g < n0 ∨ M.heap.size ≤ g)
theorem tm_at_k {w6 : World} {t z : Tm} {ra rb : Option Addr} {rc rd : Nat} {kr : Nat → TV} {rz : TV} {n0 N j : Nat} {W w0 : World} {lo : Nat} (hn0 : n0 = W.heap.size) (A : TmAt W lo t ⟨ra, rc, rb, rd⟩ kr) (hW : ∀ g, g < W.heap.size → w6.heap[g]? = W.heap[g]?)
    (hNl : N < w6.heap.size) (hN0 : w0.heap.size ≤ N) (hc : ∀ i k, (t.kids.set j z)[i]? = some k → Kid4 w6 N (0 + i * 4) (if i = j then rz else kr i) k) (hz : TmK w6 z rz (fun g => g < n0 ∨ w0.heap.size ≤ g)) (hWn : W.heap.size ≤ w6.heap.size) (d : Nat) :
    TmK w6 (.mk t.op t.n t.ty (t.kids.set j z)) ⟨ra, rc, some ⟨N, 0, none⟩, d⟩ (fun g => g < n0 ∨ w0.heap.size ≤ g) := by
  subst hn0
  intro w' hk
  have hlow : ∀ g, g < W.heap.size → w'.heap[g]? = W.heap[g]? := fun g hg => (hk g (.inl hg) (by omega)).trans (hW g hg)
  refine .mk _ _ (fun i => if i = j then rz else kr i) ?_ (fun p _ => Nat.zero_le _) A.lt (by show (t.kids.set j z).length ≤ _; rw [List.length_set]; exact A.lk) ?_ ?_
  · rcases A.row with h | ⟨b, o, e, h⟩
    · exact .inl h
    · refine .inr ⟨b, o, e, fun i v hi => ?_⟩
      have h1 := h i v hi
      rw [World.cell?_of_block (w := W) (a := ⟨b, o + i, none⟩) (hlow b (cell_lt h1))]
      exact h1
  · refine .inr ⟨N, 0, rfl, Nat.zero_le _, fun i k hi => ?_⟩
    have := hc i k hi
    exact this.keep (hk N (.inr hN0) hNl)
  · intro i k hi
    have hi' : (t.kids.set j z)[i]? = some k := hi
    by_cases e : i = j
    · subst e
      rw [List.getElem?_set_self' ] at hi'
      cases hq : t.kids[i]? with
      | none => rw [hq] at hi'; cases hi'
      | some q =>
        rw [hq] at hi'
        cases hi'
        simp only [if_true]
        exact hz w' hk
    · rw [List.getElem?_set_ne (by omega)] at hi'
      simp only [if_neg e]
      exact ((A.sub i k hi').lower (Nat.zero_le _)).keep fun g _ hg => hlow g hg
theorem get4_same {cs : List Value} {j : Nat} {a0 a1 a2 a3 : Value} (h : j * 4 + 4 ≤ cs.length) : let arr := (((cs.toArray.setIfInBounds (j * 4) a0).setIfInBounds (j * 4 + 1) a1).setIfInBounds (j * 4 + 2) a2).setIfInBounds (j * 4 + 3) a3
    arr[j * 4]? = some a0 ∧ arr[j * 4 + 1]? = some a1 ∧ arr[j * 4 + 2]? = some a2 ∧ arr[j * 4 + 3]? = some a3 := by
  refine ⟨?_, ?_, ?_, ?_⟩ <;> simp only [Array.getElem?_setIfInBounds, Array.size_setIfInBounds, List.size_toArray]
  · rw [if_neg (by omega), if_neg (by omega), if_neg (by omega), if_pos trivial, if_pos (by omega)]
  · rw [if_neg (by omega), if_neg (by omega), if_pos trivial, if_pos (by omega)]
  · rw [if_neg (by omega), if_pos trivial, if_pos (by omega)]
  · rw [if_pos trivial, if_pos (by omega)]
theorem get4_other {cs : List Value} {j q : Nat} {a0 a1 a2 a3 : Value} (h : q < j * 4 ∨ j * 4 + 4 ≤ q) : ((((cs.toArray.setIfInBounds (j * 4) a0).setIfInBounds (j * 4 + 1) a1).setIfInBounds (j * 4 + 2) a2).setIfInBounds (j * 4 + 3) a3)[q]? = cs[q]? := by
  simp only [Array.getElem?_setIfInBounds]
  rw [if_neg (by omega), if_neg (by omega), if_neg (by omega), if_neg (by omega)]
  simp
theorem made_row {w : World} {base N n : Nat} {xs : List Value} (h : w.ownsRow base 29 4 (.slice (some ⟨N, 0, none⟩) n n) n xs) (_ : 0 < n) : ∃ cur, w.heap[N]? = some (.cells cur 29 (0, 0)) ∧ cur.size = n * 4 := by
  rcases h.2 with ⟨e, _⟩ | ⟨g, cap, cur, e, _, hg, _, _, hs, _⟩
  · cases e
  · cases e
    exact ⟨cur, hg, hs⟩
theorem row_tail {W : World} {b o : Nat} {k : Int} {p : List Int} (h : Row W (Value.int .i64) (some ⟨b, o, none⟩) (k :: p)) : Row W (Value.int .i64) (some ⟨b, o + 1, none⟩) p := by
  rcases h with h | ⟨b', o', e, h⟩
  · cases h
  · cases e
    refine .inr ⟨b, o + 1, rfl, fun i v hi => ?_⟩
    have := h (i + 1) v (by simpa using hi)
    rw [show o + 1 + i = o + (i + 1) by omega]
    exact this

theorem TmK.lift {W w0 Y : World} {t : Tm} {r : TV} (h : TmK W t r (fun g => g < W.heap.size)) (b : Below W.heap.size W w0) (d : Below w0.heap.size w0 Y) : TmK Y t r (fun g => g < W.heap.size ∨ w0.heap.size ≤ g) :=
  ((h.step (Nat.le_trans b.size d.size) fun g hg _ => (d.block g (Nat.lt_of_lt_of_le hg b.size)).trans (b.block g hg))).mono fun g hg => .inl hg
set_option maxRecDepth 100000 in
set_option maxHeartbeats 16000000 in
theorem putAt_ans (p : List Int) : ∀ {W : World} {lo : Nat} {t : Tm} {r : TV} (_ : TmIn W lo t r) {size vars : Int} {closed : Bool} (_ : OkT size closed vars t) {lo2 : Nat} {u : Tm} {q : TV} (_ : TmIn W lo2 u q) {pa : Option Addr} {pc : Nat} (_ : Row W (Value.int .i64) pa p) (_ : p.length ≤ 1099511627776) (_ : p.length ≤ pc) (x : Ext W),
    Calls Tryd.prog 110 #[r.val t, .slice pa p.length pc, q.val u] x.w (PutA W.heap.size x.w t p u) := by
  induction p with
  | nil =>
    intro W lo t r h size vars closed ok lo2 u q hu pa pc hp hpl hcap x
    have bW0 : Below W.heap.size W x.w := x.below
    obtain ⟨w0, hw0⟩ : ∃ w, w = x.w := ⟨_, rfl⟩
    rw [← hw0] at bW0 ⊢
    clear hw0 x
    have hxW := bW0.size
    obtain ⟨ra, rc, rb, rd⟩ := r
    obtain ⟨ua, uc, ub, ud⟩ := q
    unfold TV.val
    go_enter Tryd.func110, Tryd.ntmps110
    go_upto_region 1 with fail
    generalize hWa : ((w0.alloc _).alloc _).alloc _ = Wa
    generalize hB : w0.heap.size = B at *
    obtain ⟨bT, bU, bR, sA, bel⟩ := blocks3 hB hWa
    have belA : Below w0.heap.size w0 Wa := bel
    have belW : Below W.heap.size W Wa := bW0.trans (bel.mono (by omega))
    clear hWa bel
    have u0 := blk_cell bU 0
    have u1 := blk_cell bU 1
    have u2 := blk_cell bU 2
    have u3 := blk_cell bU 3
    simp at u0 u1 u2 u3
    have n0 := blk_cell bR 0
    have n1 := blk_cell bR 1
    have n2 := blk_cell bR 2
    have n3 := blk_cell bR 3
    have p0 := blk_free bR 0
    have p1 := blk_free bR 1
    have p2 := blk_free bR 2
    have p3 := blk_free bR 3
    simp at n0 n1 n2 n3
    have f0 : ((([] : List Int).length : Int) == 0) = true := rfl
    go_wp2_with fail
    clear u0 u1 u2 u3
    clear n0 n1 n2 n3 p0 p1 p2 p3
    generalize hY : World.setCell _ _ _ = Y
    obtain ⟨belD, hsame, hgr, r0, r1, r2, r3⟩ := ret4 (W := w0) belA (by omega) bR hY
    refine bodyPost_ret (v := .tuple #[.agg #[.int .i64 (u : Tm).op, .int .i64 (u : Tm).n, .slice (⟨ua, uc, ub, ud⟩ : TV).a (u : Tm).ty.length (⟨ua, uc, ub, ud⟩ : TV).c, .slice (⟨ua, uc, ub, ud⟩ : TV).b (u : Tm).kids.length (⟨ua, uc, ub, ud⟩ : TV).d], .bool true]) (by simp [Tm.op, Tm.n, Tm.ty, Tm.kids, results, Tryd.results110, go_sem, r0, r1, r2, r3]) rfl ?_
    exact ⟨u, ⟨ua, uc, ub, ud⟩, true, ⟨Y, belD⟩, rfl, rfl, .inl ⟨rfl, rfl⟩, (TmK.of hu).lift bW0 belD⟩
  | cons k p ih =>
    intro W lo t r h size vars closed ok lo2 u q hu pa pc hp hpl hcap x
    have bW0 : Below W.heap.size W x.w := x.below
    obtain ⟨w0, hw0⟩ : ∃ w, w = x.w := ⟨_, rfl⟩
    rw [← hw0] at bW0 ⊢
    clear hw0 x
    have hxW := bW0.size
    obtain ⟨ra, rc, rb, rd⟩ := r
    obtain ⟨ua, uc, ub, ud⟩ := q
    unfold TV.val
    go_enter Tryd.func110, Tryd.ntmps110
    go_upto_region 1 with fail
    generalize hWa : ((w0.alloc _).alloc _).alloc _ = Wa
    generalize hB : w0.heap.size = B at *
    obtain ⟨bT, bU, bR, sA, bel⟩ := blocks3 hB hWa
    have belA : Below w0.heap.size w0 Wa := bel
    have belW : Below W.heap.size W Wa := bW0.trans (bel.mono (by omega))
    clear hWa bel
    obtain ⟨b1, o1, rfl, hc1⟩ := hp.at (i := 0) (by simp)
    have m0 : ∀ w', Below W.heap.size W w' → w'.cell? ⟨b1, o1, none⟩ = some (.int .i64 k) := fun w' b => (Ext.mk w' b).cell (by simpa using hc1 0 k rfl)
    have ht := row_tail hp
    have f0 : (((k :: p).length : Int) == 0) = false := by rw [beq_eq_false_iff_ne]; simp; omega
    have hlc : (k :: p).length = p.length + 1 := by simp
    rw [hlc] at f0 hcap
    clear hlc hc1 hp
    have m00 := m0 Wa belW
    have t0 := blk_cell bT 0
    have t1 := blk_cell bT 1
    have t2 := blk_cell bT 2
    have t3 := blk_cell bT 3
    simp at t0 t1 t2 t3
    cases hkI : t.kidI k with
    | none =>
      have hpn : t.putP (k :: p) u = none := by simp only [Tm.putP, hkI]; rfl
      have IRC := inRange_ans (W := Wa) k (t.kids.length : Int) false (by refine iff_tf ?_; exact Tm.kidI_none hkI) (Ext.self Wa)
      clear hkI
      go_wp2_with fail
      refine Calls.mono IRC ?_
      clear IRC t0 t1 t2 t3 m00
      rintro e w' ⟨rfl, y1, rfl⟩
      have bR1 := y1.blk bR
      have z1 : Wa.heap.size ≤ y1.w.heap.size := y1.size
      have n0 := blk_cell bR1 0
      have n1 := blk_cell bR1 1
      have n2 := blk_cell bR1 2
      have n3 := blk_cell bR1 3
      have p0 := blk_free bR1 0
      have p1 := blk_free bR1 1
      have p2 := blk_free bR1 2
      have p3 := blk_free bR1 3
      simp at n0 n1 n2 n3
      go_wp2_with fail
      clear n0 n1 n2 n3 p0 p1 p2 p3
      generalize hY : World.setCell _ _ _ = Y
      obtain ⟨belD, hsame, hgr, r0, r1, r2, r3⟩ := ret4 (W := w0) (below_ext belA y1) (by omega) bR1 hY
      refine bodyPost_ret (v := .tuple #[.agg #[.int .i64 (zeroT : Tm).op, .int .i64 (zeroT : Tm).n, .slice (⟨none, 0, none, 0⟩ : TV).a (zeroT : Tm).ty.length (⟨none, 0, none, 0⟩ : TV).c, .slice (⟨none, 0, none, 0⟩ : TV).b (zeroT : Tm).kids.length (⟨none, 0, none, 0⟩ : TV).d], .bool false]) (by simp [Tm.op, Tm.n, Tm.ty, Tm.kids, results, Tryd.results110, go_sem, r0, r1, r2, r3]) rfl ?_
      exact ⟨zeroT, ⟨none, 0, none, 0⟩, false, ⟨Y, belD⟩, rfl, rfl, .inr ⟨hpn, rfl⟩, zero_k _ _⟩
    | some c =>
      obtain ⟨j, rfl, hj⟩ := Tm.kidI_some hkI
      have hjl : j < t.kids.length := (List.getElem?_eq_some_iff.1 hj).1
      have hj0 : (0 : Int) ≤ (j : Int) := by omega
      have hjl' : (j : Int) < (t.kids.length : Int) := by omega
      have hput : t.putP ((j : Int) :: p) u = (Tm.putP p c u).map fun c' => .mk t.op t.n t.ty (t.kids.set (j : Int).toNat c') := by simp only [Tm.putP, hkI]; rfl
      clear hkI
      have IRC := inRange_ans (W := Wa) (j : Int) (t.kids.length : Int) true (by refine iff_tf ?_; exact ⟨hj0, hjl'⟩) (Ext.self Wa)
      obtain ⟨kr, A⟩ := h.out
      have hlk := A.lk
      obtain ⟨kb, ko, hrb, K4⟩ := A.kid j c hj
      have hrb' : rb = some ⟨kb, ko, none⟩ := hrb
      subst hrb'
      have hsub := A.sub j c hj
      have okc := ok.kid hj
      by_cases hpc1 : pc = 1
      · subst hpc1
        obtain rfl : p = [] := List.eq_nil_of_length_eq_zero (by omega)
        have CP : Hid (∀ w', Below W.heap.size W w' → Calls Tryd.prog 110 #[(kr j).val c, .slice (some ⟨b1, o1, none⟩) 0 (0), (TV.mk ua uc ub ud).val u] w' (PutA W.heap.size w' c [] u)) := fun w' b => ih hsub okc hu (.inl rfl) (by first | (simp; done) | (simp at hpl; omega)) (by first | (simp; done) | omega) ⟨w', b⟩
        unfold TV.val at CP
        have q0 : ∀ w', Below W.heap.size W w' → w'.cell? ⟨kb, ko + j * 4, none⟩ = some (.int .i64 c.op) := fun w' b => (Ext.mk w' b).cell K4.c0
        have q1 : ∀ w', Below W.heap.size W w' → w'.cell? ⟨kb, ko + j * 4 + 1, none⟩ = some (.int .i64 c.n) := fun w' b => (Ext.mk w' b).cell K4.c1
        have q2 : ∀ w', Below W.heap.size W w' → w'.cell? ⟨kb, ko + j * 4 + 2, none⟩ = some (.slice (kr j).a c.ty.length (kr j).c) := fun w' b => (Ext.mk w' b).cell K4.c2
        have q3 : ∀ w', Below W.heap.size W w' → w'.cell? ⟨kb, ko + j * 4 + 3, none⟩ = some (.slice (kr j).b c.kids.length (kr j).d) := fun w' b => (Ext.mk w' b).cell K4.c3
        have hk3 : t.kids.length ≤ 3 := by have := ok.node.many; have := manyO_le t.op; omega
        clear K4 hrb okc
        go_upto_region 6 with (refine Calls.mono IRC ?_; clear IRC; rintro e w' ⟨rfl, y1, rfl⟩)
        -- behind the check
        have bT1 := y1.blk bT
        have bU1 := y1.blk bU
        have bR1 := y1.blk bR
        have bel1 : Below w0.heap.size w0 y1.w := below_ext belA y1
        have belW1 : Below W.heap.size W y1.w := below_ext belW y1
        have hs1 : B + 3 ≤ y1.w.heap.size := by have := y1.size; omega
        obtain ⟨U, hU⟩ : ∃ U, U = y1.w := ⟨_, rfl⟩
        rw [← hU] at bT1 bU1 bR1 bel1 belW1 hs1 ⊢
        clear hU y1 m00 t0 t1 t2 t3 m0 bT bU bR belA belW sA
        have KEEP : Hid (∀ w', Below U.heap.size U w' → w'.cell? ⟨B, 3, none⟩ = some (.slice (some ⟨kb, ko, none⟩) t.kids.length rd) ∧ (w'.cell? ⟨kb, ko + j * 4, none⟩ = some (.int .i64 c.op) ∧ w'.cell? ⟨kb, ko + j * 4 + 1, none⟩ = some (.int .i64 c.n) ∧ w'.cell? ⟨kb, ko + j * 4 + 2, none⟩ = some (.slice (kr j).a c.ty.length (kr j).c) ∧ w'.cell? ⟨kb, ko + j * 4 + 3, none⟩ = some (.slice (kr j).b c.kids.length (kr j).d)) ∧ (w'.cell? ⟨B + 1, 0, none⟩ = some (.int .i64 u.op) ∧ w'.cell? ⟨B + 1, 1, none⟩ = some (.int .i64 u.n) ∧ w'.cell? ⟨B + 1, 2, none⟩ = some (.slice ua u.ty.length uc) ∧ w'.cell? ⟨B + 1, 3, none⟩ = some (.slice ub u.kids.length ud))) := fun w' b => by
          have bw := belW1.trans (b.mono belW1.size)
          exact ⟨blk_cell ((Ext.mk w' b).blk bT1) 3, ⟨q0 w' bw, q1 w' bw, q2 w' bw, q3 w' bw⟩, blk_cell ((Ext.mk w' b).blk bU1) 0, blk_cell ((Ext.mk w' b).blk bU1) 1, blk_cell ((Ext.mk w' b).blk bU1) 2, blk_cell ((Ext.mk w' b).blk bU1) 3⟩
        have CP2 : Hid (∀ w', Below U.heap.size U w' → Calls Tryd.prog 110 #[.agg #[.int .i64 c.op, .int .i64 c.n, .slice (kr j).a c.ty.length (kr j).c, .slice (kr j).b c.kids.length (kr j).d], .slice (some ⟨b1, o1, none⟩) 0 (0), .agg #[.int .i64 u.op, .int .i64 u.n, .slice ua u.ty.length uc, .slice ub u.kids.length ud]] w' (PutA W.heap.size w' c [] u)) := fun w' b => CP.out w' (belW1.trans (b.mono belW1.size))
        clear CP q0 q1 q2 q3
        go_cut [9, 10] from 26 (fun s9 s10 wc => GotK W.heap.size U c [] u s9 s10 wc)
        case first =>
          go_region_held3 (fun w' => w'.cell? ⟨B, 3, none⟩ = some (.slice (some ⟨kb, ko, none⟩) t.kids.length rd) ∧ (w'.cell? ⟨kb, ko + j * 4, none⟩ = some (.int .i64 c.op) ∧ w'.cell? ⟨kb, ko + j * 4 + 1, none⟩ = some (.int .i64 c.n) ∧ w'.cell? ⟨kb, ko + j * 4 + 2, none⟩ = some (.slice (kr j).a c.ty.length (kr j).c) ∧ w'.cell? ⟨kb, ko + j * 4 + 3, none⟩ = some (.slice (kr j).b c.kids.length (kr j).d)) ∧ (w'.cell? ⟨B + 1, 0, none⟩ = some (.int .i64 u.op) ∧ w'.cell? ⟨B + 1, 1, none⟩ = some (.int .i64 u.n) ∧ w'.cell? ⟨B + 1, 2, none⟩ = some (.slice ua u.ty.length uc) ∧ w'.cell? ⟨B + 1, 3, none⟩ = some (.slice ub u.kids.length ud))) ((refine KEEP.out _ ?_; (with_reducible (repeat (first | exact Below.refl _ _ | refine below_set ?_ ?_ | refine below_drew ?_ | refine below_alloc ?_ _ | refine below_ext ?_ _)))))
            (first | (go_at_call 110; refine Calls.mono (CP2.out _ (by (with_reducible (repeat (first | exact Below.refl _ _ | refine below_set ?_ ?_ | refine below_drew ?_ | refine below_alloc ?_ _ | refine below_ext ?_ _))))) ?_; rintro e w' ⟨z, rz, bb, yc, rfl, rfl, hz, hK⟩; (first | (have hz9 := yc.blk (new_blk_drew U zbox); obtain ⟨n0, n1, n2, n3, p0, p1, p2, p3⟩ := zfacts hz9; clear hz9) | skip)) | fail)
          all_goals (
            go_wp2_with fail
            go_meet
            case rel =>
              first
                | exact ⟨_, z, rz, bb, rfl, rfl, hz, gotk_new (by (with_reducible (repeat (first | exact Below.refl _ _ | refine below_set ?_ ?_ | refine below_drew ?_ | refine below_alloc ?_ _ | refine below_ext ?_ _)))) hK rfl⟩
                | exact ⟨_, z, rz, bb, rfl, rfl, hz, gotk_late (by (with_reducible (repeat (first | exact Below.refl _ _ | refine below_set ?_ ?_ | refine below_drew ?_ | refine below_alloc ?_ _ | refine below_ext ?_ _)))) hK rfl⟩
                | (have G := gotk_set (M := U) (by (with_reducible (repeat (first | exact Below.refl _ _ | refine below_set ?_ ?_ | refine below_drew ?_ | refine below_alloc ?_ _ | refine below_ext ?_ _)))) (Nat.le_refl _) (yc.blk (blk_drew (new_blk rfl))) hK (early_no belW1) rfl
                   exact ⟨_, z, rz, bb, rfl, rfl, hz, G.1, G.2.1, G.2.2.1, G.2.2.2.mono early_mono⟩)
                | fail)
        case rest =>
          obtain ⟨D, z, rz, bb, rfl, rfl, hz, hUD, bel6, hbox, hK⟩ := hcut
          obtain ⟨V, hV⟩ : ∃ V : World, V = wc := ⟨_, rfl⟩
          rw [← hV] at bel6 hbox hK ⊢
          clear hV
          have bT6 := (Ext.mk V bel6).blk bT1
          have bR6 := (Ext.mk V bel6).blk bR1
          dsimp only at bT6 bR6
          have bel0 : Below w0.heap.size w0 V := bel1.trans (bel6.mono bel1.size)
          have hsV : U.heap.size ≤ V.heap.size := bel6.size
          clear KEEP CP2 bT1 bU1 bR1
          rcases hz with ⟨hz, rfl⟩ | ⟨hz, rfl⟩
          · have hres : t.putP ((j : Int) :: []) u = some (.mk t.op t.n t.ty (t.kids.set j z)) := by rw [hput, hz]; simp
            clear hput hz
            obtain ⟨iT, hiT, hzT0, hzT1, hzT2⟩ := info_parts info_term
            have t3 := blk_cell bT6 3
            simp at t3
            go_upto_region 10 with (refine wpList_make_full _ rfl _ _ 27 rfl V.heap.size 29 iT (.agg #[.int .i64 0, .int .i64 0, .slice none 0 0, .slice none 0 0]) 4 Tryd.underlying27 hiT hzT0 hzT1 .i64 .i64 _ _ t.kids.length rfl rfl rfl rfl (by rw [hzT2]; omega) (by unfold maxLen; omega) (Nat.le_refl _) ?_; intro w1 own1 gr1)
            clear t3
            obtain ⟨cur, hN1, hcur⟩ := made_row own1 (by omega)
            have s1 : V.heap.size < w1.heap.size := (Array.getElem?_eq_some_iff.1 hN1).1
            have old1 : ∀ g, g < V.heap.size → w1.heap[g]? = V.heap[g]? := fun g hg => gr1.block g hg (fun e => by cases e)
            have belV1 : Below V.heap.size V w1 := (Below.refl _ _).grown gr1 (Nat.le_refl _) (fun g e => by cases e)
            clear own1 gr1
            have hBV : B + 3 ≤ V.heap.size := by omega
            obtain ⟨N, hN⟩ : ∃ N, N = V.heap.size := ⟨_, rfl⟩
            rw [← hN] at hN1 s1 ⊢
            have hNa : N ≤ V.heap.size := by omega
            have hNb : V.heap.size ≤ N := by omega
            clear hN
            have bT7 : w1.heap[B]? = _ := (old1 B (by omega)).trans bT6
            have t3 := blk_cell bT7 3
            simp at t3
            obtain ⟨cs, hcl, hsrc, hone, hat⟩ := kid_cells (w := w1) (b := kb) (o := ko) (kr := kr) (ks := t.kids) (fun i k hi => by
              obtain ⟨b', o', e, K⟩ := A.kid i k hi
              cases e
              exact K.keep ((old1 _ (by have := cell_lt K.c0; have h2 : W.heap.size ≤ U.heap.size := belW1.size; dsimp only at this; omega)).trans ((bel6.block _ (by have := cell_lt K.c0; have h2 : W.heap.size ≤ U.heap.size := belW1.size; dsimp only at this; omega)).trans (belW1.block _ (cell_lt K.c0)))))
            go_upto_region 11 with (refine wpList_copy4 rfl (.tmp 45) (.tmp 47) rfl rfl rfl rfl hN1 hcl hcur hsrc hone ?_; intro w2 hw2)
            clear t3 hsrc hone
            have hN2 : w2.heap[N]? = some (.cells cs.toArray 29 (0, 0)) := by rw [hw2]; exact setRow_heap w1 N cur _ _ _ hN1
            have old2 : ∀ g, g < N → w2.heap[g]? = V.heap[g]? := fun g hg => by rw [hw2, setRow_other w1 N g _ (by omega)]; exact old1 g (by omega)
            have s2 : w2.heap.size = w1.heap.size := by rw [hw2]; simp [World.setRow]
            have belV2 : Below V.heap.size V w2 := by rw [hw2]; exact belV1.trans ⟨rfl, rfl, rfl, by simp [World.setRow], fun k hk => setRow_other w1 N k _ (by omega)⟩
            clear hw2 belV1 hN1 old1 bT7
            have bD := hbox
            have hDV : D < V.heap.size := hbox.lt
            have e0 := (hbox.ext ⟨w2, belV2⟩)
            dsimp only at e0
            obtain ⟨e0, e1, e2, e3⟩ := e0
            obtain ⟨a0, a1, a2, a3⟩ := hat j c hj
            have n0 : w2.cell? ⟨N, j * 4, none⟩ = some (.int .i64 c.op) := by simp [World.cell?, hN2, a0]
            have n1 : w2.cell? ⟨N, j * 4 + 1, none⟩ = some (.int .i64 c.n) := by simp [World.cell?, hN2, a1]
            have n2 : w2.cell? ⟨N, j * 4 + 2, none⟩ = some (.slice (kr j).a c.ty.length (kr j).c) := by simp [World.cell?, hN2, a2]
            have n3 : w2.cell? ⟨N, j * 4 + 3, none⟩ = some (.slice (kr j).b c.kids.length (kr j).d) := by simp [World.cell?, hN2, a3]
            have p0 := blk_free hN2 (j * 4)
            have p1 := blk_free hN2 (j * 4 + 1)
            have p2 := blk_free hN2 (j * 4 + 2)
            have p3 := blk_free hN2 (j * 4 + 3)
            go_upto_region 12 with fail
            clear n0 n1 n2 n3 p0 p1 p2 p3 e0 e1 e2 e3 a0 a1 a2 a3
            generalize hY3 : World.setCell _ _ _ = w3
            have g1 := set_blk hN2 (j * 4) (.int .i64 z.op) rfl
            have g2 := set_blk g1 (j * 4 + 1) (.int .i64 z.n) rfl
            have g3 := set_blk g2 (j * 4 + 2) (.slice rz.a z.ty.length rz.c) rfl
            have g4 := set_blk g3 (j * 4 + 3) (.slice rz.b z.kids.length rz.d) hY3
            have old3 : ∀ g, g ≠ N → w3.heap[g]? = w2.heap[g]? := fun g hg => by rw [set_other hY3 hg, set_other rfl hg, set_other rfl hg, set_other rfl hg]
            have s3 : w3.heap.size = w2.heap.size := by rw [← hY3]; simp
            have bel3 : Below w0.heap.size w0 w3 := by
              rw [← hY3]
              exact ((((bel0.trans (belV2.mono bel0.size)).setCell (show w0.heap.size ≤ N by omega) _).setCell (show w0.heap.size ≤ N by omega) _).setCell (show w0.heap.size ≤ N by omega) _).setCell (show w0.heap.size ≤ N by omega) _
            clear hY3 g1 g2 g3 hN2
            have bT8 : w3.heap[B]? = _ := (old3 B (by omega)).trans ((old2 B (by omega)).trans bT6)
            have n3 := blk_cell bT8 3
            have p3 := blk_free bT8 3
            simp at n3
            go_upto_region 13 with fail
            clear n3 p3
            generalize hY4 : World.setCell _ _ _ = w4
            have bT9 := set_blk bT8 3 (.slice (some ⟨N, 0, none⟩) t.kids.length t.kids.length) hY4
            have bR9 : w4.heap[B + 1 + 1]? = _ := (set_other hY4 (by omega)).trans ((old3 (B + 1 + 1) (by omega)).trans ((old2 (B + 1 + 1) (by omega)).trans bR6))
            have old4 : ∀ g, g ≠ B → w4.heap[g]? = w3.heap[g]? := fun g hg => set_other hY4 hg
            have s4 : w4.heap.size = w3.heap.size := by rw [← hY4]; simp
            have bel4 : Below w0.heap.size w0 w4 := by rw [← hY4]; exact bel3.setCell (show w0.heap.size ≤ B by omega) _
            clear hY4 bT8 bT6 bR6 bel3
            have t0 := blk_cell bT9 0
            have t1 := blk_cell bT9 1
            have t2 := blk_cell bT9 2
            have t3 := blk_cell bT9 3
            simp at t0 t1 t2 t3
            have n0 := blk_cell bR9 0
            have n1 := blk_cell bR9 1
            have n2 := blk_cell bR9 2
            have n3 := blk_cell bR9 3
            have p0 := blk_free bR9 0
            have p1 := blk_free bR9 1
            have p2 := blk_free bR9 2
            have p3 := blk_free bR9 3
            simp at n0 n1 n2 n3
            go_wp2_with fail
            clear n0 n1 n2 n3 p0 p1 p2 p3 t0 t1 t2 t3
            generalize hY : World.setCell _ _ _ = Y
            obtain ⟨belD, hsame, hgr, r0, r1, r2, r3⟩ := ret4 (W := w0) bel4 (by omega) bR9 hY
            have hlset : (t.kids.set j z).length = t.kids.length := List.length_set
            refine bodyPost_ret (v := .tuple #[.agg #[.int .i64 t.op, .int .i64 t.n, .slice ra t.ty.length rc, .slice (some ⟨N, 0, none⟩) (t.kids.set j z).length t.kids.length], .bool true]) (by rw [hlset]; simp [results, Tryd.results110, go_sem, r0, r1, r2, r3]) rfl ?_
            have hWU : W.heap.size ≤ U.heap.size := belW1.size
            have hYs : w4.heap.size ≤ Y.heap.size := hgr.size
            have oldY : ∀ g, g < V.heap.size → g ≠ B → g ≠ B + 1 + 1 → Y.heap[g]? = V.heap[g]? := fun g hg h1 h2 => (hsame g h2).trans ((old4 g h1).trans ((old3 g (by omega)).trans (old2 g (by omega))))
            have hNY : Y.heap[N]? = _ := (hsame N (by omega)).trans ((old4 N (by omega)).trans g4)
            refine ⟨.mk t.op t.n t.ty (t.kids.set j z), ⟨ra, rc, some ⟨N, 0, none⟩, t.kids.length⟩, true, ⟨Y, belD⟩, rfl, rfl, .inl ⟨hres, rfl⟩, tm_at_k (w0 := w0) (j := j) (rz := rz) rfl A (fun g hg => ?_) (show N < Y.heap.size by omega) (by omega) (fun i k hi => ?_) ?_ (show W.heap.size ≤ Y.heap.size by omega) _⟩
            · exact (oldY g (by omega) (by omega) (by omega)).trans ((bel6.block g (by omega)).trans (belW1.block g hg))
            · have hcell : ∀ m v, ((((cs.toArray.setIfInBounds (j * 4) (Value.int .i64 z.op)).setIfInBounds (j * 4 + 1) (Value.int .i64 z.n)).setIfInBounds (j * 4 + 2) (Value.slice rz.a z.ty.length rz.c)).setIfInBounds (j * 4 + 3) (Value.slice rz.b z.kids.length rz.d))[m]? = some v → Y.cell? ⟨N, m, none⟩ = some v := fun m v hm => by simp only [World.cell?, hNY]; exact hm
              have hil : i < t.kids.length := by have := (List.getElem?_eq_some_iff.1 hi).1; omega
              rw [Nat.zero_add]
              by_cases e : i = j
              · subst e
                obtain ⟨v0, v1, v2, v3⟩ := get4_same (cs := cs) (j := i) (a0 := Value.int .i64 z.op) (a1 := Value.int .i64 z.n) (a2 := Value.slice rz.a z.ty.length rz.c) (a3 := Value.slice rz.b z.kids.length rz.d) (by omega)
                rw [List.getElem?_set_self hil] at hi
                cases hi
                rw [if_pos rfl]
                exact ⟨hcell _ _ v0, hcell _ _ v1, hcell _ _ v2, hcell _ _ v3⟩
              · rw [List.getElem?_set_ne (by omega)] at hi
                rw [if_neg e]
                obtain ⟨v0, v1, v2, v3⟩ := hat i k hi
                exact ⟨hcell _ _ ((get4_other (by omega)).trans v0), hcell _ _ ((get4_other (by omega)).trans v1), hcell _ _ ((get4_other (by omega)).trans v2), hcell _ _ ((get4_other (by omega)).trans v3)⟩
            · exact (hK.step (by omega) fun g (hg : g < W.heap.size ∨ U.heap.size ≤ g) hl => oldY g hl (by omega) (by omega)).mono fun g (hg : g < W.heap.size ∨ U.heap.size ≤ g) => by show g < W.heap.size ∨ w0.heap.size ≤ g; omega
          · have hpn : t.putP ((j : Int) :: []) u = none := by rw [hput, hz]; rfl
            clear hput hz
            have n0 := blk_cell bR6 0
            have n1 := blk_cell bR6 1
            have n2 := blk_cell bR6 2
            have n3 := blk_cell bR6 3
            have p0 := blk_free bR6 0
            have p1 := blk_free bR6 1
            have p2 := blk_free bR6 2
            have p3 := blk_free bR6 3
            simp at n0 n1 n2 n3
            go_wp2_with fail
            clear n0 n1 n2 n3 p0 p1 p2 p3
            generalize hY : World.setCell _ _ _ = Y
            obtain ⟨belD, hsame, hgr, r0, r1, r2, r3⟩ := ret4 (W := w0) bel0 (by omega) bR6 hY
            refine bodyPost_ret (v := .tuple #[.agg #[.int .i64 (zeroT : Tm).op, .int .i64 (zeroT : Tm).n, .slice (⟨none, 0, none, 0⟩ : TV).a (zeroT : Tm).ty.length (⟨none, 0, none, 0⟩ : TV).c, .slice (⟨none, 0, none, 0⟩ : TV).b (zeroT : Tm).kids.length (⟨none, 0, none, 0⟩ : TV).d], .bool false]) (by simp [Tm.op, Tm.n, Tm.ty, Tm.kids, results, Tryd.results110, go_sem, r0, r1, r2, r3]) rfl ?_
            exact ⟨zeroT, ⟨none, 0, none, 0⟩, false, ⟨Y, belD⟩, rfl, rfl, .inr ⟨hpn, rfl⟩, zero_k _ _⟩
      · have hpc2 : 1 < pc := by omega
        have hq1 : (1 : Int) ≤ (p.length : Int) + 1 := by omega
        have hq2 : (p.length : Int) + 1 ≤ (pc : Int) := by omega
        have hq3 : (1 : Int) < (pc : Int) := by omega
        have CP : Hid (∀ w', Below W.heap.size W w' → Calls Tryd.prog 110 #[(kr j).val c, .slice (some ⟨b1, o1 + 1, none⟩) p.length (pc - 1), (TV.mk ua uc ub ud).val u] w' (PutA W.heap.size w' c p u)) := fun w' b => ih hsub okc hu ht (by first | (simp; done) | (simp at hpl; omega)) (by first | (simp; done) | omega) ⟨w', b⟩
        unfold TV.val at CP
        have q0 : ∀ w', Below W.heap.size W w' → w'.cell? ⟨kb, ko + j * 4, none⟩ = some (.int .i64 c.op) := fun w' b => (Ext.mk w' b).cell K4.c0
        have q1 : ∀ w', Below W.heap.size W w' → w'.cell? ⟨kb, ko + j * 4 + 1, none⟩ = some (.int .i64 c.n) := fun w' b => (Ext.mk w' b).cell K4.c1
        have q2 : ∀ w', Below W.heap.size W w' → w'.cell? ⟨kb, ko + j * 4 + 2, none⟩ = some (.slice (kr j).a c.ty.length (kr j).c) := fun w' b => (Ext.mk w' b).cell K4.c2
        have q3 : ∀ w', Below W.heap.size W w' → w'.cell? ⟨kb, ko + j * 4 + 3, none⟩ = some (.slice (kr j).b c.kids.length (kr j).d) := fun w' b => (Ext.mk w' b).cell K4.c3
        have hk3 : t.kids.length ≤ 3 := by have := ok.node.many; have := manyO_le t.op; omega
        clear K4 hrb okc
        go_upto_region 6 with (refine Calls.mono IRC ?_; clear IRC; rintro e w' ⟨rfl, y1, rfl⟩)
        -- behind the check
        have bT1 := y1.blk bT
        have bU1 := y1.blk bU
        have bR1 := y1.blk bR
        have bel1 : Below w0.heap.size w0 y1.w := below_ext belA y1
        have belW1 : Below W.heap.size W y1.w := below_ext belW y1
        have hs1 : B + 3 ≤ y1.w.heap.size := by have := y1.size; omega
        obtain ⟨U, hU⟩ : ∃ U, U = y1.w := ⟨_, rfl⟩
        rw [← hU] at bT1 bU1 bR1 bel1 belW1 hs1 ⊢
        clear hU y1 m00 t0 t1 t2 t3 m0 bT bU bR belA belW sA
        have KEEP : Hid (∀ w', Below U.heap.size U w' → w'.cell? ⟨B, 3, none⟩ = some (.slice (some ⟨kb, ko, none⟩) t.kids.length rd) ∧ (w'.cell? ⟨kb, ko + j * 4, none⟩ = some (.int .i64 c.op) ∧ w'.cell? ⟨kb, ko + j * 4 + 1, none⟩ = some (.int .i64 c.n) ∧ w'.cell? ⟨kb, ko + j * 4 + 2, none⟩ = some (.slice (kr j).a c.ty.length (kr j).c) ∧ w'.cell? ⟨kb, ko + j * 4 + 3, none⟩ = some (.slice (kr j).b c.kids.length (kr j).d)) ∧ (w'.cell? ⟨B + 1, 0, none⟩ = some (.int .i64 u.op) ∧ w'.cell? ⟨B + 1, 1, none⟩ = some (.int .i64 u.n) ∧ w'.cell? ⟨B + 1, 2, none⟩ = some (.slice ua u.ty.length uc) ∧ w'.cell? ⟨B + 1, 3, none⟩ = some (.slice ub u.kids.length ud))) := fun w' b => by
          have bw := belW1.trans (b.mono belW1.size)
          exact ⟨blk_cell ((Ext.mk w' b).blk bT1) 3, ⟨q0 w' bw, q1 w' bw, q2 w' bw, q3 w' bw⟩, blk_cell ((Ext.mk w' b).blk bU1) 0, blk_cell ((Ext.mk w' b).blk bU1) 1, blk_cell ((Ext.mk w' b).blk bU1) 2, blk_cell ((Ext.mk w' b).blk bU1) 3⟩
        have CP2 : Hid (∀ w', Below U.heap.size U w' → Calls Tryd.prog 110 #[.agg #[.int .i64 c.op, .int .i64 c.n, .slice (kr j).a c.ty.length (kr j).c, .slice (kr j).b c.kids.length (kr j).d], .slice (some ⟨b1, o1 + 1, none⟩) p.length (pc - 1), .agg #[.int .i64 u.op, .int .i64 u.n, .slice ua u.ty.length uc, .slice ub u.kids.length ud]] w' (PutA W.heap.size w' c p u)) := fun w' b => CP.out w' (belW1.trans (b.mono belW1.size))
        clear CP q0 q1 q2 q3
        go_cut [9, 10] from 26 (fun s9 s10 wc => GotK W.heap.size U c p u s9 s10 wc)
        case first =>
          go_region_held3 (fun w' => w'.cell? ⟨B, 3, none⟩ = some (.slice (some ⟨kb, ko, none⟩) t.kids.length rd) ∧ (w'.cell? ⟨kb, ko + j * 4, none⟩ = some (.int .i64 c.op) ∧ w'.cell? ⟨kb, ko + j * 4 + 1, none⟩ = some (.int .i64 c.n) ∧ w'.cell? ⟨kb, ko + j * 4 + 2, none⟩ = some (.slice (kr j).a c.ty.length (kr j).c) ∧ w'.cell? ⟨kb, ko + j * 4 + 3, none⟩ = some (.slice (kr j).b c.kids.length (kr j).d)) ∧ (w'.cell? ⟨B + 1, 0, none⟩ = some (.int .i64 u.op) ∧ w'.cell? ⟨B + 1, 1, none⟩ = some (.int .i64 u.n) ∧ w'.cell? ⟨B + 1, 2, none⟩ = some (.slice ua u.ty.length uc) ∧ w'.cell? ⟨B + 1, 3, none⟩ = some (.slice ub u.kids.length ud))) ((refine KEEP.out _ ?_; (with_reducible (repeat (first | exact Below.refl _ _ | refine below_set ?_ ?_ | refine below_drew ?_ | refine below_alloc ?_ _ | refine below_ext ?_ _)))))
            (first | (go_at_call 110; refine Calls.mono (CP2.out _ (by (with_reducible (repeat (first | exact Below.refl _ _ | refine below_set ?_ ?_ | refine below_drew ?_ | refine below_alloc ?_ _ | refine below_ext ?_ _))))) ?_; rintro e w' ⟨z, rz, bb, yc, rfl, rfl, hz, hK⟩; (first | (have hz9 := yc.blk (new_blk_drew U zbox); obtain ⟨n0, n1, n2, n3, p0, p1, p2, p3⟩ := zfacts hz9; clear hz9) | skip)) | fail)
          all_goals (
            go_wp2_with fail
            go_meet
            case rel =>
              first
                | exact ⟨_, z, rz, bb, rfl, rfl, hz, gotk_new (by (with_reducible (repeat (first | exact Below.refl _ _ | refine below_set ?_ ?_ | refine below_drew ?_ | refine below_alloc ?_ _ | refine below_ext ?_ _)))) hK rfl⟩
                | exact ⟨_, z, rz, bb, rfl, rfl, hz, gotk_late (by (with_reducible (repeat (first | exact Below.refl _ _ | refine below_set ?_ ?_ | refine below_drew ?_ | refine below_alloc ?_ _ | refine below_ext ?_ _)))) hK rfl⟩
                | (have G := gotk_set (M := U) (by (with_reducible (repeat (first | exact Below.refl _ _ | refine below_set ?_ ?_ | refine below_drew ?_ | refine below_alloc ?_ _ | refine below_ext ?_ _)))) (Nat.le_refl _) (yc.blk (blk_drew (new_blk rfl))) hK (early_no belW1) rfl
                   exact ⟨_, z, rz, bb, rfl, rfl, hz, G.1, G.2.1, G.2.2.1, G.2.2.2.mono early_mono⟩)
                | fail)
        case rest =>
          obtain ⟨D, z, rz, bb, rfl, rfl, hz, hUD, bel6, hbox, hK⟩ := hcut
          obtain ⟨V, hV⟩ : ∃ V : World, V = wc := ⟨_, rfl⟩
          rw [← hV] at bel6 hbox hK ⊢
          clear hV
          have bT6 := (Ext.mk V bel6).blk bT1
          have bR6 := (Ext.mk V bel6).blk bR1
          dsimp only at bT6 bR6
          have bel0 : Below w0.heap.size w0 V := bel1.trans (bel6.mono bel1.size)
          have hsV : U.heap.size ≤ V.heap.size := bel6.size
          clear KEEP CP2 bT1 bU1 bR1
          rcases hz with ⟨hz, rfl⟩ | ⟨hz, rfl⟩
          · have hres : t.putP ((j : Int) :: p) u = some (.mk t.op t.n t.ty (t.kids.set j z)) := by rw [hput, hz]; simp
            clear hput hz
            obtain ⟨iT, hiT, hzT0, hzT1, hzT2⟩ := info_parts info_term
            have t3 := blk_cell bT6 3
            simp at t3
            go_upto_region 10 with (refine wpList_make_full _ rfl _ _ 27 rfl V.heap.size 29 iT (.agg #[.int .i64 0, .int .i64 0, .slice none 0 0, .slice none 0 0]) 4 Tryd.underlying27 hiT hzT0 hzT1 .i64 .i64 _ _ t.kids.length rfl rfl rfl rfl (by rw [hzT2]; omega) (by unfold maxLen; omega) (Nat.le_refl _) ?_; intro w1 own1 gr1)
            clear t3
            obtain ⟨cur, hN1, hcur⟩ := made_row own1 (by omega)
            have s1 : V.heap.size < w1.heap.size := (Array.getElem?_eq_some_iff.1 hN1).1
            have old1 : ∀ g, g < V.heap.size → w1.heap[g]? = V.heap[g]? := fun g hg => gr1.block g hg (fun e => by cases e)
            have belV1 : Below V.heap.size V w1 := (Below.refl _ _).grown gr1 (Nat.le_refl _) (fun g e => by cases e)
            clear own1 gr1
            have hBV : B + 3 ≤ V.heap.size := by omega
            obtain ⟨N, hN⟩ : ∃ N, N = V.heap.size := ⟨_, rfl⟩
            rw [← hN] at hN1 s1 ⊢
            have hNa : N ≤ V.heap.size := by omega
            have hNb : V.heap.size ≤ N := by omega
            clear hN
            have bT7 : w1.heap[B]? = _ := (old1 B (by omega)).trans bT6
            have t3 := blk_cell bT7 3
            simp at t3
            obtain ⟨cs, hcl, hsrc, hone, hat⟩ := kid_cells (w := w1) (b := kb) (o := ko) (kr := kr) (ks := t.kids) (fun i k hi => by
              obtain ⟨b', o', e, K⟩ := A.kid i k hi
              cases e
              exact K.keep ((old1 _ (by have := cell_lt K.c0; have h2 : W.heap.size ≤ U.heap.size := belW1.size; dsimp only at this; omega)).trans ((bel6.block _ (by have := cell_lt K.c0; have h2 : W.heap.size ≤ U.heap.size := belW1.size; dsimp only at this; omega)).trans (belW1.block _ (cell_lt K.c0)))))
            go_upto_region 11 with (refine wpList_copy4 rfl (.tmp 45) (.tmp 47) rfl rfl rfl rfl hN1 hcl hcur hsrc hone ?_; intro w2 hw2)
            clear t3 hsrc hone
            have hN2 : w2.heap[N]? = some (.cells cs.toArray 29 (0, 0)) := by rw [hw2]; exact setRow_heap w1 N cur _ _ _ hN1
            have old2 : ∀ g, g < N → w2.heap[g]? = V.heap[g]? := fun g hg => by rw [hw2, setRow_other w1 N g _ (by omega)]; exact old1 g (by omega)
            have s2 : w2.heap.size = w1.heap.size := by rw [hw2]; simp [World.setRow]
            have belV2 : Below V.heap.size V w2 := by rw [hw2]; exact belV1.trans ⟨rfl, rfl, rfl, by simp [World.setRow], fun k hk => setRow_other w1 N k _ (by omega)⟩
            clear hw2 belV1 hN1 old1 bT7
            have bD := hbox
            have hDV : D < V.heap.size := hbox.lt
            have e0 := (hbox.ext ⟨w2, belV2⟩)
            dsimp only at e0
            obtain ⟨e0, e1, e2, e3⟩ := e0
            obtain ⟨a0, a1, a2, a3⟩ := hat j c hj
            have n0 : w2.cell? ⟨N, j * 4, none⟩ = some (.int .i64 c.op) := by simp [World.cell?, hN2, a0]
            have n1 : w2.cell? ⟨N, j * 4 + 1, none⟩ = some (.int .i64 c.n) := by simp [World.cell?, hN2, a1]
            have n2 : w2.cell? ⟨N, j * 4 + 2, none⟩ = some (.slice (kr j).a c.ty.length (kr j).c) := by simp [World.cell?, hN2, a2]
            have n3 : w2.cell? ⟨N, j * 4 + 3, none⟩ = some (.slice (kr j).b c.kids.length (kr j).d) := by simp [World.cell?, hN2, a3]
            have p0 := blk_free hN2 (j * 4)
            have p1 := blk_free hN2 (j * 4 + 1)
            have p2 := blk_free hN2 (j * 4 + 2)
            have p3 := blk_free hN2 (j * 4 + 3)
            go_upto_region 12 with fail
            clear n0 n1 n2 n3 p0 p1 p2 p3 e0 e1 e2 e3 a0 a1 a2 a3
            generalize hY3 : World.setCell _ _ _ = w3
            have g1 := set_blk hN2 (j * 4) (.int .i64 z.op) rfl
            have g2 := set_blk g1 (j * 4 + 1) (.int .i64 z.n) rfl
            have g3 := set_blk g2 (j * 4 + 2) (.slice rz.a z.ty.length rz.c) rfl
            have g4 := set_blk g3 (j * 4 + 3) (.slice rz.b z.kids.length rz.d) hY3
            have old3 : ∀ g, g ≠ N → w3.heap[g]? = w2.heap[g]? := fun g hg => by rw [set_other hY3 hg, set_other rfl hg, set_other rfl hg, set_other rfl hg]
            have s3 : w3.heap.size = w2.heap.size := by rw [← hY3]; simp
            have bel3 : Below w0.heap.size w0 w3 := by
              rw [← hY3]
              exact ((((bel0.trans (belV2.mono bel0.size)).setCell (show w0.heap.size ≤ N by omega) _).setCell (show w0.heap.size ≤ N by omega) _).setCell (show w0.heap.size ≤ N by omega) _).setCell (show w0.heap.size ≤ N by omega) _
            clear hY3 g1 g2 g3 hN2
            have bT8 : w3.heap[B]? = _ := (old3 B (by omega)).trans ((old2 B (by omega)).trans bT6)
            have n3 := blk_cell bT8 3
            have p3 := blk_free bT8 3
            simp at n3
            go_upto_region 13 with fail
            clear n3 p3
            generalize hY4 : World.setCell _ _ _ = w4
            have bT9 := set_blk bT8 3 (.slice (some ⟨N, 0, none⟩) t.kids.length t.kids.length) hY4
            have bR9 : w4.heap[B + 1 + 1]? = _ := (set_other hY4 (by omega)).trans ((old3 (B + 1 + 1) (by omega)).trans ((old2 (B + 1 + 1) (by omega)).trans bR6))
            have old4 : ∀ g, g ≠ B → w4.heap[g]? = w3.heap[g]? := fun g hg => set_other hY4 hg
            have s4 : w4.heap.size = w3.heap.size := by rw [← hY4]; simp
            have bel4 : Below w0.heap.size w0 w4 := by rw [← hY4]; exact bel3.setCell (show w0.heap.size ≤ B by omega) _
            clear hY4 bT8 bT6 bR6 bel3
            have t0 := blk_cell bT9 0
            have t1 := blk_cell bT9 1
            have t2 := blk_cell bT9 2
            have t3 := blk_cell bT9 3
            simp at t0 t1 t2 t3
            have n0 := blk_cell bR9 0
            have n1 := blk_cell bR9 1
            have n2 := blk_cell bR9 2
            have n3 := blk_cell bR9 3
            have p0 := blk_free bR9 0
            have p1 := blk_free bR9 1
            have p2 := blk_free bR9 2
            have p3 := blk_free bR9 3
            simp at n0 n1 n2 n3
            go_wp2_with fail
            clear n0 n1 n2 n3 p0 p1 p2 p3 t0 t1 t2 t3
            generalize hY : World.setCell _ _ _ = Y
            obtain ⟨belD, hsame, hgr, r0, r1, r2, r3⟩ := ret4 (W := w0) bel4 (by omega) bR9 hY
            have hlset : (t.kids.set j z).length = t.kids.length := List.length_set
            refine bodyPost_ret (v := .tuple #[.agg #[.int .i64 t.op, .int .i64 t.n, .slice ra t.ty.length rc, .slice (some ⟨N, 0, none⟩) (t.kids.set j z).length t.kids.length], .bool true]) (by rw [hlset]; simp [results, Tryd.results110, go_sem, r0, r1, r2, r3]) rfl ?_
            have hWU : W.heap.size ≤ U.heap.size := belW1.size
            have hYs : w4.heap.size ≤ Y.heap.size := hgr.size
            have oldY : ∀ g, g < V.heap.size → g ≠ B → g ≠ B + 1 + 1 → Y.heap[g]? = V.heap[g]? := fun g hg h1 h2 => (hsame g h2).trans ((old4 g h1).trans ((old3 g (by omega)).trans (old2 g (by omega))))
            have hNY : Y.heap[N]? = _ := (hsame N (by omega)).trans ((old4 N (by omega)).trans g4)
            refine ⟨.mk t.op t.n t.ty (t.kids.set j z), ⟨ra, rc, some ⟨N, 0, none⟩, t.kids.length⟩, true, ⟨Y, belD⟩, rfl, rfl, .inl ⟨hres, rfl⟩, tm_at_k (w0 := w0) (j := j) (rz := rz) rfl A (fun g hg => ?_) (show N < Y.heap.size by omega) (by omega) (fun i k hi => ?_) ?_ (show W.heap.size ≤ Y.heap.size by omega) _⟩
            · exact (oldY g (by omega) (by omega) (by omega)).trans ((bel6.block g (by omega)).trans (belW1.block g hg))
            · have hcell : ∀ m v, ((((cs.toArray.setIfInBounds (j * 4) (Value.int .i64 z.op)).setIfInBounds (j * 4 + 1) (Value.int .i64 z.n)).setIfInBounds (j * 4 + 2) (Value.slice rz.a z.ty.length rz.c)).setIfInBounds (j * 4 + 3) (Value.slice rz.b z.kids.length rz.d))[m]? = some v → Y.cell? ⟨N, m, none⟩ = some v := fun m v hm => by simp only [World.cell?, hNY]; exact hm
              have hil : i < t.kids.length := by have := (List.getElem?_eq_some_iff.1 hi).1; omega
              rw [Nat.zero_add]
              by_cases e : i = j
              · subst e
                obtain ⟨v0, v1, v2, v3⟩ := get4_same (cs := cs) (j := i) (a0 := Value.int .i64 z.op) (a1 := Value.int .i64 z.n) (a2 := Value.slice rz.a z.ty.length rz.c) (a3 := Value.slice rz.b z.kids.length rz.d) (by omega)
                rw [List.getElem?_set_self hil] at hi
                cases hi
                rw [if_pos rfl]
                exact ⟨hcell _ _ v0, hcell _ _ v1, hcell _ _ v2, hcell _ _ v3⟩
              · rw [List.getElem?_set_ne (by omega)] at hi
                rw [if_neg e]
                obtain ⟨v0, v1, v2, v3⟩ := hat i k hi
                exact ⟨hcell _ _ ((get4_other (by omega)).trans v0), hcell _ _ ((get4_other (by omega)).trans v1), hcell _ _ ((get4_other (by omega)).trans v2), hcell _ _ ((get4_other (by omega)).trans v3)⟩
            · exact (hK.step (by omega) fun g (hg : g < W.heap.size ∨ U.heap.size ≤ g) hl => oldY g hl (by omega) (by omega)).mono fun g (hg : g < W.heap.size ∨ U.heap.size ≤ g) => by show g < W.heap.size ∨ w0.heap.size ≤ g; omega
          · have hpn : t.putP ((j : Int) :: p) u = none := by rw [hput, hz]; rfl
            clear hput hz
            have n0 := blk_cell bR6 0
            have n1 := blk_cell bR6 1
            have n2 := blk_cell bR6 2
            have n3 := blk_cell bR6 3
            have p0 := blk_free bR6 0
            have p1 := blk_free bR6 1
            have p2 := blk_free bR6 2
            have p3 := blk_free bR6 3
            simp at n0 n1 n2 n3
            go_wp2_with fail
            clear n0 n1 n2 n3 p0 p1 p2 p3
            generalize hY : World.setCell _ _ _ = Y
            obtain ⟨belD, hsame, hgr, r0, r1, r2, r3⟩ := ret4 (W := w0) bel0 (by omega) bR6 hY
            refine bodyPost_ret (v := .tuple #[.agg #[.int .i64 (zeroT : Tm).op, .int .i64 (zeroT : Tm).n, .slice (⟨none, 0, none, 0⟩ : TV).a (zeroT : Tm).ty.length (⟨none, 0, none, 0⟩ : TV).c, .slice (⟨none, 0, none, 0⟩ : TV).b (zeroT : Tm).kids.length (⟨none, 0, none, 0⟩ : TV).d], .bool false]) (by simp [Tm.op, Tm.n, Tm.ty, Tm.kids, results, Tryd.results110, go_sem, r0, r1, r2, r3]) rfl ?_
            exact ⟨zeroT, ⟨none, 0, none, 0⟩, false, ⟨Y, belD⟩, rfl, rfl, .inr ⟨hpn, rfl⟩, zero_k _ _⟩

end Go.Proofs.YtncfbljablbglaaDoor
