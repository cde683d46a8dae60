
/- The default term of a type, plainly; terms whose kids are laid at once. Nothing is walked here. -/
import Derived.Test.YtoefeijnnnioeaaDoorKKidsSpec
import Derived.Test.YtoefeijnnnioeaaDoorGF
set_option linter.unusedVariables false
set_option linter.unusedSimpArgs false
namespace Go.Proofs.YtoefeijnnnioeaaDoor
open Go.RowKit

/-- The default term. -/
def Ty.dft : Ty → Tm
  | .leaf => .mk 1 0 [] []
  | .two c a b => if c = 1 then .mk 4 0 [] [a.dft, b.dft] else if c = 2 then .mk 6 0 b.enc [a.dft] else .mk 9 (gradeOf c) a.enc [b.dft]
  | .one c a => .mk 11 (gradeOf c) [] [a.dft]
theorem Ty.dft_wt (T : Ty) : T.enc.length ≤ 40 → T.dft.wt ≤ 41 * T.enc.length := by
  induction T with
  | leaf => intro _; simp [Ty.dft, Tm.wt, Tm.wtL, Ty.enc]
  | two c a b iha ihb =>
    intro h
    simp [Ty.enc] at h ⊢
    have ha := iha (by omega)
    have hb := ihb (by omega)
    simp only [Ty.dft]
    split
    · rw [Tm.wt_eq]; simp [Tm.ty, Tm.kids, Tm.wtL]; omega
    · split
      · rw [Tm.wt_eq]; simp [Tm.ty, Tm.kids, Tm.wtL]; omega
      · rw [Tm.wt_eq]; simp [Tm.ty, Tm.kids, Tm.wtL]; omega
  | one c a ih =>
    intro h
    simp [Ty.enc] at h ⊢
    have ha := ih (by omega)
    simp only [Ty.dft]
    rw [Tm.wt_eq]; simp [Tm.ty, Tm.kids, Tm.wtL]; omega
/-- What DefaultTerm answers. -/
def DefV (P : Prop) (l : List Int) (o : Tm) (b : Bool) : Prop := (P ∧ (∃ T : Ty, T.Ok ∧ l = T.enc ∧ T.enc.length ≤ 40 ∧ o = T.dft) ∧ b = true) ∨ (¬ P ∧ o = zeroT ∧ b = false)

theorem DefV.wt {P : Prop} {l : List Int} {o : Tm} {b : Bool} (h : DefV P l o b) : o.wt ≤ 2000 := by
  rcases h with ⟨_, ⟨T, _, _, h40, rfl⟩, _⟩ | ⟨_, rfl, _⟩
  · have := T.dft_wt h40
    omega
  · simp [zeroT, Tm.wt, Tm.wtL]
def cell4 (k : Tm) (r : TV) : List Value := [.int .i64 k.op, .int .i64 k.n, .slice r.a k.ty.length r.c, .slice r.b k.kids.length r.d]
theorem row_lit {w V : World} {e : TypeId} {xs : List Value} {n size : Nat} (hn : xs.length = n * size) (hs : 1 ≤ size) (hm : n ≤ 1000) (hV : w.alloc (.cells xs.toArray e) = V) : V.ownsRow 0 e size (.slice (some ⟨w.heap.size, 0, none⟩) n n) n xs := by
  refine ⟨hn, .inr ⟨w.heap.size, n, xs.toArray, rfl, Nat.zero_le _, new_blk hV, Nat.le_refl _, by unfold maxLen; omega, by simpa using hn, ?_⟩⟩
  exact List.take_of_length_le (by simp; omega)
/-- One kid, laid in a new block. -/
theorem own_one {w V : World} {op n : Int} {l : List Int} {a : Option Addr} {c : Nat} {k : Tm} {r : TV} {NB : Nat → Prop} (hk : TmOwn w k r NB) (hty : w.ownsRow 0 3 1 (.slice a l.length c) l.length (l.map (Value.int .i64))) (hd : ∀ g, NB g → ob a ≠ some g)
    (hV : w.alloc (.cells #[.int .i64 k.op, .int .i64 k.n, .slice r.a k.ty.length r.c, .slice r.b k.kids.length r.d] 33) = V) :
    TmOwn V (.mk op n l [k]) ⟨a, c, some ⟨w.heap.size, 0, none⟩, 1⟩ (fun g => ob a = some g ∨ some w.heap.size = some g ∨ NB g) := by
  have kV : TmOwn V k r NB := by rw [← hV]; exact hk.ext ((Ext.self w).alloc _)
  have tV : V.ownsRow 0 3 1 (.slice a l.length c) l.length (l.map (Value.int .i64)) := by rw [← hV]; exact owns_ext hty ((Ext.self w).alloc _)
  have hla : ∀ g, ob a = some g → g < w.heap.size := fun g e => (hty.lt g (by rw [ob_eq]; exact e)).2
  have hlk := hk.lt
  refine .mk _ _ (fun _ => r) (cell4 k r) (fun _ => NB) _ tV (row_lit (n := 1) (size := 4) rfl (by omega) (by omega) hV) (fun i u hi => ?_) (fun i u hi => ?_) (fun i j g hi hj hij => ?_) (fun i g _ e => ⟨hd g e, ?_⟩) (fun g e => ?_) (fun g => ?_)
  · match i, hi with
    | 0, hi => cases hi; exact ⟨rfl, rfl, rfl, rfl⟩
  · match i, hi with
    | 0, hi => cases hi; exact kV
  · simp [Tm.kids] at hi hj
    omega
  · have := hlk g e
    simp [ob]
    omega
  · have := hla g e
    simp [ob]
    omega
  · simp [ob, Tm.kids]
/-- Two kids, laid in a new block. -/
theorem own_two {w V : World} {op n : Int} {k k2 : Tm} {r r2 : TV} {NB NB2 : Nat → Prop} (hk : TmOwn w k r NB) (hk2 : TmOwn w k2 r2 NB2) (hd : ∀ g, NB g → NB2 g → False)
    (hV : w.alloc (.cells #[.int .i64 k.op, .int .i64 k.n, .slice r.a k.ty.length r.c, .slice r.b k.kids.length r.d, .int .i64 k2.op, .int .i64 k2.n, .slice r2.a k2.ty.length r2.c, .slice r2.b k2.kids.length r2.d] 33) = V) :
    TmOwn V (.mk op n [] [k, k2]) ⟨none, 0, some ⟨w.heap.size, 0, none⟩, 2⟩ (fun g => some w.heap.size = some g ∨ NB g ∨ NB2 g) := by
  have kV : TmOwn V k r NB := by rw [← hV]; exact hk.ext ((Ext.self w).alloc _)
  have kV2 : TmOwn V k2 r2 NB2 := by rw [← hV]; exact hk2.ext ((Ext.self w).alloc _)
  have hlk := hk.lt
  have hlk2 := hk2.lt
  refine .mk _ _ (fun i => if i = 0 then r else r2) (cell4 k r ++ cell4 k2 r2) (fun i => if i = 0 then NB else NB2) _ (World.ownsRow_nil _ _ _ _) (row_lit (n := 2) (size := 4) rfl (by omega) (by omega) hV) (fun i u hi => ?_) (fun i u hi => ?_) (fun i j g hi hj hij e1 e2 => ?_) (fun i g hi e => ⟨by simp [ob], ?_⟩) (fun g e => by simp [ob] at e) (fun g => ?_)
  · match i, hi with
    | 0, hi => cases hi; exact ⟨rfl, rfl, rfl, rfl⟩
    | 1, hi => cases hi; exact ⟨rfl, rfl, rfl, rfl⟩
  · match i, hi with
    | 0, hi => cases hi; exact kV
    | 1, hi => cases hi; exact kV2
  · simp [Tm.kids] at hi hj
    match i, j, hi, hj with
    | 0, 0, _, _ => omega
    | 0, 1, _, _ => exact hd g e1 e2
    | 1, 0, _, _ => exact hd g e2 e1
    | 1, 1, _, _ => omega
  · simp [Tm.kids] at hi
    have : g < w.heap.size := by
      match i, hi with
      | 0, _ => exact hlk g e
      | 1, _ => exact hlk2 g e
    simp [ob]
    omega
  · constructor
    · rintro (e | e | e)
      · exact .inr (.inl e)
      · exact .inr (.inr ⟨0, by simp [Tm.kids], e⟩)
      · exact .inr (.inr ⟨1, by simp [Tm.kids], e⟩)
    · rintro (e | e | ⟨i, hi, e⟩)
      · simp [ob] at e
      · exact .inl e
      · simp [Tm.kids] at hi
        match i, hi with
        | 0, _ => exact .inr (.inl e)
        | 1, _ => exact .inr (.inr e)
end Go.Proofs.YtoefeijnnnioeaaDoor
