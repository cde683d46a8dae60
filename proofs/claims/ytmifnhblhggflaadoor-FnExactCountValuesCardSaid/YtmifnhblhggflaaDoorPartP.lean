
/- The program's parts of types: slices of the type itself, in a new list. -/
import Derived.Test.YtmifnhblhggflaaDoorTypeI
import Derived.Test.YtmifnhblhggflaaDoorNumRet
import Derived.Test.YtmifnhblhggflaaDoorPartM
import Derived.Maps.AppendAt
namespace Go.Proofs.YtmifnhblhggflaaDoor
open Go.RowKit

theorem info_ints : (Tryd.prog.info? 22).map (fun i => (i.zero, i.size, i.bytes)) = some (some (.slice none 0 0), 1, 24) := by kernel_rfl
/-- The slices of a list in which these trees stand one behind the other. -/
def sls (b : Nat) : Nat → List Ty → List Value | _, [] => [] | o, t :: ts => .slice (some ⟨b, o, none⟩) t.enc.length t.enc.length :: sls b (o + t.enc.length) ts
theorem sls_len (b o : Nat) (ts : List Ty) : (sls b o ts).length = ts.length := by
  induction ts generalizing o with
  | nil => rfl
  | cons t ts ih => simp [sls, ih]
theorem encs_append (xs ys : List Ty) : Ty.encs (xs ++ ys) = Ty.encs xs ++ Ty.encs ys := by
  induction xs with
  | nil => rfl
  | cons t ts ih => simp [Ty.encs, ih]
theorem sls_snoc (b o : Nat) (ts : List Ty) (t : Ty) : sls b o (ts ++ [t]) = sls b o ts ++ [.slice (some ⟨b, o + (Ty.encs ts).length, none⟩) t.enc.length t.enc.length] := by
  induction ts generalizing o with
  | nil => simp [sls, Ty.encs]
  | cons u ts ih => simp [sls, ih, Ty.encs, Nat.add_assoc]

theorem cell_one_is (w : World) (x : Value) (t : TypeId) (n : Nat) (hn : n = w.heap.size) : ∀ j u, [x][j]? = some u → (w.alloc (.cells #[x] t)).cell? ((⟨n, 0, none⟩ : Addr).add j) = some u := by
  subst hn
  exact cell_one_new w x t

set_option maxHeartbeats 4000000 in
theorem partsWithin_ans {W : World} (F : Forms W) {b o c : Nat} {cc : Int} {ps : List Ty} (hok : ∀ t ∈ ps, t.Ok) {l : List Int} (hl : l = cc :: Ty.encs ps) (hr : Row W (Value.int .i64) (some ⟨b, o, none⟩) l) (hl1 : l.length ≤ 1000) (hc : l.length ≤ c) (x : Ext W) :
    Calls Tryd.prog 58 #[.slice (some ⟨b, o, none⟩) l.length c] x.w (NewRow W 23 22 id (sls b (o + 1) ps)) := by
  obtain ⟨i0, hi0, hz0, hz1, hz2⟩ := info_parts info_ints
  have HL := Lib.hid hl
  have hll : l.length = 1 + (Ty.encs ps).length := by rw [hl]; simp; omega
  have HOK := Lib.hid hok
  have HLL := Lib.hid hll
  clear hl hok hll
  go_enter Tryd.func58, Tryd.ntmps58
  go_wp2_with fail
  go_loopw [4, 3] (fun i q wr => ∃ (k : Nat) (dn rs : List Ty) (v : Value), v = q ∧ Hid (ps = dn ++ rs) ∧ i = .int .i64 k ∧ k = 1 + (Ty.encs dn).length ∧ k ≤ l.length ∧ dn.length < k ∧ wr.ownsRow W.heap.size 22 1 v dn.length (sls b (o + 1) dn) ∧ Below W.heap.size W wr) (fun i _ _ => l.length - (intOf i).toNat)
  case atStart => exact ⟨1, [], ps, _, rfl, rfl, rfl, rfl, by have := HLL.out; omega, by simp, World.ownsRow_nil _ _ _ _, x.below⟩
  case round =>
    obtain ⟨k, dn, rs, v, rfl, HPS, rfl, hk, hkl, hdl, hown, hb⟩ := hrel
    have HK := Lib.hid hk
    clear hk
    have hps := HPS.out
    by_cases hlt : k < l.length
    · have hlt' : (k : Int) < (l.length : Int) := by omega
      match rs, HPS, hps with
      | [], HPS, hps =>
        exfalso
        rw [List.append_nil] at hps
        have hll := HLL.out
        have hk := HK.out
        rw [hps] at hll
        omega
      | t :: rs, HPS, hps =>
        have hll := HLL.out
        have hk := HK.out
        have htl : t.enc.length + k ≤ l.length := by rw [hps, encs_append] at hll; simp [Ty.encs] at hll; omega
        have htp := t.enc_pos
        have hend : endOf l k 1 = ((k + t.enc.length : Nat) : Int) := by
          rw [Ty.endOf_enc (t := t) (HOK.out t (by rw [hps]; simp)) (post := Ty.encs rs) (by rw [HL.out, hps, encs_append, hk, Nat.add_comm]; simp [Ty.encs])]
          omega
        have EN : Calls Tryd.prog 107 #[.slice (some ⟨b, o, none⟩) l.length c, .int .i64 k] wr (Ans wr (.int .i64 ((k + t.enc.length : Nat) : Int))) := by
          rw [← hend]
          exact endOfType_ans (F.ext ⟨wr, hb⟩) (hr.ext ⟨wr, hb⟩) hl1 (by omega) (Ext.self wr)
        clear hend
        obtain ⟨e, he⟩ : ∃ e : Nat, e = k + t.enc.length := ⟨_, rfl⟩
        rw [← he] at EN
        have hs : ∀ wx, (Instr.slice 22 (.slice (some ⟨b, o, none⟩) l.length c) (some (.int .i64 (k : Int))) (some (.int .i64 (e : Int))) (some (.int .i64 (e : Int)))).run Tryd.prog wx = .ok (.slice (some ⟨b, o + k, none⟩) t.enc.length t.enc.length) wx := fun wx => by
          have ht : Tryd.prog.underlying 22 = some (.slice (Tryd.prog.elem 22)) := by kernel_rfl
          have hz : (sizeOf (Tryd.prog.elem 22)).run Tryd.prog wx = .ok 1 wx := by kernel_rfl
          have h1 : ¬ e = k := by omega
          have h2 : ¬ k = 0 := by omega
          rw [run_slice_lhm (P := Tryd.prog) wx _ _ _ _ ht _ _ _ _ _ _ (by omega) (by omega) (by omega) (by omega), hz]
          simp [sliced, h1, h2, Addr.add, go_sem]
          omega
        clear hll hk hps htl
        have HE := Lib.hid he
        clear he
        go_wp2_with fail
        refine Calls.mono EN ?_
        rintro e w' ⟨rfl, yy, rfl⟩
        clear EN
        have ho2 := (owns_ext hown yy)
        have hb2 := hb.trans (yy.below.mono hb.size)
        clear hown hb
        have hdl2 : dn.length ≤ 1000 := by omega
        have szy := yy.size
        have szb := hb2.size
        go_wp2_with ((at_builtin; refine wpList_append_own_at _ rfl (.tmp 13) (.tmp 19) 23 rfl W.heap.size 22 i0 (.slice none 0 0) 1 24 Tryd.underlying23 hi0 hz0 hz1 hz2 rfl (by decide) v dn.length (sls b (o + 1) dn) rfl (ho2.alloc _) _ 1 1 [.slice (some ⟨b, o + k, none⟩) t.enc.length t.enc.length] rfl rfl (cell_one_is _ _ _ _ (by simp)) (by intro u hu; simp at hu; subst hu; rfl) (by unfold maxLen; omega) (by omega) (by simp; omega) ?_; intro v' w1 own1 gr1 _ hat1))
        have HB1 : Hid (Below W.heap.size W w1) := (hb2.alloc (by omega) _).grown gr1 (by simp; omega) (fun j hj => (ho2.lt j hj).1)
        have HO1 := Lib.hid own1
        clear own1 gr1 hat1 ho2 hb2
        go_roundw
        case rel =>
          have own1 := HO1.out
          have hk := HK.out
          have he := HE.out
          have htl : t.enc.length + k ≤ l.length := by have hll := HLL.out; rw [HPS.out, encs_append] at hll; simp [Ty.encs] at hll; omega
          refine ⟨e, dn ++ [t], rs, _, rfl, (by show _ = _; rw [HPS.out]; simp), rfl, (by rw [encs_append, he, hk]; simp [Ty.encs]; omega), by omega, by simp; omega, ?_, HB1.out⟩
          rw [sls_snoc, show o + 1 + (Ty.encs dn).length = o + k by omega]
          simpa using own1
        case measure => have := HE.out; simp [intOf]; omega
    · clear hps
      have hps0 := HPS
      have hlt' : ¬ (k : Int) < (l.length : Int) := by omega
      go_wp2
      go_ret
      have hrs : rs = [] := by
        match rs, hps0 with
        | [], _ => rfl
        | t :: rs, hps0 =>
          exfalso
          have htp := t.enc_pos
          have hll := HLL.out
          have hk := HK.out
          rw [hps0.out, encs_append] at hll
          simp [Ty.encs] at hll
          omega
      have hpd : ps = dn := by rw [hps0.out, hrs, List.append_nil]
      rw [hpd]
      refine ⟨_, ⟨_, hb⟩, rfl, rfl, ?_⟩
      rw [sls_len, List.map_id]
      exact hown
end Go.Proofs.YtmifnhblhggflaaDoor
