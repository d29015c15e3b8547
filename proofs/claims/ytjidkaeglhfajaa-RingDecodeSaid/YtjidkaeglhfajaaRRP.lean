/-
  The reference's byte queues: Put, Take, Encode: the walks.
-/
import Derived.Test.YtjidkaeglhfajaaRRB
import Derived.Test.YtjidkaeglhfajaaRTwo
namespace Go.Proofs.Ytjidkaeglhfajaa
open Go.RowKit Go.Shelf

theorem st_row_op {o : Oper} {a : Act} {w : World} {K : Act → World → Prop} {Q : Exit → Act → World → Prop} (t : TypeId) (x v : Tmp) (ho : o.op = .store t (.tmp x) (.tmp v))
    (g : Nat) (old cs : Array Value) (e : TypeId) (hx : a.eval (.tmp x) = .pointer (some ⟨g, 0, none⟩)) (hv : a.eval (.tmp v) = .agg cs) (hg : w.heap[g]? = some (.cells old e (0, 0)))
    (hi : (Try.prog.info? t).map (·.size) = some cs.size) (hos : old.size = cs.size) (h1 : cs.toList.all (·.oneCell') = true)
    (h : ∀ w', w'.heap[g]? = some (.cells cs e (0, 0)) → w.grownBy w' (some g) → K (a.put o.dst (.tuple #[])) w') : Oper.wp Try.prog o a w K Q := by
  unfold Oper.wp execOp
  simp only [ho, hx, hv, Instr.storeAt, Instr.sureAddr, Sem.run_bind, Sem.run_pure, Result.andThen_ok, run_storeVar_row w g e t old cs hg hi hos (by rw [← Array.all_toList]; exact h1)]
  exact h _ (setRow_heap w g old cs e _ hg) (gb_setRow w g cs)
/-- what the reference's Put and Take answer: a queue, and a value -/
def RetQ (w : World) (n : Nat) (l : List UInt8) (R : Value → World → Prop) (e : Ending) (w' : World) : Prop :=
  ∃ u x, e = .returned (.tuple #[rB n u, x]) ∧ Own w' w.heap.size u l ∧ R x w' ∧ w.grownBy w' none
set_option maxRecDepth 100000 in
set_option maxHeartbeats 4000000 in
theorem rputB_any (n : Nat) (u v : Value) (l b : List UInt8) (w : World) (hu : Rd w u l) (hln : l.length ≤ n) (hn : n ≤ 4096) (hv : RdW w v b) : Calls Try.prog 16 #[rB n u, v] w (RetQ w n (l ++ b.take (putN n l b)) (fun x _ => x = .int .i64 (putN n l b : Nat))) := by
  obtain ⟨a, c, rfl, hc, hcm⟩ := rd_form hu
  have hsm := hv.small
  obtain ⟨av, cv, rfl, hcap⟩ := hv.form
  have HU := Lib.hid hu
  have HV := Lib.hid hv
  have hb0 := heap_alloc2_0 w (.cells #[.int .i64 (n : Int), .slice a l.length c] 31) (.cells #[.int .i64 0, .slice none 0 0] 31)
  have hb1 := heap_alloc2_1 w (.cells #[.int .i64 (n : Int), .slice a l.length c] 31) (.cells #[.int .i64 0, .slice none 0 0] 31)
  have hga : w.grownBy ((w.alloc (.cells #[.int .i64 (n : Int), .slice a l.length c] 31)).alloc (.cells #[.int .i64 0, .slice none 0 0] 31)) none := gb_same (gb_alloc _ _ _) (gb_alloc _ _ _)
  have HBA := Lib.hid hb0
  have HBB := Lib.hid hb1
  have HGA := Lib.hid hga
  obtain ⟨t0, t1⟩ := row2 hb0
  unfold rB
  clear hu hv hb0 hb1 hga
  obtain ⟨r, hr⟩ : ∃ r, n - l.length = r := ⟨_, rfl⟩
  have hsub : (n : Int) - (l.length : Int) = (r : Int) := by omega
  have hr0 : (r : Int) ≤ 4096 := by omega
  have HLN : Hid (l.length ≤ 4096) := Lib.hid (by omega)
  unfold RetQ rB
  by_cases hm0 : r < b.length
  · have e0 : putN n l b = r := by unfold putN; omega
    rw [e0]
    have hmb : r ≤ b.length := by omega
    have hmi : (r : Int) < (b.length : Int) := by omega
    have hmc : (r : Int) ≤ (cv : Int) := by omega
    clear hm0 e0 hr
    have HTK : Hid (RdW w (.slice av r cv) (b.take r)) := Lib.hid (HV.out.take hmb)
    have HTL : Hid ((b.take r).length = r) := Lib.hid (by rw [List.length_take]; omega)
    go_enter Try.func16, Try.ntmps16
    go_wp2
    refine region_KL (fuel := 14) (listed := #[false, false, false, false, false, false, false, false, false, false, false, false, false, false]) (fun X => X.cell? ⟨w.heap.size, 0, none⟩ = some (.int .i64 (n : Int)) ∧ X.cell? ⟨w.heap.size, 1, none⟩ = some (.slice a l.length c)) 13 (by kernel_rfl) rfl (by kernel_rfl) ?_
    have hba := blk_kept HBA.out (gb_drew ((w.alloc (.cells #[.int .i64 (n : Int), .slice a l.length c] 31)).alloc (.cells #[.int .i64 0, .slice none 0 0] 31)) none)
    have hbb := blk_kept HBB.out (gb_drew ((w.alloc (.cells #[.int .i64 (n : Int), .slice a l.length c] 31)).alloc (.cells #[.int .i64 0, .slice none 0 0] 31)) none)
    have hgx := gb_same HGA.out (gb_drew ((w.alloc (.cells #[.int .i64 (n : Int), .slice a l.length c] 31)).alloc (.cells #[.int .i64 0, .slice none 0 0] 31)) none)
    clear t0 t1
    generalize ((w.alloc (.cells #[.int .i64 (n : Int), .slice a l.length c] 31)).alloc (.cells #[.int .i64 0, .slice none 0 0] 31)).drew = w1 at *
    have HA1 := Lib.hid hba
    have HB1 := Lib.hid hbb
    have HG1 := Lib.hid hgx
    have HS1 := Lib.hid (row2 hba)
    clear hba hbb hgx
    refine wpAnyK_takeL (i := 0) (d := 16) (v := ?_) (T' := ?_) (listed' := #[true, false, false, false, false, false, false, false, false, false, false, false, false, false]) rfl rfl (by kernel_rfl) (fun _ _ _ h => h) rfl (Or.inl ⟨by rfl, ?_⟩) ?_ HS1.out ?_
    rotate_left 2
    · intro w hS; clear hS; go_simp; rfl
    · simp only [List.setIfInBounds_toArray, List.set_cons_succ, List.set_cons_zero]; rfl
    refine wpAnyK_takeL (i := 1) (d := 17) (v := ?_) (T' := ?_) (listed' := #[true, true, false, false, false, false, false, false, false, false, false, false, false, false]) rfl rfl (by kernel_rfl) (fun _ _ _ h => h) rfl (Or.inl ⟨by rfl, ?_⟩) ?_ HS1.out ?_
    rotate_left 2
    · intro w hS; have t0 := hS.1; clear hS; go_simp; rfl
    · simp only [List.setIfInBounds_toArray, List.set_cons_succ, List.set_cons_zero]; rfl
    refine wpAnyK_takeL (i := 3) (d := 19) (v := ?_) (T' := ?_) (listed' := #[true, true, false, true, false, false, false, false, false, false, false, false, false, false]) rfl rfl (by kernel_rfl) (fun _ _ _ h => h) rfl (Or.inl ⟨by rfl, ?_⟩) ?_ HS1.out ?_
    rotate_left 2
    · intro w hS; clear hS; go_simp; rfl
    · simp only [List.setIfInBounds_toArray, List.set_cons_succ, List.set_cons_zero]; rfl
    refine wpAnyK_takeL (i := 4) (d := 20) (v := ?_) (T' := ?_) (listed' := #[true, true, false, true, true, false, false, false, false, false, false, false, false, false]) rfl rfl (by kernel_rfl) (fun _ _ _ h => h) rfl (Or.inl ⟨by rfl, ?_⟩) ?_ HS1.out ?_
    rotate_left 2
    · intro w hS; have t0 := hS.2; clear hS; go_simp; rfl
    · simp only [List.setIfInBounds_toArray, List.set_cons_succ, List.set_cons_zero]; rfl
    refine wpAnyK_takeL (i := 6) (d := 22) (v := ?_) (T' := ?_) (listed' := #[true, true, false, true, true, false, true, false, false, false, false, false, false, false]) rfl rfl (by kernel_rfl) (fun _ _ _ h => h) rfl (Or.inl ⟨by rfl, ?_⟩) ?_ HS1.out ?_
    rotate_left 2
    · intro w hS; clear hS; go_simp; rfl
    · simp only [List.setIfInBounds_toArray, List.set_cons_succ, List.set_cons_zero]; rfl
    refine wpAnyK_takeL (i := 7) (d := 23) (v := ?_) (T' := ?_) (listed' := #[true, true, false, true, true, false, true, true, false, false, false, false, false, false]) rfl rfl (by kernel_rfl) (fun _ _ _ h => h) rfl (Or.inl ⟨by rfl, ?_⟩) ?_ HS1.out ?_
    rotate_left 2
    · intro w hS; clear hS; go_simp; rfl
    · simp only [List.setIfInBounds_toArray, List.set_cons_succ, List.set_cons_zero]; rfl
    refine wpAnyK_takeL (i := 8) (d := 24) (v := ?_) (T' := ?_) (listed' := #[true, true, false, true, true, false, true, true, true, false, false, false, false, false]) rfl rfl (by kernel_rfl) (fun _ _ _ h => h) rfl (Or.inl ⟨by rfl, ?_⟩) ?_ HS1.out ?_
    rotate_left 2
    · intro w hS; clear hS; go_simp; rfl
    · simp only [List.setIfInBounds_toArray, List.set_cons_succ, List.set_cons_zero]; rfl
    refine wpAnyK_takeL (i := 11) (d := 27) (v := ?_) (T' := ?_) (listed' := #[true, true, false, true, true, false, true, true, true, false, false, true, false, false]) rfl rfl (by kernel_rfl) (fun _ _ _ h => h) rfl (Or.inl ⟨by rfl, ?_⟩) ?_ HS1.out ?_
    rotate_left 2
    · intro w hS; clear hS; go_simp; rfl
    · simp only [List.setIfInBounds_toArray, List.set_cons_succ, List.set_cons_zero]; rfl
    refine wpAnyK_oneL (i := 2) (listed' := #[true, true, true, true, true, false, true, true, true, false, false, true, false, false]) (by kernel_rfl) rfl (by rfl) rfl ?_
    intro K hK
    go_simp
    have hlt := Own.lit w1 #[] [] 0 w.heap.size rfl rfl HG1.out.size (Nat.zero_le _)
    have hgr := gb_alloc w1 (.cells #[] 5) none
    have hq : w1.heap.size ≤ w1.heap.size := Nat.le_refl _
    generalize hzz : w1.heap.size = q0 at *
    generalize w1.alloc (.cells #[] 5) = w2 at *
    have HL2 := Lib.hid hlt
    have HA2 := Lib.hid (blk_kept HA1.out hgr)
    have HB2 := Lib.hid (blk_kept HB1.out hgr)
    have HG2 := Lib.hid (gb_same HG1.out hgr)
    have HS2 := Lib.hid (row2 HA2.out)
    have HQ0 : Hid (w.heap.size + 1 < q0) := Lib.hid (by rw [← hzz]; exact lt_of_blk HB1.out)
    clear hlt hgr hzz hq
    refine hK _ _ (fun _ => HS2.out) ?_
    clear hK K
    refine wpAnyK_oneL (i := 5) (listed' := #[true, true, true, true, true, true, true, true, true, false, false, true, false, false]) (by kernel_rfl) rfl (by rfl) rfl ?_
    intro K hK
    refine app_bytesW_op _ _ rfl w.heap.size (.slice (some ⟨q0, 0, none⟩) 0 0) (.slice a l.length c) [] l rfl rfl HL2.out ((HU.out.grown HG2.out).w) HG2.out.size (by have := HLN.out; simp; omega) ?_
    intro v3 w3 ho3 hg3 hf3
    rw [List.nil_append] at ho3
    have HO3 := Lib.hid ho3
    have HG3 := Lib.hid (gb_trans HG2.out hg3 (fun j hj => .inr (HL2.out.lt j hj).1))
    have hne3 : (Value.slice (some ⟨q0, 0, none⟩) 0 0).ownBlock ≠ some w.heap.size ∧ (Value.slice (some ⟨q0, 0, none⟩) 0 0).ownBlock ≠ some (w.heap.size + 1) := by have := HQ0.out; simp [Value.ownBlock]; omega
    have HA3 := Lib.hid (blk_kept' HA2.out hg3 hne3.1)
    have HB3 := Lib.hid (blk_kept' HB2.out hg3 hne3.2)
    have HN3 : Hid (v3.ownBlock ≠ some w.heap.size ∧ v3.ownBlock ≠ some (w.heap.size + 1)) := Lib.hid ⟨fun e => by
        rcases hf3 _ e with h1 | h1
        · exact hne3.1 h1
        · have := lt_of_blk HA2.out; omega, fun e => by
        rcases hf3 _ e with h1 | h1
        · exact hne3.2 h1
        · have := lt_of_blk HB2.out; omega⟩
    have HS3 := Lib.hid (row2 HA3.out)
    clear ho3 hg3 hf3 hne3
    refine hK _ _ (fun _ => HS3.out) ?_
    clear hK K
    refine wpAnyK_oneL (i := 9) (listed' := #[true, true, true, true, true, true, true, true, true, true, false, true, false, false]) (by kernel_rfl) rfl (by rfl) rfl ?_
    intro K hK
    refine app_bytesW_op _ _ rfl w.heap.size v3 (.slice av r cv) l (b.take r) rfl rfl HO3.out (HTK.out.grown HG3.out) HG3.out.size (by rw [HTL.out]; have := HLN.out; omega) ?_
    intro v4 w4 ho4 hg4 hf4
    have HG4 := Lib.hid (gb_trans HG3.out hg4 (fun j hj => .inr (HO3.out.lt j hj).1))
    have HA4 := Lib.hid (blk_kept' HA3.out hg4 HN3.out.1)
    have HB4 := Lib.hid (blk_kept' HB3.out hg4 HN3.out.2)
    have HN4 : Hid (v4.ownBlock ≠ some (w.heap.size + 1)) := Lib.hid (fun e => by
        rcases hf4 _ e with h1 | h1
        · exact HN3.out.2 h1
        · have := lt_of_blk HB3.out; omega)
    have HO4 := Lib.hid ho4
    obtain ⟨a4, c4, hv4⟩ := ho4.rd.len
    generalize (l ++ b.take r).length = L4 at hv4
    subst hv4
    have HS4 := Lib.hid (row2 HA4.out)
    clear ho4 hg4 hf4
    refine hK _ _ (fun _ => HS4.out) ?_
    clear hK K
    refine wpAnyK_takeL (i := 10) (d := 26) (v := ?_) (T' := ?_) (listed' := #[true, true, true, true, true, true, true, true, true, true, true, true, false, false]) rfl rfl (by kernel_rfl) (fun _ _ _ h => h) rfl (Or.inl ⟨by rfl, ?_⟩) ?_ HS4.out ?_
    rotate_left 2
    · intro w hS; clear hS; go_simp; rfl
    · simp only [List.setIfInBounds_toArray, List.set_cons_succ, List.set_cons_zero]; rfl
    refine wpAnyK_oneL (i := 12) (listed' := #[true, true, true, true, true, true, true, true, true, true, true, true, true, false]) (by kernel_rfl) rfl (by rfl) rfl ?_
    intro K hK
    refine st_row_op 31 4 26 rfl (w.heap.size + 1) #[.int .i64 0, .slice none 0 0] #[.int .i64 (n : Int), .slice a4 L4 c4] 31 rfl rfl HB4.out bsize rfl rfl ?_
    intro w5 hb5 hg5
    have HB5 := Lib.hid hb5
    have HO5 := Lib.hid (HO4.out.kept hg5 (fun k hk e => HN4.out (by rw [hk, ← e])))
    have HG5 := Lib.hid (gb_new HG4.out hg5 (by omega))
    have HS5 := Lib.hid (row2 (blk_kept' HA4.out hg5 (by simp)))
    clear hb5 hg5
    refine hK _ _ (fun _ => HS5.out) ?_
    clear hK K
    refine wpAnyK_oneL (i := 13) (listed' := #[true, true, true, true, true, true, true, true, true, true, true, true, true, true]) (by kernel_rfl) rfl (by rfl) rfl ?_
    intro K hK
    go_simp
    refine hK _ _ (fun h => Bool.noConfusion (show true = false from h)) ?_
    clear hK K
    refine wpAnyK_done (by kernel_rfl) ?_ _
    go_wp2
    refine ret_cb rfl (w.heap.size + 1) 31 #[.int .i64 (n : Int), .slice a4 L4 c4] (.int .i64 (r : Nat)) rfl rfl HB5.out Try.underlying31 bsize ?_
    exact ⟨_, _, rfl, HO5.out, rfl, HG5.out⟩
  · have e0 : putN n l b = b.length := by unfold putN; omega
    rw [e0]
    have hmb : b.length ≤ b.length := Nat.le_refl _
    have hmi : ¬ (r : Int) < (b.length : Int) := by omega
    have hmc : (b.length : Int) ≤ (cv : Int) := by omega
    clear hm0 e0
    have HTK : Hid (RdW w (.slice av b.length cv) (b.take b.length)) := Lib.hid (HV.out.take hmb)
    have HTL : Hid ((b.take b.length).length = b.length) := Lib.hid (by rw [List.length_take]; omega)
    go_enter Try.func16, Try.ntmps16
    go_wp2
    refine region_KL (fuel := 14) (listed := #[false, false, false, false, false, false, false, false, false, false, false, false, false, false]) (fun X => X.cell? ⟨w.heap.size, 0, none⟩ = some (.int .i64 (n : Int)) ∧ X.cell? ⟨w.heap.size, 1, none⟩ = some (.slice a l.length c)) 13 (by kernel_rfl) rfl (by kernel_rfl) ?_
    have hba := blk_kept HBA.out (gb_drew ((w.alloc (.cells #[.int .i64 (n : Int), .slice a l.length c] 31)).alloc (.cells #[.int .i64 0, .slice none 0 0] 31)) none)
    have hbb := blk_kept HBB.out (gb_drew ((w.alloc (.cells #[.int .i64 (n : Int), .slice a l.length c] 31)).alloc (.cells #[.int .i64 0, .slice none 0 0] 31)) none)
    have hgx := gb_same HGA.out (gb_drew ((w.alloc (.cells #[.int .i64 (n : Int), .slice a l.length c] 31)).alloc (.cells #[.int .i64 0, .slice none 0 0] 31)) none)
    clear t0 t1
    generalize ((w.alloc (.cells #[.int .i64 (n : Int), .slice a l.length c] 31)).alloc (.cells #[.int .i64 0, .slice none 0 0] 31)).drew = w1 at *
    have HA1 := Lib.hid hba
    have HB1 := Lib.hid hbb
    have HG1 := Lib.hid hgx
    have HS1 := Lib.hid (row2 hba)
    clear hba hbb hgx
    refine wpAnyK_takeL (i := 0) (d := 16) (v := ?_) (T' := ?_) (listed' := #[true, false, false, false, false, false, false, false, false, false, false, false, false, false]) rfl rfl (by kernel_rfl) (fun _ _ _ h => h) rfl (Or.inl ⟨by rfl, ?_⟩) ?_ HS1.out ?_
    rotate_left 2
    · intro w hS; clear hS; go_simp; rfl
    · simp only [List.setIfInBounds_toArray, List.set_cons_succ, List.set_cons_zero]; rfl
    refine wpAnyK_takeL (i := 1) (d := 17) (v := ?_) (T' := ?_) (listed' := #[true, true, false, false, false, false, false, false, false, false, false, false, false, false]) rfl rfl (by kernel_rfl) (fun _ _ _ h => h) rfl (Or.inl ⟨by rfl, ?_⟩) ?_ HS1.out ?_
    rotate_left 2
    · intro w hS; have t0 := hS.1; clear hS; go_simp; rfl
    · simp only [List.setIfInBounds_toArray, List.set_cons_succ, List.set_cons_zero]; rfl
    refine wpAnyK_takeL (i := 3) (d := 19) (v := ?_) (T' := ?_) (listed' := #[true, true, false, true, false, false, false, false, false, false, false, false, false, false]) rfl rfl (by kernel_rfl) (fun _ _ _ h => h) rfl (Or.inl ⟨by rfl, ?_⟩) ?_ HS1.out ?_
    rotate_left 2
    · intro w hS; clear hS; go_simp; rfl
    · simp only [List.setIfInBounds_toArray, List.set_cons_succ, List.set_cons_zero]; rfl
    refine wpAnyK_takeL (i := 4) (d := 20) (v := ?_) (T' := ?_) (listed' := #[true, true, false, true, true, false, false, false, false, false, false, false, false, false]) rfl rfl (by kernel_rfl) (fun _ _ _ h => h) rfl (Or.inl ⟨by rfl, ?_⟩) ?_ HS1.out ?_
    rotate_left 2
    · intro w hS; have t0 := hS.2; clear hS; go_simp; rfl
    · simp only [List.setIfInBounds_toArray, List.set_cons_succ, List.set_cons_zero]; rfl
    refine wpAnyK_takeL (i := 6) (d := 22) (v := ?_) (T' := ?_) (listed' := #[true, true, false, true, true, false, true, false, false, false, false, false, false, false]) rfl rfl (by kernel_rfl) (fun _ _ _ h => h) rfl (Or.inl ⟨by rfl, ?_⟩) ?_ HS1.out ?_
    rotate_left 2
    · intro w hS; clear hS; go_simp; rfl
    · simp only [List.setIfInBounds_toArray, List.set_cons_succ, List.set_cons_zero]; rfl
    refine wpAnyK_takeL (i := 7) (d := 23) (v := ?_) (T' := ?_) (listed' := #[true, true, false, true, true, false, true, true, false, false, false, false, false, false]) rfl rfl (by kernel_rfl) (fun _ _ _ h => h) rfl (Or.inl ⟨by rfl, ?_⟩) ?_ HS1.out ?_
    rotate_left 2
    · intro w hS; clear hS; go_simp; rfl
    · simp only [List.setIfInBounds_toArray, List.set_cons_succ, List.set_cons_zero]; rfl
    refine wpAnyK_takeL (i := 8) (d := 24) (v := ?_) (T' := ?_) (listed' := #[true, true, false, true, true, false, true, true, true, false, false, false, false, false]) rfl rfl (by kernel_rfl) (fun _ _ _ h => h) rfl (Or.inl ⟨by rfl, ?_⟩) ?_ HS1.out ?_
    rotate_left 2
    · intro w hS; clear hS; go_simp; rfl
    · simp only [List.setIfInBounds_toArray, List.set_cons_succ, List.set_cons_zero]; rfl
    refine wpAnyK_takeL (i := 11) (d := 27) (v := ?_) (T' := ?_) (listed' := #[true, true, false, true, true, false, true, true, true, false, false, true, false, false]) rfl rfl (by kernel_rfl) (fun _ _ _ h => h) rfl (Or.inl ⟨by rfl, ?_⟩) ?_ HS1.out ?_
    rotate_left 2
    · intro w hS; clear hS; go_simp; rfl
    · simp only [List.setIfInBounds_toArray, List.set_cons_succ, List.set_cons_zero]; rfl
    refine wpAnyK_oneL (i := 2) (listed' := #[true, true, true, true, true, false, true, true, true, false, false, true, false, false]) (by kernel_rfl) rfl (by rfl) rfl ?_
    intro K hK
    go_simp
    have hlt := Own.lit w1 #[] [] 0 w.heap.size rfl rfl HG1.out.size (Nat.zero_le _)
    have hgr := gb_alloc w1 (.cells #[] 5) none
    have hq : w1.heap.size ≤ w1.heap.size := Nat.le_refl _
    generalize hzz : w1.heap.size = q0 at *
    generalize w1.alloc (.cells #[] 5) = w2 at *
    have HL2 := Lib.hid hlt
    have HA2 := Lib.hid (blk_kept HA1.out hgr)
    have HB2 := Lib.hid (blk_kept HB1.out hgr)
    have HG2 := Lib.hid (gb_same HG1.out hgr)
    have HS2 := Lib.hid (row2 HA2.out)
    have HQ0 : Hid (w.heap.size + 1 < q0) := Lib.hid (by rw [← hzz]; exact lt_of_blk HB1.out)
    clear hlt hgr hzz hq
    refine hK _ _ (fun _ => HS2.out) ?_
    clear hK K
    refine wpAnyK_oneL (i := 5) (listed' := #[true, true, true, true, true, true, true, true, true, false, false, true, false, false]) (by kernel_rfl) rfl (by rfl) rfl ?_
    intro K hK
    refine app_bytesW_op _ _ rfl w.heap.size (.slice (some ⟨q0, 0, none⟩) 0 0) (.slice a l.length c) [] l rfl rfl HL2.out ((HU.out.grown HG2.out).w) HG2.out.size (by have := HLN.out; simp; omega) ?_
    intro v3 w3 ho3 hg3 hf3
    rw [List.nil_append] at ho3
    have HO3 := Lib.hid ho3
    have HG3 := Lib.hid (gb_trans HG2.out hg3 (fun j hj => .inr (HL2.out.lt j hj).1))
    have hne3 : (Value.slice (some ⟨q0, 0, none⟩) 0 0).ownBlock ≠ some w.heap.size ∧ (Value.slice (some ⟨q0, 0, none⟩) 0 0).ownBlock ≠ some (w.heap.size + 1) := by have := HQ0.out; simp [Value.ownBlock]; omega
    have HA3 := Lib.hid (blk_kept' HA2.out hg3 hne3.1)
    have HB3 := Lib.hid (blk_kept' HB2.out hg3 hne3.2)
    have HN3 : Hid (v3.ownBlock ≠ some w.heap.size ∧ v3.ownBlock ≠ some (w.heap.size + 1)) := Lib.hid ⟨fun e => by
        rcases hf3 _ e with h1 | h1
        · exact hne3.1 h1
        · have := lt_of_blk HA2.out; omega, fun e => by
        rcases hf3 _ e with h1 | h1
        · exact hne3.2 h1
        · have := lt_of_blk HB2.out; omega⟩
    have HS3 := Lib.hid (row2 HA3.out)
    clear ho3 hg3 hf3 hne3
    refine hK _ _ (fun _ => HS3.out) ?_
    clear hK K
    refine wpAnyK_oneL (i := 9) (listed' := #[true, true, true, true, true, true, true, true, true, true, false, true, false, false]) (by kernel_rfl) rfl (by rfl) rfl ?_
    intro K hK
    refine app_bytesW_op _ _ rfl w.heap.size v3 (.slice av b.length cv) l (b.take b.length) rfl rfl HO3.out (HTK.out.grown HG3.out) HG3.out.size (by rw [HTL.out]; have := HLN.out; omega) ?_
    intro v4 w4 ho4 hg4 hf4
    have HG4 := Lib.hid (gb_trans HG3.out hg4 (fun j hj => .inr (HO3.out.lt j hj).1))
    have HA4 := Lib.hid (blk_kept' HA3.out hg4 HN3.out.1)
    have HB4 := Lib.hid (blk_kept' HB3.out hg4 HN3.out.2)
    have HN4 : Hid (v4.ownBlock ≠ some (w.heap.size + 1)) := Lib.hid (fun e => by
        rcases hf4 _ e with h1 | h1
        · exact HN3.out.2 h1
        · have := lt_of_blk HB3.out; omega)
    have HO4 := Lib.hid ho4
    obtain ⟨a4, c4, hv4⟩ := ho4.rd.len
    generalize (l ++ b.take b.length).length = L4 at hv4
    subst hv4
    have HS4 := Lib.hid (row2 HA4.out)
    clear ho4 hg4 hf4
    refine hK _ _ (fun _ => HS4.out) ?_
    clear hK K
    refine wpAnyK_takeL (i := 10) (d := 26) (v := ?_) (T' := ?_) (listed' := #[true, true, true, true, true, true, true, true, true, true, true, true, false, false]) rfl rfl (by kernel_rfl) (fun _ _ _ h => h) rfl (Or.inl ⟨by rfl, ?_⟩) ?_ HS4.out ?_
    rotate_left 2
    · intro w hS; clear hS; go_simp; rfl
    · simp only [List.setIfInBounds_toArray, List.set_cons_succ, List.set_cons_zero]; rfl
    refine wpAnyK_oneL (i := 12) (listed' := #[true, true, true, true, true, true, true, true, true, true, true, true, true, false]) (by kernel_rfl) rfl (by rfl) rfl ?_
    intro K hK
    refine st_row_op 31 4 26 rfl (w.heap.size + 1) #[.int .i64 0, .slice none 0 0] #[.int .i64 (n : Int), .slice a4 L4 c4] 31 rfl rfl HB4.out bsize rfl rfl ?_
    intro w5 hb5 hg5
    have HB5 := Lib.hid hb5
    have HO5 := Lib.hid (HO4.out.kept hg5 (fun k hk e => HN4.out (by rw [hk, ← e])))
    have HG5 := Lib.hid (gb_new HG4.out hg5 (by omega))
    have HS5 := Lib.hid (row2 (blk_kept' HA4.out hg5 (by simp)))
    clear hb5 hg5
    refine hK _ _ (fun _ => HS5.out) ?_
    clear hK K
    refine wpAnyK_oneL (i := 13) (listed' := #[true, true, true, true, true, true, true, true, true, true, true, true, true, true]) (by kernel_rfl) rfl (by rfl) rfl ?_
    intro K hK
    go_simp
    refine hK _ _ (fun h => Bool.noConfusion (show true = false from h)) ?_
    clear hK K
    refine wpAnyK_done (by kernel_rfl) ?_ _
    go_wp2
    refine ret_cb rfl (w.heap.size + 1) 31 #[.int .i64 (n : Int), .slice a4 L4 c4] (.int .i64 (b.length : Nat)) rfl rfl HB5.out Try.underlying31 bsize ?_
    exact ⟨_, _, rfl, HO5.out, rfl, HG5.out⟩
end Go.Proofs.Ytjidkaeglhfajaa
