/-
  Several texts in one: RRO, RRQ.
-/
import Derived.Test.YtfldooljmjeaoaaMGa
namespace Go.Proofs.Ytfldooljmjeaoaa
open Go.RowKit Go.Shelf

def RetM (w : World) (n : Nat) (ps : List GP) (e : Ending) (w' : World) : Prop :=
  ∃ u, e = .returned (rM n u) ∧ GRow w' w.heap.size u ps ∧ w.grownBy w' none
theorem GRow.lit (w : World) (B : Nat) (hB : B ≤ w.heap.size) : GRow (w.alloc (.cells #[] 39)) B (.slice (some ⟨w.heap.size, 0, none⟩) 0 0) [] :=
  ⟨rfl, .inr ⟨w.heap.size, 0, #[], rfl, hB, heap_at_alloc _ _, Nat.le_refl _, Nat.zero_le _, rfl, rfl⟩⟩
theorem RdG.tail {w : World} {a : Option Addr} {n c : Nat} {p : GP} {qs : List GP} (h : RdG w (.slice a n c) (p :: qs)) : ∃ b off, a = some ⟨b, off, none⟩ ∧ n = qs.length + 1 ∧ n ≤ c ∧ c ≤ maxLen ∧ RdG w (.slice (some ⟨b, off + 9, none⟩) (n - 1) (c - 1)) qs ∧ (c = 1 → RdG w (.slice (some ⟨b, off, none⟩) 0 0) qs) := by
  rcases h with ⟨_, h2⟩ | ⟨b, off, cap, h0, h1, h2, h3⟩
  · cases h2
  · simp only [Value.slice.injEq] at h0
    obtain ⟨rfl, rfl, rfl⟩ := h0
    simp only [List.length_cons] at h1
    refine ⟨b, off, rfl, rfl, h1, h2, .inr ⟨b, off + 9, c - 1, by simp, by omega, by omega, fun j u hj => ?_⟩, fun hc => .inr ⟨b, off, 0, ?_, by omega, Nat.zero_le _, fun j u hj => ?_⟩⟩
    · rw [Nat.add_assoc]
      refine h3 _ _ ?_
      have h9 : (rowG p).length = 9 := rfl
      rw [show cellsG (p :: qs) = rowG p ++ cellsG qs by simp [cellsG], List.getElem?_append_right (by omega), h9, Nat.add_sub_cancel_left]
      exact hj
    · rw [show qs.length = 0 by omega]
    · rw [List.eq_nil_of_length_eq_zero (show qs.length = 0 by omega)] at hj
      simp [cellsG] at hj
set_option maxRecDepth 100000 in
theorem rtakeM_none (n : Nat) (u : Value) (w : World) (hu : RdG w u []) : Calls Try.prog 15 #[rM n u] w (ValG (rM n u) w) := by
  obtain ⟨a, c, rfl, _, _⟩ := hu.len
  have hb0 := heap_alloc2_0 w (.cells #[.int .i64 (n : Int), .slice a 0 c] 32) (.cells #[.int .i64 0, .slice none 0 0] 32)
  have HB0 := Lib.hid hb0
  have HB1 := Lib.hid (heap_alloc2_1 w (.cells #[.int .i64 (n : Int), .slice a 0 c] 32) (.cells #[.int .i64 0, .slice none 0 0] 32))
  have HGA : Hid (w.grownBy ((w.alloc (.cells #[.int .i64 (n : Int), .slice a 0 c] 32)).alloc (.cells #[.int .i64 0, .slice none 0 0] 32)) none) := Lib.hid (gb_same (gb_alloc _ _ _) (gb_alloc _ _ _))
  have t1 := (row2 hb0).2
  unfold rM
  clear hu hb0
  go_enter Try.func15, Try.ntmps15
  go_wp2_with (first | ((with_reducible refine is_load 32 7 1 ?_); go_must (refine ld_row 32 7 1 w.heap.size _ _ rfl HB0.out Try.underlying32 refqsize ?_)) | ((with_reducible refine is_store 32 2 7 ?_); go_must (refine st_row 32 2 7 (w.heap.size + 1) _ #[.int .i64 (n : Int), .slice a 0 c] _ rfl rfl HB1.out refqsize rfl rfl ?_; intro w4 hb4 hg4)))
  refine ret_row rfl (w.heap.size + 1) 32 #[.int .i64 (n : Int), .slice a 0 c] rfl hb4 Try.underlying32 refqsize ?_
  exact ⟨rfl, gb_new HGA.out hg4 (by omega)⟩
set_option maxRecDepth 100000 in
set_option maxHeartbeats 4000000 in
theorem rtakeM_any (n : Nat) (u : Value) (p : GP) (qs : List GP) (w : World) (hu : RdG w u (p :: qs)) (h1 : ∀ q ∈ qs, q.2.oneCell' = true) (hq : qs.length ≤ 1000) : Calls Try.prog 15 #[rM n u] w (RetM w n qs) := by
  obtain ⟨a, c, rfl, _, _⟩ := hu.len
  obtain ⟨m, hm⟩ : ∃ m, (p :: qs).length = m := ⟨_, rfl⟩
  rw [hm] at hu ⊢
  obtain ⟨b, off, rfl, hmq, hmc, hcm, hr1, hr2⟩ := hu.tail
  have hb0 := heap_alloc2_0 w (.cells #[.int .i64 (n : Int), .slice (some ⟨b, off, none⟩) m c] 32) (.cells #[.int .i64 0, .slice none 0 0] 32)
  have HA0 := Lib.hid hb0
  have HB0 := Lib.hid (heap_alloc2_1 w (.cells #[.int .i64 (n : Int), .slice (some ⟨b, off, none⟩) m c] 32) (.cells #[.int .i64 0, .slice none 0 0] 32))
  have HG0 : Hid (w.grownBy ((w.alloc (.cells #[.int .i64 (n : Int), .slice (some ⟨b, off, none⟩) m c] 32)).alloc (.cells #[.int .i64 0, .slice none 0 0] 32)) none) := Lib.hid (gb_same (gb_alloc _ _ _) (gb_alloc _ _ _))
  have t1 := (row2 hb0).2
  have H1 := Lib.hid h1
  have HQL := Lib.hid hq
  have hmi : (1 : Int) ≤ (m : Int) := by omega
  have hm0 : ¬ ((m : Int) = 0) := by omega
  have hcm' : (c : Int) ≤ 9223372036854775807 := by simp only [maxLen] at hcm; omega
  unfold rM
  clear hu hb0 h1 hq hm hcm
  by_cases hc1 : c = 1
  · have HSR : Hid (∀ X : World, w.grownBy X none → RdG X (.slice (some ⟨b, off, none⟩) 0 0) qs) := Lib.hid (fun X hX => (hr2 hc1).grown hX)
    obtain rfl : m = 1 := by omega
    subst hc1
    clear hr1 hr2 hmq
    go_enter Try.func15, Try.ntmps15
    go_wp2
    refine region_KL (fuel := 9) (listed := #[false, false, false, false, false, false, false, false, false]) (fun X => X.cell? ⟨w.heap.size, 0, none⟩ = some (.int .i64 (n : Int)) ∧ X.cell? ⟨w.heap.size, 1, none⟩ = some (.slice (some ⟨b, off, none⟩) 1 1)) 8 (by kernel_rfl) rfl (by kernel_rfl) ?_
    have HA1 := Lib.hid (blk_kept HA0.out (gb_drew _ none))
    have HB1 := Lib.hid (blk_kept HB0.out (gb_drew _ none))
    have HG1 := Lib.hid (gb_same HG0.out (gb_drew _ none))
    generalize (World.drew _) = w1 at *
    have HS1 := Lib.hid (row2 HA1.out)
    refine wpAnyK_takeL (i := 0) (d := 8) (v := ?_) (T' := ?_) (listed' := #[true, false, false, false, false, false, false, false, false]) rfl rfl (by kernel_rfl) (fun _ _ _ h => h) rfl (Or.inl ⟨by rfl, ?_⟩) ?_ HS1.out ?_
    rotate_left 2
    · intro w hS; clear hS; go_simp; rfl
    · simp only [List.setIfInBounds_toArray, List.set_cons_succ, List.set_cons_zero]; rfl
    refine wpAnyK_takeL (i := 1) (d := 9) (v := ?_) (T' := ?_) (listed' := #[true, true, false, false, false, false, false, false, false]) rfl rfl (by kernel_rfl) (fun _ _ _ h => h) rfl (Or.inl ⟨by rfl, ?_⟩) ?_ HS1.out ?_
    rotate_left 2
    · intro w hS; have t0 := hS.1; clear hS; go_simp; rfl
    · simp only [List.setIfInBounds_toArray, List.set_cons_succ, List.set_cons_zero]; rfl
    refine wpAnyK_takeL (i := 3) (d := 11) (v := ?_) (T' := ?_) (listed' := #[true, true, false, true, false, false, false, false, false]) rfl rfl (by kernel_rfl) (fun _ _ _ h => h) rfl (Or.inl ⟨by rfl, ?_⟩) ?_ HS1.out ?_
    rotate_left 2
    · intro w hS; clear hS; go_simp; rfl
    · simp only [List.setIfInBounds_toArray, List.set_cons_succ, List.set_cons_zero]; rfl
    refine wpAnyK_takeL (i := 4) (d := 12) (v := ?_) (T' := ?_) (listed' := #[true, true, false, true, true, false, false, false, false]) rfl rfl (by kernel_rfl) (fun _ _ _ h => h) rfl (Or.inl ⟨by rfl, ?_⟩) ?_ HS1.out ?_
    rotate_left 2
    · intro w hS; have t0 := hS.2; clear hS; go_simp; rfl
    · simp only [List.setIfInBounds_toArray, List.set_cons_succ, List.set_cons_zero]; rfl
    refine wpAnyK_takeL (i := 5) (d := 13) (v := ?_) (T' := ?_) (listed' := #[true, true, false, true, true, true, false, false, false]) rfl rfl (by kernel_rfl) (fun _ _ _ h => h) rfl (Or.inl ⟨by rfl, ?_⟩) ?_ HS1.out ?_
    rotate_left 2
    · intro w hS; clear hS; go_simp; rfl
    · simp only [List.setIfInBounds_toArray, List.set_cons_succ, List.set_cons_zero]; rfl
    refine wpAnyK_oneL (i := 2) (listed' := #[true, true, true, true, true, true, false, false, false]) (by kernel_rfl) rfl (by rfl) rfl ?_
    intro K hK
    go_simp
    have hlt := GRow.lit w1 w.heap.size HG1.out.size
    have hgr := gb_alloc w1 (.cells #[] 39) none
    generalize hzz : w1.heap.size = q0 at *
    generalize w1.alloc (.cells #[] 39) = w2 at *
    have HL2 := Lib.hid hlt
    have HA2 := Lib.hid (blk_kept HA1.out hgr)
    have HB2 := Lib.hid (blk_kept HB1.out hgr)
    have HG2 := Lib.hid (gb_same HG1.out hgr)
    have HS2 := Lib.hid (row2 HA2.out)
    have HQ0 : Hid (w.heap.size + 1 < q0) := Lib.hid (by rw [← hzz]; exact lt_of_blk HB1.out)
    clear hlt hgr hzz
    refine hK _ _ (fun _ => HS2.out) ?_
    clear hK K
    refine wpAnyK_oneL (i := 6) (listed' := #[true, true, true, true, true, true, true, false, false]) (by kernel_rfl) rfl (by rfl) rfl ?_
    intro K hK
    refine msg_app_op _ _ rfl w.heap.size (.slice (some ⟨q0, 0, none⟩) 0 0) (.slice (some ⟨b, off, none⟩) 0 0) [] qs rfl rfl HL2.out (HSR.out _ HG2.out) H1.out (by have := HQL.out; simp; omega) HG2.out.size ?_
    intro v3 w3 h3 hg3 hf3
    rw [List.nil_append] at h3
    have HO3 := Lib.hid h3
    have HG3 := Lib.hid (gb_trans HG2.out hg3 (fun j hj => .inr (HL2.out.lt j hj).1))
    have hne3 : (Value.slice (some ⟨q0, 0, none⟩) 0 0).ownBlock ≠ some w.heap.size ∧ (Value.slice (some ⟨q0, 0, none⟩) 0 0).ownBlock ≠ some (w.heap.size + 1) := by have := HQ0.out; simp [Value.ownBlock]; omega
    have HA3 := Lib.hid (blk_kept' HA2.out hg3 hne3.1)
    have HB3 := Lib.hid (blk_kept' HB2.out hg3 hne3.2)
    have HN3 : Hid (v3.ownBlock ≠ some (w.heap.size + 1)) := Lib.hid (fun e => by
        rcases hf3 _ e with h1 | h1
        · exact hne3.2 h1
        · have := lt_of_blk HB2.out; omega)
    have HS3 := Lib.hid (row2 HA3.out)
    obtain ⟨a4, c4, hv4, _, _⟩ := h3.slice
    generalize qs.length = L4 at hv4
    subst hv4
    clear h3 hg3 hf3 hne3
    refine hK _ _ (fun _ => HS3.out) ?_
    clear hK K
    refine wpAnyK_takeL (i := 7) (d := 15) (v := ?_) (T' := ?_) (listed' := #[true, true, true, true, true, true, true, true, false]) rfl rfl (by kernel_rfl) (fun _ _ _ h => h) rfl (Or.inl ⟨by rfl, ?_⟩) ?_ HS3.out ?_
    rotate_left 2
    · intro w hS; clear hS; go_simp; rfl
    · simp only [List.setIfInBounds_toArray, List.set_cons_succ, List.set_cons_zero]; rfl
    refine wpAnyK_oneL (i := 8) (listed' := #[true, true, true, true, true, true, true, true, true]) (by kernel_rfl) rfl (by rfl) rfl ?_
    intro K hK
    refine st_row_op 32 2 15 rfl (w.heap.size + 1) #[.int .i64 0, .slice none 0 0] #[.int .i64 (n : Int), .slice a4 L4 c4] 32 rfl rfl HB3.out refqsize rfl rfl ?_
    intro w5 hb5 hg5
    have HB5 := Lib.hid hb5
    have HO5 := Lib.hid (HO3.out.kept hg5 (fun k hk e => HN3.out (by rw [hk, ← e])))
    have HG5 := Lib.hid (gb_new HG3.out hg5 (by omega))
    clear hb5 hg5
    refine hK _ _ (fun h => Bool.noConfusion (show true = false from h)) ?_
    clear hK K
    refine wpAnyK_done (by kernel_rfl) ?_ _
    go_wp2
    refine ret_row rfl (w.heap.size + 1) 32 #[.int .i64 (n : Int), .slice a4 L4 c4] rfl HB5.out Try.underlying32 refqsize ?_
    exact ⟨_, rfl, HO5.out, HG5.out⟩
  · have HSR : Hid (∀ X : World, w.grownBy X none → RdG X (.slice (some ⟨b, off + 9, none⟩) (m - 1) (c - 1)) qs) := Lib.hid (fun X hX => hr1.grown hX)
    have hc1' : (c = 1) = False := by simp; omega
    have hc1'' : ((c : Int) = 1) = False := by simp; omega
    clear hr1 hr2 hmq hc1
    go_enter Try.func15, Try.ntmps15
    go_wp2
    refine region_KL (fuel := 9) (listed := #[false, false, false, false, false, false, false, false, false]) (fun X => X.cell? ⟨w.heap.size, 0, none⟩ = some (.int .i64 (n : Int)) ∧ X.cell? ⟨w.heap.size, 1, none⟩ = some (.slice (some ⟨b, off, none⟩) m c)) 8 (by kernel_rfl) rfl (by kernel_rfl) ?_
    have HA1 := Lib.hid (blk_kept HA0.out (gb_drew _ none))
    have HB1 := Lib.hid (blk_kept HB0.out (gb_drew _ none))
    have HG1 := Lib.hid (gb_same HG0.out (gb_drew _ none))
    generalize (World.drew _) = w1 at *
    have HS1 := Lib.hid (row2 HA1.out)
    refine wpAnyK_takeL (i := 0) (d := 8) (v := ?_) (T' := ?_) (listed' := #[true, false, false, false, false, false, false, false, false]) rfl rfl (by kernel_rfl) (fun _ _ _ h => h) rfl (Or.inl ⟨by rfl, ?_⟩) ?_ HS1.out ?_
    rotate_left 2
    · intro w hS; clear hS; go_simp; rfl
    · simp only [List.setIfInBounds_toArray, List.set_cons_succ, List.set_cons_zero]; rfl
    refine wpAnyK_takeL (i := 1) (d := 9) (v := ?_) (T' := ?_) (listed' := #[true, true, false, false, false, false, false, false, false]) rfl rfl (by kernel_rfl) (fun _ _ _ h => h) rfl (Or.inl ⟨by rfl, ?_⟩) ?_ HS1.out ?_
    rotate_left 2
    · intro w hS; have t0 := hS.1; clear hS; go_simp; rfl
    · simp only [List.setIfInBounds_toArray, List.set_cons_succ, List.set_cons_zero]; rfl
    refine wpAnyK_takeL (i := 3) (d := 11) (v := ?_) (T' := ?_) (listed' := #[true, true, false, true, false, false, false, false, false]) rfl rfl (by kernel_rfl) (fun _ _ _ h => h) rfl (Or.inl ⟨by rfl, ?_⟩) ?_ HS1.out ?_
    rotate_left 2
    · intro w hS; clear hS; go_simp; rfl
    · simp only [List.setIfInBounds_toArray, List.set_cons_succ, List.set_cons_zero]; rfl
    refine wpAnyK_takeL (i := 4) (d := 12) (v := ?_) (T' := ?_) (listed' := #[true, true, false, true, true, false, false, false, false]) rfl rfl (by kernel_rfl) (fun _ _ _ h => h) rfl (Or.inl ⟨by rfl, ?_⟩) ?_ HS1.out ?_
    rotate_left 2
    · intro w hS; have t0 := hS.2; clear hS; go_simp; rfl
    · simp only [List.setIfInBounds_toArray, List.set_cons_succ, List.set_cons_zero]; rfl
    refine wpAnyK_takeL (i := 5) (d := 13) (v := ?_) (T' := ?_) (listed' := #[true, true, false, true, true, true, false, false, false]) rfl rfl (by kernel_rfl) (fun _ _ _ h => h) rfl (Or.inl ⟨by rfl, ?_⟩) ?_ HS1.out ?_
    rotate_left 2
    · intro w hS; clear hS; go_simp; rfl
    · simp only [List.setIfInBounds_toArray, List.set_cons_succ, List.set_cons_zero]; rfl
    refine wpAnyK_oneL (i := 2) (listed' := #[true, true, true, true, true, true, false, false, false]) (by kernel_rfl) rfl (by rfl) rfl ?_
    intro K hK
    go_simp
    have hlt := GRow.lit w1 w.heap.size HG1.out.size
    have hgr := gb_alloc w1 (.cells #[] 39) none
    generalize hzz : w1.heap.size = q0 at *
    generalize w1.alloc (.cells #[] 39) = w2 at *
    have HL2 := Lib.hid hlt
    have HA2 := Lib.hid (blk_kept HA1.out hgr)
    have HB2 := Lib.hid (blk_kept HB1.out hgr)
    have HG2 := Lib.hid (gb_same HG1.out hgr)
    have HS2 := Lib.hid (row2 HA2.out)
    have HQ0 : Hid (w.heap.size + 1 < q0) := Lib.hid (by rw [← hzz]; exact lt_of_blk HB1.out)
    clear hlt hgr hzz
    refine hK _ _ (fun _ => HS2.out) ?_
    clear hK K
    refine wpAnyK_oneL (i := 6) (listed' := #[true, true, true, true, true, true, true, false, false]) (by kernel_rfl) rfl (by rfl) rfl ?_
    intro K hK
    refine msg_app_op _ _ rfl w.heap.size (.slice (some ⟨q0, 0, none⟩) 0 0) (.slice (some ⟨b, off + 9, none⟩) (m - 1) (c - 1)) [] qs rfl rfl HL2.out (HSR.out _ HG2.out) H1.out (by have := HQL.out; simp; omega) HG2.out.size ?_
    intro v3 w3 h3 hg3 hf3
    rw [List.nil_append] at h3
    have HO3 := Lib.hid h3
    have HG3 := Lib.hid (gb_trans HG2.out hg3 (fun j hj => .inr (HL2.out.lt j hj).1))
    have hne3 : (Value.slice (some ⟨q0, 0, none⟩) 0 0).ownBlock ≠ some w.heap.size ∧ (Value.slice (some ⟨q0, 0, none⟩) 0 0).ownBlock ≠ some (w.heap.size + 1) := by have := HQ0.out; simp [Value.ownBlock]; omega
    have HA3 := Lib.hid (blk_kept' HA2.out hg3 hne3.1)
    have HB3 := Lib.hid (blk_kept' HB2.out hg3 hne3.2)
    have HN3 : Hid (v3.ownBlock ≠ some (w.heap.size + 1)) := Lib.hid (fun e => by
        rcases hf3 _ e with h1 | h1
        · exact hne3.2 h1
        · have := lt_of_blk HB2.out; omega)
    have HS3 := Lib.hid (row2 HA3.out)
    obtain ⟨a4, c4, hv4, _, _⟩ := h3.slice
    generalize qs.length = L4 at hv4
    subst hv4
    clear h3 hg3 hf3 hne3
    refine hK _ _ (fun _ => HS3.out) ?_
    clear hK K
    refine wpAnyK_takeL (i := 7) (d := 15) (v := ?_) (T' := ?_) (listed' := #[true, true, true, true, true, true, true, true, false]) rfl rfl (by kernel_rfl) (fun _ _ _ h => h) rfl (Or.inl ⟨by rfl, ?_⟩) ?_ HS3.out ?_
    rotate_left 2
    · intro w hS; clear hS; go_simp; rfl
    · simp only [List.setIfInBounds_toArray, List.set_cons_succ, List.set_cons_zero]; rfl
    refine wpAnyK_oneL (i := 8) (listed' := #[true, true, true, true, true, true, true, true, true]) (by kernel_rfl) rfl (by rfl) rfl ?_
    intro K hK
    refine st_row_op 32 2 15 rfl (w.heap.size + 1) #[.int .i64 0, .slice none 0 0] #[.int .i64 (n : Int), .slice a4 L4 c4] 32 rfl rfl HB3.out refqsize rfl rfl ?_
    intro w5 hb5 hg5
    have HB5 := Lib.hid hb5
    have HO5 := Lib.hid (HO3.out.kept hg5 (fun k hk e => HN3.out (by rw [hk, ← e])))
    have HG5 := Lib.hid (gb_new HG3.out hg5 (by omega))
    clear hb5 hg5
    refine hK _ _ (fun h => Bool.noConfusion (show true = false from h)) ?_
    clear hK K
    refine wpAnyK_done (by kernel_rfl) ?_ _
    go_wp2
    refine ret_row rfl (w.heap.size + 1) 32 #[.int .i64 (n : Int), .slice a4 L4 c4] rfl HB5.out Try.underlying32 refqsize ?_
    exact ⟨_, rfl, HO5.out, HG5.out⟩
end Go.Proofs.Ytfldooljmjeaoaa
namespace Go.Proofs.Ytfldooljmjeaoaa
open Go.RowKit Go.Shelf

structure PS (w X : World) (n : Nat) (u : Value) (cs : Array Value) : Prop where
  a : X.heap[w.heap.size]? = some (.cells #[.int .i64 (n : Int), u] 32 (0, 0))
  b : X.heap[w.heap.size + 1]? = some (.cells cs 39 (0, 0))
  r : X.heap[w.heap.size + 2]? = some (.cells #[.int .i64 0, .slice none 0 0] 32 (0, 0))
  g : w.grownBy X none
theorem PS.kept {w X Y : World} {n : Nat} {u : Value} {cs : Array Value} {row : Option Nat} (h : PS w X n u cs) (hg : X.grownBy Y row) (hr : ∀ k, row = some k → w.heap.size + 3 ≤ k) : PS w Y n u cs :=
  ⟨blk_kept' h.a hg (fun e => by have := hr _ e; omega), blk_kept' h.b hg (fun e => by have := hr _ e; omega), blk_kept' h.r hg (fun e => by have := hr _ e; omega), gb_trans h.g hg (fun j e => .inr (by have := hr j e; omega))⟩
theorem PS.grown {w X Y : World} {n : Nat} {u : Value} {cs : Array Value} (h : PS w X n u cs) (hg : X.grownBy Y none) : PS w Y n u cs := h.kept hg (fun k e => by cases e)
theorem PS.lt {w X : World} {n : Nat} {u : Value} {cs : Array Value} (h : PS w X n u cs) : w.heap.size + 3 ≤ X.heap.size := by have := lt_of_blk h.r; omega
theorem PS.s {w X : World} {n : Nat} {u : Value} {cs : Array Value} (h : PS w X n u cs) : X.cell? ⟨w.heap.size, 0, none⟩ = some (.int .i64 (n : Int)) ∧ X.cell? ⟨w.heap.size, 1, none⟩ = some u ∧ X.heap[w.heap.size + 1]? = some (.cells cs 39 (0, 0)) := ⟨(row2 h.a).1, (row2 h.a).2, h.b⟩
theorem PS.start (w : World) (n : Nat) (u : Value) (cs : Array Value) : PS w (((w.alloc (.cells #[.int .i64 (n : Int), u] 32)).alloc (.cells cs 39)).alloc (.cells #[.int .i64 0, .slice none 0 0] 32)) n u cs := by
  refine ⟨blk_kept (heap_alloc2_0 w _ _) (gb_alloc _ _ none), blk_kept (heap_alloc2_1 w _ _) (gb_alloc _ _ none), ?_, gb_same (gb_same (gb_alloc _ _ _) (gb_alloc _ _ _)) (gb_alloc _ _ _)⟩
  have h := heap_at_alloc ((w.alloc (.cells #[.int .i64 (n : Int), u] 32)).alloc (.cells cs 39)) (.cells #[.int .i64 0, .slice none 0 0] 32)
  simpa using h
theorem lt_of_cell {w : World} {b j : Nat} {v : Value} (h : w.cell? ⟨b, j, none⟩ = some v) : b < w.heap.size := by
  by_cases hb : b < w.heap.size
  · exact hb
  · simp [World.cell?, Array.getElem?_eq_none (Nat.le_of_not_lt hb)] at h
def RPutM (n : Nat) (ps : List GP) (m : Mg) (dv : Value) (w : World) (e : Ending) (w' : World) : Prop := ∃ u, e = .returned (.tuple #[rM n u, .int .i64 0]) ∧ GRow w' w.heap.size u (ps ++ [(m, dv)]) ∧ w.grownBy w' none
set_option maxRecDepth 100000 in
set_option maxHeartbeats 4000000 in
theorem rputM_any (n : Nat) (u : Value) (ps : List GP) (m : Mg) (dv : Value) (w : World) (hu : RdG w u ps) (h1 : ∀ q ∈ ps, q.2.oneCell' = true) (hv : RdW w dv m.z) (hn : ps.length < n) (hn2 : n ≤ 200) (hz : m.z.length ≤ 1536) : Calls Try.prog 11 #[rM n u, .agg (m.row dv)] w (RPutM n ps m dv w) := by
  obtain ⟨a, c, rfl, _, _⟩ := hu.len
  obtain ⟨ad, cd, rfl⟩ := hv.len
  have hps := PS.start w n (.slice a ps.length c) (m.row (.slice ad m.z.length cd))
  have hlt : (ps.length : Int) < (n : Int) := by omega
  have hlz : (m.z.length : Int) ≤ 1536 := by omega
  have HU : Hid (∀ X, w.grownBy X none → RdG X (.slice a ps.length c) ps) := Lib.hid (fun X hX => hu.grown hX)
  have H1 := Lib.hid h1
  have HPL : Hid (ps.length ≤ 200) := Lib.hid (by omega)
  have HONE : Hid (∀ p ∈ [(m, (.slice ad m.z.length cd : Value))], p.2.oneCell' = true) := Lib.hid (by simp; rfl)
  unfold Mg.row at hps ⊢
  have t0 := hps.s.1
  have t1 := hps.s.2.1
  have t8 := cell_row (j := 8) hps.b
  unfold rM
  have P0 := Lib.hid hps
  clear hu h1 hv hn hn2 hz hps
  go_enter Try.func11, Try.ntmps11
  go_wp2
  clear t0 t1 t8
  refine region_KL (fuel := 12) (listed := #[false, false, false, false, false, false, false, false, false, false, false, false]) (fun X => X.cell? ⟨w.heap.size, 0, none⟩ = some (.int .i64 (n : Int)) ∧ X.cell? ⟨w.heap.size, 1, none⟩ = some (.slice a ps.length c) ∧ X.heap[w.heap.size + 1]? = some (.cells #[.int .i64 m.s, .int .i64 m.d, .int .i64 m.k, .int .i64 m.q, .int .i64 m.a, .int .i64 m.b, .int .i64 m.c, .int .i64 m.e, .slice ad m.z.length cd] 39 (0, 0))) 11 (by kernel_rfl) rfl (by kernel_rfl) ?_
  have P1 := Lib.hid (P0.out.grown (gb_drew _ none))
  generalize (World.drew _) = x1 at *
  have S1 := Lib.hid P1.out.s
  refine wpAnyK_takeL (i := 0) (d := 19) (v := ?_) (T' := ?_) (listed' := #[true, false, false, false, false, false, false, false, false, false, false, false]) rfl rfl (by kernel_rfl) (fun _ _ _ h => h) rfl (Or.inl ⟨by rfl, ?_⟩) ?_ S1.out ?_
  rotate_left 2
  · intro w hS; clear hS; go_simp; rfl
  · simp only [List.setIfInBounds_toArray, List.set_cons_succ, List.set_cons_zero]; rfl
  refine wpAnyK_takeL (i := 1) (d := 20) (v := ?_) (T' := ?_) (listed' := #[true, true, false, false, false, false, false, false, false, false, false, false]) rfl rfl (by kernel_rfl) (fun _ _ _ h => h) rfl (Or.inl ⟨by rfl, ?_⟩) ?_ S1.out ?_
  rotate_left 2
  · intro w hS; have t0 := hS.1; clear hS; go_simp; rfl
  · simp only [List.setIfInBounds_toArray, List.set_cons_succ, List.set_cons_zero]; rfl
  refine wpAnyK_takeL (i := 3) (d := 22) (v := ?_) (T' := ?_) (listed' := #[true, true, false, true, false, false, false, false, false, false, false, false]) rfl rfl (by kernel_rfl) (fun _ _ _ h => h) rfl (Or.inl ⟨by rfl, ?_⟩) ?_ S1.out ?_
  rotate_left 2
  · intro w hS; clear hS; go_simp; rfl
  · simp only [List.setIfInBounds_toArray, List.set_cons_succ, List.set_cons_zero]; rfl
  refine wpAnyK_takeL (i := 4) (d := 23) (v := ?_) (T' := ?_) (listed' := #[true, true, false, true, true, false, false, false, false, false, false, false]) rfl rfl (by kernel_rfl) (fun _ _ _ h => h) rfl (Or.inl ⟨by rfl, ?_⟩) ?_ S1.out ?_
  rotate_left 2
  · intro w hS; have t0 := hS.2.1; clear hS; go_simp; rfl
  · simp only [List.setIfInBounds_toArray, List.set_cons_succ, List.set_cons_zero]; rfl
  refine wpAnyK_takeL (i := 6) (d := 25) (v := ?_) (T' := ?_) (listed' := #[true, true, false, true, true, false, true, false, false, false, false, false]) rfl rfl (by kernel_rfl) (fun _ _ _ h => h) rfl (Or.inl ⟨by rfl, ?_⟩) ?_ S1.out ?_
  rotate_left 2
  · intro w hS; have hb := hS.2.2; have t0 := cell_row (j := 0) hb; have t1 := cell_row (j := 1) hb; have t2 := cell_row (j := 2) hb; have t3 := cell_row (j := 3) hb; have t4 := cell_row (j := 4) hb; have t5 := cell_row (j := 5) hb; have t6 := cell_row (j := 6) hb; have t7 := cell_row (j := 7) hb; have t8 := cell_row (j := 8) hb; clear hS hb; go_simp; rfl
  · simp only [List.setIfInBounds_toArray, List.set_cons_succ, List.set_cons_zero]; rfl
  refine wpAnyK_twoL (i := 2) (j := 7) (Li := #[true, true, true, true, true, false, true, false, false, false, false, false]) (Lj := #[true, true, false, true, true, false, true, true, false, false, false, false]) (by kernel_rfl) rfl rfl (by rfl) (by rfl) rfl rfl ?_ ?_
  · intro K' hK
    go_simp
    have hgr := gb_alloc x1 (.cells #[] 39) none
    have hlit := GRow.lit x1 w.heap.size P1.out.g.size
    have hql := P1.out.lt
    have hqy : x1.heap.size < (x1.alloc (.cells #[] 39)).heap.size := by simp
    generalize hzz : x1.heap.size = q0 at *
    generalize x1.alloc (.cells #[] 39) = x2 at *
    have P2 := Lib.hid (P1.out.grown hgr)
    have L2 := Lib.hid hlit
    have Qq02 : Hid (w.heap.size + 3 ≤ q0 ∧ q0 < x2.heap.size) := Lib.hid ⟨hql, hqy⟩
    have S2 := Lib.hid P2.out.s
    clear hgr hlit hql hqy hzz
    refine hK _ _ (fun _ => S2.out) ?_
    clear hK K'
    refine wpAnyK_twoL (i := 5) (j := 7) (Li := #[true, true, true, true, true, true, true, false, false, false, false, false]) (Lj := #[true, true, true, true, true, false, true, true, false, false, false, false]) (by kernel_rfl) rfl rfl (by rfl) (by rfl) rfl rfl ?_ ?_
    · intro K' hK
      refine msg_app_op _ _ rfl w.heap.size (.slice (some ⟨q0, 0, none⟩) 0 0) (.slice a ps.length c) [] ps rfl rfl L2.out (HU.out _ P2.out.g) H1.out (by have := HPL.out; simp; omega) P2.out.g.size ?_
      intro v3 x3 h3 hg3 hf3
      rw [List.nil_append] at h3
      have V3 := Lib.hid h3
      have P3 := Lib.hid (P2.out.kept hg3 (fun j e => by have := Qq02.out.1; simp [Value.ownBlock] at e; omega))
      have W3 : Hid (∀ j, v3.ownBlock = some j → w.heap.size + 3 ≤ j) := Lib.hid (fun j hj => by
        rcases hf3 j hj with e | e
        · have := Qq02.out.1; simp [Value.ownBlock] at e; omega
        · have := P2.out.lt; omega)
      obtain ⟨a3, c3, hv3, _, _⟩ := h3.slice
      generalize ps.length = L3 at hv3
      subst hv3
      have S3 := Lib.hid P3.out.s
      clear h3 hg3 hf3
      refine hK _ _ (fun _ => S3.out) ?_
      clear hK K'
      refine wpAnyK_oneL (i := 7) (listed' := #[true, true, true, true, true, true, true, true, false, false, false, false]) (by kernel_rfl) rfl (by rfl) rfl ?_
      intro K' hK
      go_simp
      have hgr := gb_alloc x3 (.cells #[.int .i64 m.s, .int .i64 m.d, .int .i64 m.k, .int .i64 m.q, .int .i64 m.a, .int .i64 m.b, .int .i64 m.c, .int .i64 m.e, .slice ad m.z.length cd] 39) none
      have hlit : RdG (x3.alloc (.cells #[.int .i64 m.s, .int .i64 m.d, .int .i64 m.k, .int .i64 m.q, .int .i64 m.a, .int .i64 m.b, .int .i64 m.c, .int .i64 m.e, .slice ad m.z.length cd] 39)) (.slice (some ⟨x3.heap.size, 0, none⟩) 1 1) [(m, .slice ad m.z.length cd)] := RdG.one (heap_at_alloc _ _)
      have hql := P3.out.lt
      have hqy : x3.heap.size < (x3.alloc (.cells #[.int .i64 m.s, .int .i64 m.d, .int .i64 m.k, .int .i64 m.q, .int .i64 m.a, .int .i64 m.b, .int .i64 m.c, .int .i64 m.e, .slice ad m.z.length cd] 39)).heap.size := by simp
      have hv3l := fun j hj => (V3.out.lt j hj).2
      generalize hzz : x3.heap.size = q1 at *
      generalize x3.alloc (.cells #[.int .i64 m.s, .int .i64 m.d, .int .i64 m.k, .int .i64 m.q, .int .i64 m.a, .int .i64 m.b, .int .i64 m.c, .int .i64 m.e, .slice ad m.z.length cd] 39) = x4 at *
      have P4 := Lib.hid (P3.out.grown hgr)
      have T4 := Lib.hid hlit
      have Qq14 : Hid (w.heap.size + 3 ≤ q1 ∧ q1 < x4.heap.size) := Lib.hid ⟨hql, hqy⟩
      have V4 := Lib.hid (V3.out.grown hgr)
      have NV4 : Hid (∀ j, (Value.slice a3 L3 c3).ownBlock = some j → j ≠ q1) := Lib.hid (fun j hj => by have := hv3l j hj; omega)
      have S4 := Lib.hid P4.out.s
      clear hgr hlit hql hqy hzz hv3l
      refine hK _ _ (fun _ => S4.out) ?_
      clear hK K'
      refine wpAnyK_oneL (i := 8) (listed' := #[true, true, true, true, true, true, true, true, true, false, false, false]) (by kernel_rfl) rfl (by rfl) rfl ?_
      intro K' hK
      refine msg_app_op _ _ rfl w.heap.size (.slice a3 L3 c3) (.slice (some ⟨q1, 0, none⟩) 1 1) ps [(m, .slice ad m.z.length cd)] rfl rfl V4.out T4.out HONE.out (by have := HPL.out; simp; omega) P4.out.g.size ?_
      intro v8 y8 h8 hg8 hf8
      have V8 := Lib.hid h8
      have P8 := Lib.hid (P4.out.kept hg8 (fun j e => W3.out j e))
      have W8 : Hid (∀ j, v8.ownBlock = some j → w.heap.size + 3 ≤ j) := Lib.hid (fun j hj => by
        rcases hf8 j hj with e | e
        · exact W3.out j e
        · have := P4.out.lt; omega)
      obtain ⟨a8, c8, hv8, _, _⟩ := h8.slice
      generalize (ps ++ [(m, (.slice ad m.z.length cd : Value))]).length = L8 at hv8
      subst hv8
      have S8 := Lib.hid P8.out.s
      clear h8 hg8 hf8
      refine hK _ _ (fun _ => S8.out) ?_
      clear hK K'
      refine wpAnyK_takeL (i := 9) (d := 28) (v := ?_) (T' := ?_) (listed' := #[true, true, true, true, true, true, true, true, true, true, false, false]) rfl rfl (by kernel_rfl) (fun _ _ _ h => h) rfl (Or.inl ⟨by rfl, ?_⟩) ?_ S8.out ?_
      rotate_left 2
      · intro w hS; clear hS; go_simp; rfl
      · simp only [List.setIfInBounds_toArray, List.set_cons_succ, List.set_cons_zero]; rfl
      refine wpAnyK_oneL (i := 10) (listed' := #[true, true, true, true, true, true, true, true, true, true, true, false]) (by kernel_rfl) rfl (by rfl) rfl ?_
      intro K' hK
      refine st_row_op 32 4 28 rfl (w.heap.size + 2) #[.int .i64 0, .slice none 0 0] #[.int .i64 (n : Int), .slice a8 L8 c8] 32 rfl rfl P8.out.r refqsize rfl rfl ?_
      intro y9 hb9 hg9
      have HB9 := Lib.hid hb9
      have V9 := Lib.hid (V8.out.kept hg9 (fun j hj e => by have := W8.out j hj; simp at e; omega))
      have G9 := Lib.hid (gb_new P8.out.g hg9 (by omega))
      have S9 : Hid (y9.cell? ⟨w.heap.size, 0, none⟩ = some (.int .i64 (n : Int)) ∧ y9.cell? ⟨w.heap.size, 1, none⟩ = some (.slice a ps.length c) ∧ y9.heap[w.heap.size + 1]? = some (.cells #[.int .i64 m.s, .int .i64 m.d, .int .i64 m.k, .int .i64 m.q, .int .i64 m.a, .int .i64 m.b, .int .i64 m.c, .int .i64 m.e, .slice ad m.z.length cd] 39 (0, 0))) := Lib.hid ⟨(row2 (blk_kept' P8.out.a hg9 (by simp))).1, (row2 (blk_kept' P8.out.a hg9 (by simp))).2, blk_kept' P8.out.b hg9 (by simp)⟩
      clear hb9 hg9
      refine hK _ _ (fun _ => S9.out) ?_
      clear hK K'
      refine wpAnyK_oneL (i := 11) (listed' := #[true, true, true, true, true, true, true, true, true, true, true, true]) (by kernel_rfl) rfl (by rfl) rfl ?_
      intro K' hK
      go_simp
      refine hK _ _ (fun h => Bool.noConfusion (show true = false from h)) ?_
      clear hK K'
      refine wpAnyK_done (by kernel_rfl) ?_ _
      go_wp2
      refine ret_cb rfl (w.heap.size + 2) 32 #[.int .i64 (n : Int), .slice a8 L8 c8] (.int .i64 0) rfl rfl HB9.out Try.underlying32 refqsize ?_
      exact ⟨_, rfl, V9.out, G9.out⟩
    · intro K' hK
      go_simp
      have hgr := gb_alloc x2 (.cells #[.int .i64 m.s, .int .i64 m.d, .int .i64 m.k, .int .i64 m.q, .int .i64 m.a, .int .i64 m.b, .int .i64 m.c, .int .i64 m.e, .slice ad m.z.length cd] 39) none
      have hlit : RdG (x2.alloc (.cells #[.int .i64 m.s, .int .i64 m.d, .int .i64 m.k, .int .i64 m.q, .int .i64 m.a, .int .i64 m.b, .int .i64 m.c, .int .i64 m.e, .slice ad m.z.length cd] 39)) (.slice (some ⟨x2.heap.size, 0, none⟩) 1 1) [(m, .slice ad m.z.length cd)] := RdG.one (heap_at_alloc _ _)
      have hql := P2.out.lt
      have hqy : x2.heap.size < (x2.alloc (.cells #[.int .i64 m.s, .int .i64 m.d, .int .i64 m.k, .int .i64 m.q, .int .i64 m.a, .int .i64 m.b, .int .i64 m.c, .int .i64 m.e, .slice ad m.z.length cd] 39)).heap.size := by simp
      generalize hzz : x2.heap.size = q1 at *
      generalize x2.alloc (.cells #[.int .i64 m.s, .int .i64 m.d, .int .i64 m.k, .int .i64 m.q, .int .i64 m.a, .int .i64 m.b, .int .i64 m.c, .int .i64 m.e, .slice ad m.z.length cd] 39) = x5 at *
      have P5 := Lib.hid (P2.out.grown hgr)
      have T5 := Lib.hid hlit
      have Qq15 : Hid (w.heap.size + 3 ≤ q1 ∧ q1 < x5.heap.size) := Lib.hid ⟨hql, hqy⟩
      have L5 := Lib.hid (L2.out.grown hgr)
      have N5 : Hid (q0 ≠ q1) := Lib.hid (by have := Qq02.out.2; omega)
      have S5 := Lib.hid P5.out.s
      clear hgr hlit hql hqy hzz
      refine hK _ _ (fun _ => S5.out) ?_
      clear hK K'
      have QG5 : Hid (q1 < x5.heap.size) := Lib.hid (by have h1 := T5.out; rcases h1 with ⟨h2, _⟩ | ⟨b, off, cap, h2, _, _, h4⟩ <;> simp only [Value.slice.injEq, reduceCtorEq, false_and, Option.some.injEq, Addr.mk.injEq] at h2; obtain ⟨⟨rfl, rfl, _⟩, _, rfl⟩ := h2; have h5 := h4 0 _ rfl; exact lt_of_cell h5)
      refine wpAnyK_oneL (i := 5) (listed' := #[true, true, true, true, true, true, true, true, false, false, false, false]) (by kernel_rfl) rfl (by rfl) rfl ?_
      intro K' hK
      refine msg_app_op _ _ rfl w.heap.size (.slice (some ⟨q0, 0, none⟩) 0 0) (.slice a ps.length c) [] ps rfl rfl L5.out (HU.out _ P5.out.g) H1.out (by have := HPL.out; simp; omega) P5.out.g.size ?_
      intro v3 x6 h3 hg3 hf3
      rw [List.nil_append] at h3
      have V6 := Lib.hid h3
      have P6 := Lib.hid (P5.out.kept hg3 (fun j e => by have := Qq02.out.1; simp [Value.ownBlock] at e; omega))
      have W6 : Hid (∀ j, v3.ownBlock = some j → w.heap.size + 3 ≤ j) := Lib.hid (fun j hj => by
        rcases hf3 j hj with e | e
        · have := Qq02.out.1; simp [Value.ownBlock] at e; omega
        · have := P5.out.lt; omega)
      have T6 := Lib.hid (T5.out.kept hg3 (fun _ j hj e => by have := N5.out; simp [Value.ownBlock] at e hj; omega))
      have NV6 : Hid (∀ j, v3.ownBlock = some j → j ≠ q1) := Lib.hid (fun j hj => by
        rcases hf3 j hj with e | e
        · have := N5.out; simp [Value.ownBlock] at e; omega
        · have := Qq15.out.2; have := QG5.out; omega)
      obtain ⟨a3, c3, hv3, _, _⟩ := h3.slice
      generalize ps.length = L3 at hv3
      subst hv3
      have S6 := Lib.hid P6.out.s
      clear h3 hg3 hf3
      refine hK _ _ (fun _ => S6.out) ?_
      clear hK K'
      refine wpAnyK_oneL (i := 8) (listed' := #[true, true, true, true, true, true, true, true, true, false, false, false]) (by kernel_rfl) rfl (by rfl) rfl ?_
      intro K' hK
      refine msg_app_op _ _ rfl w.heap.size (.slice a3 L3 c3) (.slice (some ⟨q1, 0, none⟩) 1 1) ps [(m, .slice ad m.z.length cd)] rfl rfl V6.out T6.out HONE.out (by have := HPL.out; simp; omega) P6.out.g.size ?_
      intro v8 y8 h8 hg8 hf8
      have V8 := Lib.hid h8
      have P8 := Lib.hid (P6.out.kept hg8 (fun j e => W6.out j e))
      have W8 : Hid (∀ j, v8.ownBlock = some j → w.heap.size + 3 ≤ j) := Lib.hid (fun j hj => by
        rcases hf8 j hj with e | e
        · exact W6.out j e
        · have := P6.out.lt; omega)
      obtain ⟨a8, c8, hv8, _, _⟩ := h8.slice
      generalize (ps ++ [(m, (.slice ad m.z.length cd : Value))]).length = L8 at hv8
      subst hv8
      have S8 := Lib.hid P8.out.s
      clear h8 hg8 hf8
      refine hK _ _ (fun _ => S8.out) ?_
      clear hK K'
      refine wpAnyK_takeL (i := 9) (d := 28) (v := ?_) (T' := ?_) (listed' := #[true, true, true, true, true, true, true, true, true, true, false, false]) rfl rfl (by kernel_rfl) (fun _ _ _ h => h) rfl (Or.inl ⟨by rfl, ?_⟩) ?_ S8.out ?_
      rotate_left 2
      · intro w hS; clear hS; go_simp; rfl
      · simp only [List.setIfInBounds_toArray, List.set_cons_succ, List.set_cons_zero]; rfl
      refine wpAnyK_oneL (i := 10) (listed' := #[true, true, true, true, true, true, true, true, true, true, true, false]) (by kernel_rfl) rfl (by rfl) rfl ?_
      intro K' hK
      refine st_row_op 32 4 28 rfl (w.heap.size + 2) #[.int .i64 0, .slice none 0 0] #[.int .i64 (n : Int), .slice a8 L8 c8] 32 rfl rfl P8.out.r refqsize rfl rfl ?_
      intro y9 hb9 hg9
      have HB9 := Lib.hid hb9
      have V9 := Lib.hid (V8.out.kept hg9 (fun j hj e => by have := W8.out j hj; simp at e; omega))
      have G9 := Lib.hid (gb_new P8.out.g hg9 (by omega))
      have S9 : Hid (y9.cell? ⟨w.heap.size, 0, none⟩ = some (.int .i64 (n : Int)) ∧ y9.cell? ⟨w.heap.size, 1, none⟩ = some (.slice a ps.length c) ∧ y9.heap[w.heap.size + 1]? = some (.cells #[.int .i64 m.s, .int .i64 m.d, .int .i64 m.k, .int .i64 m.q, .int .i64 m.a, .int .i64 m.b, .int .i64 m.c, .int .i64 m.e, .slice ad m.z.length cd] 39 (0, 0))) := Lib.hid ⟨(row2 (blk_kept' P8.out.a hg9 (by simp))).1, (row2 (blk_kept' P8.out.a hg9 (by simp))).2, blk_kept' P8.out.b hg9 (by simp)⟩
      clear hb9 hg9
      refine hK _ _ (fun _ => S9.out) ?_
      clear hK K'
      refine wpAnyK_oneL (i := 11) (listed' := #[true, true, true, true, true, true, true, true, true, true, true, true]) (by kernel_rfl) rfl (by rfl) rfl ?_
      intro K' hK
      go_simp
      refine hK _ _ (fun h => Bool.noConfusion (show true = false from h)) ?_
      clear hK K'
      refine wpAnyK_done (by kernel_rfl) ?_ _
      go_wp2
      refine ret_cb rfl (w.heap.size + 2) 32 #[.int .i64 (n : Int), .slice a8 L8 c8] (.int .i64 0) rfl rfl HB9.out Try.underlying32 refqsize ?_
      exact ⟨_, rfl, V9.out, G9.out⟩
  · intro K' hK
    go_simp
    have hgr := gb_alloc x1 (.cells #[.int .i64 m.s, .int .i64 m.d, .int .i64 m.k, .int .i64 m.q, .int .i64 m.a, .int .i64 m.b, .int .i64 m.c, .int .i64 m.e, .slice ad m.z.length cd] 39) none
    have hlit : RdG (x1.alloc (.cells #[.int .i64 m.s, .int .i64 m.d, .int .i64 m.k, .int .i64 m.q, .int .i64 m.a, .int .i64 m.b, .int .i64 m.c, .int .i64 m.e, .slice ad m.z.length cd] 39)) (.slice (some ⟨x1.heap.size, 0, none⟩) 1 1) [(m, .slice ad m.z.length cd)] := RdG.one (heap_at_alloc _ _)
    have hql := P1.out.lt
    have hqy : x1.heap.size < (x1.alloc (.cells #[.int .i64 m.s, .int .i64 m.d, .int .i64 m.k, .int .i64 m.q, .int .i64 m.a, .int .i64 m.b, .int .i64 m.c, .int .i64 m.e, .slice ad m.z.length cd] 39)).heap.size := by simp
    generalize hzz : x1.heap.size = q1 at *
    generalize x1.alloc (.cells #[.int .i64 m.s, .int .i64 m.d, .int .i64 m.k, .int .i64 m.q, .int .i64 m.a, .int .i64 m.b, .int .i64 m.c, .int .i64 m.e, .slice ad m.z.length cd] 39) = x7 at *
    have P7 := Lib.hid (P1.out.grown hgr)
    have T7 := Lib.hid hlit
    have Qq17 : Hid (w.heap.size + 3 ≤ q1 ∧ q1 < x7.heap.size) := Lib.hid ⟨hql, hqy⟩
    have S7 := Lib.hid P7.out.s
    clear hgr hlit hql hqy hzz
    refine hK _ _ (fun _ => S7.out) ?_
    clear hK K'
    refine wpAnyK_oneL (i := 2) (listed' := #[true, true, true, true, true, false, true, true, false, false, false, false]) (by kernel_rfl) rfl (by rfl) rfl ?_
    intro K' hK
    go_simp
    have hgr := gb_alloc x7 (.cells #[] 39) none
    have hlit := GRow.lit x7 w.heap.size P7.out.g.size
    have hql := P7.out.lt
    have hqy : x7.heap.size < (x7.alloc (.cells #[] 39)).heap.size := by simp
    generalize hzz : x7.heap.size = q0 at *
    generalize x7.alloc (.cells #[] 39) = x8 at *
    have P8 := Lib.hid (P7.out.grown hgr)
    have L8 := Lib.hid hlit
    have Qq08 : Hid (w.heap.size + 3 ≤ q0 ∧ q0 < x8.heap.size) := Lib.hid ⟨hql, hqy⟩
    have T8 := Lib.hid (T7.out.grown hgr)
    have N8 : Hid (q0 ≠ q1) := Lib.hid (by have := Qq17.out.2; omega)
    have S8 := Lib.hid P8.out.s
    clear hgr hlit hql hqy hzz
    refine hK _ _ (fun _ => S8.out) ?_
    clear hK K'
    have QG8 : Hid (q1 < x8.heap.size) := Lib.hid (by have h1 := T8.out; rcases h1 with ⟨h2, _⟩ | ⟨b, off, cap, h2, _, _, h4⟩ <;> simp only [Value.slice.injEq, reduceCtorEq, false_and, Option.some.injEq, Addr.mk.injEq] at h2; obtain ⟨⟨rfl, rfl, _⟩, _, rfl⟩ := h2; have h5 := h4 0 _ rfl; exact lt_of_cell h5)
    refine wpAnyK_oneL (i := 5) (listed' := #[true, true, true, true, true, true, true, true, false, false, false, false]) (by kernel_rfl) rfl (by rfl) rfl ?_
    intro K' hK
    refine msg_app_op _ _ rfl w.heap.size (.slice (some ⟨q0, 0, none⟩) 0 0) (.slice a ps.length c) [] ps rfl rfl L8.out (HU.out _ P8.out.g) H1.out (by have := HPL.out; simp; omega) P8.out.g.size ?_
    intro v3 x9 h3 hg3 hf3
    rw [List.nil_append] at h3
    have V9 := Lib.hid h3
    have P9 := Lib.hid (P8.out.kept hg3 (fun j e => by have := Qq08.out.1; simp [Value.ownBlock] at e; omega))
    have W9 : Hid (∀ j, v3.ownBlock = some j → w.heap.size + 3 ≤ j) := Lib.hid (fun j hj => by
      rcases hf3 j hj with e | e
      · have := Qq08.out.1; simp [Value.ownBlock] at e; omega
      · have := P8.out.lt; omega)
    have T9 := Lib.hid (T8.out.kept hg3 (fun _ j hj e => by have := N8.out; simp [Value.ownBlock] at e hj; omega))
    have NV9 : Hid (∀ j, v3.ownBlock = some j → j ≠ q1) := Lib.hid (fun j hj => by
      rcases hf3 j hj with e | e
      · have := N8.out; simp [Value.ownBlock] at e; omega
      · have := Qq17.out.2; have := QG8.out; omega)
    obtain ⟨a3, c3, hv3, _, _⟩ := h3.slice
    generalize ps.length = L3 at hv3
    subst hv3
    have S9 := Lib.hid P9.out.s
    clear h3 hg3 hf3
    refine hK _ _ (fun _ => S9.out) ?_
    clear hK K'
    refine wpAnyK_oneL (i := 8) (listed' := #[true, true, true, true, true, true, true, true, true, false, false, false]) (by kernel_rfl) rfl (by rfl) rfl ?_
    intro K' hK
    refine msg_app_op _ _ rfl w.heap.size (.slice a3 L3 c3) (.slice (some ⟨q1, 0, none⟩) 1 1) ps [(m, .slice ad m.z.length cd)] rfl rfl V9.out T9.out HONE.out (by have := HPL.out; simp; omega) P9.out.g.size ?_
    intro v8 y8 h8 hg8 hf8
    have V8 := Lib.hid h8
    have P8 := Lib.hid (P9.out.kept hg8 (fun j e => W9.out j e))
    have W8 : Hid (∀ j, v8.ownBlock = some j → w.heap.size + 3 ≤ j) := Lib.hid (fun j hj => by
      rcases hf8 j hj with e | e
      · exact W9.out j e
      · have := P9.out.lt; omega)
    obtain ⟨a8, c8, hv8, _, _⟩ := h8.slice
    generalize (ps ++ [(m, (.slice ad m.z.length cd : Value))]).length = L8 at hv8
    subst hv8
    have S8 := Lib.hid P8.out.s
    clear h8 hg8 hf8
    refine hK _ _ (fun _ => S8.out) ?_
    clear hK K'
    refine wpAnyK_takeL (i := 9) (d := 28) (v := ?_) (T' := ?_) (listed' := #[true, true, true, true, true, true, true, true, true, true, false, false]) rfl rfl (by kernel_rfl) (fun _ _ _ h => h) rfl (Or.inl ⟨by rfl, ?_⟩) ?_ S8.out ?_
    rotate_left 2
    · intro w hS; clear hS; go_simp; rfl
    · simp only [List.setIfInBounds_toArray, List.set_cons_succ, List.set_cons_zero]; rfl
    refine wpAnyK_oneL (i := 10) (listed' := #[true, true, true, true, true, true, true, true, true, true, true, false]) (by kernel_rfl) rfl (by rfl) rfl ?_
    intro K' hK
    refine st_row_op 32 4 28 rfl (w.heap.size + 2) #[.int .i64 0, .slice none 0 0] #[.int .i64 (n : Int), .slice a8 L8 c8] 32 rfl rfl P8.out.r refqsize rfl rfl ?_
    intro y9 hb9 hg9
    have HB9 := Lib.hid hb9
    have V9 := Lib.hid (V8.out.kept hg9 (fun j hj e => by have := W8.out j hj; simp at e; omega))
    have G9 := Lib.hid (gb_new P8.out.g hg9 (by omega))
    have S9 : Hid (y9.cell? ⟨w.heap.size, 0, none⟩ = some (.int .i64 (n : Int)) ∧ y9.cell? ⟨w.heap.size, 1, none⟩ = some (.slice a ps.length c) ∧ y9.heap[w.heap.size + 1]? = some (.cells #[.int .i64 m.s, .int .i64 m.d, .int .i64 m.k, .int .i64 m.q, .int .i64 m.a, .int .i64 m.b, .int .i64 m.c, .int .i64 m.e, .slice ad m.z.length cd] 39 (0, 0))) := Lib.hid ⟨(row2 (blk_kept' P8.out.a hg9 (by simp))).1, (row2 (blk_kept' P8.out.a hg9 (by simp))).2, blk_kept' P8.out.b hg9 (by simp)⟩
    clear hb9 hg9
    refine hK _ _ (fun _ => S9.out) ?_
    clear hK K'
    refine wpAnyK_oneL (i := 11) (listed' := #[true, true, true, true, true, true, true, true, true, true, true, true]) (by kernel_rfl) rfl (by rfl) rfl ?_
    intro K' hK
    go_simp
    refine hK _ _ (fun h => Bool.noConfusion (show true = false from h)) ?_
    clear hK K'
    refine wpAnyK_done (by kernel_rfl) ?_ _
    go_wp2
    refine ret_cb rfl (w.heap.size + 2) 32 #[.int .i64 (n : Int), .slice a8 L8 c8] (.int .i64 0) rfl rfl HB9.out Try.underlying32 refqsize ?_
    exact ⟨_, rfl, V9.out, G9.out⟩
end Go.Proofs.Ytfldooljmjeaoaa
