/-
  Log.keep: the walk.
-/
import Derived.Test.YtfdkmncjcehdkaaULog
namespace Go.Proofs.Ytfdkmncjcehdkaa
open Go.RowKit

set_option maxRecDepth 100000 in
set_option maxHeartbeats 4000000 in
theorem keep_any {w : World} {F : Nat → Prop} {g : Nat} {iv rv : Value} {img : List UInt8} {ps : List RP} {op : Bool} (h : LogF w F g iv rv img ps op) (a b : Nat) (hab : a ≤ b) (hb : b ≤ img.length) (hi : img.length ≤ 140737488355328) (hn : ps.length + 1 ≤ 1000000) :
    Calls Try.prog 56 #[.pointer (some ⟨g, 0, none⟩), .int .i64 (a : Int), .int .i64 (b : Int)] w (KeepP w F g iv img ps op ((a : Int), (img.length : Int), sub img a b)) := by
  obtain ⟨ai, ci, rfl⟩ := h.image.rd.len
  obtain ⟨ar, cr, rfl⟩ := h.row.slice
  have c0 : w.cell? ⟨g, 0, none⟩ = some (.slice ai img.length ci) := cell_row h.blk
  have c1 : w.cell? ⟨g, 1, none⟩ = some (.slice ar ps.length cr) := cell_row h.blk
  have H := Lib.hid h
  have hcase : (img.length = 0 ∧ ai = none ∧ ci = 0) ∨ (∃ g1, ai = some ⟨g1, 0, none⟩ ∧ img.length ≤ ci ∧ (ci : Int) ≤ 9223372036854775807) := by
    rcases h.image.2 with ⟨h0, hn0⟩ | ⟨g1, cap, cu, h0, _, _, hnc, hcm, _⟩
    · simp only [Value.slice.injEq] at h0
      exact .inl ⟨hn0, h0.1, h0.2.2⟩
    · simp only [Value.slice.injEq] at h0
      simp only [maxLen] at hcm
      exact .inr ⟨g1, h0.1, by omega, by omega⟩
  clear h
  have HSL := Lib.hid (sub_len (a := a) hb)
  have HN := Lib.hid hn
  rcases hcase with ⟨hz, rfl, rfl⟩ | ⟨g1, rfl, hLc, hcm⟩
  · have hb0 : b = 0 := by omega
    have ha0 : a = 0 := by omega
    subst hb0 ha0
    have HRS : Hid (Rd w.drew (.slice none 0 0) (sub img 0 0)) := Lib.hid (.inl ⟨rfl, List.eq_nil_of_length_eq_zero (by rw [HSL.out])⟩)
    have H2 := H.out
    rw [hz] at c0 H2 ⊢
    have H := Lib.hid H2
    clear hz H2
    rw [show ((0 : Nat) : Int) = 0 from rfl]
    have HCL := Lib.hid (clone_any (.slice none 0 0) _ w.drew HRS.out (by rw [HSL.out]; omega))
    go_enter Try.func56, Try.ntmps56
    refine region_KL (fuel := 25) (listed := #[false, false, false, false, false, false, false, false, false, false, false, false, false, false, false, false, false, false, false, false, false, false, false, false, false]) (fun W => W.cell? ⟨g, 0, none⟩ = some (.slice none 0 0) ∧ W.cell? ⟨g, 1, none⟩ = some (.slice ar ps.length cr)) 24 (by kernel_rfl) rfl (by kernel_rfl) ?_
    have HS0 : w.drew.cell? ⟨g, 0, none⟩ = some (.slice none 0 0) ∧ w.drew.cell? ⟨g, 1, none⟩ = some (.slice ar ps.length cr) := ⟨c0, c1⟩
    refine wpAnyK_takeL (i := 0) (d := 6) (v := ?_) (T' := ?_) (listed' := #[true, false, false, false, false, false, false, false, false, false, false, false, false, false, false, false, false, false, false, false, false, false, false, false, false]) rfl rfl (by kernel_rfl) (fun _ _ _ h => h) rfl (Or.inl ⟨by rfl, ?_⟩) ?_ HS0 ?_
    rotate_left 2
    · intro w hS; clear hS; go_simp; rfl
    · simp only [List.setIfInBounds_toArray, List.set_cons_succ, List.set_cons_zero]; rfl
    refine wpAnyK_takeL (i := 1) (d := 7) (v := ?_) (T' := ?_) (listed' := #[true, true, false, false, false, false, false, false, false, false, false, false, false, false, false, false, false, false, false, false, false, false, false, false, false]) rfl rfl (by kernel_rfl) (fun _ _ _ h => h) rfl (Or.inl ⟨by rfl, ?_⟩) ?_ HS0 ?_
    rotate_left 2
    · intro w hS; clear hS; go_simp; rfl
    · simp only [List.setIfInBounds_toArray, List.set_cons_succ, List.set_cons_zero]; rfl
    refine wpAnyK_takeL (i := 2) (d := 8) (v := ?_) (T' := ?_) (listed' := #[true, true, true, false, false, false, false, false, false, false, false, false, false, false, false, false, false, false, false, false, false, false, false, false, false]) rfl rfl (by kernel_rfl) (fun _ _ _ h => h) rfl (Or.inl ⟨by rfl, ?_⟩) ?_ HS0 ?_
    rotate_left 2
    · intro w hS; clear hS; go_simp; rfl
    · simp only [List.setIfInBounds_toArray, List.set_cons_succ, List.set_cons_zero]; rfl
    refine wpAnyK_takeL (i := 3) (d := 9) (v := ?_) (T' := ?_) (listed' := #[true, true, true, true, false, false, false, false, false, false, false, false, false, false, false, false, false, false, false, false, false, false, false, false, false]) rfl rfl (by kernel_rfl) (fun _ _ _ h => h) rfl (Or.inl ⟨by rfl, ?_⟩) ?_ HS0 ?_
    rotate_left 2
    · intro w hS; clear hS; go_simp; rfl
    · simp only [List.setIfInBounds_toArray, List.set_cons_succ, List.set_cons_zero]; rfl
    refine wpAnyK_takeL (i := 4) (d := 10) (v := ?_) (T' := ?_) (listed' := #[true, true, true, true, true, false, false, false, false, false, false, false, false, false, false, false, false, false, false, false, false, false, false, false, false]) rfl rfl (by kernel_rfl) (fun _ _ _ h => h) rfl (Or.inl ⟨by rfl, ?_⟩) ?_ HS0 ?_
    rotate_left 2
    · intro w hS; have t0 := hS.1; have t1 := hS.2; clear hS; go_simp; rfl
    · simp only [List.setIfInBounds_toArray, List.set_cons_succ, List.set_cons_zero]; rfl
    refine wpAnyK_takeL (i := 5) (d := 11) (v := ?_) (T' := ?_) (listed' := #[true, true, true, true, true, true, false, false, false, false, false, false, false, false, false, false, false, false, false, false, false, false, false, false, false]) rfl rfl (by kernel_rfl) (fun _ _ _ h => h) rfl (Or.inl ⟨by rfl, ?_⟩) ?_ HS0 ?_
    rotate_left 2
    · intro w hS; clear hS; go_simp; rfl
    · simp only [List.setIfInBounds_toArray, List.set_cons_succ, List.set_cons_zero]; rfl
    refine wpAnyK_takeL (i := 6) (d := 12) (v := ?_) (T' := ?_) (listed' := #[true, true, true, true, true, true, true, false, false, false, false, false, false, false, false, false, false, false, false, false, false, false, false, false, false]) rfl rfl (by kernel_rfl) (fun _ _ _ h => h) rfl (Or.inl ⟨by rfl, ?_⟩) ?_ HS0 ?_
    rotate_left 2
    · intro w hS; clear hS; go_simp; rfl
    · simp only [List.setIfInBounds_toArray, List.set_cons_succ, List.set_cons_zero]; rfl
    refine wpAnyK_takeL (i := 7) (d := 13) (v := ?_) (T' := ?_) (listed' := #[true, true, true, true, true, true, true, true, false, false, false, false, false, false, false, false, false, false, false, false, false, false, false, false, false]) rfl rfl (by kernel_rfl) (fun _ _ _ h => h) rfl (Or.inl ⟨by rfl, ?_⟩) ?_ HS0 ?_
    rotate_left 2
    · intro w hS; clear hS; go_simp; rfl
    · simp only [List.setIfInBounds_toArray, List.set_cons_succ, List.set_cons_zero]; rfl
    refine wpAnyK_takeL (i := 8) (d := 14) (v := ?_) (T' := ?_) (listed' := #[true, true, true, true, true, true, true, true, true, false, false, false, false, false, false, false, false, false, false, false, false, false, false, false, false]) rfl rfl (by kernel_rfl) (fun _ _ _ h => h) rfl (Or.inl ⟨by rfl, ?_⟩) ?_ HS0 ?_
    rotate_left 2
    · intro w hS; clear hS; go_simp; rfl
    · simp only [List.setIfInBounds_toArray, List.set_cons_succ, List.set_cons_zero]; rfl
    refine wpAnyK_takeL (i := 9) (d := 15) (v := ?_) (T' := ?_) (listed' := #[true, true, true, true, true, true, true, true, true, true, false, false, false, false, false, false, false, false, false, false, false, false, false, false, false]) rfl rfl (by kernel_rfl) (fun _ _ _ h => h) rfl (Or.inl ⟨by rfl, ?_⟩) ?_ HS0 ?_
    rotate_left 2
    · intro w hS; have t0 := hS.1; have t1 := hS.2; clear hS; go_simp; rfl
    · simp only [List.setIfInBounds_toArray, List.set_cons_succ, List.set_cons_zero]; rfl
    refine wpAnyK_takeL (i := 10) (d := 16) (v := ?_) (T' := ?_) (listed' := #[true, true, true, true, true, true, true, true, true, true, true, false, false, false, false, false, false, false, false, false, false, false, false, false, false]) rfl rfl (by kernel_rfl) (fun _ _ _ h => h) rfl (Or.inl ⟨by rfl, ?_⟩) ?_ HS0 ?_
    rotate_left 2
    · intro w hS; clear hS; go_simp; rfl
    · simp only [List.setIfInBounds_toArray, List.set_cons_succ, List.set_cons_zero]; rfl
    refine wpAnyK_takeL (i := 11) (d := 17) (v := ?_) (T' := ?_) (listed' := #[true, true, true, true, true, true, true, true, true, true, true, true, false, false, false, false, false, false, false, false, false, false, false, false, false]) rfl rfl (by kernel_rfl) (fun _ _ _ h => h) rfl (Or.inl ⟨by rfl, ?_⟩) ?_ HS0 ?_
    rotate_left 2
    · intro w hS; clear hS; go_simp; rfl
    · simp only [List.setIfInBounds_toArray, List.set_cons_succ, List.set_cons_zero]; rfl
    refine wpAnyK_takeL (i := 12) (d := 18) (v := ?_) (T' := ?_) (listed' := #[true, true, true, true, true, true, true, true, true, true, true, true, true, false, false, false, false, false, false, false, false, false, false, false, false]) rfl rfl (by kernel_rfl) (fun _ _ _ h => h) rfl (Or.inl ⟨by rfl, ?_⟩) ?_ HS0 ?_
    rotate_left 2
    · intro w hS; clear hS; go_simp; rfl
    · simp only [List.setIfInBounds_toArray, List.set_cons_succ, List.set_cons_zero]; rfl
    refine wpAnyK_takeL (i := 13) (d := 19) (v := ?_) (T' := ?_) (listed' := #[true, true, true, true, true, true, true, true, true, true, true, true, true, true, false, false, false, false, false, false, false, false, false, false, false]) rfl rfl (by kernel_rfl) (fun _ _ _ h => h) rfl (Or.inl ⟨by rfl, ?_⟩) ?_ HS0 ?_
    rotate_left 2
    · intro w hS; clear hS; go_simp; rfl
    · simp only [List.setIfInBounds_toArray, List.set_cons_succ, List.set_cons_zero]; rfl
    refine wpAnyK_takeL (i := 14) (d := 20) (v := ?_) (T' := ?_) (listed' := #[true, true, true, true, true, true, true, true, true, true, true, true, true, true, true, false, false, false, false, false, false, false, false, false, false]) rfl rfl (by kernel_rfl) (fun _ _ _ h => h) rfl (Or.inl ⟨by rfl, ?_⟩) ?_ HS0 ?_
    rotate_left 2
    · intro w hS; have t0 := hS.1; have t1 := hS.2; clear hS; go_simp; rfl
    · simp only [List.setIfInBounds_toArray, List.set_cons_succ, List.set_cons_zero]; rfl
    refine wpAnyK_takeL (i := 15) (d := 21) (v := ?_) (T' := ?_) (listed' := #[true, true, true, true, true, true, true, true, true, true, true, true, true, true, true, true, false, false, false, false, false, false, false, false, false]) rfl rfl (by kernel_rfl) (fun _ _ _ h => h) rfl (Or.inl ⟨by rfl, ?_⟩) ?_ HS0 ?_
    rotate_left 2
    · intro w hS; clear hS; go_simp; rfl
    · simp only [List.setIfInBounds_toArray, List.set_cons_succ, List.set_cons_zero]; rfl
    refine wpAnyK_takeL (i := 16) (d := 22) (v := ?_) (T' := ?_) (listed' := #[true, true, true, true, true, true, true, true, true, true, true, true, true, true, true, true, true, false, false, false, false, false, false, false, false]) rfl rfl (by kernel_rfl) (fun _ _ _ h => h) rfl (Or.inl ⟨by rfl, ?_⟩) ?_ HS0 ?_
    rotate_left 2
    · intro w hS; clear hS; go_simp; rfl
    · simp only [List.setIfInBounds_toArray, List.set_cons_succ, List.set_cons_zero]; rfl
    refine wpAnyK_takeL (i := 17) (d := 23) (v := ?_) (T' := ?_) (listed' := #[true, true, true, true, true, true, true, true, true, true, true, true, true, true, true, true, true, true, false, false, false, false, false, false, false]) rfl rfl (by kernel_rfl) (fun _ _ _ h => h) rfl (Or.inl ⟨by rfl, ?_⟩) ?_ HS0 ?_
    rotate_left 2
    · intro w hS; clear hS; go_simp; rfl
    · simp only [List.setIfInBounds_toArray, List.set_cons_succ, List.set_cons_zero]; rfl
    refine wpAnyK_oneL (i := 18) (listed' := #[true, true, true, true, true, true, true, true, true, true, true, true, true, true, true, true, true, true, true, false, false, false, false, false, false]) (by kernel_rfl) rfl (by rfl) rfl ?_
    intro K hK
    go_simp
    refine HCL.out.mono ?_
    rintro e w5 ⟨v5, rfl, ho5, hg5⟩
    obtain ⟨a5, c5, hv5⟩ := ho5.rd.len
    subst hv5
    have HG5 : Hid (w.grownBy w5 none) := Lib.hid (gb_same (gb_drew _ _) hg5)
    have HO5 : Hid (Own w5 w.heap.size (.slice a5 (sub img 0 0).length c5) (sub img 0 0)) := Lib.hid ho5
    clear ho5 hg5
    have e0 := HG5.out.cell c0 (by simp)
    have e1 := HG5.out.cell c1 (by simp)
    refine hK _ _ (fun _ => ⟨e0, e1⟩) ?_
    clear hK K
    refine wpAnyK_oneL (i := 19) (listed' := #[true, true, true, true, true, true, true, true, true, true, true, true, true, true, true, true, true, true, true, true, false, false, false, false, false]) (by kernel_rfl) rfl (by rfl) rfl ?_
    intro K hK
    go_simp
    refine hK _ _ (fun _ => ⟨e0, e1⟩) ?_
    clear hK K
    refine wpAnyK_oneL (i := 20) (listed' := #[true, true, true, true, true, true, true, true, true, true, true, true, true, true, true, true, true, true, true, true, true, false, false, false, false]) (by kernel_rfl) rfl (by rfl) rfl ?_
    intro K hK
    go_simp
    obtain ⟨w6, hw6⟩ : ∃ w6, w5.alloc (Obj.cells #[.int .i64 (0 : Int), .int .i64 (0 : Int), .slice a5 (sub img 0 0).length c5] 65) = w6 := ⟨_, rfl⟩
    have HB6 : Hid (w6.heap[w5.heap.size]? = some (.cells #[.int .i64 (0 : Int), .int .i64 (0 : Int), .slice a5 (sub img 0 0).length c5] 65 (0, 0))) := Lib.hid (by rw [← hw6]; exact heap_at_alloc _ _)
    have HG6 : Hid (w5.grownBy w6 none) := Lib.hid (by rw [← hw6]; exact gb_alloc _ _ _)
    rw [hw6]
    clear hw6
    have f0 := HG6.out.cell e0 (by simp)
    have f1 := HG6.out.cell e1 (by simp)
    refine hK _ _ (fun _ => ⟨f0, f1⟩) ?_
    clear hK K
    refine wpAnyK_oneL (i := 21) (listed' := #[true, true, true, true, true, true, true, true, true, true, true, true, true, true, true, true, true, true, true, true, true, true, false, false, false]) (by kernel_rfl) rfl (by rfl) rfl ?_
    intro K hK
    refine rec_app_op Try.underlying42 info_rec _ _ rfl 0 (.slice ar ps.length cr) _ ps [(((0 : Int), (0 : Int), sub img 0 0), .slice a5 (sub img 0 0).length c5)] rfl rfl ((H.out.row.grown HG5.out).grown HG6.out) (RdRow.one HB6.out) (by simp [HO5.out.one]) (by simpa using hn) (Nat.zero_le _) ?_
    intro v7 w7 h7 hg7 hf7
    obtain ⟨a7, c7, hv7⟩ := h7.slice
    rw [List.length_append, List.length_singleton] at hv7
    subst hv7
    have H7 := Lib.hid h7
    have HG7 := Lib.hid hg7
    have HF7 := Lib.hid hf7
    have hb7 : w7.heap[g]? = some (.cells #[.slice none 0 0, .slice ar ps.length cr, .bool op] 68 (0, 0)) := blk_kept' (blk_kept (blk_kept H.out.blk HG5.out) HG6.out) hg7 (fun e => (H.out.fr g e).2.1 rfl)
    have k0 : w7.cell? ⟨g, 0, none⟩ = some (.slice none 0 0) := cell_row hb7
    have k1 : w7.cell? ⟨g, 1, none⟩ = some (.slice ar ps.length cr) := cell_row hb7
    have k2 : w7.frozen? ⟨g, 1, none⟩ = false := frozen_row hb7
    clear h7 hg7 hf7 hb7 e0 e1 f0 f1
    refine hK _ _ (fun _ => ⟨k0, k1⟩) ?_
    clear hK K
    refine wpAnyK_oneL (i := 22) (listed' := #[true, true, true, true, true, true, true, true, true, true, true, true, true, true, true, true, true, true, true, true, true, true, true, false, false]) (by kernel_rfl) rfl (by rfl) rfl ?_
    intro K hK
    go_simp
    refine hK _ _ (fun _ => ⟨k0, k1⟩) ?_
    clear hK K
    refine wpAnyK_oneL (i := 23) (listed' := #[true, true, true, true, true, true, true, true, true, true, true, true, true, true, true, true, true, true, true, true, true, true, true, true, false]) (by kernel_rfl) rfl (by rfl) rfl ?_
    intro K hK
    go_simp
    refine hK _ _ (fun _ => ⟨k0, k1⟩) ?_
    clear hK K
    refine wpAnyK_oneL (i := 24) (listed' := #[true, true, true, true, true, true, true, true, true, true, true, true, true, true, true, true, true, true, true, true, true, true, true, true, true]) (by kernel_rfl) rfl (by rfl) rfl ?_
    intro K hK
    go_simp
    refine hK _ _ (fun h => Bool.noConfusion (show true = false from h)) ?_
    clear hK K
    refine wpAnyK_done (by kernel_rfl) ?_ _
    go_end0
    exact KeepP.mk H.out HG5.out HO5.out HG6.out HG7.out H7.out HF7.out

  · by_cases hco : ci = a
    · have hbc : b ≤ ci := by omega
      have hba : b = a := by omega
      subst hco hba
      have hrs := ((H.out.image.part b b hab hb rfl).2 rfl).grown (gb_drew _ none)
      rw [Nat.sub_self] at hrs
      have HRS := Lib.hid hrs
      clear hrs
      have HCL := Lib.hid (clone_any (.slice (some ⟨g1, 0, none⟩) 0 0) _ w.drew HRS.out (by rw [HSL.out]; omega))
      go_enter Try.func56, Try.ntmps56
      refine region_KL (fuel := 25) (listed := #[false, false, false, false, false, false, false, false, false, false, false, false, false, false, false, false, false, false, false, false, false, false, false, false, false]) (fun W => W.cell? ⟨g, 0, none⟩ = some (.slice (some ⟨g1, 0, none⟩) img.length b) ∧ W.cell? ⟨g, 1, none⟩ = some (.slice ar ps.length cr)) 24 (by kernel_rfl) rfl (by kernel_rfl) ?_
      have HS0 : w.drew.cell? ⟨g, 0, none⟩ = some (.slice (some ⟨g1, 0, none⟩) img.length b) ∧ w.drew.cell? ⟨g, 1, none⟩ = some (.slice ar ps.length cr) := ⟨c0, c1⟩
      refine wpAnyK_takeL (i := 0) (d := 6) (v := ?_) (T' := ?_) (listed' := #[true, false, false, false, false, false, false, false, false, false, false, false, false, false, false, false, false, false, false, false, false, false, false, false, false]) rfl rfl (by kernel_rfl) (fun _ _ _ h => h) rfl (Or.inl ⟨by rfl, ?_⟩) ?_ HS0 ?_
      rotate_left 2
      · intro w hS; clear hS; go_simp; rfl
      · simp only [List.setIfInBounds_toArray, List.set_cons_succ, List.set_cons_zero]; rfl
      refine wpAnyK_takeL (i := 1) (d := 7) (v := ?_) (T' := ?_) (listed' := #[true, true, false, false, false, false, false, false, false, false, false, false, false, false, false, false, false, false, false, false, false, false, false, false, false]) rfl rfl (by kernel_rfl) (fun _ _ _ h => h) rfl (Or.inl ⟨by rfl, ?_⟩) ?_ HS0 ?_
      rotate_left 2
      · intro w hS; clear hS; go_simp; rfl
      · simp only [List.setIfInBounds_toArray, List.set_cons_succ, List.set_cons_zero]; rfl
      refine wpAnyK_takeL (i := 2) (d := 8) (v := ?_) (T' := ?_) (listed' := #[true, true, true, false, false, false, false, false, false, false, false, false, false, false, false, false, false, false, false, false, false, false, false, false, false]) rfl rfl (by kernel_rfl) (fun _ _ _ h => h) rfl (Or.inl ⟨by rfl, ?_⟩) ?_ HS0 ?_
      rotate_left 2
      · intro w hS; clear hS; go_simp; rfl
      · simp only [List.setIfInBounds_toArray, List.set_cons_succ, List.set_cons_zero]; rfl
      refine wpAnyK_takeL (i := 3) (d := 9) (v := ?_) (T' := ?_) (listed' := #[true, true, true, true, false, false, false, false, false, false, false, false, false, false, false, false, false, false, false, false, false, false, false, false, false]) rfl rfl (by kernel_rfl) (fun _ _ _ h => h) rfl (Or.inl ⟨by rfl, ?_⟩) ?_ HS0 ?_
      rotate_left 2
      · intro w hS; clear hS; go_simp; rfl
      · simp only [List.setIfInBounds_toArray, List.set_cons_succ, List.set_cons_zero]; rfl
      refine wpAnyK_takeL (i := 4) (d := 10) (v := ?_) (T' := ?_) (listed' := #[true, true, true, true, true, false, false, false, false, false, false, false, false, false, false, false, false, false, false, false, false, false, false, false, false]) rfl rfl (by kernel_rfl) (fun _ _ _ h => h) rfl (Or.inl ⟨by rfl, ?_⟩) ?_ HS0 ?_
      rotate_left 2
      · intro w hS; have t0 := hS.1; have t1 := hS.2; clear hS; go_simp; rfl
      · simp only [List.setIfInBounds_toArray, List.set_cons_succ, List.set_cons_zero]; rfl
      refine wpAnyK_takeL (i := 5) (d := 11) (v := ?_) (T' := ?_) (listed' := #[true, true, true, true, true, true, false, false, false, false, false, false, false, false, false, false, false, false, false, false, false, false, false, false, false]) rfl rfl (by kernel_rfl) (fun _ _ _ h => h) rfl (Or.inl ⟨by rfl, ?_⟩) ?_ HS0 ?_
      rotate_left 2
      · intro w hS; clear hS; go_simp; rfl
      · simp only [List.setIfInBounds_toArray, List.set_cons_succ, List.set_cons_zero]; rfl
      refine wpAnyK_takeL (i := 6) (d := 12) (v := ?_) (T' := ?_) (listed' := #[true, true, true, true, true, true, true, false, false, false, false, false, false, false, false, false, false, false, false, false, false, false, false, false, false]) rfl rfl (by kernel_rfl) (fun _ _ _ h => h) rfl (Or.inl ⟨by rfl, ?_⟩) ?_ HS0 ?_
      rotate_left 2
      · intro w hS; clear hS; go_simp; rfl
      · simp only [List.setIfInBounds_toArray, List.set_cons_succ, List.set_cons_zero]; rfl
      refine wpAnyK_takeL (i := 7) (d := 13) (v := ?_) (T' := ?_) (listed' := #[true, true, true, true, true, true, true, true, false, false, false, false, false, false, false, false, false, false, false, false, false, false, false, false, false]) rfl rfl (by kernel_rfl) (fun _ _ _ h => h) rfl (Or.inl ⟨by rfl, ?_⟩) ?_ HS0 ?_
      rotate_left 2
      · intro w hS; clear hS; go_simp; rfl
      · simp only [List.setIfInBounds_toArray, List.set_cons_succ, List.set_cons_zero]; rfl
      refine wpAnyK_takeL (i := 8) (d := 14) (v := ?_) (T' := ?_) (listed' := #[true, true, true, true, true, true, true, true, true, false, false, false, false, false, false, false, false, false, false, false, false, false, false, false, false]) rfl rfl (by kernel_rfl) (fun _ _ _ h => h) rfl (Or.inl ⟨by rfl, ?_⟩) ?_ HS0 ?_
      rotate_left 2
      · intro w hS; clear hS; go_simp; rfl
      · simp only [List.setIfInBounds_toArray, List.set_cons_succ, List.set_cons_zero]; rfl
      refine wpAnyK_takeL (i := 9) (d := 15) (v := ?_) (T' := ?_) (listed' := #[true, true, true, true, true, true, true, true, true, true, false, false, false, false, false, false, false, false, false, false, false, false, false, false, false]) rfl rfl (by kernel_rfl) (fun _ _ _ h => h) rfl (Or.inl ⟨by rfl, ?_⟩) ?_ HS0 ?_
      rotate_left 2
      · intro w hS; have t0 := hS.1; have t1 := hS.2; clear hS; go_simp; rfl
      · simp only [List.setIfInBounds_toArray, List.set_cons_succ, List.set_cons_zero]; rfl
      refine wpAnyK_takeL (i := 10) (d := 16) (v := ?_) (T' := ?_) (listed' := #[true, true, true, true, true, true, true, true, true, true, true, false, false, false, false, false, false, false, false, false, false, false, false, false, false]) rfl rfl (by kernel_rfl) (fun _ _ _ h => h) rfl (Or.inl ⟨by rfl, ?_⟩) ?_ HS0 ?_
      rotate_left 2
      · intro w hS; clear hS; go_simp; rfl
      · simp only [List.setIfInBounds_toArray, List.set_cons_succ, List.set_cons_zero]; rfl
      refine wpAnyK_takeL (i := 11) (d := 17) (v := ?_) (T' := ?_) (listed' := #[true, true, true, true, true, true, true, true, true, true, true, true, false, false, false, false, false, false, false, false, false, false, false, false, false]) rfl rfl (by kernel_rfl) (fun _ _ _ h => h) rfl (Or.inl ⟨by rfl, ?_⟩) ?_ HS0 ?_
      rotate_left 2
      · intro w hS; clear hS; go_simp; rfl
      · simp only [List.setIfInBounds_toArray, List.set_cons_succ, List.set_cons_zero]; rfl
      refine wpAnyK_takeL (i := 12) (d := 18) (v := ?_) (T' := ?_) (listed' := #[true, true, true, true, true, true, true, true, true, true, true, true, true, false, false, false, false, false, false, false, false, false, false, false, false]) rfl rfl (by kernel_rfl) (fun _ _ _ h => h) rfl (Or.inl ⟨by rfl, ?_⟩) ?_ HS0 ?_
      rotate_left 2
      · intro w hS; clear hS; go_simp; rfl
      · simp only [List.setIfInBounds_toArray, List.set_cons_succ, List.set_cons_zero]; rfl
      refine wpAnyK_takeL (i := 13) (d := 19) (v := ?_) (T' := ?_) (listed' := #[true, true, true, true, true, true, true, true, true, true, true, true, true, true, false, false, false, false, false, false, false, false, false, false, false]) rfl rfl (by kernel_rfl) (fun _ _ _ h => h) rfl (Or.inl ⟨by rfl, ?_⟩) ?_ HS0 ?_
      rotate_left 2
      · intro w hS; clear hS; go_simp; rfl
      · simp only [List.setIfInBounds_toArray, List.set_cons_succ, List.set_cons_zero]; rfl
      refine wpAnyK_takeL (i := 14) (d := 20) (v := ?_) (T' := ?_) (listed' := #[true, true, true, true, true, true, true, true, true, true, true, true, true, true, true, false, false, false, false, false, false, false, false, false, false]) rfl rfl (by kernel_rfl) (fun _ _ _ h => h) rfl (Or.inl ⟨by rfl, ?_⟩) ?_ HS0 ?_
      rotate_left 2
      · intro w hS; have t0 := hS.1; have t1 := hS.2; clear hS; go_simp; rfl
      · simp only [List.setIfInBounds_toArray, List.set_cons_succ, List.set_cons_zero]; rfl
      refine wpAnyK_takeL (i := 15) (d := 21) (v := ?_) (T' := ?_) (listed' := #[true, true, true, true, true, true, true, true, true, true, true, true, true, true, true, true, false, false, false, false, false, false, false, false, false]) rfl rfl (by kernel_rfl) (fun _ _ _ h => h) rfl (Or.inl ⟨by rfl, ?_⟩) ?_ HS0 ?_
      rotate_left 2
      · intro w hS; clear hS; go_simp; rfl
      · simp only [List.setIfInBounds_toArray, List.set_cons_succ, List.set_cons_zero]; rfl
      refine wpAnyK_takeL (i := 16) (d := 22) (v := ?_) (T' := ?_) (listed' := #[true, true, true, true, true, true, true, true, true, true, true, true, true, true, true, true, true, false, false, false, false, false, false, false, false]) rfl rfl (by kernel_rfl) (fun _ _ _ h => h) rfl (Or.inl ⟨by rfl, ?_⟩) ?_ HS0 ?_
      rotate_left 2
      · intro w hS; clear hS; go_simp; rfl
      · simp only [List.setIfInBounds_toArray, List.set_cons_succ, List.set_cons_zero]; rfl
      refine wpAnyK_takeL (i := 17) (d := 23) (v := ?_) (T' := ?_) (listed' := #[true, true, true, true, true, true, true, true, true, true, true, true, true, true, true, true, true, true, false, false, false, false, false, false, false]) rfl rfl (by kernel_rfl) (fun _ _ _ h => h) rfl (Or.inl ⟨by rfl, ?_⟩) ?_ HS0 ?_
      rotate_left 2
      · intro w hS; clear hS; go_simp; rfl
      · simp only [List.setIfInBounds_toArray, List.set_cons_succ, List.set_cons_zero]; rfl
      refine wpAnyK_oneL (i := 18) (listed' := #[true, true, true, true, true, true, true, true, true, true, true, true, true, true, true, true, true, true, true, false, false, false, false, false, false]) (by kernel_rfl) rfl (by rfl) rfl ?_
      intro K hK
      go_simp
      refine HCL.out.mono ?_
      rintro e w5 ⟨v5, rfl, ho5, hg5⟩
      obtain ⟨a5, c5, hv5⟩ := ho5.rd.len
      subst hv5
      have HG5 : Hid (w.grownBy w5 none) := Lib.hid (gb_same (gb_drew _ _) hg5)
      have HO5 : Hid (Own w5 w.heap.size (.slice a5 (sub img b b).length c5) (sub img b b)) := Lib.hid ho5
      clear ho5 hg5
      have e0 := HG5.out.cell c0 (by simp)
      have e1 := HG5.out.cell c1 (by simp)
      refine hK _ _ (fun _ => ⟨e0, e1⟩) ?_
      clear hK K
      refine wpAnyK_oneL (i := 19) (listed' := #[true, true, true, true, true, true, true, true, true, true, true, true, true, true, true, true, true, true, true, true, false, false, false, false, false]) (by kernel_rfl) rfl (by rfl) rfl ?_
      intro K hK
      go_simp
      refine hK _ _ (fun _ => ⟨e0, e1⟩) ?_
      clear hK K
      refine wpAnyK_oneL (i := 20) (listed' := #[true, true, true, true, true, true, true, true, true, true, true, true, true, true, true, true, true, true, true, true, true, false, false, false, false]) (by kernel_rfl) rfl (by rfl) rfl ?_
      intro K hK
      go_simp
      obtain ⟨w6, hw6⟩ : ∃ w6, w5.alloc (Obj.cells #[.int .i64 (b : Int), .int .i64 (img.length : Int), .slice a5 (sub img b b).length c5] 65) = w6 := ⟨_, rfl⟩
      have HB6 : Hid (w6.heap[w5.heap.size]? = some (.cells #[.int .i64 (b : Int), .int .i64 (img.length : Int), .slice a5 (sub img b b).length c5] 65 (0, 0))) := Lib.hid (by rw [← hw6]; exact heap_at_alloc _ _)
      have HG6 : Hid (w5.grownBy w6 none) := Lib.hid (by rw [← hw6]; exact gb_alloc _ _ _)
      rw [hw6]
      clear hw6
      have f0 := HG6.out.cell e0 (by simp)
      have f1 := HG6.out.cell e1 (by simp)
      refine hK _ _ (fun _ => ⟨f0, f1⟩) ?_
      clear hK K
      refine wpAnyK_oneL (i := 21) (listed' := #[true, true, true, true, true, true, true, true, true, true, true, true, true, true, true, true, true, true, true, true, true, true, false, false, false]) (by kernel_rfl) rfl (by rfl) rfl ?_
      intro K hK
      refine rec_app_op Try.underlying42 info_rec _ _ rfl 0 (.slice ar ps.length cr) _ ps [(((b : Int), (img.length : Int), sub img b b), .slice a5 (sub img b b).length c5)] rfl rfl ((H.out.row.grown HG5.out).grown HG6.out) (RdRow.one HB6.out) (by simp [HO5.out.one]) (by simpa using hn) (Nat.zero_le _) ?_
      intro v7 w7 h7 hg7 hf7
      obtain ⟨a7, c7, hv7⟩ := h7.slice
      rw [List.length_append, List.length_singleton] at hv7
      subst hv7
      have H7 := Lib.hid h7
      have HG7 := Lib.hid hg7
      have HF7 := Lib.hid hf7
      have hb7 : w7.heap[g]? = some (.cells #[.slice (some ⟨g1, 0, none⟩) img.length b, .slice ar ps.length cr, .bool op] 68 (0, 0)) := blk_kept' (blk_kept (blk_kept H.out.blk HG5.out) HG6.out) hg7 (fun e => (H.out.fr g e).2.1 rfl)
      have k0 : w7.cell? ⟨g, 0, none⟩ = some (.slice (some ⟨g1, 0, none⟩) img.length b) := cell_row hb7
      have k1 : w7.cell? ⟨g, 1, none⟩ = some (.slice ar ps.length cr) := cell_row hb7
      have k2 : w7.frozen? ⟨g, 1, none⟩ = false := frozen_row hb7
      clear h7 hg7 hf7 hb7 e0 e1 f0 f1
      refine hK _ _ (fun _ => ⟨k0, k1⟩) ?_
      clear hK K
      refine wpAnyK_oneL (i := 22) (listed' := #[true, true, true, true, true, true, true, true, true, true, true, true, true, true, true, true, true, true, true, true, true, true, true, false, false]) (by kernel_rfl) rfl (by rfl) rfl ?_
      intro K hK
      go_simp
      refine hK _ _ (fun _ => ⟨k0, k1⟩) ?_
      clear hK K
      refine wpAnyK_oneL (i := 23) (listed' := #[true, true, true, true, true, true, true, true, true, true, true, true, true, true, true, true, true, true, true, true, true, true, true, true, false]) (by kernel_rfl) rfl (by rfl) rfl ?_
      intro K hK
      go_simp
      refine hK _ _ (fun _ => ⟨k0, k1⟩) ?_
      clear hK K
      refine wpAnyK_oneL (i := 24) (listed' := #[true, true, true, true, true, true, true, true, true, true, true, true, true, true, true, true, true, true, true, true, true, true, true, true, true]) (by kernel_rfl) rfl (by rfl) rfl ?_
      intro K hK
      go_simp
      refine hK _ _ (fun h => Bool.noConfusion (show true = false from h)) ?_
      clear hK K
      refine wpAnyK_done (by kernel_rfl) ?_ _
      go_end0
      exact KeepP.mk H.out HG5.out HO5.out HG6.out HG7.out H7.out HF7.out

    · have hco2 : a < ci := by omega
      have hbc : b ≤ ci := by omega
      have HRS := Lib.hid ((H.out.image.part a b hab hb rfl).1.grown (gb_drew _ _))
      have HCL := Lib.hid (clone_any (.slice (some ⟨g1, a, none⟩) (b - a) (ci - a)) _ w.drew HRS.out (by rw [HSL.out]; omega))
      go_enter Try.func56, Try.ntmps56
      refine region_KL (fuel := 25) (listed := #[false, false, false, false, false, false, false, false, false, false, false, false, false, false, false, false, false, false, false, false, false, false, false, false, false]) (fun W => W.cell? ⟨g, 0, none⟩ = some (.slice (some ⟨g1, 0, none⟩) img.length ci) ∧ W.cell? ⟨g, 1, none⟩ = some (.slice ar ps.length cr)) 24 (by kernel_rfl) rfl (by kernel_rfl) ?_
      have HS0 : w.drew.cell? ⟨g, 0, none⟩ = some (.slice (some ⟨g1, 0, none⟩) img.length ci) ∧ w.drew.cell? ⟨g, 1, none⟩ = some (.slice ar ps.length cr) := ⟨c0, c1⟩
      refine wpAnyK_takeL (i := 0) (d := 6) (v := ?_) (T' := ?_) (listed' := #[true, false, false, false, false, false, false, false, false, false, false, false, false, false, false, false, false, false, false, false, false, false, false, false, false]) rfl rfl (by kernel_rfl) (fun _ _ _ h => h) rfl (Or.inl ⟨by rfl, ?_⟩) ?_ HS0 ?_
      rotate_left 2
      · intro w hS; clear hS; go_simp; rfl
      · simp only [List.setIfInBounds_toArray, List.set_cons_succ, List.set_cons_zero]; rfl
      refine wpAnyK_takeL (i := 1) (d := 7) (v := ?_) (T' := ?_) (listed' := #[true, true, false, false, false, false, false, false, false, false, false, false, false, false, false, false, false, false, false, false, false, false, false, false, false]) rfl rfl (by kernel_rfl) (fun _ _ _ h => h) rfl (Or.inl ⟨by rfl, ?_⟩) ?_ HS0 ?_
      rotate_left 2
      · intro w hS; clear hS; go_simp; rfl
      · simp only [List.setIfInBounds_toArray, List.set_cons_succ, List.set_cons_zero]; rfl
      refine wpAnyK_takeL (i := 2) (d := 8) (v := ?_) (T' := ?_) (listed' := #[true, true, true, false, false, false, false, false, false, false, false, false, false, false, false, false, false, false, false, false, false, false, false, false, false]) rfl rfl (by kernel_rfl) (fun _ _ _ h => h) rfl (Or.inl ⟨by rfl, ?_⟩) ?_ HS0 ?_
      rotate_left 2
      · intro w hS; clear hS; go_simp; rfl
      · simp only [List.setIfInBounds_toArray, List.set_cons_succ, List.set_cons_zero]; rfl
      refine wpAnyK_takeL (i := 3) (d := 9) (v := ?_) (T' := ?_) (listed' := #[true, true, true, true, false, false, false, false, false, false, false, false, false, false, false, false, false, false, false, false, false, false, false, false, false]) rfl rfl (by kernel_rfl) (fun _ _ _ h => h) rfl (Or.inl ⟨by rfl, ?_⟩) ?_ HS0 ?_
      rotate_left 2
      · intro w hS; clear hS; go_simp; rfl
      · simp only [List.setIfInBounds_toArray, List.set_cons_succ, List.set_cons_zero]; rfl
      refine wpAnyK_takeL (i := 4) (d := 10) (v := ?_) (T' := ?_) (listed' := #[true, true, true, true, true, false, false, false, false, false, false, false, false, false, false, false, false, false, false, false, false, false, false, false, false]) rfl rfl (by kernel_rfl) (fun _ _ _ h => h) rfl (Or.inl ⟨by rfl, ?_⟩) ?_ HS0 ?_
      rotate_left 2
      · intro w hS; have t0 := hS.1; have t1 := hS.2; clear hS; go_simp; rfl
      · simp only [List.setIfInBounds_toArray, List.set_cons_succ, List.set_cons_zero]; rfl
      refine wpAnyK_takeL (i := 5) (d := 11) (v := ?_) (T' := ?_) (listed' := #[true, true, true, true, true, true, false, false, false, false, false, false, false, false, false, false, false, false, false, false, false, false, false, false, false]) rfl rfl (by kernel_rfl) (fun _ _ _ h => h) rfl (Or.inl ⟨by rfl, ?_⟩) ?_ HS0 ?_
      rotate_left 2
      · intro w hS; clear hS; go_simp; rfl
      · simp only [List.setIfInBounds_toArray, List.set_cons_succ, List.set_cons_zero]; rfl
      refine wpAnyK_takeL (i := 6) (d := 12) (v := ?_) (T' := ?_) (listed' := #[true, true, true, true, true, true, true, false, false, false, false, false, false, false, false, false, false, false, false, false, false, false, false, false, false]) rfl rfl (by kernel_rfl) (fun _ _ _ h => h) rfl (Or.inl ⟨by rfl, ?_⟩) ?_ HS0 ?_
      rotate_left 2
      · intro w hS; clear hS; go_simp; rfl
      · simp only [List.setIfInBounds_toArray, List.set_cons_succ, List.set_cons_zero]; rfl
      refine wpAnyK_takeL (i := 7) (d := 13) (v := ?_) (T' := ?_) (listed' := #[true, true, true, true, true, true, true, true, false, false, false, false, false, false, false, false, false, false, false, false, false, false, false, false, false]) rfl rfl (by kernel_rfl) (fun _ _ _ h => h) rfl (Or.inl ⟨by rfl, ?_⟩) ?_ HS0 ?_
      rotate_left 2
      · intro w hS; clear hS; go_simp; rfl
      · simp only [List.setIfInBounds_toArray, List.set_cons_succ, List.set_cons_zero]; rfl
      refine wpAnyK_takeL (i := 8) (d := 14) (v := ?_) (T' := ?_) (listed' := #[true, true, true, true, true, true, true, true, true, false, false, false, false, false, false, false, false, false, false, false, false, false, false, false, false]) rfl rfl (by kernel_rfl) (fun _ _ _ h => h) rfl (Or.inl ⟨by rfl, ?_⟩) ?_ HS0 ?_
      rotate_left 2
      · intro w hS; clear hS; go_simp; rfl
      · simp only [List.setIfInBounds_toArray, List.set_cons_succ, List.set_cons_zero]; rfl
      refine wpAnyK_takeL (i := 9) (d := 15) (v := ?_) (T' := ?_) (listed' := #[true, true, true, true, true, true, true, true, true, true, false, false, false, false, false, false, false, false, false, false, false, false, false, false, false]) rfl rfl (by kernel_rfl) (fun _ _ _ h => h) rfl (Or.inl ⟨by rfl, ?_⟩) ?_ HS0 ?_
      rotate_left 2
      · intro w hS; have t0 := hS.1; have t1 := hS.2; clear hS; go_simp; rfl
      · simp only [List.setIfInBounds_toArray, List.set_cons_succ, List.set_cons_zero]; rfl
      refine wpAnyK_takeL (i := 10) (d := 16) (v := ?_) (T' := ?_) (listed' := #[true, true, true, true, true, true, true, true, true, true, true, false, false, false, false, false, false, false, false, false, false, false, false, false, false]) rfl rfl (by kernel_rfl) (fun _ _ _ h => h) rfl (Or.inl ⟨by rfl, ?_⟩) ?_ HS0 ?_
      rotate_left 2
      · intro w hS; clear hS; go_simp; rfl
      · simp only [List.setIfInBounds_toArray, List.set_cons_succ, List.set_cons_zero]; rfl
      refine wpAnyK_takeL (i := 11) (d := 17) (v := ?_) (T' := ?_) (listed' := #[true, true, true, true, true, true, true, true, true, true, true, true, false, false, false, false, false, false, false, false, false, false, false, false, false]) rfl rfl (by kernel_rfl) (fun _ _ _ h => h) rfl (Or.inl ⟨by rfl, ?_⟩) ?_ HS0 ?_
      rotate_left 2
      · intro w hS; clear hS; go_simp; rfl
      · simp only [List.setIfInBounds_toArray, List.set_cons_succ, List.set_cons_zero]; rfl
      refine wpAnyK_takeL (i := 12) (d := 18) (v := ?_) (T' := ?_) (listed' := #[true, true, true, true, true, true, true, true, true, true, true, true, true, false, false, false, false, false, false, false, false, false, false, false, false]) rfl rfl (by kernel_rfl) (fun _ _ _ h => h) rfl (Or.inl ⟨by rfl, ?_⟩) ?_ HS0 ?_
      rotate_left 2
      · intro w hS; clear hS; go_simp; rfl
      · simp only [List.setIfInBounds_toArray, List.set_cons_succ, List.set_cons_zero]; rfl
      refine wpAnyK_takeL (i := 13) (d := 19) (v := ?_) (T' := ?_) (listed' := #[true, true, true, true, true, true, true, true, true, true, true, true, true, true, false, false, false, false, false, false, false, false, false, false, false]) rfl rfl (by kernel_rfl) (fun _ _ _ h => h) rfl (Or.inl ⟨by rfl, ?_⟩) ?_ HS0 ?_
      rotate_left 2
      · intro w hS; clear hS; go_simp; rfl
      · simp only [List.setIfInBounds_toArray, List.set_cons_succ, List.set_cons_zero]; rfl
      refine wpAnyK_takeL (i := 14) (d := 20) (v := ?_) (T' := ?_) (listed' := #[true, true, true, true, true, true, true, true, true, true, true, true, true, true, true, false, false, false, false, false, false, false, false, false, false]) rfl rfl (by kernel_rfl) (fun _ _ _ h => h) rfl (Or.inl ⟨by rfl, ?_⟩) ?_ HS0 ?_
      rotate_left 2
      · intro w hS; have t0 := hS.1; have t1 := hS.2; clear hS; go_simp; rfl
      · simp only [List.setIfInBounds_toArray, List.set_cons_succ, List.set_cons_zero]; rfl
      refine wpAnyK_takeL (i := 15) (d := 21) (v := ?_) (T' := ?_) (listed' := #[true, true, true, true, true, true, true, true, true, true, true, true, true, true, true, true, false, false, false, false, false, false, false, false, false]) rfl rfl (by kernel_rfl) (fun _ _ _ h => h) rfl (Or.inl ⟨by rfl, ?_⟩) ?_ HS0 ?_
      rotate_left 2
      · intro w hS; clear hS; go_simp; rfl
      · simp only [List.setIfInBounds_toArray, List.set_cons_succ, List.set_cons_zero]; rfl
      refine wpAnyK_takeL (i := 16) (d := 22) (v := ?_) (T' := ?_) (listed' := #[true, true, true, true, true, true, true, true, true, true, true, true, true, true, true, true, true, false, false, false, false, false, false, false, false]) rfl rfl (by kernel_rfl) (fun _ _ _ h => h) rfl (Or.inl ⟨by rfl, ?_⟩) ?_ HS0 ?_
      rotate_left 2
      · intro w hS; clear hS; go_simp; rfl
      · simp only [List.setIfInBounds_toArray, List.set_cons_succ, List.set_cons_zero]; rfl
      refine wpAnyK_takeL (i := 17) (d := 23) (v := ?_) (T' := ?_) (listed' := #[true, true, true, true, true, true, true, true, true, true, true, true, true, true, true, true, true, true, false, false, false, false, false, false, false]) rfl rfl (by kernel_rfl) (fun _ _ _ h => h) rfl (Or.inl ⟨by rfl, ?_⟩) ?_ HS0 ?_
      rotate_left 2
      · intro w hS; clear hS; go_simp; rfl
      · simp only [List.setIfInBounds_toArray, List.set_cons_succ, List.set_cons_zero]; rfl
      refine wpAnyK_oneL (i := 18) (listed' := #[true, true, true, true, true, true, true, true, true, true, true, true, true, true, true, true, true, true, true, false, false, false, false, false, false]) (by kernel_rfl) rfl (by rfl) rfl ?_
      intro K hK
      go_simp
      refine HCL.out.mono ?_
      rintro e w5 ⟨v5, rfl, ho5, hg5⟩
      obtain ⟨a5, c5, hv5⟩ := ho5.rd.len
      subst hv5
      have HG5 : Hid (w.grownBy w5 none) := Lib.hid (gb_same (gb_drew _ _) hg5)
      have HO5 : Hid (Own w5 w.heap.size (.slice a5 (sub img a b).length c5) (sub img a b)) := Lib.hid ho5
      clear ho5 hg5
      have e0 := HG5.out.cell c0 (by simp)
      have e1 := HG5.out.cell c1 (by simp)
      refine hK _ _ (fun _ => ⟨e0, e1⟩) ?_
      clear hK K
      refine wpAnyK_oneL (i := 19) (listed' := #[true, true, true, true, true, true, true, true, true, true, true, true, true, true, true, true, true, true, true, true, false, false, false, false, false]) (by kernel_rfl) rfl (by rfl) rfl ?_
      intro K hK
      go_simp
      refine hK _ _ (fun _ => ⟨e0, e1⟩) ?_
      clear hK K
      refine wpAnyK_oneL (i := 20) (listed' := #[true, true, true, true, true, true, true, true, true, true, true, true, true, true, true, true, true, true, true, true, true, false, false, false, false]) (by kernel_rfl) rfl (by rfl) rfl ?_
      intro K hK
      go_simp
      obtain ⟨w6, hw6⟩ : ∃ w6, w5.alloc (Obj.cells #[.int .i64 (a : Int), .int .i64 (img.length : Int), .slice a5 (sub img a b).length c5] 65) = w6 := ⟨_, rfl⟩
      have HB6 : Hid (w6.heap[w5.heap.size]? = some (.cells #[.int .i64 (a : Int), .int .i64 (img.length : Int), .slice a5 (sub img a b).length c5] 65 (0, 0))) := Lib.hid (by rw [← hw6]; exact heap_at_alloc _ _)
      have HG6 : Hid (w5.grownBy w6 none) := Lib.hid (by rw [← hw6]; exact gb_alloc _ _ _)
      rw [hw6]
      clear hw6
      have f0 := HG6.out.cell e0 (by simp)
      have f1 := HG6.out.cell e1 (by simp)
      refine hK _ _ (fun _ => ⟨f0, f1⟩) ?_
      clear hK K
      refine wpAnyK_oneL (i := 21) (listed' := #[true, true, true, true, true, true, true, true, true, true, true, true, true, true, true, true, true, true, true, true, true, true, false, false, false]) (by kernel_rfl) rfl (by rfl) rfl ?_
      intro K hK
      refine rec_app_op Try.underlying42 info_rec _ _ rfl 0 (.slice ar ps.length cr) _ ps [(((a : Int), (img.length : Int), sub img a b), .slice a5 (sub img a b).length c5)] rfl rfl ((H.out.row.grown HG5.out).grown HG6.out) (RdRow.one HB6.out) (by simp [HO5.out.one]) (by simpa using hn) (Nat.zero_le _) ?_
      intro v7 w7 h7 hg7 hf7
      obtain ⟨a7, c7, hv7⟩ := h7.slice
      rw [List.length_append, List.length_singleton] at hv7
      subst hv7
      have H7 := Lib.hid h7
      have HG7 := Lib.hid hg7
      have HF7 := Lib.hid hf7
      have hb7 : w7.heap[g]? = some (.cells #[.slice (some ⟨g1, 0, none⟩) img.length ci, .slice ar ps.length cr, .bool op] 68 (0, 0)) := blk_kept' (blk_kept (blk_kept H.out.blk HG5.out) HG6.out) hg7 (fun e => (H.out.fr g e).2.1 rfl)
      have k0 : w7.cell? ⟨g, 0, none⟩ = some (.slice (some ⟨g1, 0, none⟩) img.length ci) := cell_row hb7
      have k1 : w7.cell? ⟨g, 1, none⟩ = some (.slice ar ps.length cr) := cell_row hb7
      have k2 : w7.frozen? ⟨g, 1, none⟩ = false := frozen_row hb7
      clear h7 hg7 hf7 hb7 e0 e1 f0 f1
      refine hK _ _ (fun _ => ⟨k0, k1⟩) ?_
      clear hK K
      refine wpAnyK_oneL (i := 22) (listed' := #[true, true, true, true, true, true, true, true, true, true, true, true, true, true, true, true, true, true, true, true, true, true, true, false, false]) (by kernel_rfl) rfl (by rfl) rfl ?_
      intro K hK
      go_simp
      refine hK _ _ (fun _ => ⟨k0, k1⟩) ?_
      clear hK K
      refine wpAnyK_oneL (i := 23) (listed' := #[true, true, true, true, true, true, true, true, true, true, true, true, true, true, true, true, true, true, true, true, true, true, true, true, false]) (by kernel_rfl) rfl (by rfl) rfl ?_
      intro K hK
      go_simp
      refine hK _ _ (fun _ => ⟨k0, k1⟩) ?_
      clear hK K
      refine wpAnyK_oneL (i := 24) (listed' := #[true, true, true, true, true, true, true, true, true, true, true, true, true, true, true, true, true, true, true, true, true, true, true, true, true]) (by kernel_rfl) rfl (by rfl) rfl ?_
      intro K hK
      go_simp
      refine hK _ _ (fun h => Bool.noConfusion (show true = false from h)) ?_
      clear hK K
      refine wpAnyK_done (by kernel_rfl) ?_ _
      go_end0
      exact KeepP.mk H.out HG5.out HO5.out HG6.out HG7.out H7.out HF7.out

end Go.Proofs.Ytfdkmncjcehdkaa
