/-
  Encode of a byte queue: the walk.
-/
import Derived.Test.YtjidkaeglhfajaaVE
namespace Go.Proofs.Ytjidkaeglhfajaa
open Go.RowKit Go.Shelf

def EncP (bs : List UInt8) (w : World) (e : Ending) (w' : World) : Prop := ∃ v, e = .returned v ∧ Own w' w.heap.size v bs ∧ w.grownBy w' none
def encQ (n : Nat) (l : List UInt8) : List UInt8 := enc (n : Int) ++ encS l
set_option maxRecDepth 100000 in
set_option maxHeartbeats 4000000 in
theorem encodeB_any {w : World} {g s n f : Nat} {cs l : List UInt8} (h : IsB w g s n f cs l) : Calls Try.prog 28 #[.pointer (some ⟨g, 0, none⟩)] w (EncP (encQ n l) w) := by
  have hle := h.le
  have hcn := h.cnt
  have hg0 := h.grown (gb_drew w none)
  have HIA := Lib.hid (int_any (.slice none 0 0) (n : Int) w.drew w.heap.size [] (by omega) (by omega) (Own.nil _ _) (Nat.le_refl _) (by simp))
  have HS0 : Hid (w.drew.cell? ⟨g, 0, none⟩ = some (.slice (some ⟨s, 0, none⟩) n n) ∧ w.drew.cell? ⟨g, 2, none⟩ = some (.int .i64 (l.length : Int))) := Lib.hid ⟨hg0.c0, hg0.c2⟩
  have H := Lib.hid h
  clear h hg0
  go_enter Try.func28, Try.ntmps28
  go_wp2_with fail
  refine region_KL (fuel := 14) (listed := #[false, false, false, false, false, false, false, false, false, false, false, false, false, false]) (fun X => X.cell? ⟨g, 0, none⟩ = some (.slice (some ⟨s, 0, none⟩) n n) ∧ X.cell? ⟨g, 2, none⟩ = some (.int .i64 (l.length : Int))) 13 (by kernel_rfl) rfl (by kernel_rfl) ?_
  refine wpAnyK_takeL (i := 0) (d := 5) (v := ?_) (T' := ?_) (listed' := #[true, false, false, false, false, false, false, false, false, false, false, false, false, false]) rfl rfl (by kernel_rfl) (fun _ _ _ h => h) rfl (Or.inl ⟨by rfl, ?_⟩) ?_ HS0.out ?_
  rotate_left 2
  · intro w hS; clear hS; go_simp; rfl
  · simp only [List.setIfInBounds_toArray, List.set_cons_succ, List.set_cons_zero]; rfl
  refine wpAnyK_takeL (i := 1) (d := 6) (v := ?_) (T' := ?_) (listed' := #[true, true, false, false, false, false, false, false, false, false, false, false, false, false]) rfl rfl (by kernel_rfl) (fun _ _ _ h => h) rfl (Or.inl ⟨by rfl, ?_⟩) ?_ HS0.out ?_
  rotate_left 2
  · intro w hS; clear hS; go_simp; rfl
  · simp only [List.setIfInBounds_toArray, List.set_cons_succ, List.set_cons_zero]; rfl
  refine wpAnyK_takeL (i := 2) (d := 7) (v := ?_) (T' := ?_) (listed' := #[true, true, true, false, false, false, false, false, false, false, false, false, false, false]) rfl rfl (by kernel_rfl) (fun _ _ _ h => h) rfl (Or.inl ⟨by rfl, ?_⟩) ?_ HS0.out ?_
  rotate_left 2
  · intro w hS; clear hS; go_simp; rfl
  · simp only [List.setIfInBounds_toArray, List.set_cons_succ, List.set_cons_zero]; rfl
  refine wpAnyK_takeL (i := 3) (d := 8) (v := ?_) (T' := ?_) (listed' := #[true, true, true, true, false, false, false, false, false, false, false, false, false, false]) rfl rfl (by kernel_rfl) (fun _ _ _ h => h) rfl (Or.inl ⟨by rfl, ?_⟩) ?_ HS0.out ?_
  rotate_left 2
  · intro w hS; have t0 := hS.1; clear hS; go_simp; rfl
  · simp only [List.setIfInBounds_toArray, List.set_cons_succ, List.set_cons_zero]; rfl
  refine wpAnyK_takeL (i := 4) (d := 9) (v := ?_) (T' := ?_) (listed' := #[true, true, true, true, true, false, false, false, false, false, false, false, false, false]) rfl rfl (by kernel_rfl) (fun _ _ _ h => h) rfl (Or.inl ⟨by rfl, ?_⟩) ?_ HS0.out ?_
  rotate_left 2
  · intro w hS; clear hS; go_simp; rfl
  · simp only [List.setIfInBounds_toArray, List.set_cons_succ, List.set_cons_zero]; rfl
  refine wpAnyK_takeL (i := 6) (d := 11) (v := ?_) (T' := ?_) (listed' := #[true, true, true, true, true, false, true, false, false, false, false, false, false, false]) rfl rfl (by kernel_rfl) (fun _ _ _ h => h) rfl (Or.inl ⟨by rfl, ?_⟩) ?_ HS0.out ?_
  rotate_left 2
  · intro w hS; clear hS; go_simp; rfl
  · simp only [List.setIfInBounds_toArray, List.set_cons_succ, List.set_cons_zero]; rfl
  refine wpAnyK_takeL (i := 7) (d := 12) (v := ?_) (T' := ?_) (listed' := #[true, true, true, true, true, false, true, true, false, false, false, false, false, false]) rfl rfl (by kernel_rfl) (fun _ _ _ h => h) rfl (Or.inl ⟨by rfl, ?_⟩) ?_ HS0.out ?_
  rotate_left 2
  · intro w hS; clear hS; go_simp; rfl
  · simp only [List.setIfInBounds_toArray, List.set_cons_succ, List.set_cons_zero]; rfl
  refine wpAnyK_takeL (i := 8) (d := 13) (v := ?_) (T' := ?_) (listed' := #[true, true, true, true, true, false, true, true, true, false, false, false, false, false]) rfl rfl (by kernel_rfl) (fun _ _ _ h => h) rfl (Or.inl ⟨by rfl, ?_⟩) ?_ HS0.out ?_
  rotate_left 2
  · intro w hS; clear hS; go_simp; rfl
  · simp only [List.setIfInBounds_toArray, List.set_cons_succ, List.set_cons_zero]; rfl
  refine wpAnyK_takeL (i := 9) (d := 14) (v := ?_) (T' := ?_) (listed' := #[true, true, true, true, true, false, true, true, true, true, false, false, false, false]) rfl rfl (by kernel_rfl) (fun _ _ _ h => h) rfl (Or.inl ⟨by rfl, ?_⟩) ?_ HS0.out ?_
  rotate_left 2
  · intro w hS; clear hS; go_simp; rfl
  · simp only [List.setIfInBounds_toArray, List.set_cons_succ, List.set_cons_zero]; rfl
  refine wpAnyK_takeL (i := 10) (d := 15) (v := ?_) (T' := ?_) (listed' := #[true, true, true, true, true, false, true, true, true, true, true, false, false, false]) rfl rfl (by kernel_rfl) (fun _ _ _ h => h) rfl (Or.inl ⟨by rfl, ?_⟩) ?_ HS0.out ?_
  rotate_left 2
  · intro w hS; have t0 := hS.2; clear hS; go_simp; rfl
  · simp only [List.setIfInBounds_toArray, List.set_cons_succ, List.set_cons_zero]; rfl
  refine wpAnyK_oneL (i := 5) (listed' := #[true, true, true, true, true, true, true, true, true, true, true, false, false, false]) (by kernel_rfl) rfl (by rfl) rfl ?_
  intro K hK
  go_simp
  refine HIA.out.mono ?_
  rintro e w1 ⟨v1, rfl, ho1, hg1, _⟩
  rw [List.nil_append] at ho1
  have HO1 := Lib.hid ho1
  have HG1 : Hid (w.grownBy w1 none) := Lib.hid (gb_same (gb_drew w none) hg1)
  have hq1 := H.out.grown HG1.out
  have HS1 : Hid (w1.cell? ⟨g, 0, none⟩ = some (.slice (some ⟨s, 0, none⟩) n n) ∧ w1.cell? ⟨g, 2, none⟩ = some (.int .i64 (l.length : Int))) := Lib.hid ⟨hq1.c0, hq1.c2⟩
  have HPK := Lib.hid (peek_any hq1 (l.length : Int) ⟨by omega, by omega⟩)
  clear ho1 hg1 hq1
  refine hK _ _ (fun _ => HS1.out) ?_
  clear hK K
  refine wpAnyK_oneL (i := 11) (listed' := #[true, true, true, true, true, true, true, true, true, true, true, true, false, false]) (by kernel_rfl) rfl (by rfl) rfl ?_
  intro K hK
  go_simp
  refine HPK.out.mono ?_
  rintro e w2 ⟨v2, rfl, ho2, hg2⟩
  rw [Int.toNat_natCast, List.take_length] at ho2
  have HG2 := Lib.hid (gb_same HG1.out hg2)
  have hq2 := H.out.grown HG2.out
  have HS2 : Hid (w2.cell? ⟨g, 0, none⟩ = some (.slice (some ⟨s, 0, none⟩) n n) ∧ w2.cell? ⟨g, 2, none⟩ = some (.int .i64 (l.length : Int))) := Lib.hid ⟨hq2.c0, hq2.c2⟩
  have HWB := Lib.hid (wbytesW_any v1 v2 w2 w.heap.size (enc (n : Int)) l (HO1.out.grown hg2) ho2.rd.w HG2.out.size (fun _ k hk e => by have := (HO1.out.lt k e).2; have := (ho2.lt k hk).1; omega) (by have := (enc_len (n : Int)).2; omega) (by omega))
  clear ho2 hg2 hq2
  refine hK _ _ (fun _ => HS2.out) ?_
  clear hK K
  refine wpAnyK_oneL (i := 12) (listed' := #[true, true, true, true, true, true, true, true, true, true, true, true, true, false]) (by kernel_rfl) rfl (by rfl) rfl ?_
  intro K hK
  go_simp
  refine HWB.out.mono ?_
  rintro e w3 ⟨v3, rfl, ho3, hg3, _⟩
  have HO3 := Lib.hid ho3
  have HG3 := Lib.hid (gb_trans HG2.out hg3 (fun j hj => .inr (HO1.out.lt j hj).1))
  have hq3 := H.out.grown HG3.out
  have HS3 : Hid (w3.cell? ⟨g, 0, none⟩ = some (.slice (some ⟨s, 0, none⟩) n n) ∧ w3.cell? ⟨g, 2, none⟩ = some (.int .i64 (l.length : Int))) := Lib.hid ⟨hq3.c0, hq3.c2⟩
  clear ho3 hg3 hq3
  refine hK _ _ (fun _ => HS3.out) ?_
  clear hK K
  refine wpAnyK_oneL (i := 13) (listed' := #[true, true, true, true, true, true, true, true, true, true, true, true, true, true]) (by kernel_rfl) rfl (by rfl) rfl ?_
  intro K hK
  go_simp
  refine hK _ _ (fun h => Bool.noConfusion (show true = false from h)) ?_
  clear hK K
  refine wpAnyK_done (by kernel_rfl) ?_ _
  go_wp2
  go_ret
  exact ⟨_, rfl, HO3.out, HG3.out⟩
end Go.Proofs.Ytjidkaeglhfajaa
