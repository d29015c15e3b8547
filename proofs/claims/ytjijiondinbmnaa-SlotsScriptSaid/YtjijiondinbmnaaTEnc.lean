/-
  Encode of a table: the walk.
-/
import Derived.Test.YtjijiondinbmnaaWD
import Derived.Test.YtjijiondinbmnaaTHan
import Derived.Test.YtjijiondinbmnaaHeld
namespace Go.Proofs.Ytjijiondinbmnaa
open Go.RowKit

def encSl (p : SS) : List UInt8 := enc (p.1 : Int) ++ encB p.2.1 ++ (if p.2.1 = true then enc p.2.2 else [])
def encN (l : List SS) : Nat → List UInt8
  | 0 => enc (l.length : Int)
  | k + 1 => match l[k]? with | none => encN l k | some p => encN l k ++ encSl p
theorem encN_snoc {l : List SS} {k : Nat} {p : SS} (hp : l[k]? = some p) : encN l (k + 1) = encN l k ++ encSl p := by rw [encN, hp]
theorem encSl_len (p : SS) : (encSl p).length ≤ 21 := by
  unfold encSl
  have h1 := (enc_len (p.1 : Int)).2
  have h2 := (enc_len p.2.2).2
  have h3 : (encB p.2.1).length = 1 := by unfold encB; split <;> rfl
  rw [List.length_append, List.length_append]
  split
  · omega
  · simp; omega
theorem encN_len (l : List SS) : ∀ k, (encN l k).length ≤ 10 + 21 * k
  | 0 => by have := (enc_len (l.length : Int)).2; simp only [encN]; omega
  | k + 1 => by
    have := encN_len l k
    unfold encN
    split
    · omega
    · rename_i p _
      have := encSl_len p
      rw [List.length_append]; omega
def EncP (bs : List UInt8) (w : World) (e : Ending) (w' : World) : Prop := ∃ v, e = .returned v ∧ Own w' w.heap.size v bs ∧ w.grownBy w' none
set_option maxRecDepth 100000 in
set_option maxHeartbeats 4000000 in
theorem encode_any {w : World} {g s : Nat} {l : List SS} (h : IsT w g s l) : Calls Try.prog 20 #[.pointer (some ⟨g, 0, none⟩)] w (EncP (encN l l.length) w) := by
  have hc := h.cell
  have hlen := h.len
  have H := Lib.hid h
  have HIA := Lib.hid (int_any (.slice none 0 0) (l.length : Int) w w.heap.size [] (by omega) (by omega) (Own.nil _ _) (Nat.le_refl _) (by simp))
  clear h
  go_enter Try.func20, Try.ntmps20
  go_wp2_with fail
  refine HIA.out.mono ?_
  rintro e w1 ⟨v1, rfl, ho1, hg1, hf1⟩
  have HO1 := Lib.hid ho1
  have HG1 : Hid (w.grownBy w1 none) := Lib.hid hg1
  have hc1 := (H.out.grown hg1).cell
  clear ho1 hg1 hf1 hc
  go_wp2
  go_loopw [3, 19] (fun v i wr => ∃ k : Nat, k ≤ l.length ∧ i = .int .i64 k ∧ Hid (Own wr w.heap.size v (encN l k)) ∧ Hid (w.grownBy wr none)) (fun _ i _ => l.length - (intOf i).toNat)
  case atStart => exact ⟨0, Nat.zero_le _, rfl, Lib.hid (by simpa [encN] using HO1.out), HG1⟩
  case round =>
    obtain ⟨k, hk, rfl, HO, HG⟩ := hrel
    have HT := Lib.hid (H.out.grown HG.out)
    clear hc1
    by_cases hlt : k < l.length
    · obtain ⟨p, hp⟩ : ∃ p, l[k]? = some p := ⟨l[k], by simp [hlt]⟩
      obtain ⟨q0, q1, q2⟩ := HT.out.at hp
      have HE := Lib.hid (encN_snoc hp)
      have hok := HT.out.ok p (List.mem_of_getElem? hp)
      have HIG : Hid (-9223372036854775808 ≤ (p.1 : Int) ∧ (p.1 : Int) ≤ 9223372036854775807) := Lib.hid (by have := hok.1; omega)
      have HIV : Hid (-9223372036854775808 ≤ p.2.2 ∧ p.2.2 ≤ 9223372036854775807) := Lib.hid hok.2.2.2
      have HLN : Hid ((encN l k).length ≤ 100000) := Lib.hid (by have := encN_len l k; omega)
      obtain ⟨gen, full, val⟩ := p
      simp only at q0 q1 q2 HIG HIV
      obtain ⟨w2, hw2⟩ : ∃ w2, (wr.alloc (.cells #[.int .i64 (gen : Int), .bool full, .int .i64 val] 69)).drew = w2 := ⟨_, rfl⟩
      have hg2 : wr.grownBy w2 none := by rw [← hw2]; exact gb_same (gb_alloc _ _ _) (gb_drew _ _)
      have HBK : Hid (w2.heap[wr.heap.size]? = some (.cells #[.int .i64 (gen : Int), .bool full, .int .i64 val] 69 (0, 0))) := Lib.hid (by rw [← hw2]; exact heap_at_alloc _ _)
      have HO2 := Lib.hid (HO.out.grown hg2)
      have HG2 := Lib.hid (gb_same HG.out hg2)
      have HSZ := Lib.hid HG2.out.size
      have HOL : Hid (∀ j, u3.ownBlock = some j → j < wr.heap.size) := Lib.hid (fun j hj => (HO.out.lt j hj).2)
      have HSK : Hid (∀ X row, w2.grownBy X row → (∀ r, row = some r → r < wr.heap.size) → X.cell? ⟨wr.heap.size, 0, none⟩ = some (.int .i64 (gen : Int)) ∧ X.cell? ⟨wr.heap.size, 1, none⟩ = some (.bool full)) := Lib.hid (fun X row hX hr => by
        have hb := blk_kept' HBK.out hX (fun e => by have := hr _ e; omega)
        exact ⟨cell_row hb, cell_row hb⟩)
      have HS0 := HSK.out w2 none (gb_refl _ _) (by simp)
      have HW2 := Lib.hid hw2
      clear hp hok hg2
      subst hw2
      cases full with
      | false =>
      go_wp2_with fail
      refine region_KL (fuel := 8) (listed := #[false, false, false, false, false, false, false, false]) (fun X => X.cell? ⟨wr.heap.size, 0, none⟩ = some (.int .i64 (gen : Int)) ∧ X.cell? ⟨wr.heap.size, 1, none⟩ = some (.bool false)) 6 (by kernel_rfl) rfl (by kernel_rfl) ?_
      refine wpAnyK_takeL (i := 0) (d := 23) (v := ?_) (T' := ?_) (listed' := #[true, false, false, false, false, false, false, false]) rfl rfl (by kernel_rfl) (fun _ _ _ h => h) rfl (Or.inl ⟨by rfl, ?_⟩) ?_ HS0 ?_
      rotate_left 2
      · intro w hS; clear hS; go_simp; rfl
      · simp only [List.setIfInBounds_toArray, List.set_cons_succ, List.set_cons_zero]; rfl
      refine wpAnyK_takeL (i := 1) (d := 24) (v := ?_) (T' := ?_) (listed' := #[true, true, false, false, false, false, false, false]) rfl rfl (by kernel_rfl) (fun _ _ _ h => h) rfl (Or.inl ⟨by rfl, ?_⟩) ?_ HS0 ?_
      rotate_left 2
      · intro w hS; clear hS; go_simp; rfl
      · simp only [List.setIfInBounds_toArray, List.set_cons_succ, List.set_cons_zero]; rfl
      refine wpAnyK_takeL (i := 2) (d := 25) (v := ?_) (T' := ?_) (listed' := #[true, true, true, false, false, false, false, false]) rfl rfl (by kernel_rfl) (fun _ _ _ h => h) rfl (Or.inl ⟨by rfl, ?_⟩) ?_ HS0 ?_
      rotate_left 2
      · intro w hS; have t0 := hS.1; clear hS; go_simp; rfl
      · simp only [List.setIfInBounds_toArray, List.set_cons_succ, List.set_cons_zero]; rfl
      refine wpAnyK_takeL (i := 4) (d := 27) (v := ?_) (T' := ?_) (listed' := #[true, true, true, false, true, false, false, false]) rfl rfl (by kernel_rfl) (fun _ _ _ h => h) rfl (Or.inl ⟨by rfl, ?_⟩) ?_ HS0 ?_
      rotate_left 2
      · intro w hS; clear hS; go_simp; rfl
      · simp only [List.setIfInBounds_toArray, List.set_cons_succ, List.set_cons_zero]; rfl
      refine wpAnyK_takeL (i := 5) (d := 28) (v := ?_) (T' := ?_) (listed' := #[true, true, true, false, true, true, false, false]) rfl rfl (by kernel_rfl) (fun _ _ _ h => h) rfl (Or.inl ⟨by rfl, ?_⟩) ?_ HS0 ?_
      rotate_left 2
      · intro w hS; have t1 := hS.2; clear hS; go_simp; rfl
      · simp only [List.setIfInBounds_toArray, List.set_cons_succ, List.set_cons_zero]; rfl
      refine wpAnyK_oneL (i := 3) (listed' := #[true, true, true, true, true, true, false, false]) (by kernel_rfl) rfl (by rfl) rfl ?_
      intro K hK
      go_simp
      refine (int_any u3 gen _ w.heap.size (encN l k) HIG.out.1 HIG.out.2 HO2.out HSZ.out (by have := HLN.out; omega)).mono ?_
      rintro e w3 ⟨v3, rfl, ho3, hg3, hf3⟩
      have HO3 := Lib.hid ho3
      have HG3 : Hid (w.grownBy w3 none) := Lib.hid (gb_trans HG2.out hg3 (fun j hj => .inr (HO2.out.lt j hj).1))
      have HX3 := HSK.out _ _ hg3 (fun j hj => HOL.out j hj)
      have HB3 := Lib.hid (blk_kept' HBK.out hg3 (fun e => by have := HOL.out _ e; omega))
      have HF3 := Lib.hid hf3
      have HS3 := Lib.hid hg3.size
      clear ho3 hg3 hf3
      refine hK _ _ (fun _ => HX3) ?_
      clear hK K
      refine wpAnyK_oneL (i := 6) (listed' := #[true, true, true, true, true, true, true, false]) (by kernel_rfl) rfl (by rfl) rfl ?_
      intro K hK
      go_simp
      refine (wbool_any v3 false w3 w.heap.size _ HO3.out HG3.out.size (by have := HLN.out; have := (enc_len (gen : Int)).2; rw [List.length_append]; omega)).mono ?_
      rintro e w4 ⟨v4, rfl, ho4, hg4, hf4⟩
      have HO4 := Lib.hid ho4
      have HG4 : Hid (w.grownBy w4 none) := Lib.hid (gb_trans HG3.out hg4 (fun j hj => .inr (HO3.out.lt j hj).1))
      refine hK _ _ (fun h => Bool.noConfusion (show true = false from h)) ?_
      clear hK K
      have HX4 : w4.cell? ⟨wr.heap.size, 1, none⟩ = some (.bool false) ∧ w4.cell? ⟨wr.heap.size, 2, none⟩ = some (.int .i64 val) := by
        have hne : ∀ j, v3.ownBlock = some j → j ≠ wr.heap.size := fun j hj e => by
          rcases HF3.out j hj with h | h
          · have := HOL.out j h; omega
          · simp at h; omega
        have hb := blk_kept' HB3.out hg4 (fun e => hne _ e rfl)
        exact ⟨cell_row hb, cell_row hb⟩
      obtain ⟨z1, z2⟩ := HX4
      clear ho4 hg4 hf4
      refine wpAnyK_oneL (i := 7) (listed' := #[true, true, true, true, true, true, true, true]) (by kernel_rfl) rfl (by rfl) rfl ?_
      intro K hK
      go_simp
      refine hK _ _ (fun h => Bool.noConfusion (show true = false from h)) ?_
      clear hK K
      refine wpAnyK_done (by kernel_rfl) ?_ _
      go_wp2
      go_roundw
      case rel => exact ⟨k + 1, by omega, by go_num, Lib.hid (by rw [HE.out]; simpa [encSl] using HO4.out), HG4⟩
      case measure => simp [intOf]; omega

      | true =>
      go_wp2_with fail
      refine region_KL (fuel := 8) (listed := #[false, false, false, false, false, false, false, false]) (fun X => X.cell? ⟨wr.heap.size, 0, none⟩ = some (.int .i64 (gen : Int)) ∧ X.cell? ⟨wr.heap.size, 1, none⟩ = some (.bool true)) 6 (by kernel_rfl) rfl (by kernel_rfl) ?_
      refine wpAnyK_takeL (i := 0) (d := 23) (v := ?_) (T' := ?_) (listed' := #[true, false, false, false, false, false, false, false]) rfl rfl (by kernel_rfl) (fun _ _ _ h => h) rfl (Or.inl ⟨by rfl, ?_⟩) ?_ HS0 ?_
      rotate_left 2
      · intro w hS; clear hS; go_simp; rfl
      · simp only [List.setIfInBounds_toArray, List.set_cons_succ, List.set_cons_zero]; rfl
      refine wpAnyK_takeL (i := 1) (d := 24) (v := ?_) (T' := ?_) (listed' := #[true, true, false, false, false, false, false, false]) rfl rfl (by kernel_rfl) (fun _ _ _ h => h) rfl (Or.inl ⟨by rfl, ?_⟩) ?_ HS0 ?_
      rotate_left 2
      · intro w hS; clear hS; go_simp; rfl
      · simp only [List.setIfInBounds_toArray, List.set_cons_succ, List.set_cons_zero]; rfl
      refine wpAnyK_takeL (i := 2) (d := 25) (v := ?_) (T' := ?_) (listed' := #[true, true, true, false, false, false, false, false]) rfl rfl (by kernel_rfl) (fun _ _ _ h => h) rfl (Or.inl ⟨by rfl, ?_⟩) ?_ HS0 ?_
      rotate_left 2
      · intro w hS; have t0 := hS.1; clear hS; go_simp; rfl
      · simp only [List.setIfInBounds_toArray, List.set_cons_succ, List.set_cons_zero]; rfl
      refine wpAnyK_takeL (i := 4) (d := 27) (v := ?_) (T' := ?_) (listed' := #[true, true, true, false, true, false, false, false]) rfl rfl (by kernel_rfl) (fun _ _ _ h => h) rfl (Or.inl ⟨by rfl, ?_⟩) ?_ HS0 ?_
      rotate_left 2
      · intro w hS; clear hS; go_simp; rfl
      · simp only [List.setIfInBounds_toArray, List.set_cons_succ, List.set_cons_zero]; rfl
      refine wpAnyK_takeL (i := 5) (d := 28) (v := ?_) (T' := ?_) (listed' := #[true, true, true, false, true, true, false, false]) rfl rfl (by kernel_rfl) (fun _ _ _ h => h) rfl (Or.inl ⟨by rfl, ?_⟩) ?_ HS0 ?_
      rotate_left 2
      · intro w hS; have t1 := hS.2; clear hS; go_simp; rfl
      · simp only [List.setIfInBounds_toArray, List.set_cons_succ, List.set_cons_zero]; rfl
      refine wpAnyK_oneL (i := 3) (listed' := #[true, true, true, true, true, true, false, false]) (by kernel_rfl) rfl (by rfl) rfl ?_
      intro K hK
      go_simp
      refine (int_any u3 gen _ w.heap.size (encN l k) HIG.out.1 HIG.out.2 HO2.out HSZ.out (by have := HLN.out; omega)).mono ?_
      rintro e w3 ⟨v3, rfl, ho3, hg3, hf3⟩
      have HO3 := Lib.hid ho3
      have HG3 : Hid (w.grownBy w3 none) := Lib.hid (gb_trans HG2.out hg3 (fun j hj => .inr (HO2.out.lt j hj).1))
      have HX3 := HSK.out _ _ hg3 (fun j hj => HOL.out j hj)
      have HB3 := Lib.hid (blk_kept' HBK.out hg3 (fun e => by have := HOL.out _ e; omega))
      have HF3 := Lib.hid hf3
      have HS3 := Lib.hid hg3.size
      clear ho3 hg3 hf3
      refine hK _ _ (fun _ => HX3) ?_
      clear hK K
      refine wpAnyK_oneL (i := 6) (listed' := #[true, true, true, true, true, true, true, false]) (by kernel_rfl) rfl (by rfl) rfl ?_
      intro K hK
      go_simp
      refine (wbool_any v3 true w3 w.heap.size _ HO3.out HG3.out.size (by have := HLN.out; have := (enc_len (gen : Int)).2; rw [List.length_append]; omega)).mono ?_
      rintro e w4 ⟨v4, rfl, ho4, hg4, hf4⟩
      have HO4 := Lib.hid ho4
      have HG4 : Hid (w.grownBy w4 none) := Lib.hid (gb_trans HG3.out hg4 (fun j hj => .inr (HO3.out.lt j hj).1))
      refine hK _ _ (fun h => Bool.noConfusion (show true = false from h)) ?_
      clear hK K
      have HX4 : w4.cell? ⟨wr.heap.size, 1, none⟩ = some (.bool true) ∧ w4.cell? ⟨wr.heap.size, 2, none⟩ = some (.int .i64 val) := by
        have hne : ∀ j, v3.ownBlock = some j → j ≠ wr.heap.size := fun j hj e => by
          rcases HF3.out j hj with h | h
          · have := HOL.out j h; omega
          · simp at h; omega
        have hb := blk_kept' HB3.out hg4 (fun e => hne _ e rfl)
        exact ⟨cell_row hb, cell_row hb⟩
      obtain ⟨z1, z2⟩ := HX4
      clear ho4 hg4 hf4
      refine wpAnyK_oneL (i := 7) (listed' := #[true, true, true, true, true, true, true, true]) (by kernel_rfl) rfl (by rfl) rfl ?_
      intro K hK
      go_simp
      refine hK _ _ (fun h => Bool.noConfusion (show true = false from h)) ?_
      clear hK K
      refine wpAnyK_done (by kernel_rfl) ?_ _
      go_wp2_with fail
      refine (int_any v4 val w4 w.heap.size _ HIV.out.1 HIV.out.2 HO4.out HG4.out.size (by have := HLN.out; have := (enc_len (gen : Int)).2; rw [List.length_append, List.length_append]; simp [encB]; omega)).mono ?_
      rintro e w5 ⟨v5, rfl, ho5, hg5, hf5⟩
      have HO5 := Lib.hid ho5
      have HG5 : Hid (w.grownBy w5 none) := Lib.hid (gb_trans HG4.out hg5 (fun j hj => .inr (HO4.out.lt j hj).1))
      clear ho5 hg5 hf5 z1 z2
      go_wp2
      go_roundw
      case rel => exact ⟨k + 1, by omega, by go_num, Lib.hid (by rw [HE.out]; simpa [encSl] using HO5.out), HG5⟩
      case measure => simp [intOf]; omega

    · obtain rfl : k = l.length := by omega
      clear hlt
      go_wp2
      go_ret
      exact ⟨_, rfl, HO.out, HG.out⟩
end Go.Proofs.Ytjijiondinbmnaa
