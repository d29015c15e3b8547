/-
  The reference's byte queues: Take: the walk.
-/
import Derived.Test.YtjidkaeglhfajaaRRP
namespace Go.Proofs.Ytjidkaeglhfajaa
open Go.RowKit Go.Shelf

theorem Rd.tail {w : World} {a : Option Addr} {c : Nat} {l : List UInt8} (h : Rd w (.slice a l.length c) l) {k : Nat} (hk : k ≤ l.length) :
    (a = none ∧ l = [] ∧ c = 0 ∧ k = 0) ∨ ∃ g off, a = some ⟨g, off, none⟩ ∧ l.length ≤ c ∧ c ≤ maxLen ∧ (c ≠ k → RdW w (.slice (some ⟨g, off + k, none⟩) (l.length - k) (c - k)) (l.drop k)) ∧ (c = k → RdW w (.slice (some ⟨g, off, none⟩) (l.length - k) (c - k)) (l.drop k)) := by
  have e : (l.drop k).take (l.length - k) = l.drop k := List.take_of_length_le (by rw [List.length_drop]; omega)
  rcases h.part (q := k) (m := l.length - k) (by omega) with ⟨h1, h2, h3, h4⟩ | ⟨g, off, h1, h2, h3, h4, h5⟩
  · exact .inl ⟨h1, List.eq_nil_of_length_eq_zero (by omega), h4, h3⟩
  · rw [e] at h4 h5
    exact .inr ⟨g, off, h1, h2, h3, h4, h5⟩
set_option maxRecDepth 100000 in
set_option maxHeartbeats 4000000 in
theorem rtakeB_any (n : Nat) (u : Value) (l : List UInt8) (z : Int) (w : World) (hu : Rd w u l) (hl : l.length ≤ 4096) (hz : OkI z) :
    Calls Try.prog 18 #[rB n u, .int .i64 z] w (RetQ w n (l.drop z.toNat) (fun x w' => Own w' w.heap.size x (l.take z.toNat))) := by
  obtain ⟨a, c, rfl, hc, hcm⟩ := rd_form hu
  have HU := Lib.hid hu
  have hk : (l.take z.toNat).length ≤ l.length := by rw [List.length_take]; omega
  have hE : l.drop (l.take z.toNat).length = l.drop z.toNat := by
    rcases Nat.le_total z.toNat l.length with e | e
    · rw [List.length_take, show min z.toNat l.length = z.toNat by omega]
    · rw [List.length_take, show min z.toNat l.length = l.length by omega, List.drop_length, List.drop_eq_nil_of_le e]
  have HE := Lib.hid hE
  have hb0 := heap_alloc2_0 w (.cells #[.int .i64 (n : Int), .slice a l.length c] 31) (.cells #[.int .i64 0, .slice none 0 0] 31)
  have hb1 := heap_alloc2_1 w (.cells #[.int .i64 (n : Int), .slice a l.length c] 31) (.cells #[.int .i64 0, .slice none 0 0] 31)
  have hga : w.grownBy ((w.alloc (.cells #[.int .i64 (n : Int), .slice a l.length c] 31)).alloc (.cells #[.int .i64 0, .slice none 0 0] 31)) none := gb_same (gb_alloc _ _ _) (gb_alloc _ _ _)
  have HBA := Lib.hid hb0
  have HBB := Lib.hid hb1
  have HGA := Lib.hid hga
  have HPK := Lib.hid (rpeekB_any n (.slice a l.length c) l z _ (HU.out.grown hga) hl hz)
  obtain ⟨t0, t1⟩ := row2 hb0
  have HLN : Hid (l.length ≤ 4096) := Lib.hid hl
  unfold rB at HPK ⊢
  unfold RetQ rB
  clear hu hb0 hb1 hga hz hE
  go_enter Try.func18, Try.ntmps18
  go_wp2_with fail
  refine HPK.out.mono ?_
  rintro e w0 ⟨v6, rfl, ho6, hg6⟩
  have HG0 := Lib.hid (gb_same HGA.out hg6)
  have HA0 := Lib.hid (blk_kept HBA.out hg6)
  have HB0 := Lib.hid (blk_kept HBB.out hg6)
  have HO0 : Hid (Own w0 w.heap.size v6 (l.take z.toNat)) := Lib.hid (ho6.mono HGA.out.size)
  obtain ⟨a6, c6, hv6⟩ := ho6.rd.len
  generalize hkk : (l.take z.toNat).length = k at hk HE hv6
  have HKK := Lib.hid hkk
  subst hv6
  have HKN : Hid (∀ j, (Value.slice a6 k c6).ownBlock = some j → w.heap.size + 1 < j) := Lib.hid (fun j hj => by have := (ho6.lt j hj).1; simp at this; omega)
  clear hg6 ho6 t0 t1 hkk HPK
  rcases Rd.tail HU.out hk with ⟨rfl, rfl, rfl, rfl⟩ | ⟨g, off, rfl, hbc, hcm2, hs1, hs2⟩
  · have HSR : Hid (∀ X : World, RdW X (.slice none 0 0) ([] : List UInt8)) := Lib.hid (fun X => .inl (.inl ⟨rfl, rfl⟩))
    simp only [List.length_nil] at *
    go_wp2
    refine region_KL (fuel := 13) (listed := #[false, false, false, false, false, false, false, false, false, false, false, false, false]) (fun X => X.cell? ⟨w.heap.size, 0, none⟩ = some (.int .i64 (n : Int)) ∧ X.cell? ⟨w.heap.size, 1, none⟩ = some (.slice none 0 0)) 12 (by kernel_rfl) rfl (by kernel_rfl) ?_
    have HA1 := Lib.hid (blk_kept HA0.out (gb_drew w0 none))
    have HB1 := Lib.hid (blk_kept HB0.out (gb_drew w0 none))
    have HG1 := Lib.hid (gb_same HG0.out (gb_drew w0 none))
    have HO1 := Lib.hid (HO0.out.grown (gb_drew w0 none))
    generalize w0.drew = w1 at *
    have HS1 := Lib.hid (row2 HA1.out)
    refine wpAnyK_takeL (i := 0) (d := 10) (v := ?_) (T' := ?_) (listed' := #[true, false, false, false, false, false, false, false, false, false, false, false, false]) rfl rfl (by kernel_rfl) (fun _ _ _ h => h) rfl (Or.inl ⟨by rfl, ?_⟩) ?_ HS1.out ?_
    rotate_left 2
    · intro w hS; clear hS; go_simp; rfl
    · simp only [List.setIfInBounds_toArray, List.set_cons_succ, List.set_cons_zero]; rfl
    refine wpAnyK_takeL (i := 1) (d := 11) (v := ?_) (T' := ?_) (listed' := #[true, true, false, false, false, false, false, false, false, false, false, false, false]) rfl rfl (by kernel_rfl) (fun _ _ _ h => h) rfl (Or.inl ⟨by rfl, ?_⟩) ?_ HS1.out ?_
    rotate_left 2
    · intro w hS; have t0 := hS.1; clear hS; go_simp; rfl
    · simp only [List.setIfInBounds_toArray, List.set_cons_succ, List.set_cons_zero]; rfl
    refine wpAnyK_takeL (i := 3) (d := 13) (v := ?_) (T' := ?_) (listed' := #[true, true, false, true, false, false, false, false, false, false, false, false, false]) rfl rfl (by kernel_rfl) (fun _ _ _ h => h) rfl (Or.inl ⟨by rfl, ?_⟩) ?_ HS1.out ?_
    rotate_left 2
    · intro w hS; clear hS; go_simp; rfl
    · simp only [List.setIfInBounds_toArray, List.set_cons_succ, List.set_cons_zero]; rfl
    refine wpAnyK_takeL (i := 4) (d := 14) (v := ?_) (T' := ?_) (listed' := #[true, true, false, true, true, false, false, false, false, false, false, false, false]) rfl rfl (by kernel_rfl) (fun _ _ _ h => h) rfl (Or.inl ⟨by rfl, ?_⟩) ?_ HS1.out ?_
    rotate_left 2
    · intro w hS; have t0 := hS.2; clear hS; go_simp; rfl
    · simp only [List.setIfInBounds_toArray, List.set_cons_succ, List.set_cons_zero]; rfl
    refine wpAnyK_takeL (i := 5) (d := 15) (v := ?_) (T' := ?_) (listed' := #[true, true, false, true, true, true, false, false, false, false, false, false, false]) rfl rfl (by kernel_rfl) (fun _ _ _ h => h) rfl (Or.inl ⟨by rfl, ?_⟩) ?_ HS1.out ?_
    rotate_left 2
    · intro w hS; clear hS; go_simp; rfl
    · simp only [List.setIfInBounds_toArray, List.set_cons_succ, List.set_cons_zero]; rfl
    refine wpAnyK_takeL (i := 6) (d := 16) (v := ?_) (T' := ?_) (listed' := #[true, true, false, true, true, true, true, false, false, false, false, false, false]) rfl rfl (by kernel_rfl) (fun _ _ _ h => h) rfl (Or.inl ⟨by rfl, ?_⟩) ?_ HS1.out ?_
    rotate_left 2
    · intro w hS; clear hS; go_simp; rfl
    · simp only [List.setIfInBounds_toArray, List.set_cons_succ, List.set_cons_zero]; rfl
    refine wpAnyK_takeL (i := 7) (d := 17) (v := ?_) (T' := ?_) (listed' := #[true, true, false, true, true, true, true, true, false, false, false, false, false]) rfl rfl (by kernel_rfl) (fun _ _ _ h => h) rfl (Or.inl ⟨by rfl, ?_⟩) ?_ HS1.out ?_
    rotate_left 2
    · intro w hS; clear hS; go_simp; rfl
    · simp only [List.setIfInBounds_toArray, List.set_cons_succ, List.set_cons_zero]; rfl
    refine wpAnyK_takeL (i := 10) (d := 20) (v := ?_) (T' := ?_) (listed' := #[true, true, false, true, true, true, true, true, false, false, true, false, false]) rfl rfl (by kernel_rfl) (fun _ _ _ h => h) rfl (Or.inl ⟨by rfl, ?_⟩) ?_ HS1.out ?_
    rotate_left 2
    · intro w hS; clear hS; go_simp; rfl
    · simp only [List.setIfInBounds_toArray, List.set_cons_succ, List.set_cons_zero]; rfl
    refine wpAnyK_oneL (i := 2) (listed' := #[true, true, true, true, true, true, true, true, false, false, true, false, false]) (by kernel_rfl) rfl (by rfl) rfl ?_
    intro K hK
    go_simp
    have hlt := Own.lit w1 #[] [] 0 w.heap.size rfl rfl HG1.out.size (Nat.zero_le _)
    have hgr := gb_alloc w1 (.cells #[] 5) none
    generalize hzz : w1.heap.size = q0 at *
    generalize w1.alloc (.cells #[] 5) = w2 at *
    have HL2 := Lib.hid hlt
    have HA2 := Lib.hid (blk_kept HA1.out hgr)
    have HB2 := Lib.hid (blk_kept HB1.out hgr)
    have HG2 := Lib.hid (gb_same HG1.out hgr)
    have HO2 := Lib.hid (HO1.out.grown hgr)
    have HS2 := Lib.hid (row2 HA2.out)
    have HQ0 : Hid (w.heap.size + 1 < q0 ∧ ∀ j, (Value.slice a6 0 c6).ownBlock = some j → j < q0) := Lib.hid ⟨by rw [← hzz]; exact lt_of_blk HB1.out, fun j hj => by rw [← hzz]; exact (HO1.out.lt j hj).2⟩
    clear hlt hgr hzz
    refine hK _ _ (fun _ => HS2.out) ?_
    clear hK K
    refine wpAnyK_oneL (i := 8) (listed' := #[true, true, true, true, true, true, true, true, true, false, true, false, false]) (by kernel_rfl) rfl (by rfl) rfl ?_
    intro K hK
    refine app_bytesW_op _ _ rfl w.heap.size (.slice (some ⟨q0, 0, none⟩) 0 0) (.slice none 0 0) [] [] rfl rfl HL2.out (HSR.out _) HG2.out.size (by have := HLN.out; simp) ?_
    intro v3 w3 ho3 hg3 hf3
    rw [List.nil_append] at ho3
    have HO3 := Lib.hid ho3
    have HG3 := Lib.hid (gb_trans HG2.out hg3 (fun j hj => .inr (HL2.out.lt j hj).1))
    have hne3 : (Value.slice (some ⟨q0, 0, none⟩) 0 0).ownBlock ≠ some w.heap.size ∧ (Value.slice (some ⟨q0, 0, none⟩) 0 0).ownBlock ≠ some (w.heap.size + 1) := by have := HQ0.out.1; simp [Value.ownBlock]; omega
    have HA3 := Lib.hid (blk_kept' HA2.out hg3 hne3.1)
    have HB3 := Lib.hid (blk_kept' HB2.out hg3 hne3.2)
    have HP3 := Lib.hid (HO2.out.kept hg3 (fun k hk e => by have := HQ0.out.2 k hk; simp [Value.ownBlock] at e; omega))
    have HN3 : Hid (v3.ownBlock ≠ some (w.heap.size + 1)) := Lib.hid (fun e => by
        rcases hf3 _ e with h1 | h1
        · exact hne3.2 h1
        · have := lt_of_blk HB2.out; omega)
    have HS3 := Lib.hid (row2 HA3.out)
    obtain ⟨a4, c4, hv4⟩ := ho3.rd.len
    generalize ([] : List UInt8).length = L4 at hv4
    subst hv4
    clear ho3 hg3 hf3 hne3
    refine hK _ _ (fun _ => HS3.out) ?_
    clear hK K
    refine wpAnyK_takeL (i := 9) (d := 19) (v := ?_) (T' := ?_) (listed' := #[true, true, true, true, true, true, true, true, true, true, true, false, false]) rfl rfl (by kernel_rfl) (fun _ _ _ h => h) rfl (Or.inl ⟨by rfl, ?_⟩) ?_ HS3.out ?_
    rotate_left 2
    · intro w hS; clear hS; go_simp; rfl
    · simp only [List.setIfInBounds_toArray, List.set_cons_succ, List.set_cons_zero]; rfl
    refine wpAnyK_oneL (i := 11) (listed' := #[true, true, true, true, true, true, true, true, true, true, true, true, false]) (by kernel_rfl) rfl (by rfl) rfl ?_
    intro K hK
    refine st_row_op 31 4 19 rfl (w.heap.size + 1) #[.int .i64 0, .slice none 0 0] #[.int .i64 (n : Int), .slice a4 L4 c4] 31 rfl rfl HB3.out bsize rfl rfl ?_
    intro w5 hb5 hg5
    have HB5 := Lib.hid hb5
    have HO5 := Lib.hid (HO3.out.kept hg5 (fun k hk e => HN3.out (by rw [hk, ← e])))
    have HP5 := Lib.hid (HP3.out.kept hg5 (fun k hk e => by have h1 := (HO0.out.lt k hk).1; have h2 := HKN.out k hk; simp at e; omega))
    have HG5 := Lib.hid (gb_new HG3.out hg5 (by omega))
    have HS5 := Lib.hid (row2 (blk_kept' HA3.out hg5 (by simp)))
    clear hb5 hg5
    refine hK _ _ (fun _ => HS5.out) ?_
    clear hK K
    refine wpAnyK_oneL (i := 12) (listed' := #[true, true, true, true, true, true, true, true, true, true, true, true, true]) (by kernel_rfl) rfl (by rfl) rfl ?_
    intro K hK
    go_simp
    refine hK _ _ (fun h => Bool.noConfusion (show true = false from h)) ?_
    clear hK K
    refine wpAnyK_done (by kernel_rfl) ?_ _
    go_wp2
    refine ret_cb rfl (w.heap.size + 1) 31 #[.int .i64 (n : Int), .slice a4 L4 c4] (.slice a6 0 c6) rfl rfl HB5.out Try.underlying31 bsize ?_
    exact ⟨_, _, rfl, by have h := HO5.out; simpa using h, HP5.out, HG5.out⟩
  · have hki : (k : Int) ≤ (l.length : Int) := by omega
    by_cases hcq : c = k
    · have hsrc := hs2 hcq
      subst hcq
      rw [Nat.sub_self, show l.length - c = 0 by omega] at hsrc
      have HSR0 := Lib.hid hsrc
      have HSR : Hid (∀ X : World, w.grownBy X none → RdW X (.slice (some ⟨g, off, none⟩) 0 0) (l.drop c)) := Lib.hid (fun X hX => HSR0.out.grown hX)
      clear hs1 hs2 hsrc
      go_wp2
      refine region_KL (fuel := 13) (listed := #[false, false, false, false, false, false, false, false, false, false, false, false, false]) (fun X => X.cell? ⟨w.heap.size, 0, none⟩ = some (.int .i64 (n : Int)) ∧ X.cell? ⟨w.heap.size, 1, none⟩ = some (.slice (some ⟨g, off, none⟩) l.length c)) 12 (by kernel_rfl) rfl (by kernel_rfl) ?_
      have HA1 := Lib.hid (blk_kept HA0.out (gb_drew w0 none))
      have HB1 := Lib.hid (blk_kept HB0.out (gb_drew w0 none))
      have HG1 := Lib.hid (gb_same HG0.out (gb_drew w0 none))
      have HO1 := Lib.hid (HO0.out.grown (gb_drew w0 none))
      generalize w0.drew = w1 at *
      have HS1 := Lib.hid (row2 HA1.out)
      refine wpAnyK_takeL (i := 0) (d := 10) (v := ?_) (T' := ?_) (listed' := #[true, false, false, false, false, false, false, false, false, false, false, false, false]) rfl rfl (by kernel_rfl) (fun _ _ _ h => h) rfl (Or.inl ⟨by rfl, ?_⟩) ?_ HS1.out ?_
      rotate_left 2
      · intro w hS; clear hS; go_simp; rfl
      · simp only [List.setIfInBounds_toArray, List.set_cons_succ, List.set_cons_zero]; rfl
      refine wpAnyK_takeL (i := 1) (d := 11) (v := ?_) (T' := ?_) (listed' := #[true, true, false, false, false, false, false, false, false, false, false, false, false]) rfl rfl (by kernel_rfl) (fun _ _ _ h => h) rfl (Or.inl ⟨by rfl, ?_⟩) ?_ HS1.out ?_
      rotate_left 2
      · intro w hS; have t0 := hS.1; clear hS; go_simp; rfl
      · simp only [List.setIfInBounds_toArray, List.set_cons_succ, List.set_cons_zero]; rfl
      refine wpAnyK_takeL (i := 3) (d := 13) (v := ?_) (T' := ?_) (listed' := #[true, true, false, true, false, false, false, false, false, false, false, false, false]) rfl rfl (by kernel_rfl) (fun _ _ _ h => h) rfl (Or.inl ⟨by rfl, ?_⟩) ?_ HS1.out ?_
      rotate_left 2
      · intro w hS; clear hS; go_simp; rfl
      · simp only [List.setIfInBounds_toArray, List.set_cons_succ, List.set_cons_zero]; rfl
      refine wpAnyK_takeL (i := 4) (d := 14) (v := ?_) (T' := ?_) (listed' := #[true, true, false, true, true, false, false, false, false, false, false, false, false]) rfl rfl (by kernel_rfl) (fun _ _ _ h => h) rfl (Or.inl ⟨by rfl, ?_⟩) ?_ HS1.out ?_
      rotate_left 2
      · intro w hS; have t0 := hS.2; clear hS; go_simp; rfl
      · simp only [List.setIfInBounds_toArray, List.set_cons_succ, List.set_cons_zero]; rfl
      refine wpAnyK_takeL (i := 5) (d := 15) (v := ?_) (T' := ?_) (listed' := #[true, true, false, true, true, true, false, false, false, false, false, false, false]) rfl rfl (by kernel_rfl) (fun _ _ _ h => h) rfl (Or.inl ⟨by rfl, ?_⟩) ?_ HS1.out ?_
      rotate_left 2
      · intro w hS; clear hS; go_simp; rfl
      · simp only [List.setIfInBounds_toArray, List.set_cons_succ, List.set_cons_zero]; rfl
      refine wpAnyK_takeL (i := 6) (d := 16) (v := ?_) (T' := ?_) (listed' := #[true, true, false, true, true, true, true, false, false, false, false, false, false]) rfl rfl (by kernel_rfl) (fun _ _ _ h => h) rfl (Or.inl ⟨by rfl, ?_⟩) ?_ HS1.out ?_
      rotate_left 2
      · intro w hS; clear hS; go_simp; rfl
      · simp only [List.setIfInBounds_toArray, List.set_cons_succ, List.set_cons_zero]; rfl
      refine wpAnyK_takeL (i := 7) (d := 17) (v := ?_) (T' := ?_) (listed' := #[true, true, false, true, true, true, true, true, false, false, false, false, false]) rfl rfl (by kernel_rfl) (fun _ _ _ h => h) rfl (Or.inl ⟨by rfl, ?_⟩) ?_ HS1.out ?_
      rotate_left 2
      · intro w hS; clear hS; go_simp; rfl
      · simp only [List.setIfInBounds_toArray, List.set_cons_succ, List.set_cons_zero]; rfl
      refine wpAnyK_takeL (i := 10) (d := 20) (v := ?_) (T' := ?_) (listed' := #[true, true, false, true, true, true, true, true, false, false, true, false, false]) rfl rfl (by kernel_rfl) (fun _ _ _ h => h) rfl (Or.inl ⟨by rfl, ?_⟩) ?_ HS1.out ?_
      rotate_left 2
      · intro w hS; clear hS; go_simp; rfl
      · simp only [List.setIfInBounds_toArray, List.set_cons_succ, List.set_cons_zero]; rfl
      refine wpAnyK_oneL (i := 2) (listed' := #[true, true, true, true, true, true, true, true, false, false, true, false, false]) (by kernel_rfl) rfl (by rfl) rfl ?_
      intro K hK
      go_simp
      have hlt := Own.lit w1 #[] [] 0 w.heap.size rfl rfl HG1.out.size (Nat.zero_le _)
      have hgr := gb_alloc w1 (.cells #[] 5) none
      generalize hzz : w1.heap.size = q0 at *
      generalize w1.alloc (.cells #[] 5) = w2 at *
      have HL2 := Lib.hid hlt
      have HA2 := Lib.hid (blk_kept HA1.out hgr)
      have HB2 := Lib.hid (blk_kept HB1.out hgr)
      have HG2 := Lib.hid (gb_same HG1.out hgr)
      have HO2 := Lib.hid (HO1.out.grown hgr)
      have HS2 := Lib.hid (row2 HA2.out)
      have HQ0 : Hid (w.heap.size + 1 < q0 ∧ ∀ j, (Value.slice a6 c c6).ownBlock = some j → j < q0) := Lib.hid ⟨by rw [← hzz]; exact lt_of_blk HB1.out, fun j hj => by rw [← hzz]; exact (HO1.out.lt j hj).2⟩
      clear hlt hgr hzz
      refine hK _ _ (fun _ => HS2.out) ?_
      clear hK K
      refine wpAnyK_oneL (i := 8) (listed' := #[true, true, true, true, true, true, true, true, true, false, true, false, false]) (by kernel_rfl) rfl (by rfl) rfl ?_
      intro K hK
      refine app_bytesW_op _ _ rfl w.heap.size (.slice (some ⟨q0, 0, none⟩) 0 0) (.slice (some ⟨g, off, none⟩) 0 0) [] (l.drop c) rfl rfl HL2.out (HSR.out _ HG2.out) HG2.out.size (by have := HLN.out; simp; omega) ?_
      intro v3 w3 ho3 hg3 hf3
      rw [List.nil_append] at ho3
      have HO3 := Lib.hid ho3
      have HG3 := Lib.hid (gb_trans HG2.out hg3 (fun j hj => .inr (HL2.out.lt j hj).1))
      have hne3 : (Value.slice (some ⟨q0, 0, none⟩) 0 0).ownBlock ≠ some w.heap.size ∧ (Value.slice (some ⟨q0, 0, none⟩) 0 0).ownBlock ≠ some (w.heap.size + 1) := by have := HQ0.out.1; simp [Value.ownBlock]; omega
      have HA3 := Lib.hid (blk_kept' HA2.out hg3 hne3.1)
      have HB3 := Lib.hid (blk_kept' HB2.out hg3 hne3.2)
      have HP3 := Lib.hid (HO2.out.kept hg3 (fun k hk e => by have := HQ0.out.2 k hk; simp [Value.ownBlock] at e; omega))
      have HN3 : Hid (v3.ownBlock ≠ some (w.heap.size + 1)) := Lib.hid (fun e => by
          rcases hf3 _ e with h1 | h1
          · exact hne3.2 h1
          · have := lt_of_blk HB2.out; omega)
      have HS3 := Lib.hid (row2 HA3.out)
      obtain ⟨a4, c4, hv4⟩ := ho3.rd.len
      generalize ((l.drop c) : List UInt8).length = L4 at hv4
      subst hv4
      clear ho3 hg3 hf3 hne3
      refine hK _ _ (fun _ => HS3.out) ?_
      clear hK K
      refine wpAnyK_takeL (i := 9) (d := 19) (v := ?_) (T' := ?_) (listed' := #[true, true, true, true, true, true, true, true, true, true, true, false, false]) rfl rfl (by kernel_rfl) (fun _ _ _ h => h) rfl (Or.inl ⟨by rfl, ?_⟩) ?_ HS3.out ?_
      rotate_left 2
      · intro w hS; clear hS; go_simp; rfl
      · simp only [List.setIfInBounds_toArray, List.set_cons_succ, List.set_cons_zero]; rfl
      refine wpAnyK_oneL (i := 11) (listed' := #[true, true, true, true, true, true, true, true, true, true, true, true, false]) (by kernel_rfl) rfl (by rfl) rfl ?_
      intro K hK
      refine st_row_op 31 4 19 rfl (w.heap.size + 1) #[.int .i64 0, .slice none 0 0] #[.int .i64 (n : Int), .slice a4 L4 c4] 31 rfl rfl HB3.out bsize rfl rfl ?_
      intro w5 hb5 hg5
      have HB5 := Lib.hid hb5
      have HO5 := Lib.hid (HO3.out.kept hg5 (fun k hk e => HN3.out (by rw [hk, ← e])))
      have HP5 := Lib.hid (HP3.out.kept hg5 (fun k hk e => by have h1 := (HO0.out.lt k hk).1; have h2 := HKN.out k hk; simp at e; omega))
      have HG5 := Lib.hid (gb_new HG3.out hg5 (by omega))
      have HS5 := Lib.hid (row2 (blk_kept' HA3.out hg5 (by simp)))
      clear hb5 hg5
      refine hK _ _ (fun _ => HS5.out) ?_
      clear hK K
      refine wpAnyK_oneL (i := 12) (listed' := #[true, true, true, true, true, true, true, true, true, true, true, true, true]) (by kernel_rfl) rfl (by rfl) rfl ?_
      intro K hK
      go_simp
      refine hK _ _ (fun h => Bool.noConfusion (show true = false from h)) ?_
      clear hK K
      refine wpAnyK_done (by kernel_rfl) ?_ _
      go_wp2
      refine ret_cb rfl (w.heap.size + 1) 31 #[.int .i64 (n : Int), .slice a4 L4 c4] (.slice a6 c c6) rfl rfl HB5.out Try.underlying31 bsize ?_
      exact ⟨_, _, rfl, by rw [← HE.out]; exact HO5.out, HP5.out, HG5.out⟩
    · have hsrc := hs1 hcq
      have hcq2 : (c = k) = False := by simpa using hcq
      have HSR0 := Lib.hid hsrc
      have HSR : Hid (∀ X : World, w.grownBy X none → RdW X (.slice (some ⟨g, off + k, none⟩) (l.length - k) (c - k)) (l.drop k)) := Lib.hid (fun X hX => HSR0.out.grown hX)
      clear hs1 hs2 hsrc hcq
      go_wp2
      refine region_KL (fuel := 13) (listed := #[false, false, false, false, false, false, false, false, false, false, false, false, false]) (fun X => X.cell? ⟨w.heap.size, 0, none⟩ = some (.int .i64 (n : Int)) ∧ X.cell? ⟨w.heap.size, 1, none⟩ = some (.slice (some ⟨g, off, none⟩) l.length c)) 12 (by kernel_rfl) rfl (by kernel_rfl) ?_
      have HA1 := Lib.hid (blk_kept HA0.out (gb_drew w0 none))
      have HB1 := Lib.hid (blk_kept HB0.out (gb_drew w0 none))
      have HG1 := Lib.hid (gb_same HG0.out (gb_drew w0 none))
      have HO1 := Lib.hid (HO0.out.grown (gb_drew w0 none))
      generalize w0.drew = w1 at *
      have HS1 := Lib.hid (row2 HA1.out)
      refine wpAnyK_takeL (i := 0) (d := 10) (v := ?_) (T' := ?_) (listed' := #[true, false, false, false, false, false, false, false, false, false, false, false, false]) rfl rfl (by kernel_rfl) (fun _ _ _ h => h) rfl (Or.inl ⟨by rfl, ?_⟩) ?_ HS1.out ?_
      rotate_left 2
      · intro w hS; clear hS; go_simp; rfl
      · simp only [List.setIfInBounds_toArray, List.set_cons_succ, List.set_cons_zero]; rfl
      refine wpAnyK_takeL (i := 1) (d := 11) (v := ?_) (T' := ?_) (listed' := #[true, true, false, false, false, false, false, false, false, false, false, false, false]) rfl rfl (by kernel_rfl) (fun _ _ _ h => h) rfl (Or.inl ⟨by rfl, ?_⟩) ?_ HS1.out ?_
      rotate_left 2
      · intro w hS; have t0 := hS.1; clear hS; go_simp; rfl
      · simp only [List.setIfInBounds_toArray, List.set_cons_succ, List.set_cons_zero]; rfl
      refine wpAnyK_takeL (i := 3) (d := 13) (v := ?_) (T' := ?_) (listed' := #[true, true, false, true, false, false, false, false, false, false, false, false, false]) rfl rfl (by kernel_rfl) (fun _ _ _ h => h) rfl (Or.inl ⟨by rfl, ?_⟩) ?_ HS1.out ?_
      rotate_left 2
      · intro w hS; clear hS; go_simp; rfl
      · simp only [List.setIfInBounds_toArray, List.set_cons_succ, List.set_cons_zero]; rfl
      refine wpAnyK_takeL (i := 4) (d := 14) (v := ?_) (T' := ?_) (listed' := #[true, true, false, true, true, false, false, false, false, false, false, false, false]) rfl rfl (by kernel_rfl) (fun _ _ _ h => h) rfl (Or.inl ⟨by rfl, ?_⟩) ?_ HS1.out ?_
      rotate_left 2
      · intro w hS; have t0 := hS.2; clear hS; go_simp; rfl
      · simp only [List.setIfInBounds_toArray, List.set_cons_succ, List.set_cons_zero]; rfl
      refine wpAnyK_takeL (i := 5) (d := 15) (v := ?_) (T' := ?_) (listed' := #[true, true, false, true, true, true, false, false, false, false, false, false, false]) rfl rfl (by kernel_rfl) (fun _ _ _ h => h) rfl (Or.inl ⟨by rfl, ?_⟩) ?_ HS1.out ?_
      rotate_left 2
      · intro w hS; clear hS; go_simp; rfl
      · simp only [List.setIfInBounds_toArray, List.set_cons_succ, List.set_cons_zero]; rfl
      refine wpAnyK_takeL (i := 6) (d := 16) (v := ?_) (T' := ?_) (listed' := #[true, true, false, true, true, true, true, false, false, false, false, false, false]) rfl rfl (by kernel_rfl) (fun _ _ _ h => h) rfl (Or.inl ⟨by rfl, ?_⟩) ?_ HS1.out ?_
      rotate_left 2
      · intro w hS; clear hS; go_simp; rfl
      · simp only [List.setIfInBounds_toArray, List.set_cons_succ, List.set_cons_zero]; rfl
      refine wpAnyK_takeL (i := 7) (d := 17) (v := ?_) (T' := ?_) (listed' := #[true, true, false, true, true, true, true, true, false, false, false, false, false]) rfl rfl (by kernel_rfl) (fun _ _ _ h => h) rfl (Or.inl ⟨by rfl, ?_⟩) ?_ HS1.out ?_
      rotate_left 2
      · intro w hS; clear hS; go_simp; rfl
      · simp only [List.setIfInBounds_toArray, List.set_cons_succ, List.set_cons_zero]; rfl
      refine wpAnyK_takeL (i := 10) (d := 20) (v := ?_) (T' := ?_) (listed' := #[true, true, false, true, true, true, true, true, false, false, true, false, false]) rfl rfl (by kernel_rfl) (fun _ _ _ h => h) rfl (Or.inl ⟨by rfl, ?_⟩) ?_ HS1.out ?_
      rotate_left 2
      · intro w hS; clear hS; go_simp; rfl
      · simp only [List.setIfInBounds_toArray, List.set_cons_succ, List.set_cons_zero]; rfl
      refine wpAnyK_oneL (i := 2) (listed' := #[true, true, true, true, true, true, true, true, false, false, true, false, false]) (by kernel_rfl) rfl (by rfl) rfl ?_
      intro K hK
      go_simp
      have hlt := Own.lit w1 #[] [] 0 w.heap.size rfl rfl HG1.out.size (Nat.zero_le _)
      have hgr := gb_alloc w1 (.cells #[] 5) none
      generalize hzz : w1.heap.size = q0 at *
      generalize w1.alloc (.cells #[] 5) = w2 at *
      have HL2 := Lib.hid hlt
      have HA2 := Lib.hid (blk_kept HA1.out hgr)
      have HB2 := Lib.hid (blk_kept HB1.out hgr)
      have HG2 := Lib.hid (gb_same HG1.out hgr)
      have HO2 := Lib.hid (HO1.out.grown hgr)
      have HS2 := Lib.hid (row2 HA2.out)
      have HQ0 : Hid (w.heap.size + 1 < q0 ∧ ∀ j, (Value.slice a6 k c6).ownBlock = some j → j < q0) := Lib.hid ⟨by rw [← hzz]; exact lt_of_blk HB1.out, fun j hj => by rw [← hzz]; exact (HO1.out.lt j hj).2⟩
      clear hlt hgr hzz
      refine hK _ _ (fun _ => HS2.out) ?_
      clear hK K
      refine wpAnyK_oneL (i := 8) (listed' := #[true, true, true, true, true, true, true, true, true, false, true, false, false]) (by kernel_rfl) rfl (by rfl) rfl ?_
      intro K hK
      refine app_bytesW_op _ _ rfl w.heap.size (.slice (some ⟨q0, 0, none⟩) 0 0) (.slice (some ⟨g, off + k, none⟩) (l.length - k) (c - k)) [] (l.drop k) rfl rfl HL2.out (HSR.out _ HG2.out) HG2.out.size (by have := HLN.out; simp; omega) ?_
      intro v3 w3 ho3 hg3 hf3
      rw [List.nil_append] at ho3
      have HO3 := Lib.hid ho3
      have HG3 := Lib.hid (gb_trans HG2.out hg3 (fun j hj => .inr (HL2.out.lt j hj).1))
      have hne3 : (Value.slice (some ⟨q0, 0, none⟩) 0 0).ownBlock ≠ some w.heap.size ∧ (Value.slice (some ⟨q0, 0, none⟩) 0 0).ownBlock ≠ some (w.heap.size + 1) := by have := HQ0.out.1; simp [Value.ownBlock]; omega
      have HA3 := Lib.hid (blk_kept' HA2.out hg3 hne3.1)
      have HB3 := Lib.hid (blk_kept' HB2.out hg3 hne3.2)
      have HP3 := Lib.hid (HO2.out.kept hg3 (fun k hk e => by have := HQ0.out.2 k hk; simp [Value.ownBlock] at e; omega))
      have HN3 : Hid (v3.ownBlock ≠ some (w.heap.size + 1)) := Lib.hid (fun e => by
          rcases hf3 _ e with h1 | h1
          · exact hne3.2 h1
          · have := lt_of_blk HB2.out; omega)
      have HS3 := Lib.hid (row2 HA3.out)
      obtain ⟨a4, c4, hv4⟩ := ho3.rd.len
      generalize ((l.drop k) : List UInt8).length = L4 at hv4
      subst hv4
      clear ho3 hg3 hf3 hne3
      refine hK _ _ (fun _ => HS3.out) ?_
      clear hK K
      refine wpAnyK_takeL (i := 9) (d := 19) (v := ?_) (T' := ?_) (listed' := #[true, true, true, true, true, true, true, true, true, true, true, false, false]) rfl rfl (by kernel_rfl) (fun _ _ _ h => h) rfl (Or.inl ⟨by rfl, ?_⟩) ?_ HS3.out ?_
      rotate_left 2
      · intro w hS; clear hS; go_simp; rfl
      · simp only [List.setIfInBounds_toArray, List.set_cons_succ, List.set_cons_zero]; rfl
      refine wpAnyK_oneL (i := 11) (listed' := #[true, true, true, true, true, true, true, true, true, true, true, true, false]) (by kernel_rfl) rfl (by rfl) rfl ?_
      intro K hK
      refine st_row_op 31 4 19 rfl (w.heap.size + 1) #[.int .i64 0, .slice none 0 0] #[.int .i64 (n : Int), .slice a4 L4 c4] 31 rfl rfl HB3.out bsize rfl rfl ?_
      intro w5 hb5 hg5
      have HB5 := Lib.hid hb5
      have HO5 := Lib.hid (HO3.out.kept hg5 (fun k hk e => HN3.out (by rw [hk, ← e])))
      have HP5 := Lib.hid (HP3.out.kept hg5 (fun k hk e => by have h1 := (HO0.out.lt k hk).1; have h2 := HKN.out k hk; simp at e; omega))
      have HG5 := Lib.hid (gb_new HG3.out hg5 (by omega))
      have HS5 := Lib.hid (row2 (blk_kept' HA3.out hg5 (by simp)))
      clear hb5 hg5
      refine hK _ _ (fun _ => HS5.out) ?_
      clear hK K
      refine wpAnyK_oneL (i := 12) (listed' := #[true, true, true, true, true, true, true, true, true, true, true, true, true]) (by kernel_rfl) rfl (by rfl) rfl ?_
      intro K hK
      go_simp
      refine hK _ _ (fun h => Bool.noConfusion (show true = false from h)) ?_
      clear hK K
      refine wpAnyK_done (by kernel_rfl) ?_ _
      go_wp2
      refine ret_cb rfl (w.heap.size + 1) 31 #[.int .i64 (n : Int), .slice a4 L4 c4] (.slice a6 k c6) rfl rfl HB5.out Try.underlying31 bsize ?_
      exact ⟨_, _, rfl, by rw [← HE.out]; exact HO5.out, HP5.out, HG5.out⟩
end Go.Proofs.Ytjidkaeglhfajaa
