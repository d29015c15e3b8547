/-
  The reference's byte queues: Encode, DecodeBytes: the walks.
-/
import Derived.Test.YtjidkaeglhfajaaRRT
namespace Go.Proofs.Ytjidkaeglhfajaa
open Go.RowKit Go.Shelf

set_option maxRecDepth 100000 in
set_option maxHeartbeats 4000000 in
theorem rencB_any (n : Nat) (u : Value) (l : List UInt8) (w : World) (hu : Rd w u l) (hl : l.length ≤ 4096) (hn : n ≤ 4096) :
    Calls Try.prog 29 #[rB n u] w (EncP (encQ n l) w) := by
  obtain ⟨a, c, rfl⟩ := hu.len
  have HU := Lib.hid hu
  have HBA := Lib.hid (heap_at_alloc w (.cells #[.int .i64 (n : Int), .slice a l.length c] 31))
  have HLN : Hid (l.length ≤ 4096 ∧ n ≤ 4096) := Lib.hid ⟨hl, hn⟩
  unfold rB
  clear hu
  go_enter Try.func29, Try.ntmps29
  go_wp2
  refine region_KL (fuel := 8) (listed := #[false, false, false, false, false, false, false, false]) (fun X => X.cell? ⟨w.heap.size, 0, none⟩ = some (.int .i64 (n : Int)) ∧ X.cell? ⟨w.heap.size, 1, none⟩ = some (.slice a l.length c)) 7 (by kernel_rfl) rfl (by kernel_rfl) ?_
  have HA1 := Lib.hid (blk_kept HBA.out (gb_drew _ none))
  have HG1 := Lib.hid (gb_same (gb_alloc w (.cells #[.int .i64 (n : Int), .slice a l.length c] 31) none) (gb_drew _ _))
  generalize (w.alloc (.cells #[.int .i64 (n : Int), .slice a l.length c] 31)).drew = w1 at *
  have HS1 := Lib.hid (row2 HA1.out)
  refine wpAnyK_takeL (i := 0) (d := 3) (v := ?_) (T' := ?_) (listed' := #[true, false, false, false, false, false, false, false]) rfl rfl (by kernel_rfl) (fun _ _ _ h => h) rfl (Or.inl ⟨by rfl, ?_⟩) ?_ HS1.out ?_
  rotate_left 2
  · intro w hS; clear hS; go_simp; rfl
  · simp only [List.setIfInBounds_toArray, List.set_cons_succ, List.set_cons_zero]; rfl
  refine wpAnyK_takeL (i := 1) (d := 4) (v := ?_) (T' := ?_) (listed' := #[true, true, false, false, false, false, false, false]) rfl rfl (by kernel_rfl) (fun _ _ _ h => h) rfl (Or.inl ⟨by rfl, ?_⟩) ?_ HS1.out ?_
  rotate_left 2
  · intro w hS; have t0 := hS.1; clear hS; go_simp; rfl
  · simp only [List.setIfInBounds_toArray, List.set_cons_succ, List.set_cons_zero]; rfl
  refine wpAnyK_takeL (i := 3) (d := 6) (v := ?_) (T' := ?_) (listed' := #[true, true, false, true, false, false, false, false]) rfl rfl (by kernel_rfl) (fun _ _ _ h => h) rfl (Or.inl ⟨by rfl, ?_⟩) ?_ HS1.out ?_
  rotate_left 2
  · intro w hS; clear hS; go_simp; rfl
  · simp only [List.setIfInBounds_toArray, List.set_cons_succ, List.set_cons_zero]; rfl
  refine wpAnyK_takeL (i := 4) (d := 7) (v := ?_) (T' := ?_) (listed' := #[true, true, false, true, true, false, false, false]) rfl rfl (by kernel_rfl) (fun _ _ _ h => h) rfl (Or.inl ⟨by rfl, ?_⟩) ?_ HS1.out ?_
  rotate_left 2
  · intro w hS; have t0 := hS.2; clear hS; go_simp; rfl
  · simp only [List.setIfInBounds_toArray, List.set_cons_succ, List.set_cons_zero]; rfl
  refine wpAnyK_oneL (i := 2) (listed' := #[true, true, true, true, true, false, false, false]) (by kernel_rfl) rfl (by rfl) rfl ?_
  intro K hK
  go_simp
  refine (rInt_any (n : Int) w1 ⟨by omega, by omega⟩).mono ?_
  rintro e w2 ⟨v2, rfl, ho2, hg2⟩
  have HO2 := Lib.hid (ho2.mono HG1.out.size)
  have HNE2 : Hid (v2.ownBlock ≠ some w.heap.size) := Lib.hid (fun e => by have := (ho2.lt _ e).1; have := lt_of_blk HA1.out; omega)
  have HG2 := Lib.hid (gb_same HG1.out hg2)
  have HA2 := Lib.hid (blk_kept HA1.out hg2)
  have HS2 := Lib.hid (row2 HA2.out)
  clear ho2 hg2
  refine hK _ _ (fun _ => HS2.out) ?_
  clear hK K
  refine wpAnyK_oneL (i := 5) (listed' := #[true, true, true, true, true, true, false, false]) (by kernel_rfl) rfl (by rfl) rfl ?_
  intro K hK
  go_simp
  refine (rBytes_any (.slice a l.length c) l w2 (HU.out.grown HG2.out).w (by have := HLN.out; omega)).mono ?_
  rintro e w3 ⟨v3, rfl, ho3, hg3⟩
  have HV3 := Lib.hid ho3.rd
  have HO3 := Lib.hid (HO2.out.grown hg3)
  have HG3 := Lib.hid (gb_same HG2.out hg3)
  have HA3 := Lib.hid (blk_kept HA2.out hg3)
  have HS3 := Lib.hid (row2 HA3.out)
  clear ho3 hg3
  refine hK _ _ (fun _ => HS3.out) ?_
  clear hK K
  refine wpAnyK_oneL (i := 6) (listed' := #[true, true, true, true, true, true, true, false]) (by kernel_rfl) rfl (by rfl) rfl ?_
  intro K hK
  refine app_bytesW_op _ _ rfl w.heap.size v2 v3 (enc (n : Int)) (encS l) rfl rfl HO3.out HV3.out.w HG3.out.size (by have h1 := (enc_len (n : Int)).2; have h2 := (enc_len (l.length : Int)).2; have := HLN.out; unfold encS; rw [List.length_append]; omega) ?_
  intro v4 w4 ho4 hg4 hf4
  have HO4 := Lib.hid ho4
  have HG4 := Lib.hid (gb_trans HG3.out hg4 (fun j hj => .inr (HO3.out.lt j hj).1))
  have HS4 : Hid (w4.cell? ⟨w.heap.size, 0, none⟩ = some (.int .i64 (n : Int)) ∧ w4.cell? ⟨w.heap.size, 1, none⟩ = some (.slice a l.length c)) := Lib.hid (row2 (blk_kept' HA3.out hg4 HNE2.out))
  clear ho4 hg4 hf4
  refine hK _ _ (fun _ => HS4.out) ?_
  clear hK K
  refine wpAnyK_oneL (i := 7) (listed' := #[true, true, true, true, true, true, true, true]) (by kernel_rfl) rfl (by rfl) rfl ?_
  intro K hK
  go_simp
  refine hK _ _ (fun h => Bool.noConfusion (show true = false from h)) ?_
  clear hK K
  refine wpAnyK_done (by kernel_rfl) ?_ _
  go_wp2
  go_ret
  exact ⟨_, rfl, HO4.out, HG4.out⟩

def decO (bs : List UInt8) (n : Nat) : Option (List UInt8 × Nat) → Option (Nat × List UInt8)
  | none => none
  | some r => if r.2 < bs.length then none else some (n, r.1)
theorem decB_q (bs : List UInt8) : decB bs = decO bs (iV (unl false (rdBounded 1 4096 bs 0))).toNat (unl (unl false (rdBounded 1 4096 bs 0)).isNone (rdBytes (iV (unl false (rdBounded 1 4096 bs 0))) bs (iQ 0 (unl false (rdBounded 1 4096 bs 0))))) := by
  unfold decB
  rw [unl_f]
  cases rdBounded 1 4096 bs 0 with
  | none => rfl
  | some r =>
    obtain ⟨n, p⟩ := r
    show _ = decO bs n.toNat (rdBytes n bs p)
    simp only
    cases rdBytes n bs p with
    | none => rfl
    | some r2 => rfl
theorem iV_pos (bs : List UInt8) : (unl false (rdBounded 1 4096 bs 0)).isNone = false → 0 ≤ iV (unl false (rdBounded 1 4096 bs 0)) := by
  rw [unl_f]
  intro h
  cases hr : rdBounded 1 4096 bs 0 with
  | none => rw [hr] at h; cases h
  | some r =>
    obtain ⟨n, p⟩ := r
    have := (rdBounded_enc hr).1
    show 0 ≤ n
    omega
def rdB (w : World) (o : Option (Nat × List UInt8)) (e : Ending) (w' : World) : Prop :=
  match o with
  | none => e = .returned (.tuple #[rB 0 (.slice none 0 0), .int .i64 4]) ∧ w.grownBy w' none
  | some (n, l) => ∃ u, e = .returned (.tuple #[rB n u, .int .i64 0]) ∧ Own w' w.heap.size u l ∧ w.grownBy w' none
set_option maxRecDepth 100000 in
set_option maxHeartbeats 4000000 in
theorem rdecodeB_any (v : Value) (bs : List UInt8) (w : World) (h : Rd w v bs) (hb : bs.length ≤ 100000) (hlt : ∀ k, v.ownBlock = some k → k < w.heap.size) : Calls Try.prog 15 #[v] w (rdB w (decB bs)) := by
  obtain ⟨a, c, rfl⟩ := h.len
  have HV := Lib.hid h
  have HBL := Lib.hid hb
  have hb0 := heap_alloc2_0 w (.cells #[.int .i64 0, .slice none 0 0] 31) (.cells #[.slice a bs.length c, .int .i64 0, .bool false] 91)
  have hb1 := heap_alloc2_1 w (.cells #[.int .i64 0, .slice none 0 0] 31) (.cells #[.slice a bs.length c, .int .i64 0, .bool false] 91)
  have hga : w.grownBy ((w.alloc (.cells #[.int .i64 0, .slice none 0 0] 31)).alloc (.cells #[.slice a bs.length c, .int .i64 0, .bool false] 91)) none := gb_same (gb_alloc _ _ _) (gb_alloc _ _ _)
  have hq : IsQ ((w.alloc (.cells #[.int .i64 0, .slice none 0 0] 31)).alloc (.cells #[.slice a bs.length c, .int .i64 0, .bool false] 91)) (w.heap.size + 1) (.slice a bs.length c) bs 0 false :=
    ⟨hb1, h.grown hga, fun e => by have := hlt _ e; omega, Nat.zero_le _, by omega⟩
  have HQB := Lib.hid (qBounded_any (w.heap.size + 1) (.slice a bs.length c) bs 0 false 1 4096 _ hq)
  have HBB := Lib.hid hb0
  have HGA := Lib.hid hga
  have HVL := Lib.hid hlt
  clear h hb hb0 hb1 hga hq hlt
  go_enter Try.func15, Try.ntmps15
  go_wp2_with fail
  refine HQB.out.mono ?_
  rintro e w1 ⟨rfl, hq1, hg1⟩
  have HG1 := Lib.hid (gb_new HGA.out hg1 (by omega))
  have HB1 := Lib.hid (blk_kept' HBB.out hg1 (by simp))
  have HQ1 := Lib.hid hq1
  clear hg1 hq1 HQB
  generalize hzv : iV (unl false (rdBounded 1 4096 bs 0)) = zv
  generalize hpv : iQ 0 (unl false (rdBounded 1 4096 bs 0)) = pv at HQ1
  generalize hfv : (unl false (rdBounded 1 4096 bs 0)).isNone = fv at HQ1
  have HX := Lib.hid (And.intro hzv (And.intro hpv hfv))
  clear hzv hpv hfv
  have HZB := Lib.hid (heap_at_alloc w1 (.cells #[.int .i64 0, .slice none 0 0] 31))
  have HGZ := Lib.hid (gb_alloc w1 (.cells #[.int .i64 0, .slice none 0 0] 31) none)
  go_wp2_with ((with_reducible refine is_store 31 5 11 ?_); go_must (refine st_row 31 5 11 w1.heap.size _ #[.int .i64 zv, .slice none 0 0] _ rfl rfl HZB.out bsize rfl rfl ?_; intro w2 hb2 hg2; have HB2 := Lib.hid hb2; have HG2 := Lib.hid hg2; have t0 := (row2 hb2).1; clear hb2 hg2))
  have hq2 := (HQ1.out.grown HGZ.out).kept HG2.out (by have := lt_of_blk HQ1.out.blk; simp; omega) (fun k hk e => by have h1 := HVL.out k hk; have h2 := HG1.out.size; simp at e; omega)
  have HGW2 := Lib.hid (gb_new (gb_same HG1.out HGZ.out) HG2.out HG1.out.size)
  have HBR2 := Lib.hid (blk_kept' (blk_kept HB1.out HGZ.out) HG2.out (by have := lt_of_blk HB1.out; simp; omega))
  have HBY := Lib.hid (qBytes_any (w.heap.size + 1) (.slice a bs.length c) bs pv fv zv w2 hq2)
  have HX0 : Hid (w.heap.size + 1 < w1.heap.size) := Lib.hid (lt_of_blk HQ1.out.blk)
  clear hq2
  generalize hov : unl fv (rdBytes zv bs pv) = ov at HBY
  have HDQ : Hid (decB bs = decO bs zv.toNat ov) := Lib.hid (by
    have h := decB_q bs
    rw [HX.out.1, HX.out.2.1, HX.out.2.2, hov] at h
    exact h)
  have HZP : Hid (ov ≠ none → 0 ≤ zv) := Lib.hid (fun hne => by
    rw [← HX.out.1]
    refine iV_pos bs ?_
    rw [HX.out.2.2]
    cases fv with
    | false => rfl
    | true => exact absurd hov.symm (by rw [unl_t]; exact hne))
  clear hov
  refine HBY.out.mono ?_
  rintro e w3 ⟨v3, rfl, ho3, hq3, hg3⟩
  have HO3 := Lib.hid ho3
  have HB3 := Lib.hid (blk_kept' HB2.out hg3 (by have := HX0.out; simp; omega))
  have HBR3 := Lib.hid (blk_kept' HBR2.out hg3 (by simp))
  have HGW3 := Lib.hid (gb_new HGW2.out hg3 (by omega))
  have HQ3 := Lib.hid hq3
  obtain ⟨a3, c3, hv3⟩ := ho3.rd.len
  generalize hl3 : (byL ov).length = n3 at hv3
  subst hv3
  have hc1 := (row2 HB3.out).2
  have hf1 := blk_frozen (j := 1) HB3.out
  have hb4 := blk_set HB3.out 1 (.slice a3 n3 c3)
  have hg4 := gb_setCell w3 ⟨w1.heap.size, 1, none⟩ (.slice a3 n3 c3)
  have HB4 : Hid ((w3.setCell ⟨w1.heap.size, 1, none⟩ (.slice a3 n3 c3)).heap[w1.heap.size]? = some (.cells #[.int .i64 zv, .slice a3 n3 c3] 31 (0, 0))) := Lib.hid (by rw [hb4]; simp)
  have hsz : w1.heap.size < w2.heap.size := lt_of_blk HB2.out
  have HQ4 := Lib.hid (HQ3.out.kept hg4 (by have := HX0.out; simp; omega) (fun k hk e => by have h1 := HVL.out k hk; have h2 := HG1.out.size; simp at e; omega))
  have HO4 := Lib.hid ((HO3.out.mono (Nat.le_of_lt (Nat.lt_of_le_of_lt HG1.out.size hsz))).kept hg4 (fun k hk e => by have h1 := (HO3.out.lt k hk).1; simp at e; omega))
  have HGW4 := Lib.hid (gb_new HGW3.out hg4 HG1.out.size)
  have HBR4 := Lib.hid (blk_kept' HBR3.out hg4 (by have := HX0.out; simp; omega))
  have HNO : Hid (∀ k, (Value.slice a3 n3 c3).ownBlock = some k → k ≠ w.heap.size) := Lib.hid (fun k hk => by have h1 := (HO3.out.lt k hk).1; have h2 := HG1.out.size; omega)
  clear ho3 hq3 hg3 hb4 hg4 hsz HBY t0
  go_wp2_with fail
  clear hc1 hf1
  generalize w3.setCell ⟨w1.heap.size, 1, none⟩ (.slice a3 n3 c3) = w4 at *
  have HEN := Lib.hid (qEnd_any _ _ _ _ _ w4 HQ4.out)
  cases ov with
  | none =>
    rw [show endOf (none : Option (List UInt8 × Nat)).isNone bs (byQ pv none) = 4 from end_no (.inl rfl)] at HEN
    have HD : Hid (decB bs = none) := Lib.hid HDQ.out
    refine HEN.out.mono ?_
    rintro e w5 ⟨rfl, m5, hw5⟩
    have hg5 : w4.grownBy w5 none := by rw [hw5]; exact gb_drewN _ _ _
    have HBR5 := Lib.hid (blk_kept HBR4.out hg5)
    have HG5 := Lib.hid (gb_same HGW4.out hg5)
    clear hw5 hg5
    go_wp2_with ((with_reducible refine is_store 31 2 20 ?_); go_must (refine st_row 31 2 20 w.heap.size _ #[.int .i64 0, .slice none 0 0] _ rfl rfl HBR5.out bsize rfl rfl ?_; intro w6 hb6 hg6))
    refine ret_cb rfl w.heap.size 31 #[.int .i64 0, .slice none 0 0] (.int .i64 4) rfl rfl hb6 Try.underlying31 bsize ?_
    unfold rdB
    rw [HD.out]
    exact ⟨rfl, gb_new HG5.out hg6 (Nat.le_refl _)⟩
  | some r =>
    obtain ⟨l, q⟩ := r
    have hz0 := HZP.out (by simp)
    obtain ⟨m, hm⟩ : ∃ m : Nat, zv = (m : Int) := ⟨zv.toNat, by omega⟩
    subst hm
    by_cases hq : q < bs.length
    · have HD : Hid (decB bs = none) := Lib.hid (by rw [HDQ.out]; exact if_pos hq)
      rw [show endOf (some (l, q)).isNone bs (byQ pv (some (l, q))) = 4 from end_no (.inr hq)] at HEN
      clear hq hz0
      refine HEN.out.mono ?_
      rintro e w5 ⟨rfl, m5, hw5⟩
      have hg5 : w4.grownBy w5 none := by rw [hw5]; exact gb_drewN _ _ _
      have HBR5 := Lib.hid (blk_kept HBR4.out hg5)
      have HG5 := Lib.hid (gb_same HGW4.out hg5)
      clear hw5 hg5
      go_wp2_with ((with_reducible refine is_store 31 2 20 ?_); go_must (refine st_row 31 2 20 w.heap.size _ #[.int .i64 0, .slice none 0 0] _ rfl rfl HBR5.out bsize rfl rfl ?_; intro w6 hb6 hg6))
      refine ret_cb rfl w.heap.size 31 #[.int .i64 0, .slice none 0 0] (.int .i64 4) rfl rfl hb6 Try.underlying31 bsize ?_
      unfold rdB
      rw [HD.out]
      exact ⟨rfl, gb_new HG5.out hg6 (Nat.le_refl _)⟩
    · have HD : Hid (decB bs = some (m, l)) := Lib.hid (by rw [HDQ.out]; exact if_neg hq)
      rw [show endOf (some (l, q)).isNone bs (byQ pv (some (l, q))) = 0 from end_yes (by simp [byQ]; omega)] at HEN
      clear hq hz0
      refine HEN.out.mono ?_
      rintro e w5 ⟨rfl, m5, hw5⟩
      have hg5 : w4.grownBy w5 none := by rw [hw5]; exact gb_drewN _ _ _
      have HBR5 := Lib.hid (blk_kept HBR4.out hg5)
      have HB5 := Lib.hid (blk_kept HB4.out hg5)
      have HO5 := Lib.hid (HO4.out.grown hg5)
      have HG5 := Lib.hid (gb_same HGW4.out hg5)
      clear hw5 hg5
      go_wp2_with (first | ((with_reducible refine is_load 31 21 5 ?_); go_must (refine ld_row 31 21 5 w1.heap.size _ _ rfl HB5.out Try.underlying31 bsize ?_)) | ((with_reducible refine is_store 31 2 21 ?_); go_must (refine st_row 31 2 21 w.heap.size _ #[.int .i64 (m : Int), .slice a3 n3 c3] _ rfl rfl HBR5.out bsize rfl rfl ?_; intro w6 hb6 hg6)))
      refine ret_cb rfl w.heap.size 31 #[.int .i64 (m : Int), .slice a3 n3 c3] (.int .i64 0) rfl rfl hb6 Try.underlying31 bsize ?_
      unfold rdB
      rw [HD.out]
      have hn0 : w.heap.size < w1.heap.size := by have := HX0.out; omega
      exact ⟨_, rfl, HO5.out.kept hg6 (fun k hk e => HNO.out k hk (by simpa using e.symm)), gb_new HG5.out hg6 (Nat.le_refl _)⟩
end Go.Proofs.Ytjidkaeglhfajaa
