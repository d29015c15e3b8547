/-
  The closure of (*wire.Reader).Entry: the walk.
-/
import Derived.Test.YtgfopepopcacmaaMsgA
namespace Go.Proofs.Ytgfopepopcacmaa
open Go.RowKit

def rdX (bs : List UInt8) (p : Nat) : Option ((List Int × List UInt8) × Nat) :=
  match rdIs 3 bs p with
  | none => none
  | some (z1, q1) => match rdIs 4 bs q1 with
    | none => none
    | some (z2, q2) => match rdBytes 1536 bs q2 with
      | none => none
      | some (l, q3) => some ((z1 ++ z2, l), q3)
theorem fill3 {zs : List Int} (h1 : zs.length = 3) (dv : Value) : fillRow 0 (rowI [0, 0, 0, 0, 0, 0, 0] dv) zs = rowI (zs ++ [0, 0, 0, 0]) dv := by
  match zs, h1 with
  | [z0, z1, z2], _ => rfl
theorem fill34 {zs ys : List Int} (h1 : zs.length = 3) (h2 : ys.length = 4) (dv : Value) : fillRow 3 (rowI (zs ++ [0, 0, 0, 0]) dv) ys = rowI (zs ++ ys) dv := by
  match zs, h1, ys, h2 with
  | [z0, z1, z2], _, [y0, y1, y2, y3], _ => rfl

theorem rdX_state {bs : List UInt8} {p q1 q2 q3 : Nat} {z1 z2 : List Int} {l : List UInt8} {f1 f2 f3 : Bool}
    (a1 : f1 = false → rdIs 3 bs p = some (z1, q1)) (a2 : f1 = true → unl false (rdIs 3 bs p) = none)
    (b1 : f2 = false → f1 = false ∧ rdIs 4 bs q1 = some (z2, q2)) (b2 : f2 = true → unl f1 (rdIs 4 bs q1) = none)
    (c1 : f3 = false → f2 = false ∧ rdBytes 1536 bs q2 = some (l, q3)) (c2 : f3 = true → unl f2 (rdBytes 1536 bs q2) = none) :
    (f3 = false → rdX bs p = some ((z1 ++ z2, l), q3)) ∧ (f3 = true → rdX bs p = none) := by
  unfold rdX
  refine ⟨fun e => ?_, fun e => ?_⟩
  · obtain ⟨e2, h3⟩ := c1 e
    obtain ⟨e1, h2⟩ := b1 e2
    rw [a1 e1]
    simp only [h2, h3]
  · cases f1 with
    | true => have := a2 rfl; rw [unl_f] at this; rw [this]
    | false =>
      rw [a1 rfl]
      cases f2 with
      | true => have := b2 rfl; rw [unl_f] at this; simp only [this]
      | false => have := c2 e; rw [unl_f] at this; simp only [(b1 rfl).2, this]

set_option maxRecDepth 100000 in
set_option maxHeartbeats 4000000 in
theorem ent1 (b : Nat) (sl : Value) (bs : List UInt8) (p : Nat) (w : World) (B k0 : Nat) (h : IsR w b sl bs p false) (hB : B ≤ w.heap.size)
    (b0 : w.heap[k0]? = some (.cells #[.pointer (some ⟨b, 0, none⟩)] 25 (0, 0))) (n0 : k0 ≠ b) :
    Calls Try.prog 90 #[.pointer (some ⟨k0, 0, none⟩)] w (PartsE w b sl bs (G_row 7) (OwnM B) (rdX bs p)) := by
  have hk0 := lt_of_block b0
  have hbl := h.lt
  obtain ⟨wa, hwa⟩ : ∃ W, W = (w.alloc (Obj.cells (rowI [0, 0, 0, 0, 0, 0, 0] (.slice none 0 0)).toArray 65)).alloc (Obj.cells (rowI [0, 0, 0, 0, 0, 0, 0] (.slice none 0 0)).toArray 65) := ⟨_, rfl⟩
  have ga : w.grownBy wa none := by rw [hwa]; exact gb_same (gb_alloc _ _ _) (gb_alloc _ _ _)
  have r1 : wa.heap[w.heap.size]? = some (.cells (rowI [0, 0, 0, 0, 0, 0, 0] (.slice none 0 0)).toArray 65 (0, 0)) := by rw [hwa]; exact heap_alloc2_old _ _ _
  have r2 : wa.heap[w.heap.size + 1]? = some (.cells (rowI [0, 0, 0, 0, 0, 0, 0] (.slice none 0 0)).toArray 65 (0, 0)) := by rw [hwa]; exact heap_alloc2_new _ _ _
  have sa : wa.heap.size = w.heap.size + 2 := by rw [hwa]; simp
  have HRA := Lib.hid (h.grown ga)
  have HB0 := Lib.hid b0
  have HGA := Lib.hid ga
  have HR1 := Lib.hid r1
  have HR2 := Lib.hid r2
  have HSA := Lib.hid sa
  have HWA := Lib.hid hwa
  have HSL := Lib.hid (fun hne => Rd.blk h.rd hne)
  have c0 := cell_of_one b0
  clear h b0 ga r1 r2 sa hwa
  go_enter Try.func90, Try.ntmps90
  go_wp2_with fail
  have hmx : (4 : Nat) ≤ maxLen := by simp only [maxLen]; omega
  have hmx3 : (3 : Nat) ≤ maxLen := by simp only [maxLen]; omega
  obtain ⟨wb, hwb⟩ : ∃ W, W = wa.alloc (Obj.cells #[.pointer (some ⟨w.heap.size + 1, 0, none⟩), .pointer (some ⟨w.heap.size + 1, 1, none⟩), .pointer (some ⟨w.heap.size + 1, 2, none⟩)] 116) := ⟨_, rfl⟩
  have hpb : RdL wb (.slice (some ⟨w.heap.size + 2, 0, none⟩) 3 3) (ptrs (w.heap.size + 1) 0 3) := by rw [hwb, ← HSA.out]; exact RdL.lit wa [.pointer (some ⟨w.heap.size + 1, 0, none⟩), .pointer (some ⟨w.heap.size + 1, 1, none⟩), .pointer (some ⟨w.heap.size + 1, 2, none⟩)] 116 hmx3 3 rfl
  have gab : wa.grownBy wb none := by rw [hwb]; exact gb_alloc _ _ _
  have HF := Lib.hid (fill_any w b sl bs p false (.slice (some ⟨w.heap.size + 2, 0, none⟩) 3 3) (w.heap.size + 1) 0 3 (rowI [0, 0, 0, 0, 0, 0, 0] (.slice none 0 0)) 65 wb (HRA.out.grown gab) hpb (blk_kept HR2.out gab) (by decide) (by omega) (fun k hk => by have e := own_blk hk; omega) hbl HSL.out (gb_none _ (gb_same HGA.out gab)) (by omega) (by omega) (fun j hj => rowI_int (by simp; omega)))
  have HRB1 := Lib.hid (blk_kept HR1.out gab)
  have HSB : Hid (wb.heap.size = w.heap.size + 3) := Lib.hid (by rw [hwb]; simp [HSA.out])
  have HWB : Hid (wb = ((w.alloc (Obj.cells #[.int .i64 0, .int .i64 0, .int .i64 0, .int .i64 0, .int .i64 0, .int .i64 0, .int .i64 0, .slice none 0 0] 65)).alloc (Obj.cells #[.int .i64 0, .int .i64 0, .int .i64 0, .int .i64 0, .int .i64 0, .int .i64 0, .int .i64 0, .slice none 0 0] 65)).alloc (Obj.cells #[.pointer (some ⟨w.heap.size + 1, 0, none⟩), .pointer (some ⟨w.heap.size + 1, 1, none⟩), .pointer (some ⟨w.heap.size + 1, 2, none⟩)] 116)) := Lib.hid (by rw [hwb, HWA.out]; rfl)
  clear hwb hpb gab c0
  rw [← HWB.out]
  refine HF.out.mono ?_
  rintro e w1 ⟨rfl, z1, q1, f1, hrow1, hg1, hR1, s1, s2, hl1, _, hsz1, hk1⟩
  rw [fill3 hl1] at hrow1
  have d0 := cell_of_one (box_kept HB0.out hg1 n0)
  have HS1 := Lib.hid s1
  have HS2 := Lib.hid s2
  have HL1 := Lib.hid hl1
  have HROW1 := Lib.hid hrow1
  have HG1 := Lib.hid hg1
  have HR1' := Lib.hid hR1
  have HX1 : Hid (w1.heap[w.heap.size]? = some (.cells (rowI [0, 0, 0, 0, 0, 0, 0] (.slice none 0 0)).toArray 65 (0, 0))) := Lib.hid (by rw [hk1 _ (by rw [HSB.out]; omega) (by omega) (by omega)]; exact HRB1.out)
  have HZ1 := Lib.hid hsz1
  clear s1 s2 hl1 hrow1 hg1 hR1 hk1 hsz1 HF HRB1 HWB HR1 HR2 HWA HSA HRA
  go_wp2_with fail
  obtain ⟨wc, hwc⟩ : ∃ W, W = w1.alloc (Obj.cells #[.pointer (some ⟨w.heap.size + 1, 3, none⟩), .pointer (some ⟨w.heap.size + 1, 4, none⟩), .pointer (some ⟨w.heap.size + 1, 5, none⟩), .pointer (some ⟨w.heap.size + 1, 6, none⟩)] 116) := ⟨_, rfl⟩
  have hpc : RdL wc (.slice (some ⟨w1.heap.size, 0, none⟩) 4 4) (ptrs (w.heap.size + 1) 3 4) := by rw [hwc]; exact RdL.lit w1 [.pointer (some ⟨w.heap.size + 1, 3, none⟩), .pointer (some ⟨w.heap.size + 1, 4, none⟩), .pointer (some ⟨w.heap.size + 1, 5, none⟩), .pointer (some ⟨w.heap.size + 1, 6, none⟩)] 116 hmx 4 rfl
  have gac : w1.grownBy wc none := by rw [hwc]; exact gb_alloc _ _ _
  have hz1 := HZ1.out
  have hsb : w.heap.size + 3 ≤ w1.heap.size := by rw [← HSB.out]; exact hz1
  have HF2 := Lib.hid (fill_any w b sl bs q1 f1 (.slice (some ⟨w1.heap.size, 0, none⟩) 4 4) (w.heap.size + 1) 3 4 (rowI (z1 ++ [0, 0, 0, 0]) (.slice none 0 0)) 65 wc (HR1'.out.grown gac) hpc (blk_kept HROW1.out gac) (by rw [rowI_len, List.length_append, HL1.out]; decide) (by omega) (fun k hk => by have e := own_blk hk; omega) hbl HSL.out (gb_trans0 HG1.out gac) (by omega) (by omega) (fun j hj => rowI_int (by rw [List.length_append, HL1.out]; simp; omega)))
  have HXC := Lib.hid (blk_kept HX1.out gac)
  have HSC : Hid (wc.heap.size = w1.heap.size + 1) := Lib.hid (by rw [hwc]; simp)
  rw [← hwc]
  clear hwc hpc gac d0 hz1
  refine HF2.out.mono ?_
  rintro e w2 ⟨rfl, z2, q2, f2, hrow2, hg2, hR2, t1, t2, hl2, _, hsz2, hk2⟩
  rw [fill34 HL1.out hl2] at hrow2
  have d0 := cell_of_one (box_kept HB0.out hg2 n0)
  have HT1 := Lib.hid t1
  have HT2 := Lib.hid t2
  have HL2 := Lib.hid hl2
  have HROW2 := Lib.hid hrow2
  have HG2 := Lib.hid hg2
  have HX2 : Hid (w2.heap[w.heap.size]? = some (.cells (rowI [0, 0, 0, 0, 0, 0, 0] (.slice none 0 0)).toArray 65 (0, 0))) := Lib.hid (by rw [hk2 _ (by rw [HSC.out]; omega) (by omega) (by omega)]; exact HXC.out)
  have HBY := Lib.hid (bytes_u b sl bs q2 f2 w2 1536 w2.heap.size hR2 (Nat.le_refl _) (by omega))
  have hs2 : w.heap.size + 3 ≤ w2.heap.size := by have h1 := HSC.out; omega
  clear t1 t2 hl2 hrow2 hg2 hR2 hk2 hsz2 HF2 HXC HSC HX1 HROW1 HG1 HR1'
  go_wp2_with fail
  refine HBY.out.mono ?_
  rintro e w3 ⟨a3, n3, c3, l, q3, f3, rfl, ho3, hR3, hg3, u1, u2⟩
  have hl8 : (z1 ++ z2).length = 7 := by rw [List.length_append, HL1.out, HL2.out]
  have hrow3 := box_kept HROW2.out hg3 (show w.heap.size + 1 ≠ b by omega)
  have hx3 := box_kept HX2.out hg3 (show w.heap.size ≠ b by omega)
  have hc8 : w3.cell? ⟨w.heap.size + 1, 7, none⟩ = some (.slice none 0 0) := by simp only [World.cell?, hrow3]; rw [List.getElem?_toArray]; exact rowI_get hl8
  have hf8 : w3.frozen? ⟨w.heap.size + 1, 7, none⟩ = false := frozen_of_row _ _ _ _ _ hrow3
  have hrow4 := heap_setCell_same w3 (w.heap.size + 1) 7 _ _ (.slice a3 n3 c3) hrow3
  rw [List.setIfInBounds_toArray, rowI_set hl8] at hrow4
  have hx4 : (w3.setCell ⟨w.heap.size + 1, 7, none⟩ (.slice a3 n3 c3)).heap[w.heap.size]? = _ := (heap_setCell_other w3 ⟨w.heap.size + 1, 7, none⟩ w.heap.size (.slice a3 n3 c3) (by simp)).trans hx3
  have g4 : w3.grownBy (w3.setCell ⟨w.heap.size + 1, 7, none⟩ (.slice a3 n3 c3)) (some (w.heap.size + 1)) := gb_setCell _ _ _
  have HX4 := Lib.hid hx4
  have HROW4 := Lib.hid hrow4
  have HG4 : Hid (w.grownBy (w3.setCell ⟨w.heap.size + 1, 7, none⟩ (.slice a3 n3 c3)) (some b)) := Lib.hid (gb_trans (gb_same HG2.out hg3) g4 (fun k hk => .inr (by have e := Option.some.inj hk; omega)))
  have HR4 := Lib.hid (hR3.far hbl HSL.out g4 (fun k hk => by have e := Option.some.inj hk; omega))
  have HO4 := Lib.hid (ho3.kept g4 (fun k hk e => by have e2 := Option.some.inj e; have := (ho3.lt k hk).1; omega))
  have HST := Lib.hid (rdX_state (fun e => (HS1.out e).2) HS2.out HT1.out HT2.out u1 u2)
  clear hrow3 hx3 hrow4 hx4 g4 hR3 hg3 ho3 u1 u2
  go_wp2_with (first | ((with_reducible refine is_load 65 22 2 ?_); refine ld_row 65 22 2 (w.heap.size + 1) _ _ rfl HROW4.out Try.underlying65 (by rw [List.size_toArray, rowI_len, hl8]; exact sz_ent) ?_) | ((with_reducible refine is_store 65 1 22 ?_); refine st_row 65 1 22 w.heap.size _ _ _ rfl rfl HX4.out (by rw [List.size_toArray, rowI_len, hl8]; exact sz_ent) (by rw [List.size_toArray, List.size_toArray, rowI_len, rowI_len, hl8]; rfl) (rowI_one ⟨_, _, _, rfl⟩) ?_; go_must (intro w5 hb5 hg5)))
  refine ret_row rfl w.heap.size _ _ rfl hb5 Try.underlying65 (by rw [List.size_toArray, rowI_len, hl8]; exact sz_ent) ?_
  have g5 : w.grownBy w5 (some b) := gb_trans HG4.out hg5 (fun k hk => .inr (by have e := Option.some.inj hk; omega))
  have hR5 := HR4.out.far hbl HSL.out hg5 (fun k hk => by have e := Option.some.inj hk; omega)
  have ho5 := (HO4.out.kept hg5 (fun k hk e => by have e2 := Option.some.inj e; have := (HO4.out.lt k hk).1; omega)).mono (show B ≤ w2.heap.size by omega)
  obtain ⟨r1, r2⟩ := HST.out
  cases f3 with
  | false =>
    rw [r1 rfl]
    exact ⟨_, rfl, ⟨_, _, hl8, rfl, _, _, _, rfl⟩, ⟨_, rfl, ho5⟩, hR5, g5⟩
  | true =>
    rw [r2 rfl]
    exact ⟨_, q3, rfl, ⟨_, _, hl8, rfl, _, _, _, rfl⟩, hR5, g5⟩
abbrev zent : Value := .agg #[.int .i64 0, .int .i64 0, .int .i64 0, .int .i64 0, .int .i64 0, .int .i64 0, .int .i64 0, .slice none 0 0]
theorem rdX_len {bs : List UInt8} {p : Nat} {x : List Int × List UInt8} {q : Nat} (h : rdX bs p = some (x, q)) : x.1.length = 7 := by
  unfold rdX at h
  split at h
  · cases h
  · rename_i z1 q1 h1
    split at h
    · cases h
    · rename_i z2 q2 h2
      split at h
      · cases h
      · simp only [Option.some.injEq, Prod.mk.injEq] at h
        rw [← h.1, List.length_append, rdIs_len h1, rdIs_len h2]

set_option maxRecDepth 100000 in
set_option maxHeartbeats 2000000 in
theorem rent_any (b : Nat) (sl : Value) (bs : List UInt8) (p : Nat) (f : Bool) (w : World) (h : IsR w b sl bs p f) :
    Calls Try.prog 53 #[.pointer (some ⟨b, 0, none⟩)] w (ROutE w b sl bs p zent (fun x v w' => OwnM w.heap.size x v w') (unl f (rdX bs p))) := by
  have hm := hmf
  have hbl := h.lt
  obtain ⟨w0, hw0⟩ : ∃ W, W = (w.alloc (Obj.cells #[.pointer (some ⟨b, 0, none⟩)] 25)).alloc (Obj.cells #[.int .i64 0, .int .i64 0, .int .i64 0, .int .i64 0, .int .i64 0, .int .i64 0, .int .i64 0, .slice none 0 0] 65) := ⟨_, rfl⟩
  obtain ⟨hb0, hb1, hg0⟩ := two_blocks hw0
  have hs0 : w0.heap.size = w.heap.size + 2 := by rw [hw0]; simp
  have HV := Lib.hid (valueS_Entry b sl bs p f w0 90 #[.pointer (some ⟨w.heap.size, 0, none⟩)] (G_row 7) (fun B x v w => OwnM B x v w) (rdX bs p) (h.grown hg0) (fun _ _ => rfl) good_row keeps_ownM mono_ownM (fun hf W hW => by
    subst hf
    exact ent1 b sl bs p W W.heap.size w.heap.size (h.grown (gb_same hg0 hW)) (Nat.le_refl _) (blk_kept hb0 hW) (by omega)))
  have HB1 := Lib.hid hb1
  have HG0 := Lib.hid hg0
  have HS0 := Lib.hid hs0
  have HW := Lib.hid hw0
  have HSL := Lib.hid (fun hne => Rd.blk h.rd hne)
  have HLEN := Lib.hid (fun x q hh => @rdX_len bs p x q hh)
  clear h hb0 hb1 hg0 hs0 hw0
  go_enter Try.func53, Try.ntmps53
  go_wp2_with fail
  rw [← HW.out]
  refine HV.out.mono ?_
  rintro e w1 hr
  generalize hro : unl f (rdX bs p) = ro at *
  cases ro with
  | none =>
    obtain ⟨rfl, hR1, hg1⟩ := hr
    have HR1 := Lib.hid hR1
    have HG1 := Lib.hid hg1
    have HX1 := Lib.hid (box_kept HB1.out hg1 (show w.heap.size + 1 ≠ b by omega))
    have HRO := Lib.hid hro
    clear hR1 hg1 hro
    go_wp2_with ((with_reducible refine is_store 65 2 5 ?_); refine st_row 65 2 5 (w.heap.size + 1) _ _ _ rfl rfl HX1.out sz_ent rfl rfl ?_; go_must (intro w2 hb2 hg2))
    refine ret_row rfl (w.heap.size + 1) _ _ rfl hb2 Try.underlying65 sz_ent ?_
    rw [HRO.out]
    exact ⟨rfl, HR1.out.far hbl HSL.out hg2 (fun k hk => by have e := Option.some.inj hk; omega), gb_trans (gb_same (gb_none _ HG0.out) HG1.out) hg2 (fun k hk => .inr (by have e := Option.some.inj hk; omega))⟩
  | some r =>
    obtain ⟨x, q⟩ := r
    obtain ⟨v, rfl, ⟨dv, rfl, ho⟩, hR1, hg1⟩ := hr
    have hx8 : x.1.length = 7 := by
      cases f with
      | true => cases hro
      | false => exact HLEN.out _ _ hro
    obtain ⟨ad, cd, rfl⟩ := ho.rd.len
    have HR1 := Lib.hid hR1
    have HG1 := Lib.hid hg1
    have HO1 := Lib.hid ho
    have HC9 : Hid ((rowI x.1 (.slice ad x.2.length cd)).toArray.size = 8) := Lib.hid (by rw [List.size_toArray, rowI_len, hx8])
    have HX1 := Lib.hid (box_kept HB1.out hg1 (show w.heap.size + 1 ≠ b by omega))
    have HRO := Lib.hid hro
    clear hR1 hg1 hro ho hx8
    go_wp2_with ((with_reducible refine is_store 65 2 5 ?_); go_must (refine st_row 65 2 5 (w.heap.size + 1) _ (rowI x.1 (.slice ad x.2.length cd)).toArray _ rfl rfl HX1.out (by rw [HC9.out]; exact sz_ent) (by rw [HC9.out]; rfl) (rowI_one ⟨_, _, _, rfl⟩) ?_; intro w2 hb2 hg2))
    refine ret_row rfl (w.heap.size + 1) _ _ rfl hb2 Try.underlying65 (by rw [HC9.out]; exact sz_ent) ?_
    rw [HRO.out]
    refine ⟨_, rfl, ⟨_, rfl, (HO1.out.kept hg2 (fun k hk e => by have e2 := Option.some.inj e; have := HO1.out.lt k hk; have := HS0.out; omega)).mono (show w.heap.size ≤ w0.heap.size by rw [HS0.out]; omega)⟩, HR1.out.far hbl HSL.out hg2 (fun k hk => by have e := Option.some.inj hk; omega), gb_trans (gb_same (gb_none _ HG0.out) HG1.out) hg2 (fun k hk => .inr (by have e := Option.some.inj hk; omega))⟩
end Go.Proofs.Ytgfopepopcacmaa
