/-
  Log.Resize: the walk.
-/
import Derived.Test.YtfdkmncjcehdkaaUndoNil
namespace Go.Proofs.Ytfdkmncjcehdkaa
open Go.RowKit

/-- a log whose image has been replaced -/
theorem LogF.newImage {w w1 : World} {F : Nat → Prop} {g : Nat} {iv iv' rv : Value} {img img' : List UInt8} {ps : List RP} {op : Bool} (h : LogF w F g iv rv img ps op) (hg : w.grownBy w1 iv.ownBlock) (ho : Own w1 0 iv' img') (hf : Fr w iv iv') :
    LogF (w1.setCell ⟨g, 0, none⟩ iv') (fun k => F k ∨ iv'.ownBlock = some k) g iv' rv img' ps op ∧ Foot w (w1.setCell ⟨g, 0, none⟩ iv') F (fun k => F k ∨ iv'.ownBlock = some k) := by
  have hs := hg.size
  have hgl := h.lt g h.fg
  have hil : ∀ k, iv'.ownBlock = some k → (F k ∧ k ≠ g ∧ iv.ownBlock = some k) ∨ w.heap.size ≤ k := fun k hk => by
    rcases hf k hk with h1 | h1
    · exact .inl ⟨(h.fi k h1).1, (h.fi k h1).2, h1⟩
    · exact .inr h1
  have hblk1 : w1.heap[g]? = some (.cells #[iv, rv, .bool op] 68 (0, 0)) := blk_kept' h.blk hg (fun e => (h.fi g e).2 rfl)
  refine ⟨⟨heap_setCell_same _ _ 0 _ _ iv' hblk1, ?_, ?_, ?_, .inl h.fg, fun k hk => ⟨.inr hk, ?_⟩, fun k hk => ?_, ?_, ?_⟩, ?_⟩
  · refine ho.kept (gb_setCell _ _ _) (fun k hk e => ?_)
    simp only [Option.some.injEq] at e
    rcases hil k hk with h1 | h1
    · exact h1.2.1 e.symm
    · omega
  · exact (h.row.kept hg (fun k hk e => (h.fr k hk).2.2 e)).kept (gb_setCell _ _ _) (fun k hk e => (h.fr k hk).2.1 (by simpa using e.symm))
  · exact fun p hp => ((h.data p hp).kept hg (fun k hk e => (h.fd p hp k hk).2.2.1 e)).kept (gb_setCell _ _ _) (fun k hk e => (h.fd p hp k hk).2.1 (by simpa using e.symm))
  · rcases hil k hk with h1 | h1
    · exact h1.2.1
    · omega
  · refine ⟨.inl (h.fr k hk).1, (h.fr k hk).2.1, fun e => ?_⟩
    rcases hil k e with h1 | h1
    · exact (h.fr k hk).2.2 h1.2.2
    · have := h.lt k (h.fr k hk).1; omega
  · intro p hp k hk
    obtain ⟨f1, f2, f3, f4⟩ := h.fd p hp k hk
    refine ⟨.inl f1, f2, fun e => ?_, f4⟩
    rcases hil k e with h1 | h1
    · exact f3 h1.2.2
    · have := h.lt k f1; omega
  · rintro k (h1 | h1)
    · have := h.lt k h1; simp; omega
    · have := (ho.lt k h1).2; simpa using this
  · refine ⟨hg.os, hg.tape, hg.output, by simpa using hs, fun k hk hn => ?_, ?_⟩
    · rw [heap_setCell_other _ _ _ _ (by simp; rintro rfl; exact hn h.fg)]
      exact hg.block k hk (fun e => hn (h.fi k e.symm).1)
    · rintro k (h1 | h1)
      · exact .inl h1
      · rcases hil k h1 with h2 | h2
        · exact .inl h2.1
        · exact .inr h2
theorem resize_shut {w : World} {F : Nat → Prop} {g : Nat} {iv rv : Value} {img : List UInt8} {ps : List RP} (h : LogF w F g iv rv img ps false) (n : Int) : Calls Try.prog 30 #[.pointer (some ⟨g, 0, none⟩), .int .i64 n] w (NumP 7 w) := by
  have HO := Lib.hid (open_any h)
  clear h
  go_enter Try.func30, Try.ntmps30
  go_wp2_with (go_at_call 18; refine HO.out.mono ?_; rintro e w' ⟨rfl, rfl⟩)
  go_ret
  exact ⟨rfl, rfl⟩
theorem resize_neg {w : World} {F : Nat → Prop} {g : Nat} {iv rv : Value} {img : List UInt8} {ps : List RP} (h : LogF w F g iv rv img ps true) (n : Int) (hn : n < 0) : Calls Try.prog 30 #[.pointer (some ⟨g, 0, none⟩), .int .i64 n] w (NumP 2 w) := by
  have HO := Lib.hid (open_any h)
  clear h
  go_enter Try.func30, Try.ntmps30
  go_wp2_with (go_at_call 18; refine HO.out.mono ?_; rintro e w' ⟨rfl, rfl⟩)
  go_ret
  exact ⟨rfl, rfl⟩
set_option maxRecDepth 100000 in
set_option maxHeartbeats 4000000 in
theorem resize_any {w : World} {F : Nat → Prop} {g : Nat} {iv rv : Value} {img : List UInt8} {ps : List RP} (h : LogF w F g iv rv img ps true) (n : Nat) (hn : n ≤ 24000) (hi : img.length ≤ 140737488355328) (hp : ps.length + 1 ≤ 1000000) :
    Calls Try.prog 30 #[.pointer (some ⟨g, 0, none⟩), .int .i64 (n : Int)] w (LogP 0 w F g (sized img n) (ps.map (·.1) ++ [(((min n img.length : Nat) : Int), (img.length : Int), sub img (min n img.length) img.length)]) true) := by
  have HO := Lib.hid (open_any h)
  have q : w.cell? ⟨g, 0, none⟩ = some iv := cell_row h.blk
  have HK := Lib.hid (fun W (hW : w.grownBy W none) => keep_any (h.grown hW (by simp)) (min n img.length) img.length (by omega) (Nat.le_refl _) hi hp)
  obtain ⟨ai, ci, rfl⟩ := h.image.rd.len
  have H := Lib.hid h
  have hn0 : (n : Int) ≤ 24000 := by omega
  have hs := h.image.rd.small
  clear h
  obtain ⟨m, hm⟩ : ∃ m, min n img.length = m := ⟨_, rfl⟩
  rw [hm] at HK ⊢
  have hms : (n ≤ img.length ∧ m = n) ∨ (img.length < n ∧ m = img.length) := by omega
  clear hm
  rcases hms with ⟨hle, rfl⟩ | ⟨hle, rfl⟩
  · have hle1 : (img.length < m) = False := by simp; omega
    go_enter Try.func30, Try.ntmps30
    go_wp2_with (go_at_call 18; refine HO.out.mono ?_; rintro e w' ⟨rfl, rfl⟩)
    refine region_KL (fuel := 14) (listed := #[false, false, false, false, false, false, false, false, false, false, false, false, false, false]) (fun W => W.cell? ⟨g, 0, none⟩ = some (.slice ai img.length ci)) 13 (by kernel_rfl) rfl (by kernel_rfl) ?_
    refine wpAnyK_takeL (i := 0) (d := 15) (v := ?_) (T' := ?_) (listed' := #[true, false, false, false, false, false, false, false, false, false, false, false, false, false]) rfl rfl (by kernel_rfl) (fun _ _ _ h => h) rfl (Or.inl ⟨by rfl, ?_⟩) ?_ q ?_
    rotate_left 2
    · intro w hS; clear hS; go_simp; rfl
    · simp only [List.setIfInBounds_toArray, List.set_cons_succ, List.set_cons_zero]; rfl
    refine wpAnyK_takeL (i := 1) (d := 16) (v := ?_) (T' := ?_) (listed' := #[true, true, false, false, false, false, false, false, false, false, false, false, false, false]) rfl rfl (by kernel_rfl) (fun _ _ _ h => h) rfl (Or.inl ⟨by rfl, ?_⟩) ?_ q ?_
    rotate_left 2
    · intro w hS; clear hS; go_simp; rfl
    · simp only [List.setIfInBounds_toArray, List.set_cons_succ, List.set_cons_zero]; rfl
    refine wpAnyK_takeL (i := 2) (d := 17) (v := ?_) (T' := ?_) (listed' := #[true, true, true, false, false, false, false, false, false, false, false, false, false, false]) rfl rfl (by kernel_rfl) (fun _ _ _ h => h) rfl (Or.inl ⟨by rfl, ?_⟩) ?_ q ?_
    rotate_left 2
    · intro w hS; clear hS; go_simp; rfl
    · simp only [List.setIfInBounds_toArray, List.set_cons_succ, List.set_cons_zero]; rfl
    refine wpAnyK_takeL (i := 3) (d := 18) (v := ?_) (T' := ?_) (listed' := #[true, true, true, true, false, false, false, false, false, false, false, false, false, false]) rfl rfl (by kernel_rfl) (fun _ _ _ h => h) rfl (Or.inl ⟨by rfl, ?_⟩) ?_ q ?_
    rotate_left 2
    · intro w hS; clear hS; go_simp; rfl
    · simp only [List.setIfInBounds_toArray, List.set_cons_succ, List.set_cons_zero]; rfl
    refine wpAnyK_takeL (i := 4) (d := 19) (v := ?_) (T' := ?_) (listed' := #[true, true, true, true, true, false, false, false, false, false, false, false, false, false]) rfl rfl (by kernel_rfl) (fun _ _ _ h => h) rfl (Or.inl ⟨by rfl, ?_⟩) ?_ q ?_
    rotate_left 2
    · intro w hS; clear hS; go_simp; rfl
    · simp only [List.setIfInBounds_toArray, List.set_cons_succ, List.set_cons_zero]; rfl
    refine wpAnyK_takeL (i := 5) (d := 20) (v := ?_) (T' := ?_) (listed' := #[true, true, true, true, true, true, false, false, false, false, false, false, false, false]) rfl rfl (by kernel_rfl) (fun _ _ _ h => h) rfl (Or.inl ⟨by rfl, ?_⟩) ?_ q ?_
    rotate_left 2
    · intro w hS; have t0 := hS; clear hS; go_simp; rfl
    · simp only [List.setIfInBounds_toArray, List.set_cons_succ, List.set_cons_zero]; rfl
    refine wpAnyK_takeL (i := 6) (d := 21) (v := ?_) (T' := ?_) (listed' := #[true, true, true, true, true, true, true, false, false, false, false, false, false, false]) rfl rfl (by kernel_rfl) (fun _ _ _ h => h) rfl (Or.inl ⟨by rfl, ?_⟩) ?_ q ?_
    rotate_left 2
    · intro w hS; clear hS; go_simp; rfl
    · simp only [List.setIfInBounds_toArray, List.set_cons_succ, List.set_cons_zero]; rfl
    refine wpAnyK_takeL (i := 7) (d := 22) (v := ?_) (T' := ?_) (listed' := #[true, true, true, true, true, true, true, true, false, false, false, false, false, false]) rfl rfl (by kernel_rfl) (fun _ _ _ h => h) rfl (Or.inl ⟨by rfl, ?_⟩) ?_ q ?_
    rotate_left 2
    · intro w hS; clear hS; go_simp; rfl
    · simp only [List.setIfInBounds_toArray, List.set_cons_succ, List.set_cons_zero]; rfl
    refine wpAnyK_takeL (i := 8) (d := 23) (v := ?_) (T' := ?_) (listed' := #[true, true, true, true, true, true, true, true, true, false, false, false, false, false]) rfl rfl (by kernel_rfl) (fun _ _ _ h => h) rfl (Or.inl ⟨by rfl, ?_⟩) ?_ q ?_
    rotate_left 2
    · intro w hS; clear hS; go_simp; rfl
    · simp only [List.setIfInBounds_toArray, List.set_cons_succ, List.set_cons_zero]; rfl
    refine wpAnyK_takeL (i := 9) (d := 24) (v := ?_) (T' := ?_) (listed' := #[true, true, true, true, true, true, true, true, true, true, false, false, false, false]) rfl rfl (by kernel_rfl) (fun _ _ _ h => h) rfl (Or.inl ⟨by rfl, ?_⟩) ?_ q ?_
    rotate_left 2
    · intro w hS; clear hS; go_simp; rfl
    · simp only [List.setIfInBounds_toArray, List.set_cons_succ, List.set_cons_zero]; rfl
    refine wpAnyK_takeL (i := 10) (d := 25) (v := ?_) (T' := ?_) (listed' := #[true, true, true, true, true, true, true, true, true, true, true, false, false, false]) rfl rfl (by kernel_rfl) (fun _ _ _ h => h) rfl (Or.inl ⟨by rfl, ?_⟩) ?_ q ?_
    rotate_left 2
    · intro w hS; clear hS; go_simp; rfl
    · simp only [List.setIfInBounds_toArray, List.set_cons_succ, List.set_cons_zero]; rfl
    refine wpAnyK_takeL (i := 11) (d := 26) (v := ?_) (T' := ?_) (listed' := #[true, true, true, true, true, true, true, true, true, true, true, true, false, false]) rfl rfl (by kernel_rfl) (fun _ _ _ h => h) rfl (Or.inl ⟨by rfl, ?_⟩) ?_ q ?_
    rotate_left 2
    · intro w hS; have t0 := hS; clear hS; go_simp; rfl
    · simp only [List.setIfInBounds_toArray, List.set_cons_succ, List.set_cons_zero]; rfl
    refine wpAnyK_takeL (i := 12) (d := 27) (v := ?_) (T' := ?_) (listed' := #[true, true, true, true, true, true, true, true, true, true, true, true, true, false]) rfl rfl (by kernel_rfl) (fun _ _ _ h => h) rfl (Or.inl ⟨by rfl, ?_⟩) ?_ q ?_
    rotate_left 2
    · intro w hS; clear hS; go_simp; rfl
    · simp only [List.setIfInBounds_toArray, List.set_cons_succ, List.set_cons_zero]; rfl
    refine wpAnyK_oneL (i := 13) (listed' := #[true, true, true, true, true, true, true, true, true, true, true, true, true, true]) (by kernel_rfl) rfl (by rfl) rfl ?_
    intro K hK
    go_simp
    (with_reducible refine (HK.out _ (gb_drew _ _)).mono ?_)
    rintro e w1 ⟨⟨v1, rfl⟩, F1, rv1, dv1, hl1, hf1⟩
    have HL1 := Lib.hid hl1
    have HF1 := Lib.hid hf1
    have q1 : w1.cell? ⟨g, 0, none⟩ = some (.slice ai img.length ci) := cell_row hl1.blk
    have HRZ := Lib.hid (resized_any _ img m 0 w1 hl1.image (Nat.zero_le _) hn)
    clear hl1 hf1
    refine hK _ _ (fun h => Bool.noConfusion (show true = false from h)) ?_
    clear hK K
    refine wpAnyK_done (by kernel_rfl) ?_ _
    go_wp2_with (go_at_call 57; (with_reducible refine HRZ.out.mono ?_); go_must (rintro e w2 ⟨v2, rfl, ho2, hg2, hf2⟩; have HO2 := Lib.hid ho2; have HG2 := Lib.hid hg2; have HF2 := Lib.hid hf2; have hb2 : w2.heap[g]? = some (.cells #[.slice ai img.length ci, rv1, .bool true] 68 (0, 0)) := blk_kept' HL1.out.blk hg2 (fun e => (HL1.out.fi g e).2 rfl); have q2 : w2.cell? ⟨g, 0, none⟩ = some (.slice ai img.length ci) := cell_row hb2; have q3 : w2.frozen? ⟨g, 0, none⟩ = false := frozen_row hb2; obtain ⟨a2, c2, hv2⟩ := ho2.rd.len; rw [sized_len] at hv2; subst hv2; clear ho2 hg2 hf2 hb2))
    go_ret
    exact ⟨rfl, _, _, rv1, _, (HL1.out.newImage HG2.out HO2.out HF2.out).1, by simp, (Foot.of_gb (gb_drew w none) (by simp)).trans (HF1.out.trans (HL1.out.newImage HG2.out HO2.out HF2.out).2)⟩
  · have hle1 : (img.length : Int) < n := by omega
    go_enter Try.func30, Try.ntmps30
    go_wp2_with (go_at_call 18; refine HO.out.mono ?_; rintro e w' ⟨rfl, rfl⟩)
    refine region_KL (fuel := 14) (listed := #[false, false, false, false, false, false, false, false, false, false, false, false, false, false]) (fun W => W.cell? ⟨g, 0, none⟩ = some (.slice ai img.length ci)) 13 (by kernel_rfl) rfl (by kernel_rfl) ?_
    refine wpAnyK_takeL (i := 0) (d := 15) (v := ?_) (T' := ?_) (listed' := #[true, false, false, false, false, false, false, false, false, false, false, false, false, false]) rfl rfl (by kernel_rfl) (fun _ _ _ h => h) rfl (Or.inl ⟨by rfl, ?_⟩) ?_ q ?_
    rotate_left 2
    · intro w hS; clear hS; go_simp; rfl
    · simp only [List.setIfInBounds_toArray, List.set_cons_succ, List.set_cons_zero]; rfl
    refine wpAnyK_takeL (i := 1) (d := 16) (v := ?_) (T' := ?_) (listed' := #[true, true, false, false, false, false, false, false, false, false, false, false, false, false]) rfl rfl (by kernel_rfl) (fun _ _ _ h => h) rfl (Or.inl ⟨by rfl, ?_⟩) ?_ q ?_
    rotate_left 2
    · intro w hS; clear hS; go_simp; rfl
    · simp only [List.setIfInBounds_toArray, List.set_cons_succ, List.set_cons_zero]; rfl
    refine wpAnyK_takeL (i := 2) (d := 17) (v := ?_) (T' := ?_) (listed' := #[true, true, true, false, false, false, false, false, false, false, false, false, false, false]) rfl rfl (by kernel_rfl) (fun _ _ _ h => h) rfl (Or.inl ⟨by rfl, ?_⟩) ?_ q ?_
    rotate_left 2
    · intro w hS; clear hS; go_simp; rfl
    · simp only [List.setIfInBounds_toArray, List.set_cons_succ, List.set_cons_zero]; rfl
    refine wpAnyK_takeL (i := 3) (d := 18) (v := ?_) (T' := ?_) (listed' := #[true, true, true, true, false, false, false, false, false, false, false, false, false, false]) rfl rfl (by kernel_rfl) (fun _ _ _ h => h) rfl (Or.inl ⟨by rfl, ?_⟩) ?_ q ?_
    rotate_left 2
    · intro w hS; clear hS; go_simp; rfl
    · simp only [List.setIfInBounds_toArray, List.set_cons_succ, List.set_cons_zero]; rfl
    refine wpAnyK_takeL (i := 4) (d := 19) (v := ?_) (T' := ?_) (listed' := #[true, true, true, true, true, false, false, false, false, false, false, false, false, false]) rfl rfl (by kernel_rfl) (fun _ _ _ h => h) rfl (Or.inl ⟨by rfl, ?_⟩) ?_ q ?_
    rotate_left 2
    · intro w hS; clear hS; go_simp; rfl
    · simp only [List.setIfInBounds_toArray, List.set_cons_succ, List.set_cons_zero]; rfl
    refine wpAnyK_takeL (i := 5) (d := 20) (v := ?_) (T' := ?_) (listed' := #[true, true, true, true, true, true, false, false, false, false, false, false, false, false]) rfl rfl (by kernel_rfl) (fun _ _ _ h => h) rfl (Or.inl ⟨by rfl, ?_⟩) ?_ q ?_
    rotate_left 2
    · intro w hS; have t0 := hS; clear hS; go_simp; rfl
    · simp only [List.setIfInBounds_toArray, List.set_cons_succ, List.set_cons_zero]; rfl
    refine wpAnyK_takeL (i := 6) (d := 21) (v := ?_) (T' := ?_) (listed' := #[true, true, true, true, true, true, true, false, false, false, false, false, false, false]) rfl rfl (by kernel_rfl) (fun _ _ _ h => h) rfl (Or.inl ⟨by rfl, ?_⟩) ?_ q ?_
    rotate_left 2
    · intro w hS; clear hS; go_simp; rfl
    · simp only [List.setIfInBounds_toArray, List.set_cons_succ, List.set_cons_zero]; rfl
    refine wpAnyK_takeL (i := 7) (d := 22) (v := ?_) (T' := ?_) (listed' := #[true, true, true, true, true, true, true, true, false, false, false, false, false, false]) rfl rfl (by kernel_rfl) (fun _ _ _ h => h) rfl (Or.inl ⟨by rfl, ?_⟩) ?_ q ?_
    rotate_left 2
    · intro w hS; clear hS; go_simp; rfl
    · simp only [List.setIfInBounds_toArray, List.set_cons_succ, List.set_cons_zero]; rfl
    refine wpAnyK_takeL (i := 8) (d := 23) (v := ?_) (T' := ?_) (listed' := #[true, true, true, true, true, true, true, true, true, false, false, false, false, false]) rfl rfl (by kernel_rfl) (fun _ _ _ h => h) rfl (Or.inl ⟨by rfl, ?_⟩) ?_ q ?_
    rotate_left 2
    · intro w hS; clear hS; go_simp; rfl
    · simp only [List.setIfInBounds_toArray, List.set_cons_succ, List.set_cons_zero]; rfl
    refine wpAnyK_takeL (i := 9) (d := 24) (v := ?_) (T' := ?_) (listed' := #[true, true, true, true, true, true, true, true, true, true, false, false, false, false]) rfl rfl (by kernel_rfl) (fun _ _ _ h => h) rfl (Or.inl ⟨by rfl, ?_⟩) ?_ q ?_
    rotate_left 2
    · intro w hS; clear hS; go_simp; rfl
    · simp only [List.setIfInBounds_toArray, List.set_cons_succ, List.set_cons_zero]; rfl
    refine wpAnyK_takeL (i := 10) (d := 25) (v := ?_) (T' := ?_) (listed' := #[true, true, true, true, true, true, true, true, true, true, true, false, false, false]) rfl rfl (by kernel_rfl) (fun _ _ _ h => h) rfl (Or.inl ⟨by rfl, ?_⟩) ?_ q ?_
    rotate_left 2
    · intro w hS; clear hS; go_simp; rfl
    · simp only [List.setIfInBounds_toArray, List.set_cons_succ, List.set_cons_zero]; rfl
    refine wpAnyK_takeL (i := 11) (d := 26) (v := ?_) (T' := ?_) (listed' := #[true, true, true, true, true, true, true, true, true, true, true, true, false, false]) rfl rfl (by kernel_rfl) (fun _ _ _ h => h) rfl (Or.inl ⟨by rfl, ?_⟩) ?_ q ?_
    rotate_left 2
    · intro w hS; have t0 := hS; clear hS; go_simp; rfl
    · simp only [List.setIfInBounds_toArray, List.set_cons_succ, List.set_cons_zero]; rfl
    refine wpAnyK_takeL (i := 12) (d := 27) (v := ?_) (T' := ?_) (listed' := #[true, true, true, true, true, true, true, true, true, true, true, true, true, false]) rfl rfl (by kernel_rfl) (fun _ _ _ h => h) rfl (Or.inl ⟨by rfl, ?_⟩) ?_ q ?_
    rotate_left 2
    · intro w hS; clear hS; go_simp; rfl
    · simp only [List.setIfInBounds_toArray, List.set_cons_succ, List.set_cons_zero]; rfl
    refine wpAnyK_oneL (i := 13) (listed' := #[true, true, true, true, true, true, true, true, true, true, true, true, true, true]) (by kernel_rfl) rfl (by rfl) rfl ?_
    intro K hK
    go_simp
    (with_reducible refine (HK.out _ (gb_drew _ _)).mono ?_)
    rintro e w1 ⟨⟨v1, rfl⟩, F1, rv1, dv1, hl1, hf1⟩
    have HL1 := Lib.hid hl1
    have HF1 := Lib.hid hf1
    have q1 : w1.cell? ⟨g, 0, none⟩ = some (.slice ai img.length ci) := cell_row hl1.blk
    have HRZ := Lib.hid (resized_any _ img n 0 w1 hl1.image (Nat.zero_le _) hn)
    clear hl1 hf1
    refine hK _ _ (fun h => Bool.noConfusion (show true = false from h)) ?_
    clear hK K
    refine wpAnyK_done (by kernel_rfl) ?_ _
    go_wp2_with (go_at_call 57; (with_reducible refine HRZ.out.mono ?_); go_must (rintro e w2 ⟨v2, rfl, ho2, hg2, hf2⟩; have HO2 := Lib.hid ho2; have HG2 := Lib.hid hg2; have HF2 := Lib.hid hf2; have hb2 : w2.heap[g]? = some (.cells #[.slice ai img.length ci, rv1, .bool true] 68 (0, 0)) := blk_kept' HL1.out.blk hg2 (fun e => (HL1.out.fi g e).2 rfl); have q2 : w2.cell? ⟨g, 0, none⟩ = some (.slice ai img.length ci) := cell_row hb2; have q3 : w2.frozen? ⟨g, 0, none⟩ = false := frozen_row hb2; obtain ⟨a2, c2, hv2⟩ := ho2.rd.len; rw [sized_len] at hv2; subst hv2; clear ho2 hg2 hf2 hb2))
    go_ret
    exact ⟨rfl, _, _, rv1, _, (HL1.out.newImage HG2.out HO2.out HF2.out).1, by simp, (Foot.of_gb (gb_drew w none) (by simp)).trans (HF1.out.trans (HL1.out.newImage HG2.out HO2.out HF2.out).2)⟩
end Go.Proofs.Ytfdkmncjcehdkaa
