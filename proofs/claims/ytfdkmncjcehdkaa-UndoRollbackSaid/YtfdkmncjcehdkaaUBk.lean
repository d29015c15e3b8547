/-
  Log.Back, Log.Commit, Log.Rollback: the walks.
-/
import Derived.Test.YtfdkmncjcehdkaaUDel
namespace Go.Proofs.Ytfdkmncjcehdkaa
open Go.RowKit

/-- a log whose records have been cut -/
theorem LogF.newRecs {w w1 : World} {F : Nat → Prop} {g n : Nat} {iv rv rv' : Value} {img : List UInt8} {ps : List RP} {op : Bool} (h : LogF w F g iv rv img ps op) (hg : w.grownBy w1 rv.ownBlock) (hr : RRow 65 w1 0 rv' (ps.take n)) (hb : rv'.ownBlock = rv.ownBlock) :
    LogF (w1.setCell ⟨g, 1, none⟩ rv') F g iv rv' img (ps.take n) op ∧ Foot w (w1.setCell ⟨g, 1, none⟩ rv') F F := by
  have hblk1 : w1.heap[g]? = some (.cells #[iv, rv, .bool op] 68 (0, 0)) := blk_kept' h.blk hg (fun e => (h.fr g e).2.1 rfl)
  refine ⟨⟨heap_setCell_same _ _ 1 _ _ rv' hblk1, ?_, ?_, ?_, h.fg, h.fi, fun k hk => h.fr k (by rw [← hb]; exact hk), ?_, fun k hk => by have := h.lt k hk; have := hg.size; simp; omega⟩, ?_⟩
  · exact (h.image.kept hg (fun k hk e => (h.fr k e).2.2 hk)).kept (gb_setCell _ _ _) (fun k hk e => (h.fi k hk).2 (by simpa using e.symm))
  · exact hr.kept (gb_setCell _ _ _) (fun k hk e => (h.fr k (by rw [← hb]; exact hk)).2.1 (by simpa using e.symm))
  · exact fun p hp => ((h.data p (List.mem_of_mem_take hp)).kept hg (fun k hk e => (h.fd p (List.mem_of_mem_take hp) k hk).2.2.2 e)).kept (gb_setCell _ _ _) (fun k hk e => (h.fd p (List.mem_of_mem_take hp) k hk).2.1 (by simpa using e.symm))
  · intro p hp k hk
    obtain ⟨f1, f2, f3, f4⟩ := h.fd p (List.mem_of_mem_take hp) k hk
    exact ⟨f1, f2, f3, by rw [hb]; exact f4⟩
  · refine ⟨hg.os, hg.tape, hg.output, by simpa using hg.size, fun k hk hn => ?_, fun k hk => .inl hk⟩
    rw [heap_setCell_other _ _ _ _ (by simp; rintro rfl; exact hn h.fg)]
    exact hg.block k hk (fun e => hn (h.fr k e.symm).1)
/-- .. forgotten -/
theorem LogF.commit {w : World} {F : Nat → Prop} {g : Nat} {iv rv : Value} {img : List UInt8} {ps : List RP} {op : Bool} (h : LogF w F g iv rv img ps op) :
    LogF ((w.setCell ⟨g, 1, none⟩ (.slice none 0 0)).setCell ⟨g, 2, none⟩ (.bool false)) F g iv (.slice none 0 0) img [] false ∧ Foot w ((w.setCell ⟨g, 1, none⟩ (.slice none 0 0)).setCell ⟨g, 2, none⟩ (.bool false)) F F := by
  have h1 := heap_setCell_same _ _ 1 _ _ (.slice none 0 0) h.blk
  have hg2 : w.grownBy ((w.setCell ⟨g, 1, none⟩ (.slice none 0 0)).setCell ⟨g, 2, none⟩ (.bool false)) (some g) := gb_same (gb_setCell w ⟨g, 1, none⟩ (.slice none 0 0)) (gb_setCell (w.setCell ⟨g, 1, none⟩ (.slice none 0 0)) ⟨g, 2, none⟩ (.bool false))
  refine ⟨⟨heap_setCell_same _ _ 2 _ _ (.bool false) h1, h.image.kept hg2 (fun k hk e => (h.fi k hk).2 (by simpa using e.symm)), RRow.nil _ _ _, by simp, h.fg, h.fi, by simp [Value.ownBlock], by simp, fun k hk => by have := h.lt k hk; simpa using this⟩, ?_⟩
  exact Foot.of_gb hg2 (fun k hk => by cases hk; exact h.fg)
theorem commit_any {w : World} {F : Nat → Prop} {g : Nat} {iv rv : Value} {img : List UInt8} {ps : List RP} (h : LogF w F g iv rv img ps true) : Calls Try.prog 35 #[.pointer (some ⟨g, 0, none⟩)] w (LogP 0 w F g img [] false) := by
  have HO := Lib.hid (open_any h)
  have H := Lib.hid h
  have q0 : w.cell? ⟨g, 1, none⟩ = some rv := cell_row h.blk
  have q1 : w.frozen? ⟨g, 1, none⟩ = false := frozen_row h.blk
  have q2 : w.cell? ⟨g, 2, none⟩ = some (.bool true) := cell_row h.blk
  have q3 : w.frozen? ⟨g, 2, none⟩ = false := frozen_row h.blk
  clear h
  go_enter Try.func35, Try.ntmps35
  go_wp2_with (go_at_call 18; refine HO.out.mono ?_; rintro e w' ⟨rfl, rfl⟩)
  go_ret
  exact ⟨rfl, F, iv, _, [], H.out.commit.1, rfl, H.out.commit.2⟩
theorem commit_shut {w : World} {F : Nat → Prop} {g : Nat} {iv rv : Value} {img : List UInt8} {ps : List RP} (h : LogF w F g iv rv img ps false) : Calls Try.prog 35 #[.pointer (some ⟨g, 0, none⟩)] w (NumP 7 w) := by
  have HO := Lib.hid (open_any h)
  clear h
  go_enter Try.func35, Try.ntmps35
  go_wp2_with (go_at_call 18; refine HO.out.mono ?_; rintro e w' ⟨rfl, rfl⟩)
  go_ret
  exact ⟨rfl, rfl⟩
theorem back_shut {w : World} {F : Nat → Prop} {g : Nat} {iv rv : Value} {img : List UInt8} {ps : List RP} (h : LogF w F g iv rv img ps false) (n : Int) : Calls Try.prog 20 #[.pointer (some ⟨g, 0, none⟩), .int .i64 n] w (NumP 7 w) := by
  have HO := Lib.hid (open_any h)
  clear h
  go_enter Try.func20, Try.ntmps20
  go_wp2_with (go_at_call 18; refine HO.out.mono ?_; rintro e w' ⟨rfl, rfl⟩)
  go_ret
  exact ⟨rfl, rfl⟩
set_option maxRecDepth 100000 in
theorem back_range {w : World} {F : Nat → Prop} {g : Nat} {iv rv : Value} {img : List UInt8} {ps : List RP} (h : LogF w F g iv rv img ps true) (n : Int) (hr : n < 0 ∨ (ps.length : Int) < n) : Calls Try.prog 20 #[.pointer (some ⟨g, 0, none⟩), .int .i64 n] w (NumP 2 w) := by
  have HO := Lib.hid (open_any h)
  have q : w.cell? ⟨g, 1, none⟩ = some rv := cell_row h.blk
  obtain ⟨a, c, rfl⟩ := h.row.slice
  clear h
  by_cases h0 : n < 0
  · clear hr
    go_enter Try.func20, Try.ntmps20
    go_wp2_with (go_at_call 18; refine HO.out.mono ?_; rintro e w' ⟨rfl, rfl⟩)
    go_ret
    exact ⟨rfl, rfl⟩
  · have h1 : (ps.length : Int) < n := by omega
    clear hr
    go_enter Try.func20, Try.ntmps20
    go_wp2_with (go_at_call 18; refine HO.out.mono ?_; rintro e w' ⟨rfl, rfl⟩)
    go_ret
    exact ⟨rfl, rfl⟩
set_option maxRecDepth 100000 in
set_option maxHeartbeats 4000000 in
theorem back_any {w : World} {F : Nat → Prop} {g : Nat} {iv rv : Value} {img : List UInt8} {ps : List RP} (h : LogF w F g iv rv img ps true) (n : Nat) (hn : n ≤ ps.length) (hok : okAll (ps.map (·.1)) = true) (hps : ps.length ≤ 1000000) :
    Calls Try.prog 20 #[.pointer (some ⟨g, 0, none⟩), .int .i64 (n : Int)] w (LogP 0 w F g (recL img ((ps.map (·.1)).drop n)) ((ps.map (·.1)).take n) true) := by
  have HO := Lib.hid (open_any h)
  have H := Lib.hid h
  have q0 : w.cell? ⟨g, 0, none⟩ = some iv := cell_row h.blk
  have q1 : w.cell? ⟨g, 1, none⟩ = some rv := cell_row h.blk
  obtain ⟨ai, ci, rfl⟩ := h.image.rd.len
  have hcase : (rv = .slice none 0 0 ∧ ps.length = 0) ∨ (∃ g2 c, rv = .slice (some ⟨g2, 0, none⟩) ps.length c ∧ ps.length ≤ c ∧ (c : Int) ≤ 9223372036854775807) := by
    rcases h.row.2 with ⟨h0, hz⟩ | ⟨g2, c, cur, h0, _, _, hnc, hcm, _⟩
    · exact .inl ⟨h0, hz⟩
    · simp only [maxLen] at hcm; exact .inr ⟨g2, c, h0, hnc, by omega⟩
  have hokd : ∀ p ∈ ps.drop n, okR p.1 = true := fun p hp => by
    unfold okAll at hok
    rw [List.all_eq_true] at hok
    exact hok p.1 (List.mem_map_of_mem (List.mem_of_mem_drop hp))
  have HOKD := Lib.hid hokd
  have HMD : Hid ((ps.drop n).map (·.1) = (ps.map (·.1)).drop n) := Lib.hid (List.map_drop ..)
  have HMT : Hid ((ps.take n).map (·.1) = (ps.map (·.1)).take n) := Lib.hid (List.map_take ..)
  have HDL : Hid ((ps.drop n).length = ps.length - n) := Lib.hid (List.length_drop ..)
  have HPS := Lib.hid hps
  have hni : (n : Int) ≤ ps.length := by omega
  obtain ⟨R, hR⟩ : ∃ R, recL img ((ps.map (·.1)).drop n) = R := ⟨_, rfl⟩
  rw [hR]
  have HTB : Hid (∀ W, w.grownBy W none → ∀ dv : Value, RdRow w dv (ps.drop n) → (∀ k, dv.ownBlock = some k → rv.ownBlock = some k) → Calls Try.prog 37 #[.slice ai img.length ci, dv] W (ResP W 0 (.slice ai img.length ci) R)) := Lib.hid (by rw [← hR, ← HMD.out]; exact fun W (hW : w.grownBy W none) (dv : Value) (hdv : RdRow w dv (ps.drop n)) (hfr : ∀ k, dv.ownBlock = some k → rv.ownBlock = some k) => takeBack_any (.slice ai img.length ci) dv img (ps.drop n) W (H.out.image.grown hW) ⟨hdv.kept hW (by simp), fun p hp => ((Rd.w (H.out.data p (List.mem_of_mem_drop hp)).rd).grown hW)⟩ HOKD.out (by have := HDL.out; omega) (fun _ k hk e => (H.out.fr k (hfr k hk)).2.2 e) (fun p hp _ k hk e => (H.out.fd p (List.mem_of_mem_drop hp) k hk).2.2.1 e))
  clear h hok hokd hR
  rcases hcase with ⟨rfl, hz⟩ | ⟨g2, c, rfl, hpc, hcm⟩
  · obtain rfl : n = 0 := by omega
    have hpn : ps = [] := List.eq_nil_of_length_eq_zero hz
    subst hpn
    clear hz
    have HDV : Hid (RdRow w (.slice none 0 0) (([] : List RP).drop 0)) := Lib.hid (.inl ⟨rfl, rfl⟩)
    go_enter Try.func20, Try.ntmps20
    go_wp2_with (go_at_call 18; refine HO.out.mono ?_; rintro e w' ⟨rfl, rfl⟩)
    refine region_KL (fuel := 15) (listed := #[false, false, false, false, false, false, false, false, false, false, false, false, false, false, false]) (fun W => W.cell? ⟨g, 0, none⟩ = some (.slice ai img.length ci) ∧ W.cell? ⟨g, 1, none⟩ = some (.slice none 0 0)) 14 (by kernel_rfl) rfl (by kernel_rfl) ?_
    have HS0 : w.drew.cell? ⟨g, 0, none⟩ = some (.slice ai img.length ci) ∧ w.drew.cell? ⟨g, 1, none⟩ = some (.slice none 0 0) := ⟨q0, q1⟩
    refine wpAnyK_takeL (i := 0) (d := 19) (v := ?_) (T' := ?_) (listed' := #[true, false, false, false, false, false, false, false, false, false, false, false, false, false, false]) rfl rfl (by kernel_rfl) (fun _ _ _ h => h) rfl (Or.inl ⟨by rfl, ?_⟩) ?_ HS0 ?_
    rotate_left 2
    · intro w hS; clear hS; go_simp; rfl
    · simp only [List.setIfInBounds_toArray, List.set_cons_succ, List.set_cons_zero]; rfl
    refine wpAnyK_takeL (i := 1) (d := 20) (v := ?_) (T' := ?_) (listed' := #[true, true, false, false, false, false, false, false, false, false, false, false, false, false, false]) rfl rfl (by kernel_rfl) (fun _ _ _ h => h) rfl (Or.inl ⟨by rfl, ?_⟩) ?_ HS0 ?_
    rotate_left 2
    · intro w hS; clear hS; go_simp; rfl
    · simp only [List.setIfInBounds_toArray, List.set_cons_succ, List.set_cons_zero]; rfl
    refine wpAnyK_takeL (i := 2) (d := 21) (v := ?_) (T' := ?_) (listed' := #[true, true, true, false, false, false, false, false, false, false, false, false, false, false, false]) rfl rfl (by kernel_rfl) (fun _ _ _ h => h) rfl (Or.inl ⟨by rfl, ?_⟩) ?_ HS0 ?_
    rotate_left 2
    · intro w hS; clear hS; go_simp; rfl
    · simp only [List.setIfInBounds_toArray, List.set_cons_succ, List.set_cons_zero]; rfl
    refine wpAnyK_takeL (i := 3) (d := 22) (v := ?_) (T' := ?_) (listed' := #[true, true, true, true, false, false, false, false, false, false, false, false, false, false, false]) rfl rfl (by kernel_rfl) (fun _ _ _ h => h) rfl (Or.inl ⟨by rfl, ?_⟩) ?_ HS0 ?_
    rotate_left 2
    · intro w hS; clear hS; go_simp; rfl
    · simp only [List.setIfInBounds_toArray, List.set_cons_succ, List.set_cons_zero]; rfl
    refine wpAnyK_takeL (i := 4) (d := 23) (v := ?_) (T' := ?_) (listed' := #[true, true, true, true, true, false, false, false, false, false, false, false, false, false, false]) rfl rfl (by kernel_rfl) (fun _ _ _ h => h) rfl (Or.inl ⟨by rfl, ?_⟩) ?_ HS0 ?_
    rotate_left 2
    · intro w hS; have t0 := hS.1; clear hS; go_simp; rfl
    · simp only [List.setIfInBounds_toArray, List.set_cons_succ, List.set_cons_zero]; rfl
    refine wpAnyK_takeL (i := 5) (d := 24) (v := ?_) (T' := ?_) (listed' := #[true, true, true, true, true, true, false, false, false, false, false, false, false, false, false]) rfl rfl (by kernel_rfl) (fun _ _ _ h => h) rfl (Or.inl ⟨by rfl, ?_⟩) ?_ HS0 ?_
    rotate_left 2
    · intro w hS; clear hS; go_simp; rfl
    · simp only [List.setIfInBounds_toArray, List.set_cons_succ, List.set_cons_zero]; rfl
    refine wpAnyK_takeL (i := 6) (d := 25) (v := ?_) (T' := ?_) (listed' := #[true, true, true, true, true, true, true, false, false, false, false, false, false, false, false]) rfl rfl (by kernel_rfl) (fun _ _ _ h => h) rfl (Or.inl ⟨by rfl, ?_⟩) ?_ HS0 ?_
    rotate_left 2
    · intro w hS; clear hS; go_simp; rfl
    · simp only [List.setIfInBounds_toArray, List.set_cons_succ, List.set_cons_zero]; rfl
    refine wpAnyK_takeL (i := 7) (d := 26) (v := ?_) (T' := ?_) (listed' := #[true, true, true, true, true, true, true, true, false, false, false, false, false, false, false]) rfl rfl (by kernel_rfl) (fun _ _ _ h => h) rfl (Or.inl ⟨by rfl, ?_⟩) ?_ HS0 ?_
    rotate_left 2
    · intro w hS; clear hS; go_simp; rfl
    · simp only [List.setIfInBounds_toArray, List.set_cons_succ, List.set_cons_zero]; rfl
    refine wpAnyK_takeL (i := 8) (d := 27) (v := ?_) (T' := ?_) (listed' := #[true, true, true, true, true, true, true, true, true, false, false, false, false, false, false]) rfl rfl (by kernel_rfl) (fun _ _ _ h => h) rfl (Or.inl ⟨by rfl, ?_⟩) ?_ HS0 ?_
    rotate_left 2
    · intro w hS; have t1 := hS.2; clear hS; go_simp; rfl
    · simp only [List.setIfInBounds_toArray, List.set_cons_succ, List.set_cons_zero]; rfl
    refine wpAnyK_takeL (i := 9) (d := 28) (v := ?_) (T' := ?_) (listed' := #[true, true, true, true, true, true, true, true, true, true, false, false, false, false, false]) rfl rfl (by kernel_rfl) (fun _ _ _ h => h) rfl (Or.inl ⟨by rfl, ?_⟩) ?_ HS0 ?_
    rotate_left 2
    · intro w hS; clear hS; go_simp; rfl
    · simp only [List.setIfInBounds_toArray, List.set_cons_succ, List.set_cons_zero]; rfl
    refine wpAnyK_takeL (i := 10) (d := 29) (v := ?_) (T' := ?_) (listed' := #[true, true, true, true, true, true, true, true, true, true, true, false, false, false, false]) rfl rfl (by kernel_rfl) (fun _ _ _ h => h) rfl (Or.inl ⟨by rfl, ?_⟩) ?_ HS0 ?_
    rotate_left 2
    · intro w hS; clear hS; go_simp; rfl
    · simp only [List.setIfInBounds_toArray, List.set_cons_succ, List.set_cons_zero]; rfl
    refine wpAnyK_oneL (i := 11) (listed' := #[true, true, true, true, true, true, true, true, true, true, true, true, false, false, false]) (by kernel_rfl) rfl (by rfl) rfl ?_
    intro K hK
    go_simp
    (with_reducible refine (HTB.out _ (gb_drew _ _) (.slice none 0 0) HDV.out (fun k hk => by simp [Value.ownBlock] at hk)).mono ?_)
    rintro e w1 ⟨v1, rfl, ho1, hg1, hf1⟩
    obtain ⟨a1, c1, hv1⟩ := ho1.rd.len
    subst hv1
    have HO1 := Lib.hid ho1
    have HG1 : Hid (w.grownBy w1 (.slice ai img.length ci : Value).ownBlock) := Lib.hid (gb_same (gb_drew _ _) hg1)
    have HF1 : Hid (Fr w (.slice ai img.length ci) _) := Lib.hid hf1
    have hb1 : w1.heap[g]? = some (.cells #[.slice ai img.length ci, .slice none 0 0, .bool true] 68 (0, 0)) := blk_kept' H.out.blk HG1.out (fun e => (H.out.fi g e).2 rfl)
    have k0 : w1.cell? ⟨g, 0, none⟩ = some (.slice ai img.length ci) := cell_row hb1
    have k1 : w1.cell? ⟨g, 1, none⟩ = some (.slice none 0 0) := cell_row hb1
    have k2 : w1.frozen? ⟨g, 0, none⟩ = false := frozen_row hb1
    have HNI := Lib.hid (H.out.newImage HG1.out HO1.out HF1.out)
    clear ho1 hg1 hf1 hb1
    refine hK _ _ (fun _ => ⟨k0, k1⟩) ?_
    clear hK K
    refine wpAnyK_oneL (i := 12) (listed' := #[true, true, true, true, true, true, true, true, true, true, true, true, true, false, false]) (by kernel_rfl) rfl (by rfl) rfl ?_
    intro K hK
    go_simp
    refine hK _ _ (fun _ => ⟨k0, k1⟩) ?_
    clear hK K
    refine wpAnyK_oneL (i := 13) (listed' := #[true, true, true, true, true, true, true, true, true, true, true, true, true, true, false]) (by kernel_rfl) rfl (by rfl) rfl ?_
    intro K hK
    go_simp
    refine hK _ _ (fun _ => ⟨k0, k1⟩) ?_
    clear hK K
    refine wpAnyK_oneL (i := 14) (listed' := #[true, true, true, true, true, true, true, true, true, true, true, true, true, true, true]) (by kernel_rfl) rfl (by rfl) rfl ?_
    intro K hK
    go_simp
    refine hK _ _ (fun h => Bool.noConfusion (show true = false from h)) ?_
    clear hK K
    refine wpAnyK_done (by kernel_rfl) ?_ _
    obtain ⟨w2, hw2⟩ : ∃ w2, w1.setCell ⟨g, 0, none⟩ (.slice a1 R.length c1) = w2 := ⟨_, rfl⟩
    have HN2 := HNI.out
    rw [hw2] at HN2 ⊢
    have HNI2 := Lib.hid HN2
    have k1 : w2.drew.cell? ⟨g, 1, none⟩ = some (.slice none 0 0) := cell_row (w := w2) HN2.1.blk
    have HDE : Hid (Calls Try.prog 38 #[.slice none 0 0, .int .i64 0, .int .i64 0] w2.drew (DelP w2.drew (.slice none 0 0) [] 0)) := Lib.hid (delete_any (.slice none 0 0) [] 0 w2.drew (HN2.1.row.grown (gb_drew _ _)) (by omega) HPS.out)
    clear HN2 hw2 k0 k2 HNI
    go_wp2_with fail
    refine region_KL (fuel := 15) (listed := #[false, false, false, false, false, false, false, false, false, false, false, false, false, false, false]) (fun W => W.cell? ⟨g, 1, none⟩ = some (.slice none 0 0)) 14 (by kernel_rfl) rfl (by kernel_rfl) ?_
    refine wpAnyK_takeL (i := 0) (d := 33) (v := ?_) (T' := ?_) (listed' := #[true, false, false, false, false, false, false, false, false, false, false, false, false, false, false]) rfl rfl (by kernel_rfl) (fun _ _ _ h => h) rfl (Or.inl ⟨by rfl, ?_⟩) ?_ k1 ?_
    rotate_left 2
    · intro w hS; clear hS; go_simp; rfl
    · simp only [List.setIfInBounds_toArray, List.set_cons_succ, List.set_cons_zero]; rfl
    refine wpAnyK_takeL (i := 1) (d := 34) (v := ?_) (T' := ?_) (listed' := #[true, true, false, false, false, false, false, false, false, false, false, false, false, false, false]) rfl rfl (by kernel_rfl) (fun _ _ _ h => h) rfl (Or.inl ⟨by rfl, ?_⟩) ?_ k1 ?_
    rotate_left 2
    · intro w hS; clear hS; go_simp; rfl
    · simp only [List.setIfInBounds_toArray, List.set_cons_succ, List.set_cons_zero]; rfl
    refine wpAnyK_takeL (i := 2) (d := 35) (v := ?_) (T' := ?_) (listed' := #[true, true, true, false, false, false, false, false, false, false, false, false, false, false, false]) rfl rfl (by kernel_rfl) (fun _ _ _ h => h) rfl (Or.inl ⟨by rfl, ?_⟩) ?_ k1 ?_
    rotate_left 2
    · intro w hS; clear hS; go_simp; rfl
    · simp only [List.setIfInBounds_toArray, List.set_cons_succ, List.set_cons_zero]; rfl
    refine wpAnyK_takeL (i := 3) (d := 36) (v := ?_) (T' := ?_) (listed' := #[true, true, true, true, false, false, false, false, false, false, false, false, false, false, false]) rfl rfl (by kernel_rfl) (fun _ _ _ h => h) rfl (Or.inl ⟨by rfl, ?_⟩) ?_ k1 ?_
    rotate_left 2
    · intro w hS; clear hS; go_simp; rfl
    · simp only [List.setIfInBounds_toArray, List.set_cons_succ, List.set_cons_zero]; rfl
    refine wpAnyK_takeL (i := 4) (d := 37) (v := ?_) (T' := ?_) (listed' := #[true, true, true, true, true, false, false, false, false, false, false, false, false, false, false]) rfl rfl (by kernel_rfl) (fun _ _ _ h => h) rfl (Or.inl ⟨by rfl, ?_⟩) ?_ k1 ?_
    rotate_left 2
    · intro w hS; have t1 := hS; clear hS; go_simp; rfl
    · simp only [List.setIfInBounds_toArray, List.set_cons_succ, List.set_cons_zero]; rfl
    refine wpAnyK_takeL (i := 5) (d := 38) (v := ?_) (T' := ?_) (listed' := #[true, true, true, true, true, true, false, false, false, false, false, false, false, false, false]) rfl rfl (by kernel_rfl) (fun _ _ _ h => h) rfl (Or.inl ⟨by rfl, ?_⟩) ?_ k1 ?_
    rotate_left 2
    · intro w hS; clear hS; go_simp; rfl
    · simp only [List.setIfInBounds_toArray, List.set_cons_succ, List.set_cons_zero]; rfl
    refine wpAnyK_takeL (i := 6) (d := 39) (v := ?_) (T' := ?_) (listed' := #[true, true, true, true, true, true, true, false, false, false, false, false, false, false, false]) rfl rfl (by kernel_rfl) (fun _ _ _ h => h) rfl (Or.inl ⟨by rfl, ?_⟩) ?_ k1 ?_
    rotate_left 2
    · intro w hS; clear hS; go_simp; rfl
    · simp only [List.setIfInBounds_toArray, List.set_cons_succ, List.set_cons_zero]; rfl
    refine wpAnyK_takeL (i := 7) (d := 40) (v := ?_) (T' := ?_) (listed' := #[true, true, true, true, true, true, true, true, false, false, false, false, false, false, false]) rfl rfl (by kernel_rfl) (fun _ _ _ h => h) rfl (Or.inl ⟨by rfl, ?_⟩) ?_ k1 ?_
    rotate_left 2
    · intro w hS; clear hS; go_simp; rfl
    · simp only [List.setIfInBounds_toArray, List.set_cons_succ, List.set_cons_zero]; rfl
    refine wpAnyK_takeL (i := 8) (d := 41) (v := ?_) (T' := ?_) (listed' := #[true, true, true, true, true, true, true, true, true, false, false, false, false, false, false]) rfl rfl (by kernel_rfl) (fun _ _ _ h => h) rfl (Or.inl ⟨by rfl, ?_⟩) ?_ k1 ?_
    rotate_left 2
    · intro w hS; clear hS; go_simp; rfl
    · simp only [List.setIfInBounds_toArray, List.set_cons_succ, List.set_cons_zero]; rfl
    refine wpAnyK_takeL (i := 9) (d := 42) (v := ?_) (T' := ?_) (listed' := #[true, true, true, true, true, true, true, true, true, true, false, false, false, false, false]) rfl rfl (by kernel_rfl) (fun _ _ _ h => h) rfl (Or.inl ⟨by rfl, ?_⟩) ?_ k1 ?_
    rotate_left 2
    · intro w hS; have t1 := hS; clear hS; go_simp; rfl
    · simp only [List.setIfInBounds_toArray, List.set_cons_succ, List.set_cons_zero]; rfl
    refine wpAnyK_takeL (i := 10) (d := 43) (v := ?_) (T' := ?_) (listed' := #[true, true, true, true, true, true, true, true, true, true, true, false, false, false, false]) rfl rfl (by kernel_rfl) (fun _ _ _ h => h) rfl (Or.inl ⟨by rfl, ?_⟩) ?_ k1 ?_
    rotate_left 2
    · intro w hS; clear hS; go_simp; rfl
    · simp only [List.setIfInBounds_toArray, List.set_cons_succ, List.set_cons_zero]; rfl
    refine wpAnyK_oneL (i := 11) (listed' := #[true, true, true, true, true, true, true, true, true, true, true, true, false, false, false]) (by kernel_rfl) rfl (by rfl) rfl ?_
    intro K hK
    go_simp
    (with_reducible refine HDE.out.mono ?_)
    rintro e w3 ⟨v3, rfl, hr3, hg3, hb3⟩
    obtain ⟨a3, c3, hv3⟩ := hr3.slice
    rw [show (([] : List RP).take 0).length = 0 from rfl] at hv3
    subst hv3
    have HR3 := Lib.hid hr3
    have HG3 : Hid (w2.grownBy w3 (.slice none 0 0 : Value).ownBlock) := Lib.hid (gb_same (gb_drew _ _) hg3)
    have HB3 := Lib.hid hb3
    have hb4 : w3.heap[g]? = some (.cells #[.slice a1 R.length c1, .slice none 0 0, .bool true] 68 (0, 0)) := blk_kept' HNI2.out.1.blk HG3.out (fun e => (HNI2.out.1.fr g e).2.1 rfl)
    have j1 : w3.cell? ⟨g, 1, none⟩ = some (.slice none 0 0) := cell_row hb4
    have j2 : w3.frozen? ⟨g, 1, none⟩ = false := frozen_row hb4
    clear hr3 hg3 hb3 hb4
    refine hK _ _ (fun _ => j1) ?_
    clear hK K
    refine wpAnyK_oneL (i := 12) (listed' := #[true, true, true, true, true, true, true, true, true, true, true, true, true, false, false]) (by kernel_rfl) rfl (by rfl) rfl ?_
    intro K hK
    go_simp
    refine hK _ _ (fun _ => j1) ?_
    clear hK K
    refine wpAnyK_oneL (i := 13) (listed' := #[true, true, true, true, true, true, true, true, true, true, true, true, true, true, false]) (by kernel_rfl) rfl (by rfl) rfl ?_
    intro K hK
    go_simp
    refine hK _ _ (fun _ => j1) ?_
    clear hK K
    refine wpAnyK_oneL (i := 14) (listed' := #[true, true, true, true, true, true, true, true, true, true, true, true, true, true, true]) (by kernel_rfl) rfl (by rfl) rfl ?_
    intro K hK
    go_simp
    refine hK _ _ (fun h => Bool.noConfusion (show true = false from h)) ?_
    clear hK K
    refine wpAnyK_done (by kernel_rfl) ?_ _
    go_wp2
    go_ret
    have hfin := HNI2.out.1.newRecs HG3.out HR3.out HB3.out
    exact ⟨rfl, _, _, _, _, hfin.1, HMT.out, HNI2.out.2.trans hfin.2⟩
  · by_cases hcn : c = n
    · subst hcn
      have HDV : Hid (RdRow w (.slice (some ⟨g2, 0, none⟩) 0 0) (ps.drop c)) := Lib.hid (by have h := (H.out.row.rd.drop hn).2 rfl; rwa [Nat.sub_self, show ps.length - c = 0 by omega] at h)
      go_enter Try.func20, Try.ntmps20
      go_wp2_with (go_at_call 18; refine HO.out.mono ?_; rintro e w' ⟨rfl, rfl⟩)
      refine region_KL (fuel := 15) (listed := #[false, false, false, false, false, false, false, false, false, false, false, false, false, false, false]) (fun W => W.cell? ⟨g, 0, none⟩ = some (.slice ai img.length ci) ∧ W.cell? ⟨g, 1, none⟩ = some (.slice (some ⟨g2, 0, none⟩) ps.length c)) 14 (by kernel_rfl) rfl (by kernel_rfl) ?_
      have HS0 : w.drew.cell? ⟨g, 0, none⟩ = some (.slice ai img.length ci) ∧ w.drew.cell? ⟨g, 1, none⟩ = some (.slice (some ⟨g2, 0, none⟩) ps.length c) := ⟨q0, q1⟩
      refine wpAnyK_takeL (i := 0) (d := 19) (v := ?_) (T' := ?_) (listed' := #[true, false, false, false, false, false, false, false, false, false, false, false, false, false, false]) rfl rfl (by kernel_rfl) (fun _ _ _ h => h) rfl (Or.inl ⟨by rfl, ?_⟩) ?_ HS0 ?_
      rotate_left 2
      · intro w hS; clear hS; go_simp; rfl
      · simp only [List.setIfInBounds_toArray, List.set_cons_succ, List.set_cons_zero]; rfl
      refine wpAnyK_takeL (i := 1) (d := 20) (v := ?_) (T' := ?_) (listed' := #[true, true, false, false, false, false, false, false, false, false, false, false, false, false, false]) rfl rfl (by kernel_rfl) (fun _ _ _ h => h) rfl (Or.inl ⟨by rfl, ?_⟩) ?_ HS0 ?_
      rotate_left 2
      · intro w hS; clear hS; go_simp; rfl
      · simp only [List.setIfInBounds_toArray, List.set_cons_succ, List.set_cons_zero]; rfl
      refine wpAnyK_takeL (i := 2) (d := 21) (v := ?_) (T' := ?_) (listed' := #[true, true, true, false, false, false, false, false, false, false, false, false, false, false, false]) rfl rfl (by kernel_rfl) (fun _ _ _ h => h) rfl (Or.inl ⟨by rfl, ?_⟩) ?_ HS0 ?_
      rotate_left 2
      · intro w hS; clear hS; go_simp; rfl
      · simp only [List.setIfInBounds_toArray, List.set_cons_succ, List.set_cons_zero]; rfl
      refine wpAnyK_takeL (i := 3) (d := 22) (v := ?_) (T' := ?_) (listed' := #[true, true, true, true, false, false, false, false, false, false, false, false, false, false, false]) rfl rfl (by kernel_rfl) (fun _ _ _ h => h) rfl (Or.inl ⟨by rfl, ?_⟩) ?_ HS0 ?_
      rotate_left 2
      · intro w hS; clear hS; go_simp; rfl
      · simp only [List.setIfInBounds_toArray, List.set_cons_succ, List.set_cons_zero]; rfl
      refine wpAnyK_takeL (i := 4) (d := 23) (v := ?_) (T' := ?_) (listed' := #[true, true, true, true, true, false, false, false, false, false, false, false, false, false, false]) rfl rfl (by kernel_rfl) (fun _ _ _ h => h) rfl (Or.inl ⟨by rfl, ?_⟩) ?_ HS0 ?_
      rotate_left 2
      · intro w hS; have t0 := hS.1; clear hS; go_simp; rfl
      · simp only [List.setIfInBounds_toArray, List.set_cons_succ, List.set_cons_zero]; rfl
      refine wpAnyK_takeL (i := 5) (d := 24) (v := ?_) (T' := ?_) (listed' := #[true, true, true, true, true, true, false, false, false, false, false, false, false, false, false]) rfl rfl (by kernel_rfl) (fun _ _ _ h => h) rfl (Or.inl ⟨by rfl, ?_⟩) ?_ HS0 ?_
      rotate_left 2
      · intro w hS; clear hS; go_simp; rfl
      · simp only [List.setIfInBounds_toArray, List.set_cons_succ, List.set_cons_zero]; rfl
      refine wpAnyK_takeL (i := 6) (d := 25) (v := ?_) (T' := ?_) (listed' := #[true, true, true, true, true, true, true, false, false, false, false, false, false, false, false]) rfl rfl (by kernel_rfl) (fun _ _ _ h => h) rfl (Or.inl ⟨by rfl, ?_⟩) ?_ HS0 ?_
      rotate_left 2
      · intro w hS; clear hS; go_simp; rfl
      · simp only [List.setIfInBounds_toArray, List.set_cons_succ, List.set_cons_zero]; rfl
      refine wpAnyK_takeL (i := 7) (d := 26) (v := ?_) (T' := ?_) (listed' := #[true, true, true, true, true, true, true, true, false, false, false, false, false, false, false]) rfl rfl (by kernel_rfl) (fun _ _ _ h => h) rfl (Or.inl ⟨by rfl, ?_⟩) ?_ HS0 ?_
      rotate_left 2
      · intro w hS; clear hS; go_simp; rfl
      · simp only [List.setIfInBounds_toArray, List.set_cons_succ, List.set_cons_zero]; rfl
      refine wpAnyK_takeL (i := 8) (d := 27) (v := ?_) (T' := ?_) (listed' := #[true, true, true, true, true, true, true, true, true, false, false, false, false, false, false]) rfl rfl (by kernel_rfl) (fun _ _ _ h => h) rfl (Or.inl ⟨by rfl, ?_⟩) ?_ HS0 ?_
      rotate_left 2
      · intro w hS; have t1 := hS.2; clear hS; go_simp; rfl
      · simp only [List.setIfInBounds_toArray, List.set_cons_succ, List.set_cons_zero]; rfl
      refine wpAnyK_takeL (i := 9) (d := 28) (v := ?_) (T' := ?_) (listed' := #[true, true, true, true, true, true, true, true, true, true, false, false, false, false, false]) rfl rfl (by kernel_rfl) (fun _ _ _ h => h) rfl (Or.inl ⟨by rfl, ?_⟩) ?_ HS0 ?_
      rotate_left 2
      · intro w hS; clear hS; go_simp; rfl
      · simp only [List.setIfInBounds_toArray, List.set_cons_succ, List.set_cons_zero]; rfl
      refine wpAnyK_takeL (i := 10) (d := 29) (v := ?_) (T' := ?_) (listed' := #[true, true, true, true, true, true, true, true, true, true, true, false, false, false, false]) rfl rfl (by kernel_rfl) (fun _ _ _ h => h) rfl (Or.inl ⟨by rfl, ?_⟩) ?_ HS0 ?_
      rotate_left 2
      · intro w hS; clear hS; go_simp; rfl
      · simp only [List.setIfInBounds_toArray, List.set_cons_succ, List.set_cons_zero]; rfl
      refine wpAnyK_oneL (i := 11) (listed' := #[true, true, true, true, true, true, true, true, true, true, true, true, false, false, false]) (by kernel_rfl) rfl (by rfl) rfl ?_
      intro K hK
      go_simp
      (with_reducible refine (HTB.out _ (gb_drew _ _) (.slice (some ⟨g2, 0, none⟩) 0 0) HDV.out (fun k hk => by simpa [Value.ownBlock] using hk)).mono ?_)
      rintro e w1 ⟨v1, rfl, ho1, hg1, hf1⟩
      obtain ⟨a1, c1, hv1⟩ := ho1.rd.len
      subst hv1
      have HO1 := Lib.hid ho1
      have HG1 : Hid (w.grownBy w1 (.slice ai img.length ci : Value).ownBlock) := Lib.hid (gb_same (gb_drew _ _) hg1)
      have HF1 : Hid (Fr w (.slice ai img.length ci) _) := Lib.hid hf1
      have hb1 : w1.heap[g]? = some (.cells #[.slice ai img.length ci, .slice (some ⟨g2, 0, none⟩) ps.length c, .bool true] 68 (0, 0)) := blk_kept' H.out.blk HG1.out (fun e => (H.out.fi g e).2 rfl)
      have k0 : w1.cell? ⟨g, 0, none⟩ = some (.slice ai img.length ci) := cell_row hb1
      have k1 : w1.cell? ⟨g, 1, none⟩ = some (.slice (some ⟨g2, 0, none⟩) ps.length c) := cell_row hb1
      have k2 : w1.frozen? ⟨g, 0, none⟩ = false := frozen_row hb1
      have HNI := Lib.hid (H.out.newImage HG1.out HO1.out HF1.out)
      clear ho1 hg1 hf1 hb1
      refine hK _ _ (fun _ => ⟨k0, k1⟩) ?_
      clear hK K
      refine wpAnyK_oneL (i := 12) (listed' := #[true, true, true, true, true, true, true, true, true, true, true, true, true, false, false]) (by kernel_rfl) rfl (by rfl) rfl ?_
      intro K hK
      go_simp
      refine hK _ _ (fun _ => ⟨k0, k1⟩) ?_
      clear hK K
      refine wpAnyK_oneL (i := 13) (listed' := #[true, true, true, true, true, true, true, true, true, true, true, true, true, true, false]) (by kernel_rfl) rfl (by rfl) rfl ?_
      intro K hK
      go_simp
      refine hK _ _ (fun _ => ⟨k0, k1⟩) ?_
      clear hK K
      refine wpAnyK_oneL (i := 14) (listed' := #[true, true, true, true, true, true, true, true, true, true, true, true, true, true, true]) (by kernel_rfl) rfl (by rfl) rfl ?_
      intro K hK
      go_simp
      refine hK _ _ (fun h => Bool.noConfusion (show true = false from h)) ?_
      clear hK K
      refine wpAnyK_done (by kernel_rfl) ?_ _
      obtain ⟨w2, hw2⟩ : ∃ w2, w1.setCell ⟨g, 0, none⟩ (.slice a1 R.length c1) = w2 := ⟨_, rfl⟩
      have HN2 := HNI.out
      rw [hw2] at HN2 ⊢
      have HNI2 := Lib.hid HN2
      have k1 : w2.drew.cell? ⟨g, 1, none⟩ = some (.slice (some ⟨g2, 0, none⟩) ps.length c) := cell_row (w := w2) HN2.1.blk
      have HDE := Lib.hid (delete_any (.slice (some ⟨g2, 0, none⟩) ps.length c) ps c w2.drew (HN2.1.row.grown (gb_drew _ _)) (by omega) HPS.out)
      clear HN2 hw2 k0 k2 HNI
      go_wp2_with fail
      refine region_KL (fuel := 15) (listed := #[false, false, false, false, false, false, false, false, false, false, false, false, false, false, false]) (fun W => W.cell? ⟨g, 1, none⟩ = some (.slice (some ⟨g2, 0, none⟩) ps.length c)) 14 (by kernel_rfl) rfl (by kernel_rfl) ?_
      refine wpAnyK_takeL (i := 0) (d := 33) (v := ?_) (T' := ?_) (listed' := #[true, false, false, false, false, false, false, false, false, false, false, false, false, false, false]) rfl rfl (by kernel_rfl) (fun _ _ _ h => h) rfl (Or.inl ⟨by rfl, ?_⟩) ?_ k1 ?_
      rotate_left 2
      · intro w hS; clear hS; go_simp; rfl
      · simp only [List.setIfInBounds_toArray, List.set_cons_succ, List.set_cons_zero]; rfl
      refine wpAnyK_takeL (i := 1) (d := 34) (v := ?_) (T' := ?_) (listed' := #[true, true, false, false, false, false, false, false, false, false, false, false, false, false, false]) rfl rfl (by kernel_rfl) (fun _ _ _ h => h) rfl (Or.inl ⟨by rfl, ?_⟩) ?_ k1 ?_
      rotate_left 2
      · intro w hS; clear hS; go_simp; rfl
      · simp only [List.setIfInBounds_toArray, List.set_cons_succ, List.set_cons_zero]; rfl
      refine wpAnyK_takeL (i := 2) (d := 35) (v := ?_) (T' := ?_) (listed' := #[true, true, true, false, false, false, false, false, false, false, false, false, false, false, false]) rfl rfl (by kernel_rfl) (fun _ _ _ h => h) rfl (Or.inl ⟨by rfl, ?_⟩) ?_ k1 ?_
      rotate_left 2
      · intro w hS; clear hS; go_simp; rfl
      · simp only [List.setIfInBounds_toArray, List.set_cons_succ, List.set_cons_zero]; rfl
      refine wpAnyK_takeL (i := 3) (d := 36) (v := ?_) (T' := ?_) (listed' := #[true, true, true, true, false, false, false, false, false, false, false, false, false, false, false]) rfl rfl (by kernel_rfl) (fun _ _ _ h => h) rfl (Or.inl ⟨by rfl, ?_⟩) ?_ k1 ?_
      rotate_left 2
      · intro w hS; clear hS; go_simp; rfl
      · simp only [List.setIfInBounds_toArray, List.set_cons_succ, List.set_cons_zero]; rfl
      refine wpAnyK_takeL (i := 4) (d := 37) (v := ?_) (T' := ?_) (listed' := #[true, true, true, true, true, false, false, false, false, false, false, false, false, false, false]) rfl rfl (by kernel_rfl) (fun _ _ _ h => h) rfl (Or.inl ⟨by rfl, ?_⟩) ?_ k1 ?_
      rotate_left 2
      · intro w hS; have t1 := hS; clear hS; go_simp; rfl
      · simp only [List.setIfInBounds_toArray, List.set_cons_succ, List.set_cons_zero]; rfl
      refine wpAnyK_takeL (i := 5) (d := 38) (v := ?_) (T' := ?_) (listed' := #[true, true, true, true, true, true, false, false, false, false, false, false, false, false, false]) rfl rfl (by kernel_rfl) (fun _ _ _ h => h) rfl (Or.inl ⟨by rfl, ?_⟩) ?_ k1 ?_
      rotate_left 2
      · intro w hS; clear hS; go_simp; rfl
      · simp only [List.setIfInBounds_toArray, List.set_cons_succ, List.set_cons_zero]; rfl
      refine wpAnyK_takeL (i := 6) (d := 39) (v := ?_) (T' := ?_) (listed' := #[true, true, true, true, true, true, true, false, false, false, false, false, false, false, false]) rfl rfl (by kernel_rfl) (fun _ _ _ h => h) rfl (Or.inl ⟨by rfl, ?_⟩) ?_ k1 ?_
      rotate_left 2
      · intro w hS; clear hS; go_simp; rfl
      · simp only [List.setIfInBounds_toArray, List.set_cons_succ, List.set_cons_zero]; rfl
      refine wpAnyK_takeL (i := 7) (d := 40) (v := ?_) (T' := ?_) (listed' := #[true, true, true, true, true, true, true, true, false, false, false, false, false, false, false]) rfl rfl (by kernel_rfl) (fun _ _ _ h => h) rfl (Or.inl ⟨by rfl, ?_⟩) ?_ k1 ?_
      rotate_left 2
      · intro w hS; clear hS; go_simp; rfl
      · simp only [List.setIfInBounds_toArray, List.set_cons_succ, List.set_cons_zero]; rfl
      refine wpAnyK_takeL (i := 8) (d := 41) (v := ?_) (T' := ?_) (listed' := #[true, true, true, true, true, true, true, true, true, false, false, false, false, false, false]) rfl rfl (by kernel_rfl) (fun _ _ _ h => h) rfl (Or.inl ⟨by rfl, ?_⟩) ?_ k1 ?_
      rotate_left 2
      · intro w hS; clear hS; go_simp; rfl
      · simp only [List.setIfInBounds_toArray, List.set_cons_succ, List.set_cons_zero]; rfl
      refine wpAnyK_takeL (i := 9) (d := 42) (v := ?_) (T' := ?_) (listed' := #[true, true, true, true, true, true, true, true, true, true, false, false, false, false, false]) rfl rfl (by kernel_rfl) (fun _ _ _ h => h) rfl (Or.inl ⟨by rfl, ?_⟩) ?_ k1 ?_
      rotate_left 2
      · intro w hS; have t1 := hS; clear hS; go_simp; rfl
      · simp only [List.setIfInBounds_toArray, List.set_cons_succ, List.set_cons_zero]; rfl
      refine wpAnyK_takeL (i := 10) (d := 43) (v := ?_) (T' := ?_) (listed' := #[true, true, true, true, true, true, true, true, true, true, true, false, false, false, false]) rfl rfl (by kernel_rfl) (fun _ _ _ h => h) rfl (Or.inl ⟨by rfl, ?_⟩) ?_ k1 ?_
      rotate_left 2
      · intro w hS; clear hS; go_simp; rfl
      · simp only [List.setIfInBounds_toArray, List.set_cons_succ, List.set_cons_zero]; rfl
      refine wpAnyK_oneL (i := 11) (listed' := #[true, true, true, true, true, true, true, true, true, true, true, true, false, false, false]) (by kernel_rfl) rfl (by rfl) rfl ?_
      intro K hK
      go_simp
      (with_reducible refine HDE.out.mono ?_)
      rintro e w3 ⟨v3, rfl, hr3, hg3, hb3⟩
      obtain ⟨a3, c3, hv3⟩ := hr3.slice
      rw [show (ps.take c).length = c by rw [List.length_take]; omega] at hv3
      subst hv3
      have HR3 := Lib.hid hr3
      have HG3 : Hid (w2.grownBy w3 (.slice (some ⟨g2, 0, none⟩) ps.length c : Value).ownBlock) := Lib.hid (gb_same (gb_drew _ _) hg3)
      have HB3 := Lib.hid hb3
      have hb4 : w3.heap[g]? = some (.cells #[.slice a1 R.length c1, .slice (some ⟨g2, 0, none⟩) ps.length c, .bool true] 68 (0, 0)) := blk_kept' HNI2.out.1.blk HG3.out (fun e => (HNI2.out.1.fr g e).2.1 rfl)
      have j1 : w3.cell? ⟨g, 1, none⟩ = some (.slice (some ⟨g2, 0, none⟩) ps.length c) := cell_row hb4
      have j2 : w3.frozen? ⟨g, 1, none⟩ = false := frozen_row hb4
      clear hr3 hg3 hb3 hb4
      refine hK _ _ (fun _ => j1) ?_
      clear hK K
      refine wpAnyK_oneL (i := 12) (listed' := #[true, true, true, true, true, true, true, true, true, true, true, true, true, false, false]) (by kernel_rfl) rfl (by rfl) rfl ?_
      intro K hK
      go_simp
      refine hK _ _ (fun _ => j1) ?_
      clear hK K
      refine wpAnyK_oneL (i := 13) (listed' := #[true, true, true, true, true, true, true, true, true, true, true, true, true, true, false]) (by kernel_rfl) rfl (by rfl) rfl ?_
      intro K hK
      go_simp
      refine hK _ _ (fun _ => j1) ?_
      clear hK K
      refine wpAnyK_oneL (i := 14) (listed' := #[true, true, true, true, true, true, true, true, true, true, true, true, true, true, true]) (by kernel_rfl) rfl (by rfl) rfl ?_
      intro K hK
      go_simp
      refine hK _ _ (fun h => Bool.noConfusion (show true = false from h)) ?_
      clear hK K
      refine wpAnyK_done (by kernel_rfl) ?_ _
      go_wp2
      go_ret
      have hfin := HNI2.out.1.newRecs HG3.out HR3.out HB3.out
      exact ⟨rfl, _, _, _, _, hfin.1, HMT.out, HNI2.out.2.trans hfin.2⟩
    · have hcn2 : (c = n) = False := by simp; omega
      have hnc : n ≤ c := by omega
      have HDV : Hid (RdRow w (.slice (some ⟨g2, n * 3, none⟩) (ps.length - n) (c - n)) (ps.drop n)) := Lib.hid (by have h := (H.out.row.rd.drop hn).1; rwa [Nat.zero_add] at h)
      go_enter Try.func20, Try.ntmps20
      go_wp2_with (go_at_call 18; refine HO.out.mono ?_; rintro e w' ⟨rfl, rfl⟩)
      refine region_KL (fuel := 15) (listed := #[false, false, false, false, false, false, false, false, false, false, false, false, false, false, false]) (fun W => W.cell? ⟨g, 0, none⟩ = some (.slice ai img.length ci) ∧ W.cell? ⟨g, 1, none⟩ = some (.slice (some ⟨g2, 0, none⟩) ps.length c)) 14 (by kernel_rfl) rfl (by kernel_rfl) ?_
      have HS0 : w.drew.cell? ⟨g, 0, none⟩ = some (.slice ai img.length ci) ∧ w.drew.cell? ⟨g, 1, none⟩ = some (.slice (some ⟨g2, 0, none⟩) ps.length c) := ⟨q0, q1⟩
      refine wpAnyK_takeL (i := 0) (d := 19) (v := ?_) (T' := ?_) (listed' := #[true, false, false, false, false, false, false, false, false, false, false, false, false, false, false]) rfl rfl (by kernel_rfl) (fun _ _ _ h => h) rfl (Or.inl ⟨by rfl, ?_⟩) ?_ HS0 ?_
      rotate_left 2
      · intro w hS; clear hS; go_simp; rfl
      · simp only [List.setIfInBounds_toArray, List.set_cons_succ, List.set_cons_zero]; rfl
      refine wpAnyK_takeL (i := 1) (d := 20) (v := ?_) (T' := ?_) (listed' := #[true, true, false, false, false, false, false, false, false, false, false, false, false, false, false]) rfl rfl (by kernel_rfl) (fun _ _ _ h => h) rfl (Or.inl ⟨by rfl, ?_⟩) ?_ HS0 ?_
      rotate_left 2
      · intro w hS; clear hS; go_simp; rfl
      · simp only [List.setIfInBounds_toArray, List.set_cons_succ, List.set_cons_zero]; rfl
      refine wpAnyK_takeL (i := 2) (d := 21) (v := ?_) (T' := ?_) (listed' := #[true, true, true, false, false, false, false, false, false, false, false, false, false, false, false]) rfl rfl (by kernel_rfl) (fun _ _ _ h => h) rfl (Or.inl ⟨by rfl, ?_⟩) ?_ HS0 ?_
      rotate_left 2
      · intro w hS; clear hS; go_simp; rfl
      · simp only [List.setIfInBounds_toArray, List.set_cons_succ, List.set_cons_zero]; rfl
      refine wpAnyK_takeL (i := 3) (d := 22) (v := ?_) (T' := ?_) (listed' := #[true, true, true, true, false, false, false, false, false, false, false, false, false, false, false]) rfl rfl (by kernel_rfl) (fun _ _ _ h => h) rfl (Or.inl ⟨by rfl, ?_⟩) ?_ HS0 ?_
      rotate_left 2
      · intro w hS; clear hS; go_simp; rfl
      · simp only [List.setIfInBounds_toArray, List.set_cons_succ, List.set_cons_zero]; rfl
      refine wpAnyK_takeL (i := 4) (d := 23) (v := ?_) (T' := ?_) (listed' := #[true, true, true, true, true, false, false, false, false, false, false, false, false, false, false]) rfl rfl (by kernel_rfl) (fun _ _ _ h => h) rfl (Or.inl ⟨by rfl, ?_⟩) ?_ HS0 ?_
      rotate_left 2
      · intro w hS; have t0 := hS.1; clear hS; go_simp; rfl
      · simp only [List.setIfInBounds_toArray, List.set_cons_succ, List.set_cons_zero]; rfl
      refine wpAnyK_takeL (i := 5) (d := 24) (v := ?_) (T' := ?_) (listed' := #[true, true, true, true, true, true, false, false, false, false, false, false, false, false, false]) rfl rfl (by kernel_rfl) (fun _ _ _ h => h) rfl (Or.inl ⟨by rfl, ?_⟩) ?_ HS0 ?_
      rotate_left 2
      · intro w hS; clear hS; go_simp; rfl
      · simp only [List.setIfInBounds_toArray, List.set_cons_succ, List.set_cons_zero]; rfl
      refine wpAnyK_takeL (i := 6) (d := 25) (v := ?_) (T' := ?_) (listed' := #[true, true, true, true, true, true, true, false, false, false, false, false, false, false, false]) rfl rfl (by kernel_rfl) (fun _ _ _ h => h) rfl (Or.inl ⟨by rfl, ?_⟩) ?_ HS0 ?_
      rotate_left 2
      · intro w hS; clear hS; go_simp; rfl
      · simp only [List.setIfInBounds_toArray, List.set_cons_succ, List.set_cons_zero]; rfl
      refine wpAnyK_takeL (i := 7) (d := 26) (v := ?_) (T' := ?_) (listed' := #[true, true, true, true, true, true, true, true, false, false, false, false, false, false, false]) rfl rfl (by kernel_rfl) (fun _ _ _ h => h) rfl (Or.inl ⟨by rfl, ?_⟩) ?_ HS0 ?_
      rotate_left 2
      · intro w hS; clear hS; go_simp; rfl
      · simp only [List.setIfInBounds_toArray, List.set_cons_succ, List.set_cons_zero]; rfl
      refine wpAnyK_takeL (i := 8) (d := 27) (v := ?_) (T' := ?_) (listed' := #[true, true, true, true, true, true, true, true, true, false, false, false, false, false, false]) rfl rfl (by kernel_rfl) (fun _ _ _ h => h) rfl (Or.inl ⟨by rfl, ?_⟩) ?_ HS0 ?_
      rotate_left 2
      · intro w hS; have t1 := hS.2; clear hS; go_simp; rfl
      · simp only [List.setIfInBounds_toArray, List.set_cons_succ, List.set_cons_zero]; rfl
      refine wpAnyK_takeL (i := 9) (d := 28) (v := ?_) (T' := ?_) (listed' := #[true, true, true, true, true, true, true, true, true, true, false, false, false, false, false]) rfl rfl (by kernel_rfl) (fun _ _ _ h => h) rfl (Or.inl ⟨by rfl, ?_⟩) ?_ HS0 ?_
      rotate_left 2
      · intro w hS; clear hS; go_simp; rfl
      · simp only [List.setIfInBounds_toArray, List.set_cons_succ, List.set_cons_zero]; rfl
      refine wpAnyK_takeL (i := 10) (d := 29) (v := ?_) (T' := ?_) (listed' := #[true, true, true, true, true, true, true, true, true, true, true, false, false, false, false]) rfl rfl (by kernel_rfl) (fun _ _ _ h => h) rfl (Or.inl ⟨by rfl, ?_⟩) ?_ HS0 ?_
      rotate_left 2
      · intro w hS; clear hS; go_simp; rfl
      · simp only [List.setIfInBounds_toArray, List.set_cons_succ, List.set_cons_zero]; rfl
      refine wpAnyK_oneL (i := 11) (listed' := #[true, true, true, true, true, true, true, true, true, true, true, true, false, false, false]) (by kernel_rfl) rfl (by rfl) rfl ?_
      intro K hK
      go_simp
      (with_reducible refine (HTB.out _ (gb_drew _ _) (.slice (some ⟨g2, n * 3, none⟩) (ps.length - n) (c - n)) HDV.out (fun k hk => by simpa [Value.ownBlock] using hk)).mono ?_)
      rintro e w1 ⟨v1, rfl, ho1, hg1, hf1⟩
      obtain ⟨a1, c1, hv1⟩ := ho1.rd.len
      subst hv1
      have HO1 := Lib.hid ho1
      have HG1 : Hid (w.grownBy w1 (.slice ai img.length ci : Value).ownBlock) := Lib.hid (gb_same (gb_drew _ _) hg1)
      have HF1 : Hid (Fr w (.slice ai img.length ci) _) := Lib.hid hf1
      have hb1 : w1.heap[g]? = some (.cells #[.slice ai img.length ci, .slice (some ⟨g2, 0, none⟩) ps.length c, .bool true] 68 (0, 0)) := blk_kept' H.out.blk HG1.out (fun e => (H.out.fi g e).2 rfl)
      have k0 : w1.cell? ⟨g, 0, none⟩ = some (.slice ai img.length ci) := cell_row hb1
      have k1 : w1.cell? ⟨g, 1, none⟩ = some (.slice (some ⟨g2, 0, none⟩) ps.length c) := cell_row hb1
      have k2 : w1.frozen? ⟨g, 0, none⟩ = false := frozen_row hb1
      have HNI := Lib.hid (H.out.newImage HG1.out HO1.out HF1.out)
      clear ho1 hg1 hf1 hb1
      refine hK _ _ (fun _ => ⟨k0, k1⟩) ?_
      clear hK K
      refine wpAnyK_oneL (i := 12) (listed' := #[true, true, true, true, true, true, true, true, true, true, true, true, true, false, false]) (by kernel_rfl) rfl (by rfl) rfl ?_
      intro K hK
      go_simp
      refine hK _ _ (fun _ => ⟨k0, k1⟩) ?_
      clear hK K
      refine wpAnyK_oneL (i := 13) (listed' := #[true, true, true, true, true, true, true, true, true, true, true, true, true, true, false]) (by kernel_rfl) rfl (by rfl) rfl ?_
      intro K hK
      go_simp
      refine hK _ _ (fun _ => ⟨k0, k1⟩) ?_
      clear hK K
      refine wpAnyK_oneL (i := 14) (listed' := #[true, true, true, true, true, true, true, true, true, true, true, true, true, true, true]) (by kernel_rfl) rfl (by rfl) rfl ?_
      intro K hK
      go_simp
      refine hK _ _ (fun h => Bool.noConfusion (show true = false from h)) ?_
      clear hK K
      refine wpAnyK_done (by kernel_rfl) ?_ _
      obtain ⟨w2, hw2⟩ : ∃ w2, w1.setCell ⟨g, 0, none⟩ (.slice a1 R.length c1) = w2 := ⟨_, rfl⟩
      have HN2 := HNI.out
      rw [hw2] at HN2 ⊢
      have HNI2 := Lib.hid HN2
      have k1 : w2.drew.cell? ⟨g, 1, none⟩ = some (.slice (some ⟨g2, 0, none⟩) ps.length c) := cell_row (w := w2) HN2.1.blk
      have HDE := Lib.hid (delete_any (.slice (some ⟨g2, 0, none⟩) ps.length c) ps n w2.drew (HN2.1.row.grown (gb_drew _ _)) (by omega) HPS.out)
      clear HN2 hw2 k0 k2 HNI
      go_wp2_with fail
      refine region_KL (fuel := 15) (listed := #[false, false, false, false, false, false, false, false, false, false, false, false, false, false, false]) (fun W => W.cell? ⟨g, 1, none⟩ = some (.slice (some ⟨g2, 0, none⟩) ps.length c)) 14 (by kernel_rfl) rfl (by kernel_rfl) ?_
      refine wpAnyK_takeL (i := 0) (d := 33) (v := ?_) (T' := ?_) (listed' := #[true, false, false, false, false, false, false, false, false, false, false, false, false, false, false]) rfl rfl (by kernel_rfl) (fun _ _ _ h => h) rfl (Or.inl ⟨by rfl, ?_⟩) ?_ k1 ?_
      rotate_left 2
      · intro w hS; clear hS; go_simp; rfl
      · simp only [List.setIfInBounds_toArray, List.set_cons_succ, List.set_cons_zero]; rfl
      refine wpAnyK_takeL (i := 1) (d := 34) (v := ?_) (T' := ?_) (listed' := #[true, true, false, false, false, false, false, false, false, false, false, false, false, false, false]) rfl rfl (by kernel_rfl) (fun _ _ _ h => h) rfl (Or.inl ⟨by rfl, ?_⟩) ?_ k1 ?_
      rotate_left 2
      · intro w hS; clear hS; go_simp; rfl
      · simp only [List.setIfInBounds_toArray, List.set_cons_succ, List.set_cons_zero]; rfl
      refine wpAnyK_takeL (i := 2) (d := 35) (v := ?_) (T' := ?_) (listed' := #[true, true, true, false, false, false, false, false, false, false, false, false, false, false, false]) rfl rfl (by kernel_rfl) (fun _ _ _ h => h) rfl (Or.inl ⟨by rfl, ?_⟩) ?_ k1 ?_
      rotate_left 2
      · intro w hS; clear hS; go_simp; rfl
      · simp only [List.setIfInBounds_toArray, List.set_cons_succ, List.set_cons_zero]; rfl
      refine wpAnyK_takeL (i := 3) (d := 36) (v := ?_) (T' := ?_) (listed' := #[true, true, true, true, false, false, false, false, false, false, false, false, false, false, false]) rfl rfl (by kernel_rfl) (fun _ _ _ h => h) rfl (Or.inl ⟨by rfl, ?_⟩) ?_ k1 ?_
      rotate_left 2
      · intro w hS; clear hS; go_simp; rfl
      · simp only [List.setIfInBounds_toArray, List.set_cons_succ, List.set_cons_zero]; rfl
      refine wpAnyK_takeL (i := 4) (d := 37) (v := ?_) (T' := ?_) (listed' := #[true, true, true, true, true, false, false, false, false, false, false, false, false, false, false]) rfl rfl (by kernel_rfl) (fun _ _ _ h => h) rfl (Or.inl ⟨by rfl, ?_⟩) ?_ k1 ?_
      rotate_left 2
      · intro w hS; have t1 := hS; clear hS; go_simp; rfl
      · simp only [List.setIfInBounds_toArray, List.set_cons_succ, List.set_cons_zero]; rfl
      refine wpAnyK_takeL (i := 5) (d := 38) (v := ?_) (T' := ?_) (listed' := #[true, true, true, true, true, true, false, false, false, false, false, false, false, false, false]) rfl rfl (by kernel_rfl) (fun _ _ _ h => h) rfl (Or.inl ⟨by rfl, ?_⟩) ?_ k1 ?_
      rotate_left 2
      · intro w hS; clear hS; go_simp; rfl
      · simp only [List.setIfInBounds_toArray, List.set_cons_succ, List.set_cons_zero]; rfl
      refine wpAnyK_takeL (i := 6) (d := 39) (v := ?_) (T' := ?_) (listed' := #[true, true, true, true, true, true, true, false, false, false, false, false, false, false, false]) rfl rfl (by kernel_rfl) (fun _ _ _ h => h) rfl (Or.inl ⟨by rfl, ?_⟩) ?_ k1 ?_
      rotate_left 2
      · intro w hS; clear hS; go_simp; rfl
      · simp only [List.setIfInBounds_toArray, List.set_cons_succ, List.set_cons_zero]; rfl
      refine wpAnyK_takeL (i := 7) (d := 40) (v := ?_) (T' := ?_) (listed' := #[true, true, true, true, true, true, true, true, false, false, false, false, false, false, false]) rfl rfl (by kernel_rfl) (fun _ _ _ h => h) rfl (Or.inl ⟨by rfl, ?_⟩) ?_ k1 ?_
      rotate_left 2
      · intro w hS; clear hS; go_simp; rfl
      · simp only [List.setIfInBounds_toArray, List.set_cons_succ, List.set_cons_zero]; rfl
      refine wpAnyK_takeL (i := 8) (d := 41) (v := ?_) (T' := ?_) (listed' := #[true, true, true, true, true, true, true, true, true, false, false, false, false, false, false]) rfl rfl (by kernel_rfl) (fun _ _ _ h => h) rfl (Or.inl ⟨by rfl, ?_⟩) ?_ k1 ?_
      rotate_left 2
      · intro w hS; clear hS; go_simp; rfl
      · simp only [List.setIfInBounds_toArray, List.set_cons_succ, List.set_cons_zero]; rfl
      refine wpAnyK_takeL (i := 9) (d := 42) (v := ?_) (T' := ?_) (listed' := #[true, true, true, true, true, true, true, true, true, true, false, false, false, false, false]) rfl rfl (by kernel_rfl) (fun _ _ _ h => h) rfl (Or.inl ⟨by rfl, ?_⟩) ?_ k1 ?_
      rotate_left 2
      · intro w hS; have t1 := hS; clear hS; go_simp; rfl
      · simp only [List.setIfInBounds_toArray, List.set_cons_succ, List.set_cons_zero]; rfl
      refine wpAnyK_takeL (i := 10) (d := 43) (v := ?_) (T' := ?_) (listed' := #[true, true, true, true, true, true, true, true, true, true, true, false, false, false, false]) rfl rfl (by kernel_rfl) (fun _ _ _ h => h) rfl (Or.inl ⟨by rfl, ?_⟩) ?_ k1 ?_
      rotate_left 2
      · intro w hS; clear hS; go_simp; rfl
      · simp only [List.setIfInBounds_toArray, List.set_cons_succ, List.set_cons_zero]; rfl
      refine wpAnyK_oneL (i := 11) (listed' := #[true, true, true, true, true, true, true, true, true, true, true, true, false, false, false]) (by kernel_rfl) rfl (by rfl) rfl ?_
      intro K hK
      go_simp
      (with_reducible refine HDE.out.mono ?_)
      rintro e w3 ⟨v3, rfl, hr3, hg3, hb3⟩
      obtain ⟨a3, c3, hv3⟩ := hr3.slice
      rw [show (ps.take n).length = n by rw [List.length_take]; omega] at hv3
      subst hv3
      have HR3 := Lib.hid hr3
      have HG3 : Hid (w2.grownBy w3 (.slice (some ⟨g2, 0, none⟩) ps.length c : Value).ownBlock) := Lib.hid (gb_same (gb_drew _ _) hg3)
      have HB3 := Lib.hid hb3
      have hb4 : w3.heap[g]? = some (.cells #[.slice a1 R.length c1, .slice (some ⟨g2, 0, none⟩) ps.length c, .bool true] 68 (0, 0)) := blk_kept' HNI2.out.1.blk HG3.out (fun e => (HNI2.out.1.fr g e).2.1 rfl)
      have j1 : w3.cell? ⟨g, 1, none⟩ = some (.slice (some ⟨g2, 0, none⟩) ps.length c) := cell_row hb4
      have j2 : w3.frozen? ⟨g, 1, none⟩ = false := frozen_row hb4
      clear hr3 hg3 hb3 hb4
      refine hK _ _ (fun _ => j1) ?_
      clear hK K
      refine wpAnyK_oneL (i := 12) (listed' := #[true, true, true, true, true, true, true, true, true, true, true, true, true, false, false]) (by kernel_rfl) rfl (by rfl) rfl ?_
      intro K hK
      go_simp
      refine hK _ _ (fun _ => j1) ?_
      clear hK K
      refine wpAnyK_oneL (i := 13) (listed' := #[true, true, true, true, true, true, true, true, true, true, true, true, true, true, false]) (by kernel_rfl) rfl (by rfl) rfl ?_
      intro K hK
      go_simp
      refine hK _ _ (fun _ => j1) ?_
      clear hK K
      refine wpAnyK_oneL (i := 14) (listed' := #[true, true, true, true, true, true, true, true, true, true, true, true, true, true, true]) (by kernel_rfl) rfl (by rfl) rfl ?_
      intro K hK
      go_simp
      refine hK _ _ (fun h => Bool.noConfusion (show true = false from h)) ?_
      clear hK K
      refine wpAnyK_done (by kernel_rfl) ?_ _
      go_wp2
      go_ret
      have hfin := HNI2.out.1.newRecs HG3.out HR3.out HB3.out
      exact ⟨rfl, _, _, _, _, hfin.1, HMT.out, HNI2.out.2.trans hfin.2⟩
set_option maxRecDepth 100000 in
theorem rollback_any {w : World} {F : Nat → Prop} {g : Nat} {iv rv : Value} {img : List UInt8} {ps : List RP} (h : LogF w F g iv rv img ps true) (hok : okAll (ps.map (·.1)) = true) (hps : ps.length ≤ 1000000) : Calls Try.prog 21 #[.pointer (some ⟨g, 0, none⟩)] w (LogP 0 w F g (recL img (ps.map (·.1))) [] false) := by
  have HB := Lib.hid (back_any h 0 (Nat.zero_le _) hok hps)
  rw [show ((0 : Nat) : Int) = 0 from rfl, List.drop_zero, List.take_zero] at HB
  clear h
  go_enter Try.func21, Try.ntmps21
  go_wp2_with fail
  (with_reducible refine HB.out.mono ?_)
  rintro e w1 ⟨rfl, F1, iv1, rv1, ps1, hl1, hp1, hf1⟩
  have HC := Lib.hid (commit_any hl1)
  have HF := Lib.hid hf1
  clear hl1 hp1 hf1
  go_wp2_with fail
  (with_reducible refine HC.out.mono ?_)
  rintro e w2 ⟨rfl, F2, iv2, rv2, ps2, hl2, hp2, hf2⟩
  have HL := Lib.hid (And.intro hl2 (And.intro hp2 hf2))
  clear hl2 hp2 hf2
  go_wp2_with fail
  go_ret
  exact ⟨rfl, F2, iv2, rv2, ps2, HL.out.1, HL.out.2.1, HF.out.trans HL.out.2.2⟩
theorem rollback_shut {w : World} {F : Nat → Prop} {g : Nat} {iv rv : Value} {img : List UInt8} {ps : List RP} (h : LogF w F g iv rv img ps false) : Calls Try.prog 21 #[.pointer (some ⟨g, 0, none⟩)] w (NumP 7 w) := by
  have HO := Lib.hid (back_shut h 0)
  clear h
  go_enter Try.func21, Try.ntmps21
  go_wp2_with (go_at_call 20; (with_reducible refine HO.out.mono ?_); rintro e w' ⟨rfl, rfl⟩)
  go_ret
  exact ⟨rfl, rfl⟩
end Go.Proofs.Ytfdkmncjcehdkaa
