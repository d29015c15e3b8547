/-
  law.ImageDiff: the walk.
-/
import Derived.Test.YtnkgoaloigmmfaaIRDiff
import Derived.Deep.RegionHeld3
namespace Go.Proofs.Ytnkgoaloigmmfaa
open Go.RowKit

theorem diff_small (a b : List UInt8) : ∀ c ∈ diffL a b, c.2.length ≤ 128 := by
  intro c hc
  unfold diffL diffTo at hc
  rw [List.mem_flatMap] at hc
  obtain ⟨j, _, hj⟩ := hc
  unfold diffAt at hj
  split at hj
  · simp at hj
  · simp at hj
    subst hj
    have := pg_len b (j : Int)
    have := szN_le b.length (j : Int)
    simp only
    omega

set_option maxRecDepth 100000 in
set_option maxHeartbeats 4000000 in
theorem imageDiff_any (va vb : Value) (a b : List UInt8) (w : World) (ha : Rd w va a) (hb : Rd w vb b) :
    Calls Try.prog 4 #[va, vb] w (BoolQ true w) := by
  have hsa := ha.small
  have hsb := hb.small
  have HA := Lib.hid ha
  have HB := Lib.hid hb
  obtain ⟨aa, ca, rfl⟩ := ha.len
  obtain ⟨ab, cb, rfl⟩ := hb.len
  clear ha hb
  have HW := Lib.hid (awake_any w)
  by_cases h1 : 2000 < a.length
  · go_enter Try.func4, Try.ntmps4
    go_wp2_with (go_at_call 11; refine HW.out.mono ?_; rintro e w1 ⟨rfl, hg1⟩)
    go_ret
    exact ⟨rfl, hg1⟩
  by_cases h2 : 2000 < b.length
  · go_enter Try.func4, Try.ntmps4
    go_wp2_with (go_at_call 11; refine HW.out.mono ?_; rintro e w1 ⟨rfl, hg1⟩)
    go_ret
    exact ⟨rfl, hg1⟩
  have hd1 : decide ((2000 : Int) < a.length) = false := by simp; omega
  have hd2 : decide ((2000 : Int) < b.length) = false := by simp; omega
  have HDF := Lib.hid (fun W (hg : w.grownBy W none) => diff_any _ _ a b W (HA.out.grown hg) (HB.out.grown hg) (by omega))
  have HRF := Lib.hid (fun W (hg : w.grownBy W none) => rdiff_any _ _ a b W (HA.out.grown hg) (HB.out.grown hg) (by omega))
  have hdl : (diffL a b).length ≤ 100000 := by
    have h2 := diffTo_len a b (List.range (cntI b.length).toNat)
    have h3 : (diffL a b).length ≤ (cntI b.length).toNat := by rw [List.length_range] at h2; exact h2
    rw [cnt_toNat] at h3
    omega
  have HDL := Lib.hid hdl
  clear hdl h1 h2
  go_enter Try.func4, Try.ntmps4
  go_wp2_with fail
  refine HW.out.mono ?_; rintro e w1 ⟨rfl, hg1⟩
  have HG1 := Lib.hid hg1
  clear hg1
  go_wp2_with fail
  refine (HDF.out _ HG1.out).mono ?_; rintro e w2 ⟨cv, ps, rfl, hps, hc2, hg2⟩
  obtain ⟨acv, ccv, rfl⟩ := hc2.slice
  have HPS := Lib.hid hps
  have HC2 := Lib.hid hc2
  have HG2 := Lib.hid (gb_same HG1.out hg2)
  clear hps hc2 hg2
  have HGA := Lib.hid (gb_same HG2.out (gb_alloc w2 (Obj.cells #[.int .i64 b.length, .slice acv ps.length ccv] 29) none))
  go_wp2_with fail
  refine (HRF.out _ HGA.out).mono ?_; rintro e w3 ⟨rv, qs, rfl, hqs, hc3, hg3⟩
  obtain ⟨arv, crv, rfl⟩ := hc3.slice
  have HQS := Lib.hid hqs
  have HC3 := Lib.hid hc3
  have HG3 := Lib.hid hg3
  clear hqs hc3 hg3
  obtain ⟨W, hWe⟩ : ∃ W, w3.alloc (Obj.cells #[.int .i64 b.length, .slice arv qs.length crv] 35) = W := ⟨_, rfl⟩
  have hgx : w3.grownBy W none := by rw [← hWe]; exact gb_alloc _ _ _
  have hb8 : W.heap[w3.heap.size]? = some (Obj.cells #[.int .i64 b.length, .slice arv qs.length crv] 35 (0, 0)) := by rw [← hWe]; exact heap_at_alloc _ _
  have hb6 : W.heap[w2.heap.size]? = some (Obj.cells #[.int .i64 b.length, .slice acv ps.length ccv] 29 (0, 0)) := blk_kept (blk_kept (heap_at_alloc w2 _) HG3.out) hgx
  have HWE := Lib.hid hWe
  have d0 : W.cell? ⟨w2.heap.size, 0, none⟩ = some (.int .i64 b.length) := cell_row hb6
  have d1 : W.cell? ⟨w2.heap.size, 1, none⟩ = some (.slice acv ps.length ccv) := cell_row hb6
  have d2 : W.cell? ⟨w3.heap.size, 0, none⟩ = some (.int .i64 b.length) := cell_row hb8
  have d3 : W.cell? ⟨w3.heap.size, 1, none⟩ = some (.slice arv qs.length crv) := cell_row hb8
  have HGW := Lib.hid (gb_same (gb_same HGA.out HG3.out) hgx)
  have HFR : Hid (∀ X, W.grownBy X none → Calls Try.prog 19 #[.agg #[.int .i64 b.length, .slice acv ps.length ccv]] X (fromP X b.length (diffL a b))) := Lib.hid (fun X hX => by
    have h := from_any b.length (.slice acv ps.length ccv) ps X ((((HC2.out.rd.grown (gb_alloc _ _ _)).grown HG3.out).grown hgx).grown hX) (by have := congrArg List.length HPS.out; rw [List.length_map] at this; have := HDL.out; omega)
      (fun p hp => by have := diff_small a b p.1 (by rw [← HPS.out]; exact List.mem_map_of_mem hp); omega)
    rw [HPS.out] at h; exact h)
  have HEQ : Hid (∀ X fv fs, W.grownBy X none → RdCs X fv fs → fs.map (·.1) = diffL a b → Calls Try.prog 18 #[.agg #[.int .i64 b.length, fv], .agg #[.int .i64 b.length, .slice arv qs.length crv]] X (BoolQ true X)) := Lib.hid (fun X fv fs hX hr hf => by
    have h := requal_any b.length b.length fv (.slice arv qs.length crv) fs qs X hr ((HC3.out.rd.grown hgx).grown hX)
    rw [hf, HQS.out, eqP_true] at h; exact h)
  clear hWe hgx hb8 hb6
  go_wp2_with fail
  rw [HWE.out]
  go_region_held3 (fun w' => w'.cell? ⟨w2.heap.size, 0, none⟩ = some (.int .i64 b.length) ∧ w'.cell? ⟨w2.heap.size, 1, none⟩ = some (.slice acv ps.length ccv) ∧ w'.cell? ⟨w3.heap.size, 0, none⟩ = some (.int .i64 b.length) ∧ w'.cell? ⟨w3.heap.size, 1, none⟩ = some (.slice arv qs.length crv)) (go_keep) (first | (go_at_call 19; (with_reducible refine (HFR.out _ (gb_drew _ _)).mono ?_); go_must (rintro e w6 ⟨fv, fs, rfl, hfs, hc6, hg6⟩; obtain ⟨af, cf, rfl⟩ := hc6.slice; have HG6 : Hid (W.grownBy w6 none) := Lib.hid (gb_same (gb_drew _ _) hg6); have HFS := Lib.hid hfs; have HC6 := Lib.hid hc6; have e0 := HG6.out.cell d0 (by simp); have e1 := HG6.out.cell d1 (by simp); have e2 := HG6.out.cell d2 (by simp); have e3 := HG6.out.cell d3 (by simp); clear hfs hc6 hg6)) | (go_at_call 18; (with_reducible refine (HEQ.out _ _ fs HG6.out HC6.out.rd HFS.out).mono ?_); go_must (rintro e w7 ⟨rfl, hg7⟩; have HG7 := Lib.hid (gb_same HG6.out hg7); have k0 := HG7.out.cell d0 (by simp); have k1 := HG7.out.cell d1 (by simp); have k2 := HG7.out.cell d2 (by simp); have k3 := HG7.out.cell d3 (by simp); clear hg7)))
  all_goals
    go_wp2
    first | (go_ret; exact ⟨rfl, gb_same HGW.out HG7.out⟩) | exact ⟨rfl, gb_same HGW.out HG7.out⟩
end Go.Proofs.Ytnkgoaloigmmfaa
