/-
  law.ImageLimit: the walk.
-/
import Derived.Test.YtnkgoaloigmmfaaIApply
import Derived.Deep.RegionHeld3
namespace Go.Proofs.Ytnkgoaloigmmfaa
open Go.RowKit

theorem diffTo_all (a b : List UInt8) : ∀ (ks : List Nat), (∀ k ∈ ks, pg b (k : Int) ≠ pg a (k : Int)) → (diffTo a b ks).length = ks.length
  | [], _ => rfl
  | k :: ks, h => by
    have hcons : diffTo a b (k :: ks) = diffAt a b k ++ diffTo a b ks := by simp [diffTo]
    rw [hcons, List.length_append, diffTo_all a b ks (fun j hj => h j (by simp [hj])), diffAt, if_neg (by simpa using h k (by simp))]
    simp
    omega
theorem diff_zeros (b : List UInt8) : (diffL [] b).length = (cntI b.length).toNat := by
  unfold diffL
  rw [diffTo_all, List.length_range]
  intro k hk e
  rw [List.mem_range, cnt_toNat] at hk
  have h1 := congrArg List.length e
  rw [pg_len', pg_len', szN_nat, szN_nat, List.length_nil] at h1
  omega
theorem big_facts : ∃ l : List UInt8, List.replicate 24001 0 = l ∧ l.length = 24001 := ⟨_, rfl, List.length_replicate⟩

set_option maxRecDepth 100000 in
set_option maxHeartbeats 4000000 in
theorem imageLimit_any (t : UInt8) (w : World) : Calls Try.prog 10 #[.int .u8 (t.toNat : Int)] w (BoolQ true w) := by
  obtain ⟨lb, e0, e1⟩ := big_facts
  have E0 := Lib.hid e0
  have E1 := Lib.hid e1
  clear e0 e1
  have htn := t.toNat_lt
  generalize t.toNat = tn at *
  have HW := Lib.hid (awake_any w)
  have hc188 : cntI 24000 = 188 := by decide
  have hcount := fun W => count_any 24000 W (by omega) (by omega)
  rw [hc188] at hcount
  have HCN := Lib.hid hcount
  have HT1 : Hid ((lb.take 24000).length = 24000) := Lib.hid (by rw [List.length_take, E1.out]; rfl)
  have HT2 : Hid ((lb.take tn).length = tn) := Lib.hid (by rw [List.length_take, E1.out]; omega)
  have HD1 : Hid ((diffL [] (lb.take 24000)).length = 188) := Lib.hid (by
    rw [diff_zeros, HT1.out]
    have h9 : cntI ((24000 : Nat) : Int) = 188 := hc188
    rw [h9]; rfl)
  clear hc188 hcount
  go_enter Try.func10, Try.ntmps10
  go_wp2_with (first | (go_at_call 11; refine HW.out.mono ?_; go_must (rintro e w1 ⟨rfl, hg1⟩; have HG1 := Lib.hid hg1; clear hg1)) | ((with_reducible refine mk_step rfl _ _ rfl 24001 rfl rfl (by omega) ?_); go_must (intro w2 ho2 hg2; rw [E0.out] at ho2; have HO2 := Lib.hid ho2; have HG2 := Lib.hid (gb_same HG1.out hg2); clear ho2 hg2)))
  have HBIG := Lib.hid (diff_big (.slice none 0 0) (.slice (some ⟨w1.heap.size, 0, none⟩) 24001 24001) [] lb w2 (.inl ⟨rfl, rfl⟩) HO2.out.rd (by rw [E1.out]; omega))
  go_wp2_with fail
  refine HBIG.out.mono ?_
  rintro e w3 ⟨cv3, ps3, rfl, hps3, hc3, hg3⟩
  have hz : ps3 = [] := by cases ps3 with | nil => rfl | cons p ps => simp at hps3
  subst hz
  obtain ⟨a3, c3, rfl⟩ := hc3.slice
  have HG3 := Lib.hid hg3
  clear hps3 hc3 hg3
  have hlb := HO2.out.rd
  have hd1 := fun W (hg : w2.grownBy W none) => diff_any (.slice none 0 0) (.slice (some ⟨w1.heap.size, 0, none⟩) 24000 24001) [] (lb.take 24000) W (.inl ⟨rfl, rfl⟩) ((hlb.grown hg).take (by rw [E1.out]; omega)) (by rw [HT1.out]; omega)
  rw [HT1.out] at hd1
  have HDF1 := Lib.hid hd1
  have hd2 := fun W (hg : w2.grownBy W none) => diff_any (.slice (some ⟨w1.heap.size, 0, none⟩) 24001 24001) (.slice (some ⟨w1.heap.size, 0, none⟩) tn 24001) lb (lb.take tn) W (hlb.grown hg) ((hlb.grown hg).take (by rw [E1.out]; omega)) (by rw [HT2.out]; omega)
  rw [HT2.out] at hd2
  have HDF2 := Lib.hid hd2
  clear hd1 hd2 hlb
  have hgA := gb_same HG3.out (gb_alloc w3 (Obj.cells #[.int .i64 0, .slice a3 0 c3] 29) none)
  have HGA := Lib.hid hgA
  clear hgA
  go_wp2_with fail
  refine (HDF1.out _ HGA.out).mono ?_
  rintro e w4 ⟨cv4, ps4, rfl, hps4, hc4, hg4⟩
  have hl4 : ps4.length = 188 := by rw [← HD1.out, ← hps4, List.length_map]
  obtain ⟨a4, c4, rfl⟩ := hc4.slice
  rw [hl4] at hc4 ⊢
  have HPS4 := Lib.hid hps4
  have HC4 := Lib.hid hc4
  have HG4 := Lib.hid (gb_same HGA.out hg4)
  have HL4 := Lib.hid hl4
  clear hps4 hc4 hg4 hl4
  have HGB := Lib.hid (gb_same HG4.out (gb_alloc w4 (Obj.cells #[.int .i64 24000, .slice a4 188 c4] 29) none))
  go_wp2_with fail
  refine (HDF2.out _ HGB.out).mono ?_
  rintro e w5 ⟨cv5, ps5, rfl, hps5, hc5, hg5⟩
  obtain ⟨a5, c5, rfl⟩ := hc5.slice
  have HC5 := Lib.hid hc5
  have HG45 := Lib.hid hg5
  have HG5 := Lib.hid (gb_same HGB.out hg5)
  clear hps5 hc5 hg5
  have hvalid : validB 0 24000 (ps4.map (·.1)) = true := by
    rw [HPS4.out]
    have h := valid_diff [] (lb.take 24000)
    rw [HT1.out] at h
    unfold validB
    exact h
  obtain ⟨W, hWe⟩ : ∃ W, w5.alloc (Obj.cells #[.int .i64 (tn : Int), .slice a5 ps5.length c5] 29) = W := ⟨_, rfl⟩
  have hgx : w5.grownBy W none := by rw [← hWe]; exact gb_alloc _ _ _
  have hb8 : W.heap[w5.heap.size]? = some (Obj.cells #[.int .i64 (tn : Int), .slice a5 ps5.length c5] 29 (0, 0)) := by rw [← hWe]; exact heap_at_alloc _ _
  have hb6 : W.heap[w4.heap.size]? = some (Obj.cells #[.int .i64 24000, .slice a4 188 c4] 29 (0, 0)) := blk_kept (blk_kept (heap_at_alloc w4 _) HG45.out) hgx
  have HWE := Lib.hid hWe
  have HV1 : Hid (∀ X, W.grownBy X none → Calls Try.prog 24 #[.agg #[.int .i64 24000, .slice a4 188 c4], .int .i64 0] X (BoolQ true X)) := Lib.hid (fun X hX => by
    have h := valid_any 0 24000 (.slice a4 188 c4) ps4 X ((((HC4.out.rd.grown (gb_alloc _ _ _)).grown HG45.out).grown hgx).grown hX) (by omega)
    rw [hvalid] at h; exact h)
  have HV2 : Hid (∀ X, W.grownBy X none → Calls Try.prog 24 #[.agg #[.int .i64 (tn : Int), .slice a5 ps5.length c5], .int .i64 (-1)] X (BoolQ false X)) := Lib.hid (fun X hX => valid_no (-1) tn (.slice a5 ps5.length c5) ps5 X ((HC5.out.rd.grown hgx).grown hX) (by omega))
  have HGX := Lib.hid (gb_same (gb_same HG2.out HG5.out) hgx)
  have HB6 := Lib.hid hb6
  have HB8 := Lib.hid hb8
  have d0 : W.cell? ⟨w4.heap.size, 0, none⟩ = some (.int .i64 24000) := cell_row hb6
  have d1 : W.cell? ⟨w4.heap.size, 1, none⟩ = some (.slice a4 188 c4) := cell_row hb6
  have d2 : W.cell? ⟨w5.heap.size, 0, none⟩ = some (.int .i64 tn) := cell_row hb8
  have d3 : W.cell? ⟨w5.heap.size, 1, none⟩ = some (.slice a5 ps5.length c5) := cell_row hb8
  clear hWe hgx hb8 hb6 hvalid
  have hwt : IntKind.i64.wrap (tn : Int) = (tn : Int) := IntWalk.i64_in _ (by have : tn < 256 := htn; omega)
  have htt : ((tn : Int) == (tn : Int)) = true := by simp
  clear htn
  go_wp2_with fail
  rw [HWE.out]
  go_region_held3 (fun w' => w'.cell? ⟨w4.heap.size, 0, none⟩ = some (.int .i64 24000) ∧ w'.cell? ⟨w4.heap.size, 1, none⟩ = some (.slice a4 188 c4) ∧ w'.cell? ⟨w5.heap.size, 0, none⟩ = some (.int .i64 tn) ∧ w'.cell? ⟨w5.heap.size, 1, none⟩ = some (.slice a5 ps5.length c5)) (go_keep) (first | (go_at_call 12; (with_reducible refine (HCN.out _).mono ?_); rintro e w' ⟨rfl, rfl⟩) | (go_at_call 24; (with_reducible refine (HV1.out _ (gb_drew _ _)).mono ?_); go_must (rintro e w6 ⟨rfl, hg6⟩; have HG6 : Hid (W.grownBy w6 none) := Lib.hid (gb_same (gb_drew _ _) hg6); have e0 := HG6.out.cell d0 (by simp); have e1 := HG6.out.cell d1 (by simp); have e2 := HG6.out.cell d2 (by simp); have e3 := HG6.out.cell d3 (by simp); clear hg6)) | (go_at_call 24; (with_reducible refine (HV2.out _ HG6.out).mono ?_); go_must (rintro e w7 ⟨rfl, hg7⟩; have HG7 := Lib.hid (gb_same HG6.out hg7); have k0 := HG7.out.cell d0 (by simp); have k1 := HG7.out.cell d1 (by simp); have k2 := HG7.out.cell d2 (by simp); have k3 := HG7.out.cell d3 (by simp); clear hg7)))
  all_goals
    go_wp2
    first | (go_ret; exact ⟨rfl, gb_same HGX.out HG7.out⟩) | exact ⟨rfl, gb_same HGX.out HG7.out⟩
end Go.Proofs.Ytnkgoaloigmmfaa
