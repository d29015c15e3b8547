/-
  law.ImageApply: the walk.
-/
import Derived.Test.YtnkgoaloigmmfaaIEqual
import Derived.Deep.RegionHeld3
import Derived.BigRegion
namespace Go.Proofs.Ytnkgoaloigmmfaa
open Go.RowKit

theorem inc_u8 (x : UInt8) : ((x.toNat : Int) + 1) % 256 = ((x + 1).toNat : Int) := by
  have e : (x + 1).toNat = (x.toNat + 1) % 256 := by rw [UInt8.toNat_add]; rfl
  rw [e]; omega
theorem few_of {L : Int} {cs : List CT} (h : fewB L cs = true) : L ≤ 2000 ∧ cs.length ≤ 20 ∧ ∀ c ∈ cs, c.2.length ≤ 300 := by
  unfold fewB at h
  simp only [Bool.and_eq_true, decide_eq_true_eq, List.all_eq_true] at h
  exact ⟨h.1.1, h.1.2, h.2⟩
theorem two_new (w : World) (X Y : Obj) : ((w.alloc X).alloc Y).drew.heap[w.heap.size]? = some X ∧ ((w.alloc X).alloc Y).drew.heap[w.heap.size + 1]? = some Y ∧ w.grownBy ((w.alloc X).alloc Y).drew none := by
  refine ⟨blk_kept (blk_kept (heap_at_alloc _ _) (gb_alloc _ _ none)) (gb_drew _ none), blk_kept ?_ (gb_drew _ none), gb_same (gb_same (gb_alloc _ _ _) (gb_alloc _ _ _)) (gb_drew _ _)⟩
  have := heap_at_alloc (w.alloc X) Y
  simpa using this

set_option maxRecDepth 100000 in
set_option maxHeartbeats 4000000 in
theorem imageApply_any (va : Value) (a : List UInt8) (L1 L2 n : Int) (v1 v2 : Value) (ps qs : List ChP) (w : World) (ha : Rd w va a) (h1 : RdCs w v1 ps) (h2 : RdCs w v2 qs)
    (hp1 : ∀ p ∈ ps, -9223372036854775808 ≤ p.1.1 ∧ p.1.1 ≤ 9223372036854775807) (hn : n ≤ 9223372036854775807) :
    Calls Try.prog 5 #[va, .agg #[.int .i64 L1, v1, .int .i64 L2, v2], .int .i64 n] w (BoolQ true w) := by
  have hsa := ha.small
  have HA := Lib.hid ha
  obtain ⟨aa, ca, rfl⟩ := ha.len
  obtain ⟨a1, c1, e1⟩ := h1.len
  obtain ⟨a2, c2, e2⟩ := h2.len
  rw [e1] at h1 ⊢
  rw [e2] at h2 ⊢
  have H1 := Lib.hid h1
  have H2 := Lib.hid h2
  clear ha h1 h2 e1 e2
  obtain ⟨w0, hw0⟩ : ∃ w0, w.alloc (Obj.cells #[.int .i64 L1, .slice a1 ps.length c1, .int .i64 L2, .slice a2 qs.length c2] 42) = w0 := ⟨_, rfl⟩
  have hb0 := heap_at_alloc w (Obj.cells #[.int .i64 L1, .slice a1 ps.length c1, .int .i64 L2, .slice a2 qs.length c2] 42)
  have hg0 := gb_alloc w (Obj.cells #[.int .i64 L1, .slice a1 ps.length c1, .int .i64 L2, .slice a2 qs.length c2] 42) none
  rw [hw0] at hb0 hg0
  have HW0 := Lib.hid hw0
  have HW := Lib.hid (awake_any w0)
  go_enter Try.func5, Try.ntmps5
  go_wp2_with fail
  refine HW.out.mono ?_; rintro e w1 ⟨rfl, hg1⟩
  have q0 : w1.cell? ⟨w.heap.size, 0, none⟩ = some (.int .i64 L1) := hg1.cell (cell_row hb0) (by simp)
  have q1 : w1.cell? ⟨w.heap.size, 1, none⟩ = some (.slice a1 ps.length c1) := hg1.cell (cell_row hb0) (by simp)
  have q2 : w1.cell? ⟨w.heap.size, 2, none⟩ = some (.int .i64 L2) := hg1.cell (cell_row hb0) (by simp)
  have q3 : w1.cell? ⟨w.heap.size, 3, none⟩ = some (.slice a2 qs.length c2) := hg1.cell (cell_row hb0) (by simp)
  have HG1 := Lib.hid (gb_same hg0 hg1)
  clear hb0 hw0 hg0 hg1
  go_wp2_with fail
  refine Code.wp_mono (Q := fun e a' w' => ∃ bp bq, e = .normal ∧ a' = { tmps := #[.slice aa a.length ca, .agg #[.int .i64 L1, .slice a1 ps.length c1, .int .i64 L2, .slice a2 qs.length c2], .int .i64 n, undef, .pointer (some ⟨w.heap.size, 0, none⟩), undef, .bool false, .pointer (some ⟨bp, 0, none⟩), .pointer (some ⟨bq, 0, none⟩), undef, undef, undef, undef, undef, undef, .bool true, .bool false, .pointer (some ⟨w.heap.size, 0, none⟩), .agg #[.int .i64 L1, .slice a1 ps.length c1], .pointer (some ⟨w.heap.size, 2, none⟩), .agg #[.int .i64 L2, .slice a2 qs.length c2], undef, undef, undef, undef, undef, undef, undef, undef, undef, undef, undef, undef, undef, undef, undef, undef, undef, undef, undef, undef, undef, undef, undef, undef, undef, undef, undef, undef, undef, undef, undef, undef, undef, undef, undef, undef, undef, undef, undef, undef, undef, undef, undef, undef, undef, undef, undef, undef, undef, undef, undef, undef, undef, undef, undef, undef, undef, undef, undef, undef, undef, undef, undef, undef, undef, undef, undef, undef, undef, undef, undef, undef, undef, undef, undef, undef, undef, undef, undef, undef, undef, undef, undef, undef, undef, undef, undef, undef, undef, undef], defers := [] } ∧ w1.heap.size ≤ bp ∧ w1.heap.size ≤ bq ∧
      w'.heap[bp]? = some (.cells #[.int .i64 L1, .slice a1 ps.length c1] 35 (0, 0)) ∧ w'.heap[bq]? = some (.cells #[.int .i64 L2, .slice a2 qs.length c2] 35 (0, 0)) ∧ w1.grownBy w' none) ?_ ?_
  rotate_left
  ·
    have xx : ∀ o c v, w1.cell? c = some v → (w1.alloc o).cell? c = some v := fun o c v h => (gb_alloc _ _ none).cell h (by simp)
    have yy : ∀ o o2 c v, w1.cell? c = some v → ((w1.alloc o).alloc o2).cell? c = some v := fun o o2 c v h => (gb_alloc _ _ none).cell (xx o c v h) (by simp)
    have x00 := xx (Obj.cells #[.int .i64 0, .slice none 0 0] 35) _ _ q0
    have x01 := xx (Obj.cells #[.int .i64 0, .slice none 0 0] 35) _ _ q1
    have x02 := xx (Obj.cells #[.int .i64 0, .slice none 0 0] 35) _ _ q2
    have x03 := xx (Obj.cells #[.int .i64 0, .slice none 0 0] 35) _ _ q3
    have x10 := xx (Obj.cells #[.int .i64 L1, .slice a1 ps.length c1] 35) _ _ q0
    have x11 := xx (Obj.cells #[.int .i64 L1, .slice a1 ps.length c1] 35) _ _ q1
    have x12 := xx (Obj.cells #[.int .i64 L1, .slice a1 ps.length c1] 35) _ _ q2
    have x13 := xx (Obj.cells #[.int .i64 L1, .slice a1 ps.length c1] 35) _ _ q3
    have x20 := xx (Obj.cells #[.int .i64 L2, .slice a2 qs.length c2] 35) _ _ q0
    have x21 := xx (Obj.cells #[.int .i64 L2, .slice a2 qs.length c2] 35) _ _ q1
    have x22 := xx (Obj.cells #[.int .i64 L2, .slice a2 qs.length c2] 35) _ _ q2
    have x23 := xx (Obj.cells #[.int .i64 L2, .slice a2 qs.length c2] 35) _ _ q3
    have y000 := yy (Obj.cells #[.int .i64 0, .slice none 0 0] 35) (Obj.cells #[.int .i64 0, .slice none 0 0] 35) _ _ q0
    have y001 := yy (Obj.cells #[.int .i64 0, .slice none 0 0] 35) (Obj.cells #[.int .i64 0, .slice none 0 0] 35) _ _ q1
    have y002 := yy (Obj.cells #[.int .i64 0, .slice none 0 0] 35) (Obj.cells #[.int .i64 0, .slice none 0 0] 35) _ _ q2
    have y003 := yy (Obj.cells #[.int .i64 0, .slice none 0 0] 35) (Obj.cells #[.int .i64 0, .slice none 0 0] 35) _ _ q3
    have y010 := yy (Obj.cells #[.int .i64 0, .slice none 0 0] 35) (Obj.cells #[.int .i64 L1, .slice a1 ps.length c1] 35) _ _ q0
    have y011 := yy (Obj.cells #[.int .i64 0, .slice none 0 0] 35) (Obj.cells #[.int .i64 L1, .slice a1 ps.length c1] 35) _ _ q1
    have y012 := yy (Obj.cells #[.int .i64 0, .slice none 0 0] 35) (Obj.cells #[.int .i64 L1, .slice a1 ps.length c1] 35) _ _ q2
    have y013 := yy (Obj.cells #[.int .i64 0, .slice none 0 0] 35) (Obj.cells #[.int .i64 L1, .slice a1 ps.length c1] 35) _ _ q3
    have y020 := yy (Obj.cells #[.int .i64 0, .slice none 0 0] 35) (Obj.cells #[.int .i64 L2, .slice a2 qs.length c2] 35) _ _ q0
    have y021 := yy (Obj.cells #[.int .i64 0, .slice none 0 0] 35) (Obj.cells #[.int .i64 L2, .slice a2 qs.length c2] 35) _ _ q1
    have y022 := yy (Obj.cells #[.int .i64 0, .slice none 0 0] 35) (Obj.cells #[.int .i64 L2, .slice a2 qs.length c2] 35) _ _ q2
    have y023 := yy (Obj.cells #[.int .i64 0, .slice none 0 0] 35) (Obj.cells #[.int .i64 L2, .slice a2 qs.length c2] 35) _ _ q3
    have y100 := yy (Obj.cells #[.int .i64 L1, .slice a1 ps.length c1] 35) (Obj.cells #[.int .i64 0, .slice none 0 0] 35) _ _ q0
    have y101 := yy (Obj.cells #[.int .i64 L1, .slice a1 ps.length c1] 35) (Obj.cells #[.int .i64 0, .slice none 0 0] 35) _ _ q1
    have y102 := yy (Obj.cells #[.int .i64 L1, .slice a1 ps.length c1] 35) (Obj.cells #[.int .i64 0, .slice none 0 0] 35) _ _ q2
    have y103 := yy (Obj.cells #[.int .i64 L1, .slice a1 ps.length c1] 35) (Obj.cells #[.int .i64 0, .slice none 0 0] 35) _ _ q3
    have y110 := yy (Obj.cells #[.int .i64 L1, .slice a1 ps.length c1] 35) (Obj.cells #[.int .i64 L1, .slice a1 ps.length c1] 35) _ _ q0
    have y111 := yy (Obj.cells #[.int .i64 L1, .slice a1 ps.length c1] 35) (Obj.cells #[.int .i64 L1, .slice a1 ps.length c1] 35) _ _ q1
    have y112 := yy (Obj.cells #[.int .i64 L1, .slice a1 ps.length c1] 35) (Obj.cells #[.int .i64 L1, .slice a1 ps.length c1] 35) _ _ q2
    have y113 := yy (Obj.cells #[.int .i64 L1, .slice a1 ps.length c1] 35) (Obj.cells #[.int .i64 L1, .slice a1 ps.length c1] 35) _ _ q3
    have y120 := yy (Obj.cells #[.int .i64 L1, .slice a1 ps.length c1] 35) (Obj.cells #[.int .i64 L2, .slice a2 qs.length c2] 35) _ _ q0
    have y121 := yy (Obj.cells #[.int .i64 L1, .slice a1 ps.length c1] 35) (Obj.cells #[.int .i64 L2, .slice a2 qs.length c2] 35) _ _ q1
    have y122 := yy (Obj.cells #[.int .i64 L1, .slice a1 ps.length c1] 35) (Obj.cells #[.int .i64 L2, .slice a2 qs.length c2] 35) _ _ q2
    have y123 := yy (Obj.cells #[.int .i64 L1, .slice a1 ps.length c1] 35) (Obj.cells #[.int .i64 L2, .slice a2 qs.length c2] 35) _ _ q3
    have y200 := yy (Obj.cells #[.int .i64 L2, .slice a2 qs.length c2] 35) (Obj.cells #[.int .i64 0, .slice none 0 0] 35) _ _ q0
    have y201 := yy (Obj.cells #[.int .i64 L2, .slice a2 qs.length c2] 35) (Obj.cells #[.int .i64 0, .slice none 0 0] 35) _ _ q1
    have y202 := yy (Obj.cells #[.int .i64 L2, .slice a2 qs.length c2] 35) (Obj.cells #[.int .i64 0, .slice none 0 0] 35) _ _ q2
    have y203 := yy (Obj.cells #[.int .i64 L2, .slice a2 qs.length c2] 35) (Obj.cells #[.int .i64 0, .slice none 0 0] 35) _ _ q3
    have y210 := yy (Obj.cells #[.int .i64 L2, .slice a2 qs.length c2] 35) (Obj.cells #[.int .i64 L1, .slice a1 ps.length c1] 35) _ _ q0
    have y211 := yy (Obj.cells #[.int .i64 L2, .slice a2 qs.length c2] 35) (Obj.cells #[.int .i64 L1, .slice a1 ps.length c1] 35) _ _ q1
    have y212 := yy (Obj.cells #[.int .i64 L2, .slice a2 qs.length c2] 35) (Obj.cells #[.int .i64 L1, .slice a1 ps.length c1] 35) _ _ q2
    have y213 := yy (Obj.cells #[.int .i64 L2, .slice a2 qs.length c2] 35) (Obj.cells #[.int .i64 L1, .slice a1 ps.length c1] 35) _ _ q3
    have y220 := yy (Obj.cells #[.int .i64 L2, .slice a2 qs.length c2] 35) (Obj.cells #[.int .i64 L2, .slice a2 qs.length c2] 35) _ _ q0
    have y221 := yy (Obj.cells #[.int .i64 L2, .slice a2 qs.length c2] 35) (Obj.cells #[.int .i64 L2, .slice a2 qs.length c2] 35) _ _ q1
    have y222 := yy (Obj.cells #[.int .i64 L2, .slice a2 qs.length c2] 35) (Obj.cells #[.int .i64 L2, .slice a2 qs.length c2] 35) _ _ q2
    have y223 := yy (Obj.cells #[.int .i64 L2, .slice a2 qs.length c2] 35) (Obj.cells #[.int .i64 L2, .slice a2 qs.length c2] 35) _ _ q3
    clear xx yy
    go_region
    · exact ⟨_, _, rfl, rfl, Nat.le_refl _, Nat.le_succ _, (two_new w1 _ _).1, (two_new w1 _ _).2.1, (two_new w1 _ _).2.2⟩
    · exact ⟨_, _, rfl, rfl, Nat.le_succ _, Nat.le_refl _, (two_new w1 _ _).2.1, (two_new w1 _ _).1, (two_new w1 _ _).2.2⟩
  rintro e a' w3 ⟨bp, bq, rfl, rfl, hbp, hbq, hp3, hq3, hg3⟩
  dsimp only [Exit.then]
  have p0 : w3.cell? ⟨bp, 0, none⟩ = some (.int .i64 L1) := cell_row hp3
  have p1 : w3.cell? ⟨bp, 1, none⟩ = some (.slice a1 ps.length c1) := cell_row hp3
  have p2 : w3.cell? ⟨bq, 0, none⟩ = some (.int .i64 L2) := cell_row hq3
  have p3 : w3.cell? ⟨bq, 1, none⟩ = some (.slice a2 qs.length c2) := cell_row hq3
  have HG3 := Lib.hid (gb_same HG1.out hg3)
  clear hp3 hq3 hg3 hbp hbq q0 q1 q2 q3 HG1 HW HW0
  by_cases hL : 2000 < a.length
  · go_wp2
    go_ret
    exact ⟨rfl, HG3.out⟩
  have hd1 : decide ((2000 : Int) < a.length) = false := by simp; omega
  have HAL : Hid (a.length ≤ 2000) := Lib.hid (by omega)
  clear hL
  have HF1 := Lib.hid (few_any L1 _ ps w3 (H1.out.grown HG3.out))
  cases hf1 : fewB L1 (ps.map (·.1))
  · rw [hf1] at HF1
    go_wp2_with (go_at_call 20; refine HF1.out.mono ?_; rintro e w4 ⟨rfl, hg4⟩)
    go_ret
    exact ⟨rfl, gb_same HG3.out hg4⟩
  rw [hf1] at HF1
  go_wp2_with fail
  refine HF1.out.mono ?_; rintro e w4 ⟨rfl, hg4⟩
  have HG4 := Lib.hid (gb_same HG3.out hg4)
  have r0 := hg4.cell p0 (by simp)
  have r1 := hg4.cell p1 (by simp)
  have r2 := hg4.cell p2 (by simp)
  have r3 := hg4.cell p3 (by simp)
  clear hg4 p0 p1 p2 p3 HF1
  have HF2 := Lib.hid (few_any L2 _ qs w4 (H2.out.grown HG4.out))
  cases hf2 : fewB L2 (qs.map (·.1))
  · rw [hf2] at HF2
    go_wp2_with (go_at_call 20; refine HF2.out.mono ?_; rintro e w5 ⟨rfl, hg5⟩)
    go_ret
    exact ⟨rfl, gb_same HG4.out hg5⟩
  rw [hf2] at HF2
  go_wp2_with fail
  refine HF2.out.mono ?_; rintro e w5 ⟨rfl, hg5⟩
  have HG5 := Lib.hid (gb_same HG4.out hg5)
  have s0 := hg5.cell r0 (by simp)
  have s1 := hg5.cell r1 (by simp)
  have s2 := hg5.cell r2 (by simp)
  have s3 := hg5.cell r3 (by simp)
  clear hg5 r0 r1 r2 r3 HF2
  have HFW1 := Lib.hid (few_of hf1)
  have HFW2 := Lib.hid (few_of hf2)
  clear hf1 hf2
  have HLIT := Lib.hid (Own.lit w5 #[] [] 0 w5.heap.size rfl rfl (Nat.le_refl _) (Nat.zero_le _))
  go_wp2_with (at_builtin; refine app_bytes rfl _ _ rfl w5.heap.size _ _ [] a rfl rfl HLIT.out ((HA.out.grown HG5.out).grown (gb_alloc _ _ _)) (by simp) (by have := HAL.out; simp; omega) ?_; go_must (intro vi w6 ho6 hg6 hf6; rw [List.nil_append] at ho6; have HO6 := Lib.hid ho6; have HG56 : Hid (w5.grownBy w6 none) := Lib.hid (gb_trans (gb_alloc _ _ none) hg6 (fun k hk => .inr (HLIT.out.lt k hk).1)); clear ho6 hg6 hf6; have t0 := HG56.out.cell s0 (by simp); have t1 := HG56.out.cell s1 (by simp); have t2 := HG56.out.cell s2 (by simp); have t3 := HG56.out.cell s3 (by simp); clear s0 s1 s2 s3))
  obtain ⟨ai, ci, rfl⟩ := HO6.out.rd.len
  have HG6 := Lib.hid (gb_same HG5.out HG56.out)
  refine (to_any L1 _ ps w6 (H1.out.grown HG6.out) (by have := HFW1.out.2.1; simp at this; omega) (fun p hp => by have := HFW1.out.2.2 p.1 (List.mem_map_of_mem hp); omega)).mono ?_
  rintro e w7 ⟨cv, os, rfl, hos, hco, hg7⟩
  obtain ⟨ao, co, rfl⟩ := hco.slice
  have HOS := Lib.hid hos
  obtain ⟨w8, hw8⟩ : ∃ w8, w7.alloc (Obj.cells #[.int .i64 L1, .slice ao os.length co] 29) = w8 := ⟨_, rfl⟩
  have hg8 : w7.grownBy w8 none := by rw [← hw8]; exact gb_alloc _ _ _
  have hb8 : w8.heap[w7.heap.size]? = some (Obj.cells #[.int .i64 L1, .slice ao os.length co] 29 (0, 0)) := by rw [← hw8]; exact heap_at_alloc _ _
  have HCO : Hid (RdCs w8 (.slice ao os.length co) os) := Lib.hid (hco.rd.grown hg8)
  have HOI : Hid (Rd w8 (.slice ai a.length ci) a) := Lib.hid (HO6.out.rd.grown (gb_same hg7 hg8))
  have HG8 := Lib.hid (gb_same HG6.out (gb_same hg7 hg8))
  have u0 := (gb_same hg7 hg8).cell t0 (by simp)
  have u1 := (gb_same hg7 hg8).cell t1 (by simp)
  have u2 := (gb_same hg7 hg8).cell t2 (by simp)
  have u3 := (gb_same hg7 hg8).cell t3 (by simp)
  have u4 : w8.cell? ⟨w7.heap.size, 0, none⟩ = some (.int .i64 L1) := cell_row hb8
  have u5 : w8.cell? ⟨w7.heap.size, 1, none⟩ = some (.slice ao os.length co) := cell_row hb8
  have HAP := Lib.hid (apply_any _ _ a L1 os w8 HOI.out HCO.out)
  rw [hos] at HAP
  clear t0 t1 t2 t3 hos hco hg7 hg8 hb8 HO6 HLIT
  go_wp2_with fail
  refine HAP.out.mono ?_; rintro e w9 ⟨vb, er, rfl, hg9, hok, hno⟩
  have HOK := Lib.hid hok
  have HNO := Lib.hid hno
  have HG9 := Lib.hid hg9
  have x0 := hg9.cell u0 (by simp)
  have x1 := hg9.cell u1 (by simp)
  have HRP := Lib.hid (rapply_any _ _ a L1 ps w9 (HA.out.grown (gb_same HG8.out hg9)) (H1.out.grown (gb_same HG8.out hg9)) hp1)
  clear hok hno hg9 hw8 HAP
  go_wp2_with fail
  refine HRP.out.mono ?_; rintro e w10 ⟨vc, er2, rfl, hg10, hok2, hno2⟩
  have HOK2 := Lib.hid hok2
  have HNO2 := Lib.hid hno2
  have HG10 := Lib.hid hg10
  clear hok2 hno2 hg10 HRP x0 x1
  -- CASES
  cases hv : validB a.length L1 (ps.map (·.1))
  · obtain ⟨rfl, rfl⟩ := HNO.out hv
    obtain ⟨rfl, rfl⟩ := HNO2.out hv
    clear HOK HNO HOK2 HNO2 hv
    obtain ⟨r, hr⟩ : ∃ r : List UInt8, r = [] := ⟨_, rfl⟩
    obtain ⟨W, hW⟩ : ∃ W, W = w10 := ⟨_, rfl⟩
    have HGX : Hid (w8.grownBy W none) := Lib.hid (by rw [hW]; exact gb_same HG9.out HG10.out)
    have HRb : Hid (Rd W (.slice none 0 0) r) := Lib.hid (.inl ⟨rfl, hr⟩)
    have HRc : Hid (Rd W (.slice none 0 0) r) := Lib.hid (.inl ⟨rfl, hr⟩)
    clear hr
    go_wp2_with fail
    rw [← hW]
    clear hW HG9 HG10
    have HGW : Hid (w.grownBy W none) := Lib.hid (gb_same HG8.out HGX.out)
    have d0 := HGX.out.cell u0 (by simp)
    have d1 := HGX.out.cell u1 (by simp)
    have d2 := HGX.out.cell u2 (by simp)
    have d3 := HGX.out.cell u3 (by simp)
    have d4 := HGX.out.cell u4 (by simp)
    have d5 := HGX.out.cell u5 (by simp)
    have Z1 : Hid (∀ X, W.grownBy X none → (convert 22 9 (.slice none 0 0)).run Try.prog X = .ok (.string (str r)) X) := Lib.hid (fun X hX => run_toString X _ r (HRb.out.grown hX))
    have Z2 : Hid (∀ X, W.grownBy X none → (convert 22 9 (.slice none 0 0)).run Try.prog X = .ok (.string (str r)) X) := Lib.hid (fun X hX => run_toString X _ r (HRc.out.grown hX))
    have Z3 : Hid (∀ X, W.grownBy X none → (convert 22 9 (.slice ai a.length ci)).run Try.prog X = .ok (.string (str a)) X) := Lib.hid (fun X hX => run_toString X _ a ((HOI.out.grown HGX.out).grown hX))
    have Z4 : Hid (∀ X, W.grownBy X none → (convert 22 9 (.slice aa a.length ca)).run Try.prog X = .ok (.string (str a)) X) := Lib.hid (fun X hX => run_toString X _ a ((HA.out.grown HGW.out).grown hX))
    have z1 := Z1.out W (gb_refl _ _)
    have z2 := Z2.out W (gb_refl _ _)
    have z3 := Z3.out W (gb_refl _ _)
    have z4 := Z4.out W (gb_refl _ _)
    have y1 := Z1.out W.drew (gb_drew _ _)
    have y2 := Z2.out W.drew (gb_drew _ _)
    have y3 := Z3.out W.drew (gb_drew _ _)
    have y4 := Z4.out W.drew (gb_drew _ _)
    have zr : ((str r).toList == (str r).toList) = true := by simp
    have za : ((str a).toList == (str a).toList) = true := by simp
    have HFR : Hid (∀ X, W.grownBy X none → Calls Try.prog 19 #[.agg #[.int .i64 L1, (.slice ao os.length co)]] X (fromP X L1 (os.map (·.1)))) := Lib.hid (fun X hX =>
      from_any L1 _ os X (HCO.out.grown (gb_same HGX.out hX)) (by have := congrArg List.length HOS.out; have := HFW1.out.2.1; simp at *; omega) (fun p hp => by have := HFW1.out.2.2 p.1 (by rw [← HOS.out]; exact List.mem_map_of_mem hp); omega))
    have HEQ : Hid (∀ X fv fs, W.grownBy X none → RdCs X fv fs → fs.map (·.1) = os.map (·.1) → Calls Try.prog 18 #[.agg #[.int .i64 L1, fv], .agg #[.int .i64 L1, (.slice a1 ps.length c1)]] X (BoolQ true X)) := Lib.hid (fun X fv fs hX hr hf => by
      have h := requal_any L1 L1 fv (.slice a1 ps.length c1) fs ps X hr (H1.out.grown (gb_same HGW.out hX))
      rw [hf, HOS.out, eqP_true] at h; exact h)
    have HVA : Hid (∀ X, W.grownBy X none → Calls Try.prog 24 #[.agg #[.int .i64 L1, (.slice ao os.length co)], .int .i64 n] X (BoolQ (validB n L1 (ps.map (·.1))) X)) := Lib.hid (fun X hX => by
      have h := valid_any n L1 _ os X (HCO.out.grown (gb_same HGX.out hX)) hn
      rw [HOS.out] at h; exact h)
    have HRV : Hid (∀ X, W.grownBy X none → Calls Try.prog 25 #[.agg #[.int .i64 L1, (.slice a1 ps.length c1)], .int .i64 n] X (BoolQ (validB n L1 (ps.map (·.1))) X)) := Lib.hid (fun X hX =>
      rvalid_any n L1 _ ps X (H1.out.grown (gb_same HGW.out hX)) hn hp1)
    have HTO : Hid (∀ X, W.grownBy X none → Calls Try.prog 21 #[.agg #[.int .i64 L2, (.slice a2 qs.length c2)]] X (toP X L2 (qs.map (·.1)))) := Lib.hid (fun X hX =>
      to_any L2 _ qs X (H2.out.grown (gb_same HGW.out hX)) (by have := HFW2.out.2.1; simp at this; omega) (fun p hp => by have := HFW2.out.2.2 p.1 (List.mem_map_of_mem hp); omega))
    have HPE : Hid (∀ X tv ts, W.grownBy X none → RdCs X tv ts → ts.map (·.1) = qs.map (·.1) → Calls Try.prog 26 #[.agg #[.int .i64 L1, (.slice ao os.length co)], .agg #[.int .i64 L2, tv]] X (BoolQ (eqP L1 L2 (ps.map (·.1)) (qs.map (·.1))) X)) := Lib.hid (fun X tv ts hX hr hf => by
      have h := pequal_any L1 L2 (.slice ao os.length co) tv os ts X (HCO.out.grown (gb_same HGX.out hX)) hr
      rw [hf, HOS.out] at h; exact h)
    have HE2 : Hid (∀ X, W.grownBy X none → Calls Try.prog 18 #[.agg #[.int .i64 L1, (.slice a1 ps.length c1)], .agg #[.int .i64 L2, (.slice a2 qs.length c2)]] X (BoolQ (eqP L1 L2 (ps.map (·.1)) (qs.map (·.1))) X)) := Lib.hid (fun X hX =>
      requal_any L1 L2 _ _ ps qs X (H1.out.grown (gb_same HGW.out hX)) (H2.out.grown (gb_same HGW.out hX)))
    clear u0 u1 u2 u3 u4 u5
    generalize validB n L1 (ps.map (·.1)) = bv at *
    generalize eqP L1 L2 (ps.map (·.1)) (qs.map (·.1)) = be at *
    have zv : (bv == bv) = true := by simp
    have ze : (be == be) = true := by simp
    go_region_held3 (fun w' => w'.cell? ⟨bp, 0, none⟩ = some (.int .i64 L1) ∧ w'.cell? ⟨bp, 1, none⟩ = some (.slice a1 ps.length c1) ∧ w'.cell? ⟨bq, 0, none⟩ = some (.int .i64 L2) ∧ w'.cell? ⟨bq, 1, none⟩ = some (.slice a2 qs.length c2) ∧ w'.cell? ⟨w7.heap.size, 0, none⟩ = some (.int .i64 L1) ∧ w'.cell? ⟨w7.heap.size, 1, none⟩ = some (.slice ao os.length co) ∧ (convert 22 9 (.slice none 0 0)).run Try.prog w' = .ok (.string (str r)) w' ∧ (convert 22 9 (.slice none 0 0)).run Try.prog w' = .ok (.string (str r)) w' ∧ (convert 22 9 (.slice ai a.length ci)).run Try.prog w' = .ok (.string (str a)) w' ∧ (convert 22 9 (.slice aa a.length ca)).run Try.prog w' = .ok (.string (str a)) w') (go_keep) (first | (go_at_call 19; (with_reducible refine (HFR.out _ (gb_drew _ _)).mono ?_); go_must (rintro e f1 ⟨fv, fs, rfl, hfs, hcf, hgf⟩; obtain ⟨af, cf, rfl⟩ := hcf.slice; have HGA : Hid (W.grownBy f1 none) := Lib.hid (gb_same (gb_drew _ _) hgf); have k0 := HGA.out.cell d0 (by simp); have k1 := HGA.out.cell d1 (by simp); have k2 := HGA.out.cell d2 (by simp); have k3 := HGA.out.cell d3 (by simp); have k4 := HGA.out.cell d4 (by simp); have k5 := HGA.out.cell d5 (by simp); have kz0 := Z1.out _ HGA.out; have kz1 := Z2.out _ HGA.out; have kz2 := Z3.out _ HGA.out; have kz3 := Z4.out _ HGA.out; have HFS := Lib.hid hfs; have HCF := Lib.hid hcf; clear hfs hcf hgf)) | (go_at_call 18; (with_reducible refine (HEQ.out _ _ fs HGA.out HCF.out.rd HFS.out).mono ?_); go_must (rintro e f2 ⟨rfl, hgf⟩;  have HGB : Hid (W.grownBy f2 none) := Lib.hid (gb_same HGA.out hgf); have m0 := HGB.out.cell d0 (by simp); have m1 := HGB.out.cell d1 (by simp); have m2 := HGB.out.cell d2 (by simp); have m3 := HGB.out.cell d3 (by simp); have m4 := HGB.out.cell d4 (by simp); have m5 := HGB.out.cell d5 (by simp); have mz0 := Z1.out _ HGB.out; have mz1 := Z2.out _ HGB.out; have mz2 := Z3.out _ HGB.out; have mz3 := Z4.out _ HGB.out;  clear hgf)) | (go_at_call 24; (with_reducible refine (HVA.out _ HGB.out).mono ?_); go_must (rintro e f3 ⟨rfl, hgf⟩;  have HGC : Hid (W.grownBy f3 none) := Lib.hid (gb_same HGB.out hgf); have n0 := HGC.out.cell d0 (by simp); have n1 := HGC.out.cell d1 (by simp); have n2 := HGC.out.cell d2 (by simp); have n3 := HGC.out.cell d3 (by simp); have n4 := HGC.out.cell d4 (by simp); have n5 := HGC.out.cell d5 (by simp); have nz0 := Z1.out _ HGC.out; have nz1 := Z2.out _ HGC.out; have nz2 := Z3.out _ HGC.out; have nz3 := Z4.out _ HGC.out;  clear hgf)) | (go_at_call 25; (with_reducible refine (HRV.out _ HGC.out).mono ?_); go_must (rintro e f4 ⟨rfl, hgf⟩;  have HGD : Hid (W.grownBy f4 none) := Lib.hid (gb_same HGC.out hgf); have o0 := HGD.out.cell d0 (by simp); have o1 := HGD.out.cell d1 (by simp); have o2 := HGD.out.cell d2 (by simp); have o3 := HGD.out.cell d3 (by simp); have o4 := HGD.out.cell d4 (by simp); have o5 := HGD.out.cell d5 (by simp); have oz0 := Z1.out _ HGD.out; have oz1 := Z2.out _ HGD.out; have oz2 := Z3.out _ HGD.out; have oz3 := Z4.out _ HGD.out;  clear hgf)) | (go_at_call 21; (with_reducible refine (HTO.out _ HGD.out).mono ?_); go_must (rintro e f5 ⟨tv, ts, rfl, hts, hct, hgf⟩; obtain ⟨at5, ct5, rfl⟩ := hct.slice; have HGE : Hid (W.grownBy f5 none) := Lib.hid (gb_same HGD.out hgf); have p0 := HGE.out.cell d0 (by simp); have p1 := HGE.out.cell d1 (by simp); have p2 := HGE.out.cell d2 (by simp); have p3 := HGE.out.cell d3 (by simp); have p4 := HGE.out.cell d4 (by simp); have p5 := HGE.out.cell d5 (by simp); have pz0 := Z1.out _ HGE.out; have pz1 := Z2.out _ HGE.out; have pz2 := Z3.out _ HGE.out; have pz3 := Z4.out _ HGE.out; have HTS := Lib.hid hts; have HCT := Lib.hid hct; clear hts hct hgf)) | (go_at_call 26; (with_reducible refine (HPE.out _ _ ts HGE.out HCT.out.rd HTS.out).mono ?_); go_must (rintro e f6 ⟨rfl, hgf⟩;  have HGF : Hid (W.grownBy f6 none) := Lib.hid (gb_same HGE.out hgf); have q0 := HGF.out.cell d0 (by simp); have q1 := HGF.out.cell d1 (by simp); have q2 := HGF.out.cell d2 (by simp); have q3 := HGF.out.cell d3 (by simp); have q4 := HGF.out.cell d4 (by simp); have q5 := HGF.out.cell d5 (by simp); have qz0 := Z1.out _ HGF.out; have qz1 := Z2.out _ HGF.out; have qz2 := Z3.out _ HGF.out; have qz3 := Z4.out _ HGF.out;  clear hgf)) | (go_at_call 18; (with_reducible refine (HE2.out _ HGF.out).mono ?_); go_must (rintro e f7 ⟨rfl, hgf⟩;  have HGH : Hid (W.grownBy f7 none) := Lib.hid (gb_same HGF.out hgf); have r0 := HGH.out.cell d0 (by simp); have r1 := HGH.out.cell d1 (by simp); have r2 := HGH.out.cell d2 (by simp); have r3 := HGH.out.cell d3 (by simp); have r4 := HGH.out.cell d4 (by simp); have r5 := HGH.out.cell d5 (by simp); have rz0 := Z1.out _ HGH.out; have rz1 := Z2.out _ HGH.out; have rz2 := Z3.out _ HGH.out; have rz3 := Z4.out _ HGH.out;  clear hgf)))
    all_goals
      go_wp2
      first | (go_ret; exact ⟨rfl, gb_same HGW.out HGH.out⟩) | exact ⟨rfl, gb_same HGW.out HGH.out⟩
  · obtain ⟨rfl, hob⟩ := HOK.out hv
    obtain ⟨rfl, hoc⟩ := HOK2.out hv
    clear HOK HNO HOK2 HNO2 hv
    generalize applyL a L1.toNat (ps.map (·.1)) = r at *
    by_cases hr : r = []
    · have hbl := hob.rd.len
      have hcl := hoc.rd.len
      rw [hr] at hbl hcl
      obtain ⟨ab, cb, rfl⟩ := hbl
      obtain ⟨ac, cc, rfl⟩ := hcl
      simp only [List.length_nil] at hob hoc ⊢
      obtain ⟨W, hW⟩ : ∃ W, W = w10 := ⟨_, rfl⟩
      have HGX : Hid (w8.grownBy W none) := Lib.hid (by rw [hW]; exact gb_same HG9.out HG10.out)
      have HRb : Hid (Rd W (.slice ab 0 cb) r) := Lib.hid (by rw [hW]; exact hob.rd.grown HG10.out)
      have HRc : Hid (Rd W (.slice ac 0 cc) r) := Lib.hid (by rw [hW]; exact hoc.rd)
      clear hob hoc hr
      go_wp2_with fail
      rw [← hW]
      clear hW HG9 HG10
      have HGW : Hid (w.grownBy W none) := Lib.hid (gb_same HG8.out HGX.out)
      have d0 := HGX.out.cell u0 (by simp)
      have d1 := HGX.out.cell u1 (by simp)
      have d2 := HGX.out.cell u2 (by simp)
      have d3 := HGX.out.cell u3 (by simp)
      have d4 := HGX.out.cell u4 (by simp)
      have d5 := HGX.out.cell u5 (by simp)
      have Z1 : Hid (∀ X, W.grownBy X none → (convert 22 9 (.slice ab 0 cb)).run Try.prog X = .ok (.string (str r)) X) := Lib.hid (fun X hX => run_toString X _ r (HRb.out.grown hX))
      have Z2 : Hid (∀ X, W.grownBy X none → (convert 22 9 (.slice ac 0 cc)).run Try.prog X = .ok (.string (str r)) X) := Lib.hid (fun X hX => run_toString X _ r (HRc.out.grown hX))
      have Z3 : Hid (∀ X, W.grownBy X none → (convert 22 9 (.slice ai a.length ci)).run Try.prog X = .ok (.string (str a)) X) := Lib.hid (fun X hX => run_toString X _ a ((HOI.out.grown HGX.out).grown hX))
      have Z4 : Hid (∀ X, W.grownBy X none → (convert 22 9 (.slice aa a.length ca)).run Try.prog X = .ok (.string (str a)) X) := Lib.hid (fun X hX => run_toString X _ a ((HA.out.grown HGW.out).grown hX))
      have z1 := Z1.out W (gb_refl _ _)
      have z2 := Z2.out W (gb_refl _ _)
      have z3 := Z3.out W (gb_refl _ _)
      have z4 := Z4.out W (gb_refl _ _)
      have y1 := Z1.out W.drew (gb_drew _ _)
      have y2 := Z2.out W.drew (gb_drew _ _)
      have y3 := Z3.out W.drew (gb_drew _ _)
      have y4 := Z4.out W.drew (gb_drew _ _)
      have zr : ((str r).toList == (str r).toList) = true := by simp
      have za : ((str a).toList == (str a).toList) = true := by simp
      have HFR : Hid (∀ X, W.grownBy X none → Calls Try.prog 19 #[.agg #[.int .i64 L1, (.slice ao os.length co)]] X (fromP X L1 (os.map (·.1)))) := Lib.hid (fun X hX =>
        from_any L1 _ os X (HCO.out.grown (gb_same HGX.out hX)) (by have := congrArg List.length HOS.out; have := HFW1.out.2.1; simp at *; omega) (fun p hp => by have := HFW1.out.2.2 p.1 (by rw [← HOS.out]; exact List.mem_map_of_mem hp); omega))
      have HEQ : Hid (∀ X fv fs, W.grownBy X none → RdCs X fv fs → fs.map (·.1) = os.map (·.1) → Calls Try.prog 18 #[.agg #[.int .i64 L1, fv], .agg #[.int .i64 L1, (.slice a1 ps.length c1)]] X (BoolQ true X)) := Lib.hid (fun X fv fs hX hr hf => by
        have h := requal_any L1 L1 fv (.slice a1 ps.length c1) fs ps X hr (H1.out.grown (gb_same HGW.out hX))
        rw [hf, HOS.out, eqP_true] at h; exact h)
      have HVA : Hid (∀ X, W.grownBy X none → Calls Try.prog 24 #[.agg #[.int .i64 L1, (.slice ao os.length co)], .int .i64 n] X (BoolQ (validB n L1 (ps.map (·.1))) X)) := Lib.hid (fun X hX => by
        have h := valid_any n L1 _ os X (HCO.out.grown (gb_same HGX.out hX)) hn
        rw [HOS.out] at h; exact h)
      have HRV : Hid (∀ X, W.grownBy X none → Calls Try.prog 25 #[.agg #[.int .i64 L1, (.slice a1 ps.length c1)], .int .i64 n] X (BoolQ (validB n L1 (ps.map (·.1))) X)) := Lib.hid (fun X hX =>
        rvalid_any n L1 _ ps X (H1.out.grown (gb_same HGW.out hX)) hn hp1)
      have HTO : Hid (∀ X, W.grownBy X none → Calls Try.prog 21 #[.agg #[.int .i64 L2, (.slice a2 qs.length c2)]] X (toP X L2 (qs.map (·.1)))) := Lib.hid (fun X hX =>
        to_any L2 _ qs X (H2.out.grown (gb_same HGW.out hX)) (by have := HFW2.out.2.1; simp at this; omega) (fun p hp => by have := HFW2.out.2.2 p.1 (List.mem_map_of_mem hp); omega))
      have HPE : Hid (∀ X tv ts, W.grownBy X none → RdCs X tv ts → ts.map (·.1) = qs.map (·.1) → Calls Try.prog 26 #[.agg #[.int .i64 L1, (.slice ao os.length co)], .agg #[.int .i64 L2, tv]] X (BoolQ (eqP L1 L2 (ps.map (·.1)) (qs.map (·.1))) X)) := Lib.hid (fun X tv ts hX hr hf => by
        have h := pequal_any L1 L2 (.slice ao os.length co) tv os ts X (HCO.out.grown (gb_same HGX.out hX)) hr
        rw [hf, HOS.out] at h; exact h)
      have HE2 : Hid (∀ X, W.grownBy X none → Calls Try.prog 18 #[.agg #[.int .i64 L1, (.slice a1 ps.length c1)], .agg #[.int .i64 L2, (.slice a2 qs.length c2)]] X (BoolQ (eqP L1 L2 (ps.map (·.1)) (qs.map (·.1))) X)) := Lib.hid (fun X hX =>
        requal_any L1 L2 _ _ ps qs X (H1.out.grown (gb_same HGW.out hX)) (H2.out.grown (gb_same HGW.out hX)))
      clear u0 u1 u2 u3 u4 u5
      generalize validB n L1 (ps.map (·.1)) = bv at *
      generalize eqP L1 L2 (ps.map (·.1)) (qs.map (·.1)) = be at *
      have zv : (bv == bv) = true := by simp
      have ze : (be == be) = true := by simp
      go_region_held3 (fun w' => w'.cell? ⟨bp, 0, none⟩ = some (.int .i64 L1) ∧ w'.cell? ⟨bp, 1, none⟩ = some (.slice a1 ps.length c1) ∧ w'.cell? ⟨bq, 0, none⟩ = some (.int .i64 L2) ∧ w'.cell? ⟨bq, 1, none⟩ = some (.slice a2 qs.length c2) ∧ w'.cell? ⟨w7.heap.size, 0, none⟩ = some (.int .i64 L1) ∧ w'.cell? ⟨w7.heap.size, 1, none⟩ = some (.slice ao os.length co) ∧ (convert 22 9 (.slice ab 0 cb)).run Try.prog w' = .ok (.string (str r)) w' ∧ (convert 22 9 (.slice ac 0 cc)).run Try.prog w' = .ok (.string (str r)) w' ∧ (convert 22 9 (.slice ai a.length ci)).run Try.prog w' = .ok (.string (str a)) w' ∧ (convert 22 9 (.slice aa a.length ca)).run Try.prog w' = .ok (.string (str a)) w') (go_keep) (first | (go_at_call 19; (with_reducible refine (HFR.out _ (gb_drew _ _)).mono ?_); go_must (rintro e f1 ⟨fv, fs, rfl, hfs, hcf, hgf⟩; obtain ⟨af, cf, rfl⟩ := hcf.slice; have HGA : Hid (W.grownBy f1 none) := Lib.hid (gb_same (gb_drew _ _) hgf); have k0 := HGA.out.cell d0 (by simp); have k1 := HGA.out.cell d1 (by simp); have k2 := HGA.out.cell d2 (by simp); have k3 := HGA.out.cell d3 (by simp); have k4 := HGA.out.cell d4 (by simp); have k5 := HGA.out.cell d5 (by simp); have kz0 := Z1.out _ HGA.out; have kz1 := Z2.out _ HGA.out; have kz2 := Z3.out _ HGA.out; have kz3 := Z4.out _ HGA.out; have HFS := Lib.hid hfs; have HCF := Lib.hid hcf; clear hfs hcf hgf)) | (go_at_call 18; (with_reducible refine (HEQ.out _ _ fs HGA.out HCF.out.rd HFS.out).mono ?_); go_must (rintro e f2 ⟨rfl, hgf⟩;  have HGB : Hid (W.grownBy f2 none) := Lib.hid (gb_same HGA.out hgf); have m0 := HGB.out.cell d0 (by simp); have m1 := HGB.out.cell d1 (by simp); have m2 := HGB.out.cell d2 (by simp); have m3 := HGB.out.cell d3 (by simp); have m4 := HGB.out.cell d4 (by simp); have m5 := HGB.out.cell d5 (by simp); have mz0 := Z1.out _ HGB.out; have mz1 := Z2.out _ HGB.out; have mz2 := Z3.out _ HGB.out; have mz3 := Z4.out _ HGB.out;  clear hgf)) | (go_at_call 24; (with_reducible refine (HVA.out _ HGB.out).mono ?_); go_must (rintro e f3 ⟨rfl, hgf⟩;  have HGC : Hid (W.grownBy f3 none) := Lib.hid (gb_same HGB.out hgf); have n0 := HGC.out.cell d0 (by simp); have n1 := HGC.out.cell d1 (by simp); have n2 := HGC.out.cell d2 (by simp); have n3 := HGC.out.cell d3 (by simp); have n4 := HGC.out.cell d4 (by simp); have n5 := HGC.out.cell d5 (by simp); have nz0 := Z1.out _ HGC.out; have nz1 := Z2.out _ HGC.out; have nz2 := Z3.out _ HGC.out; have nz3 := Z4.out _ HGC.out;  clear hgf)) | (go_at_call 25; (with_reducible refine (HRV.out _ HGC.out).mono ?_); go_must (rintro e f4 ⟨rfl, hgf⟩;  have HGD : Hid (W.grownBy f4 none) := Lib.hid (gb_same HGC.out hgf); have o0 := HGD.out.cell d0 (by simp); have o1 := HGD.out.cell d1 (by simp); have o2 := HGD.out.cell d2 (by simp); have o3 := HGD.out.cell d3 (by simp); have o4 := HGD.out.cell d4 (by simp); have o5 := HGD.out.cell d5 (by simp); have oz0 := Z1.out _ HGD.out; have oz1 := Z2.out _ HGD.out; have oz2 := Z3.out _ HGD.out; have oz3 := Z4.out _ HGD.out;  clear hgf)) | (go_at_call 21; (with_reducible refine (HTO.out _ HGD.out).mono ?_); go_must (rintro e f5 ⟨tv, ts, rfl, hts, hct, hgf⟩; obtain ⟨at5, ct5, rfl⟩ := hct.slice; have HGE : Hid (W.grownBy f5 none) := Lib.hid (gb_same HGD.out hgf); have p0 := HGE.out.cell d0 (by simp); have p1 := HGE.out.cell d1 (by simp); have p2 := HGE.out.cell d2 (by simp); have p3 := HGE.out.cell d3 (by simp); have p4 := HGE.out.cell d4 (by simp); have p5 := HGE.out.cell d5 (by simp); have pz0 := Z1.out _ HGE.out; have pz1 := Z2.out _ HGE.out; have pz2 := Z3.out _ HGE.out; have pz3 := Z4.out _ HGE.out; have HTS := Lib.hid hts; have HCT := Lib.hid hct; clear hts hct hgf)) | (go_at_call 26; (with_reducible refine (HPE.out _ _ ts HGE.out HCT.out.rd HTS.out).mono ?_); go_must (rintro e f6 ⟨rfl, hgf⟩;  have HGF : Hid (W.grownBy f6 none) := Lib.hid (gb_same HGE.out hgf); have q0 := HGF.out.cell d0 (by simp); have q1 := HGF.out.cell d1 (by simp); have q2 := HGF.out.cell d2 (by simp); have q3 := HGF.out.cell d3 (by simp); have q4 := HGF.out.cell d4 (by simp); have q5 := HGF.out.cell d5 (by simp); have qz0 := Z1.out _ HGF.out; have qz1 := Z2.out _ HGF.out; have qz2 := Z3.out _ HGF.out; have qz3 := Z4.out _ HGF.out;  clear hgf)) | (go_at_call 18; (with_reducible refine (HE2.out _ HGF.out).mono ?_); go_must (rintro e f7 ⟨rfl, hgf⟩;  have HGH : Hid (W.grownBy f7 none) := Lib.hid (gb_same HGF.out hgf); have r0 := HGH.out.cell d0 (by simp); have r1 := HGH.out.cell d1 (by simp); have r2 := HGH.out.cell d2 (by simp); have r3 := HGH.out.cell d3 (by simp); have r4 := HGH.out.cell d4 (by simp); have r5 := HGH.out.cell d5 (by simp); have rz0 := Z1.out _ HGH.out; have rz1 := Z2.out _ HGH.out; have rz2 := Z3.out _ HGH.out; have rz3 := Z4.out _ HGH.out;  clear hgf)))
      all_goals
        go_wp2
        first | (go_ret; exact ⟨rfl, gb_same HGW.out HGH.out⟩) | exact ⟨rfl, gb_same HGW.out HGH.out⟩
    · obtain ⟨g1, cb, rfl, hgb1, hgb2⟩ := hob.at hr
      obtain ⟨g2, cc, rfl, hgc1, hgc2⟩ := hoc.at hr
      obtain ⟨x, r0, hxr⟩ : ∃ x r0, r = x :: r0 := List.exists_cons_of_ne_nil hr
      have hx : r[0]? = some x := by rw [hxr]; rfl
      have hne : g1 ≠ g2 := by omega
      have hpos : 0 < r.length := List.length_pos_iff.2 hr
      have hd2 : decide ((0 : Int) < r.length) = true := by simp; omega
      have HOB := Lib.hid (hob.grown HG10.out)
      have HOC := Lib.hid hoc
      have HX := Lib.hid (inc_u8 x)
      have HLR : Hid ((r.set 0 (x + 1)).length = r.length) := Lib.hid (List.length_set ..)
      have j0 := HOB.out.cellAt rfl 0 x hx
      have j1 := HOB.out.frozenAt rfl 0
      have j2 := HOC.out.cellAt rfl 0 x hx
      have j3 := HOC.out.frozenAt rfl 0
      have hg8s := HG9.out.size
      clear hob hoc hxr hx hr
      go_wp2_with fail
      rw [HX.out]
      obtain ⟨W1, hW1⟩ : ∃ W1, W1 = w10.setCell ⟨g1, 0, none⟩ (.int .u8 ((x + 1).toNat : Int)) := ⟨_, rfl⟩
      rw [← hW1]
      obtain ⟨W, hW⟩ : ∃ W, W = W1.setCell ⟨g2, 0, none⟩ (.int .u8 ((x + 1).toNat : Int)) := ⟨_, rfl⟩
      rw [← hW]
      have hs1 : w10.grownBy W1 (some g1) := by rw [hW1]; exact gb_setCell _ _ _
      have hs2 : W1.grownBy W (some g2) := by rw [hW]; exact gb_setCell _ _ _
      have HGX : Hid (w8.grownBy W none) := Lib.hid (gb_trans (gb_trans (gb_same HG9.out HG10.out) hs1 (fun k hk => .inr (by cases hk; omega))) hs2 (fun k hk => .inr (by cases hk; omega)))
      have hob2 : Own W1 w8.heap.size (.slice (some ⟨g1, 0, none⟩) r.length cb) (r.set 0 (x + 1)) := by rw [hW1]; exact HOB.out.set rfl 0 _
      have hoc2 : Own W1 w9.heap.size (.slice (some ⟨g2, 0, none⟩) r.length cc) r := HOC.out.kept hs1 (fun k hk => by cases hk; simp; omega)
      have hoc3 : Own W w9.heap.size (.slice (some ⟨g2, 0, none⟩) r.length cc) (r.set 0 (x + 1)) := by rw [hW]; exact hoc2.set rfl 0 _
      have HRb0 : Hid (Rd W (.slice (some ⟨g1, 0, none⟩) r.length cb) (r.set 0 (x + 1))) := Lib.hid (hob2.kept hs2 (fun k hk => by cases hk; simp; omega)).rd
      have HRc0 : Hid (Rd W (.slice (some ⟨g2, 0, none⟩) r.length cc) (r.set 0 (x + 1))) := Lib.hid hoc3.rd
      have HRb := HRb0
      have HRc := HRc0
      clear HRb0 HRc0 hob2 hoc2 hoc3 hs1 hs2 hW hW1 j0 j1 j2 j3 HOB HOC HX HG9 HG10 hne hpos hd2 hg8s hgb1 hgb2 hgc1 hgc2
      generalize r.length = nr at *
      generalize r.set 0 (x + 1) = r at *
      have HGW : Hid (w.grownBy W none) := Lib.hid (gb_same HG8.out HGX.out)
      have d0 := HGX.out.cell u0 (by simp)
      have d1 := HGX.out.cell u1 (by simp)
      have d2 := HGX.out.cell u2 (by simp)
      have d3 := HGX.out.cell u3 (by simp)
      have d4 := HGX.out.cell u4 (by simp)
      have d5 := HGX.out.cell u5 (by simp)
      have Z1 : Hid (∀ X, W.grownBy X none → (convert 22 9 (.slice (some ⟨g1, 0, none⟩) nr cb)).run Try.prog X = .ok (.string (str r)) X) := Lib.hid (fun X hX => run_toString X _ r (HRb.out.grown hX))
      have Z2 : Hid (∀ X, W.grownBy X none → (convert 22 9 (.slice (some ⟨g2, 0, none⟩) nr cc)).run Try.prog X = .ok (.string (str r)) X) := Lib.hid (fun X hX => run_toString X _ r (HRc.out.grown hX))
      have Z3 : Hid (∀ X, W.grownBy X none → (convert 22 9 (.slice ai a.length ci)).run Try.prog X = .ok (.string (str a)) X) := Lib.hid (fun X hX => run_toString X _ a ((HOI.out.grown HGX.out).grown hX))
      have Z4 : Hid (∀ X, W.grownBy X none → (convert 22 9 (.slice aa a.length ca)).run Try.prog X = .ok (.string (str a)) X) := Lib.hid (fun X hX => run_toString X _ a ((HA.out.grown HGW.out).grown hX))
      have z1 := Z1.out W (gb_refl _ _)
      have z2 := Z2.out W (gb_refl _ _)
      have z3 := Z3.out W (gb_refl _ _)
      have z4 := Z4.out W (gb_refl _ _)
      have y1 := Z1.out W.drew (gb_drew _ _)
      have y2 := Z2.out W.drew (gb_drew _ _)
      have y3 := Z3.out W.drew (gb_drew _ _)
      have y4 := Z4.out W.drew (gb_drew _ _)
      have zr : ((str r).toList == (str r).toList) = true := by simp
      have za : ((str a).toList == (str a).toList) = true := by simp
      have HFR : Hid (∀ X, W.grownBy X none → Calls Try.prog 19 #[.agg #[.int .i64 L1, (.slice ao os.length co)]] X (fromP X L1 (os.map (·.1)))) := Lib.hid (fun X hX =>
        from_any L1 _ os X (HCO.out.grown (gb_same HGX.out hX)) (by have := congrArg List.length HOS.out; have := HFW1.out.2.1; simp at *; omega) (fun p hp => by have := HFW1.out.2.2 p.1 (by rw [← HOS.out]; exact List.mem_map_of_mem hp); omega))
      have HEQ : Hid (∀ X fv fs, W.grownBy X none → RdCs X fv fs → fs.map (·.1) = os.map (·.1) → Calls Try.prog 18 #[.agg #[.int .i64 L1, fv], .agg #[.int .i64 L1, (.slice a1 ps.length c1)]] X (BoolQ true X)) := Lib.hid (fun X fv fs hX hr hf => by
        have h := requal_any L1 L1 fv (.slice a1 ps.length c1) fs ps X hr (H1.out.grown (gb_same HGW.out hX))
        rw [hf, HOS.out, eqP_true] at h; exact h)
      have HVA : Hid (∀ X, W.grownBy X none → Calls Try.prog 24 #[.agg #[.int .i64 L1, (.slice ao os.length co)], .int .i64 n] X (BoolQ (validB n L1 (ps.map (·.1))) X)) := Lib.hid (fun X hX => by
        have h := valid_any n L1 _ os X (HCO.out.grown (gb_same HGX.out hX)) hn
        rw [HOS.out] at h; exact h)
      have HRV : Hid (∀ X, W.grownBy X none → Calls Try.prog 25 #[.agg #[.int .i64 L1, (.slice a1 ps.length c1)], .int .i64 n] X (BoolQ (validB n L1 (ps.map (·.1))) X)) := Lib.hid (fun X hX =>
        rvalid_any n L1 _ ps X (H1.out.grown (gb_same HGW.out hX)) hn hp1)
      have HTO : Hid (∀ X, W.grownBy X none → Calls Try.prog 21 #[.agg #[.int .i64 L2, (.slice a2 qs.length c2)]] X (toP X L2 (qs.map (·.1)))) := Lib.hid (fun X hX =>
        to_any L2 _ qs X (H2.out.grown (gb_same HGW.out hX)) (by have := HFW2.out.2.1; simp at this; omega) (fun p hp => by have := HFW2.out.2.2 p.1 (List.mem_map_of_mem hp); omega))
      have HPE : Hid (∀ X tv ts, W.grownBy X none → RdCs X tv ts → ts.map (·.1) = qs.map (·.1) → Calls Try.prog 26 #[.agg #[.int .i64 L1, (.slice ao os.length co)], .agg #[.int .i64 L2, tv]] X (BoolQ (eqP L1 L2 (ps.map (·.1)) (qs.map (·.1))) X)) := Lib.hid (fun X tv ts hX hr hf => by
        have h := pequal_any L1 L2 (.slice ao os.length co) tv os ts X (HCO.out.grown (gb_same HGX.out hX)) hr
        rw [hf, HOS.out] at h; exact h)
      have HE2 : Hid (∀ X, W.grownBy X none → Calls Try.prog 18 #[.agg #[.int .i64 L1, (.slice a1 ps.length c1)], .agg #[.int .i64 L2, (.slice a2 qs.length c2)]] X (BoolQ (eqP L1 L2 (ps.map (·.1)) (qs.map (·.1))) X)) := Lib.hid (fun X hX =>
        requal_any L1 L2 _ _ ps qs X (H1.out.grown (gb_same HGW.out hX)) (H2.out.grown (gb_same HGW.out hX)))
      clear u0 u1 u2 u3 u4 u5
      generalize validB n L1 (ps.map (·.1)) = bv at *
      generalize eqP L1 L2 (ps.map (·.1)) (qs.map (·.1)) = be at *
      have zv : (bv == bv) = true := by simp
      have ze : (be == be) = true := by simp
      go_region_held3 (fun w' => w'.cell? ⟨bp, 0, none⟩ = some (.int .i64 L1) ∧ w'.cell? ⟨bp, 1, none⟩ = some (.slice a1 ps.length c1) ∧ w'.cell? ⟨bq, 0, none⟩ = some (.int .i64 L2) ∧ w'.cell? ⟨bq, 1, none⟩ = some (.slice a2 qs.length c2) ∧ w'.cell? ⟨w7.heap.size, 0, none⟩ = some (.int .i64 L1) ∧ w'.cell? ⟨w7.heap.size, 1, none⟩ = some (.slice ao os.length co) ∧ (convert 22 9 (.slice (some ⟨g1, 0, none⟩) nr cb)).run Try.prog w' = .ok (.string (str r)) w' ∧ (convert 22 9 (.slice (some ⟨g2, 0, none⟩) nr cc)).run Try.prog w' = .ok (.string (str r)) w' ∧ (convert 22 9 (.slice ai a.length ci)).run Try.prog w' = .ok (.string (str a)) w' ∧ (convert 22 9 (.slice aa a.length ca)).run Try.prog w' = .ok (.string (str a)) w') (go_keep) (first | (go_at_call 19; (with_reducible refine (HFR.out _ (gb_drew _ _)).mono ?_); go_must (rintro e f1 ⟨fv, fs, rfl, hfs, hcf, hgf⟩; obtain ⟨af, cf, rfl⟩ := hcf.slice; have HGA : Hid (W.grownBy f1 none) := Lib.hid (gb_same (gb_drew _ _) hgf); have k0 := HGA.out.cell d0 (by simp); have k1 := HGA.out.cell d1 (by simp); have k2 := HGA.out.cell d2 (by simp); have k3 := HGA.out.cell d3 (by simp); have k4 := HGA.out.cell d4 (by simp); have k5 := HGA.out.cell d5 (by simp); have kz0 := Z1.out _ HGA.out; have kz1 := Z2.out _ HGA.out; have kz2 := Z3.out _ HGA.out; have kz3 := Z4.out _ HGA.out; have HFS := Lib.hid hfs; have HCF := Lib.hid hcf; clear hfs hcf hgf)) | (go_at_call 18; (with_reducible refine (HEQ.out _ _ fs HGA.out HCF.out.rd HFS.out).mono ?_); go_must (rintro e f2 ⟨rfl, hgf⟩;  have HGB : Hid (W.grownBy f2 none) := Lib.hid (gb_same HGA.out hgf); have m0 := HGB.out.cell d0 (by simp); have m1 := HGB.out.cell d1 (by simp); have m2 := HGB.out.cell d2 (by simp); have m3 := HGB.out.cell d3 (by simp); have m4 := HGB.out.cell d4 (by simp); have m5 := HGB.out.cell d5 (by simp); have mz0 := Z1.out _ HGB.out; have mz1 := Z2.out _ HGB.out; have mz2 := Z3.out _ HGB.out; have mz3 := Z4.out _ HGB.out;  clear hgf)) | (go_at_call 24; (with_reducible refine (HVA.out _ HGB.out).mono ?_); go_must (rintro e f3 ⟨rfl, hgf⟩;  have HGC : Hid (W.grownBy f3 none) := Lib.hid (gb_same HGB.out hgf); have n0 := HGC.out.cell d0 (by simp); have n1 := HGC.out.cell d1 (by simp); have n2 := HGC.out.cell d2 (by simp); have n3 := HGC.out.cell d3 (by simp); have n4 := HGC.out.cell d4 (by simp); have n5 := HGC.out.cell d5 (by simp); have nz0 := Z1.out _ HGC.out; have nz1 := Z2.out _ HGC.out; have nz2 := Z3.out _ HGC.out; have nz3 := Z4.out _ HGC.out;  clear hgf)) | (go_at_call 25; (with_reducible refine (HRV.out _ HGC.out).mono ?_); go_must (rintro e f4 ⟨rfl, hgf⟩;  have HGD : Hid (W.grownBy f4 none) := Lib.hid (gb_same HGC.out hgf); have o0 := HGD.out.cell d0 (by simp); have o1 := HGD.out.cell d1 (by simp); have o2 := HGD.out.cell d2 (by simp); have o3 := HGD.out.cell d3 (by simp); have o4 := HGD.out.cell d4 (by simp); have o5 := HGD.out.cell d5 (by simp); have oz0 := Z1.out _ HGD.out; have oz1 := Z2.out _ HGD.out; have oz2 := Z3.out _ HGD.out; have oz3 := Z4.out _ HGD.out;  clear hgf)) | (go_at_call 21; (with_reducible refine (HTO.out _ HGD.out).mono ?_); go_must (rintro e f5 ⟨tv, ts, rfl, hts, hct, hgf⟩; obtain ⟨at5, ct5, rfl⟩ := hct.slice; have HGE : Hid (W.grownBy f5 none) := Lib.hid (gb_same HGD.out hgf); have p0 := HGE.out.cell d0 (by simp); have p1 := HGE.out.cell d1 (by simp); have p2 := HGE.out.cell d2 (by simp); have p3 := HGE.out.cell d3 (by simp); have p4 := HGE.out.cell d4 (by simp); have p5 := HGE.out.cell d5 (by simp); have pz0 := Z1.out _ HGE.out; have pz1 := Z2.out _ HGE.out; have pz2 := Z3.out _ HGE.out; have pz3 := Z4.out _ HGE.out; have HTS := Lib.hid hts; have HCT := Lib.hid hct; clear hts hct hgf)) | (go_at_call 26; (with_reducible refine (HPE.out _ _ ts HGE.out HCT.out.rd HTS.out).mono ?_); go_must (rintro e f6 ⟨rfl, hgf⟩;  have HGF : Hid (W.grownBy f6 none) := Lib.hid (gb_same HGE.out hgf); have q0 := HGF.out.cell d0 (by simp); have q1 := HGF.out.cell d1 (by simp); have q2 := HGF.out.cell d2 (by simp); have q3 := HGF.out.cell d3 (by simp); have q4 := HGF.out.cell d4 (by simp); have q5 := HGF.out.cell d5 (by simp); have qz0 := Z1.out _ HGF.out; have qz1 := Z2.out _ HGF.out; have qz2 := Z3.out _ HGF.out; have qz3 := Z4.out _ HGF.out;  clear hgf)) | (go_at_call 18; (with_reducible refine (HE2.out _ HGF.out).mono ?_); go_must (rintro e f7 ⟨rfl, hgf⟩;  have HGH : Hid (W.grownBy f7 none) := Lib.hid (gb_same HGF.out hgf); have r0 := HGH.out.cell d0 (by simp); have r1 := HGH.out.cell d1 (by simp); have r2 := HGH.out.cell d2 (by simp); have r3 := HGH.out.cell d3 (by simp); have r4 := HGH.out.cell d4 (by simp); have r5 := HGH.out.cell d5 (by simp); have rz0 := Z1.out _ HGH.out; have rz1 := Z2.out _ HGH.out; have rz2 := Z3.out _ HGH.out; have rz3 := Z4.out _ HGH.out;  clear hgf)))
      all_goals
        go_wp2
        first | (go_ret; exact ⟨rfl, gb_same HGW.out HGH.out⟩) | exact ⟨rfl, gb_same HGW.out HGH.out⟩
end Go.Proofs.Ytnkgoaloigmmfaa
