/-
  law.SumOf: the walk.
-/
import Derived.Test.YtbibgjkcapjgnaaSAwake
namespace Go.Proofs.Ytbibgjkcapjgnaa
open Go.RowKit

set_option maxRecDepth 100000 in
set_option maxHeartbeats 4000000 in
theorem sumOf_any (h : Nat) (v : Value) (l : List UInt8) (n0 n1 n2 : Int) (w : World) (hh : h < 18446744073709551616) (hv : Rd w v l) :
    Calls Try.prog 3 #[.int .u64 (h : Int), v, .agg #[.int .i64 n0, .int .i64 n1, .int .i64 n2]] w (BoolQ true w) := by
  have hs := hv.small
  obtain ⟨ad, c, rfl⟩ := hv.len
  have HV := Lib.hid hv
  have HH := Lib.hid hh
  clear hv hh
  by_cases h600 : 600 < l.length
  · go_enter Try.func3, Try.ntmps3
    go_wp2_with fail
    refine (awake_any _).mono ?_; rintro e w1 ⟨rfl, hg1⟩
    have hd : decide ((600 : Int) < (l.length : Int)) = true := decide_eq_true (by omega)
    have hd' : decide (600 < l.length) = true := decide_eq_true h600
    go_wp2
    go_quiet (fail)
    go_wp2
    go_ret
    exact ⟨rfl, gb_same (gb_same (gb_alloc _ _ _) hg1) (gb_drewN _ _ _)⟩
  · obtain ⟨w0, hw0⟩ : ∃ W, W = w.alloc (Obj.cells #[.int .i64 n0, .int .i64 n1, .int .i64 n2] 24) := ⟨_, rfl⟩
    have HB : Hid (w0.heap[w.heap.size]? = some (Obj.cells #[.int .i64 n0, .int .i64 n1, .int .i64 n2] 24)) := Lib.hid (by rw [hw0]; exact heap_at_alloc _ _)
    have HG0 : Hid (w.grownBy w0 none) := Lib.hid (by rw [hw0]; exact gb_alloc _ _ _)
    have HW := Lib.hid hw0
    clear hw0
    go_enter Try.func3, Try.ntmps3
    go_wp2_with fail
    rw [← HW.out]
    refine (awake_any _).mono ?_; rintro e w1 ⟨rfl, hg1⟩
    have HG1 := Lib.hid (gb_same HG0.out hg1)
    have c0 := cell_row (j := 0) (blk_kept HB.out hg1)
    have c1 := cell_row (j := 1) (blk_kept HB.out hg1)
    have c2 := cell_row (j := 2) (blk_kept HB.out hg1)
    clear hg1
    have hd : decide ((600 : Int) < (l.length : Int)) = false := decide_eq_false (by omega)
    have hd' : decide (600 < l.length) = false := decide_eq_false h600
    have HGD := Lib.hid (gb_same HG1.out (gb_drew _ none))
    have H1 := Lib.hid (from_any h _ l w1.drew HH.out (HV.out.grown HGD.out))
    have H2 := Lib.hid (rfrom_any h _ l w1.drew HH.out (HV.out.grown HGD.out))
    have H3 := Lib.hid (of_any _ l w1.drew (HV.out.grown HGD.out))
    have H4 := Lib.hid (rof_any _ l w1.drew (HV.out.grown HGD.out))
    have HDG := Lib.hid (fun W => digits_any h W HH.out)
    have HRD := Lib.hid (fun W => rdigits_any h W HH.out)
    go_wp2_with fail
    go_region_held3 (fun w' => w'.cell? ⟨w.heap.size, 0, none⟩ = some (.int .i64 n0) ∧ w'.cell? ⟨w.heap.size, 1, none⟩ = some (.int .i64 n1) ∧ w'.cell? ⟨w.heap.size, 2, none⟩ = some (.int .i64 n2)) (go_keep) (first | (go_at_call 10; go_must (refine H1.out.mono ?_; rintro e w' ⟨rfl, rfl⟩)) | (go_at_call 11; go_must (refine H2.out.mono ?_; rintro e w' ⟨rfl, rfl⟩)) | (go_at_call 12; go_must (refine H3.out.mono ?_; rintro e w' ⟨rfl, rfl⟩)) | (go_at_call 13; go_must (refine H4.out.mono ?_; rintro e w2 ⟨rfl, hg2⟩; have d0 : w2.cell? ⟨w.heap.size, 0, none⟩ = some (.int .i64 n0) := hg2.cell (show w1.drew.cell? _ = _ from c0) (by simp); have d1 : w2.cell? ⟨w.heap.size, 1, none⟩ = some (.int .i64 n1) := hg2.cell (show w1.drew.cell? _ = _ from c1) (by simp); have d2 : w2.cell? ⟨w.heap.size, 2, none⟩ = some (.int .i64 n2) := hg2.cell (show w1.drew.cell? _ = _ from c2) (by simp); have HG2 := Lib.hid (gb_same HGD.out hg2); have H5 := Lib.hid (answer_any n0 n1 n2 _ l w2 (HV.out.grown HG2.out)); have H6 := Lib.hid (ranswer_any n0 n1 n2 _ l w2 (HV.out.grown HG2.out)); clear hg2)) | (go_at_call 14; go_must (refine H5.out.mono ?_; rintro e w' ⟨rfl, rfl⟩)) | (go_at_call 15; go_must (refine H6.out.mono ?_; rintro e w3 ⟨rfl, hg3⟩; have e0 : w3.cell? ⟨w.heap.size, 0, none⟩ = some (.int .i64 n0) := hg3.cell d0 (by simp); have e1 : w3.cell? ⟨w.heap.size, 1, none⟩ = some (.int .i64 n1) := hg3.cell d1 (by simp); have e2 : w3.cell? ⟨w.heap.size, 2, none⟩ = some (.int .i64 n2) := hg3.cell d2 (by simp); have HG3 := Lib.hid (gb_same HG2.out hg3); clear hg3)) | (go_at_call 16; go_must (refine (HDG.out _).mono ?_; rintro e w4 ⟨rfl, hg4⟩; have f0 : w4.cell? ⟨w.heap.size, 0, none⟩ = some (.int .i64 n0) := hg4.cell e0 (by simp); have f1 : w4.cell? ⟨w.heap.size, 1, none⟩ = some (.int .i64 n1) := hg4.cell e1 (by simp); have f2 : w4.cell? ⟨w.heap.size, 2, none⟩ = some (.int .i64 n2) := hg4.cell e2 (by simp); have HG4 := Lib.hid (gb_same HG3.out hg4); clear hg4)) | (go_at_call 17; go_must (refine (HRD.out _).mono ?_; rintro e w5 ⟨rfl, hg5⟩; have g0 : w5.cell? ⟨w.heap.size, 0, none⟩ = some (.int .i64 n0) := hg5.cell f0 (by simp); have g1 : w5.cell? ⟨w.heap.size, 1, none⟩ = some (.int .i64 n1) := hg5.cell f1 (by simp); have g2 : w5.cell? ⟨w.heap.size, 2, none⟩ = some (.int .i64 n2) := hg5.cell f2 (by simp); have HG5 := Lib.hid (gb_same HG4.out hg5); clear hg5)))
    go_wp2
    go_ret
    exact ⟨rfl, HG5.out⟩
end Go.Proofs.Ytbibgjkcapjgnaa
