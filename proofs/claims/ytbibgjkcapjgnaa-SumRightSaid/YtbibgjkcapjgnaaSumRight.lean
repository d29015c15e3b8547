/-
  law.SumRight: the walk.
-/
import Derived.Test.YtbibgjkcapjgnaaSAwake
namespace Go.Proofs.Ytbibgjkcapjgnaa
open Go.RowKit

theorem sz_msg : (Try.prog.info? 39).map (·.size) = some 9 := by kernel_rfl

theorem nine {W : World} {b n c : Nat} {ad : Option Addr} {t : TypeId} {z0 z1 z2 z3 z4 z5 z6 z7 : Int} (h : W.heap[b]? = some (Obj.cells #[.int .i64 z0, .int .i64 z1, .int .i64 z2, .int .i64 z3, .int .i64 z4, .int .i64 z5, .int .i64 z6, .int .i64 z7, .slice ad n c] t)) :
    W.cell? ⟨b, 0, none⟩ = some (.int .i64 z0) ∧ W.cell? ⟨b, 1, none⟩ = some (.int .i64 z1) ∧ W.cell? ⟨b, 2, none⟩ = some (.int .i64 z2) ∧ W.cell? ⟨b, 3, none⟩ = some (.int .i64 z3) ∧ W.cell? ⟨b, 4, none⟩ = some (.int .i64 z4) ∧ W.cell? ⟨b, 5, none⟩ = some (.int .i64 z5) ∧ W.cell? ⟨b, 6, none⟩ = some (.int .i64 z6) ∧ W.cell? ⟨b, 7, none⟩ = some (.int .i64 z7) ∧ W.cell? ⟨b, 8, none⟩ = some (.slice ad n c) :=
  ⟨cell_row h, cell_row h, cell_row h, cell_row h, cell_row h, cell_row h, cell_row h, cell_row h, cell_row h⟩

set_option maxRecDepth 100000 in
set_option maxHeartbeats 4000000 in
theorem sumRight_any (z0 z1 z2 z3 z4 z5 z6 z7 : Int) (dv : Value) (l : List UInt8) (w : World) (hv : Rd w dv l) :
    Calls Try.prog 6 #[msgV z0 z1 z2 z3 z4 z5 z6 z7 dv] w (BoolQ true w) := by
  have hs := hv.small
  obtain ⟨ad, c, rfl⟩ := hv.len
  obtain ⟨w0, hw0⟩ : ∃ W, W = w.alloc (Obj.cells #[.int .i64 z0, .int .i64 z1, .int .i64 z2, .int .i64 z3, .int .i64 z4, .int .i64 z5, .int .i64 z6, .int .i64 z7, .slice ad l.length c] 39) := ⟨_, rfl⟩
  have HB : Hid (w0.heap[w.heap.size]? = some (Obj.cells #[.int .i64 z0, .int .i64 z1, .int .i64 z2, .int .i64 z3, .int .i64 z4, .int .i64 z5, .int .i64 z6, .int .i64 z7, .slice ad l.length c] 39)) := Lib.hid (by rw [hw0]; exact heap_at_alloc _ _)
  have HG0 : Hid (w.grownBy w0 none) := Lib.hid (by rw [hw0]; exact gb_alloc _ _ _)
  have HW := Lib.hid hw0
  have HV := Lib.hid hv
  clear hw0 hv
  unfold msgV
  go_enter Try.func6, Try.ntmps6
  go_wp2_with fail
  rw [← HW.out]
  refine (awake_any _).mono ?_; rintro e w1 ⟨rfl, hg1⟩
  have HB1 := Lib.hid (blk_kept HB.out hg1)
  have HG1 := Lib.hid (gb_same HG0.out hg1)
  clear hg1 HB HG0 HW
  have c8 : w1.cell? ⟨w.heap.size, 8, none⟩ = some (.slice ad l.length c) := cell_row HB1.out
  by_cases h600 : 600 < l.length
  · go_wp2
    go_ret
    exact ⟨rfl, HG1.out⟩
  · have HGD := Lib.hid (gb_same HG1.out (gb_drew _ none))
    have H1 := Lib.hid (right_any z0 z1 z2 z3 z4 z5 z6 z7 _ l w1.drew (HV.out.grown HGD.out))
    unfold msgV at H1
    obtain ⟨c0, c1, c2, c3, c4, c5, c6, c7, _⟩ := nine HB1.out
    go_wp2_with fail
    go_region_held3 (fun w' => w'.cell? ⟨w.heap.size, 0, none⟩ = some (.int .i64 z0) ∧ w'.cell? ⟨w.heap.size, 1, none⟩ = some (.int .i64 z1) ∧ w'.cell? ⟨w.heap.size, 2, none⟩ = some (.int .i64 z2) ∧ w'.cell? ⟨w.heap.size, 3, none⟩ = some (.int .i64 z3) ∧ w'.cell? ⟨w.heap.size, 4, none⟩ = some (.int .i64 z4) ∧ w'.cell? ⟨w.heap.size, 5, none⟩ = some (.int .i64 z5) ∧ w'.cell? ⟨w.heap.size, 6, none⟩ = some (.int .i64 z6) ∧ w'.cell? ⟨w.heap.size, 7, none⟩ = some (.int .i64 z7) ∧ w'.cell? ⟨w.heap.size, 8, none⟩ = some (.slice ad l.length c)) (go_keep) (first | (go_at_call 18; go_must (refine H1.out.mono ?_; rintro e w2 ⟨rfl, hg2⟩; have HB2 := Lib.hid (blk_kept (show w1.drew.heap[w.heap.size]? = _ from HB1.out) hg2); obtain ⟨d0, d1, d2, d3, d4, d5, d6, d7, d8⟩ := nine HB2.out; have HG2 := Lib.hid (gb_same HGD.out hg2); clear hg2; have H2 := Lib.hid (rright_any z0 z1 z2 z3 z4 z5 z6 z7 _ l w2 (HV.out.grown HG2.out)); unfold msgV at H2)) | (go_at_call 19; go_must (refine H2.out.mono ?_; rintro e w3 ⟨rfl, hg3⟩; have HB3 := Lib.hid (blk_kept HB2.out hg3); obtain ⟨e0, e1, e2, e3, e4, e5, e6, e7, e8⟩ := nine HB3.out; have HG3 := Lib.hid (gb_same HG2.out hg3); clear hg3)))
    have hfr : w3.frozen? ⟨w.heap.size, 7, none⟩ = false := frozen_of_row _ _ _ _ _ HB3.out
    have HA := Lib.hid (answer_any z4 z5 z6 _ l w3 (HV.out.grown HG3.out))
    have hrow4 := heap_setCell_same w3 w.heap.size 7 _ _ (.int .i64 (answer z4 z5 z6 l)) HB3.out
    simp only [List.setIfInBounds_toArray, List.set_cons_succ, List.set_cons_zero] at hrow4
    have HB4 := Lib.hid hrow4
    have HG4 := Lib.hid (gb_new HG3.out (gb_setCell w3 ⟨w.heap.size, 7, none⟩ (.int .i64 (answer z4 z5 z6 l))) (Nat.le_refl _))
    clear hrow4 d0 d1 d2 d3 d4 d5 d6 d7 d8 c0 c1 c2 c3 c4 c5 c6 c7 c8 H1 H2 HB1 HB2 HG2 HGD
    have hr := right_any z0 z1 z2 z3 z4 z5 z6 (answer z4 z5 z6 l) _ l (w3.setCell ⟨w.heap.size, 7, none⟩ (.int .i64 (answer z4 z5 z6 l))) (HV.out.grown HG4.out)
    rw [beq_self_eq_true] at hr
    unfold msgV at hr
    have HR := Lib.hid hr
    clear hr
    generalize answer z4 z5 z6 l = A at *
    go_wp2_with (first | (go_at_call 14; refine HA.out.mono ?_; rintro e w' ⟨rfl, rfl⟩) | fail)
    refine HR.out.mono ?_; rintro e w5 ⟨rfl, hg5⟩
    have HG5 := Lib.hid (gb_same HG4.out hg5)
    clear hg5
    go_wp2
    go_ret
    exact ⟨rfl, HG5.out⟩
end Go.Proofs.Ytbibgjkcapjgnaa
