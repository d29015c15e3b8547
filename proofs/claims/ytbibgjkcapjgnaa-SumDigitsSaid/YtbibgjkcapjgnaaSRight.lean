/-
  sum.Right, ref.Right: the walks.
-/
import Derived.Test.YtbibgjkcapjgnaaSRef
import Derived.Deep.QuietTactic
import Derived.BigQuiet
import Derived.Deep.DeepMust
import Derived.Deep.RegionHeld3
namespace Go.Proofs.Ytbibgjkcapjgnaa
open Go.RowKit

theorem quiet_mine {P : Program} {f : FuncId} {args : Array Value} {w : World} {n : Nat} {v : Value}
    (h : Calls P f args (w.drewN n) fun e w' => e = .returned v ∧ w.drewN n = w') : Calls P f args (w.drewN n) fun e w'' => e = .returned v ∧ ∃ m, w'' = w.drewN m :=
  h.mono fun _ _ ⟨he, hm⟩ => ⟨he, n, hm.symm⟩

/-- a message by value -/
def msgV (z0 z1 z2 z3 z4 z5 z6 z7 : Int) (dv : Value) : Value := .agg #[.int .i64 z0, .int .i64 z1, .int .i64 z2, .int .i64 z3, .int .i64 z4, .int .i64 z5, .int .i64 z6, .int .i64 z7, dv]

set_option maxRecDepth 100000 in
set_option maxHeartbeats 1000000 in
theorem right_any (z0 z1 z2 z3 z4 z5 z6 z7 : Int) (dv : Value) (l : List UInt8) (w : World) (hv : Rd w dv l) :
    Calls Try.prog 18 #[msgV z0 z1 z2 z3 z4 z5 z6 z7 dv] w (BoolQ (z7 == answer z4 z5 z6 l) w) := by
  unfold msgV
  obtain ⟨ad, c, rfl⟩ := hv.len
  have HV := Lib.hid (fun W (h : w.grownBy W none) => answer_any z4 z5 z6 _ l W (hv.grown h))
  clear hv
  go_enter Try.func18, Try.ntmps18
  go_wp2
  go_quiet ((go_at_call 14; exact quiet_mine (HV.out _ (gb_same (gb_alloc _ _ _) (gb_drewN _ _ _)))))
  go_wp2
  go_ret
  exact ⟨rfl, gb_same (gb_alloc _ _ _) (gb_drewN _ _ _)⟩

set_option maxRecDepth 100000 in
set_option maxHeartbeats 4000000 in
theorem rright_any (z0 z1 z2 z3 z4 z5 z6 z7 : Int) (dv : Value) (l : List UInt8) (w : World) (hv : Rd w dv l) :
    Calls Try.prog 19 #[msgV z0 z1 z2 z3 z4 z5 z6 z7 dv] w (BoolQ (z7 == answer z4 z5 z6 l) w) := by
  unfold msgV
  obtain ⟨ad, c, rfl⟩ := hv.len
  obtain ⟨w0, hw0⟩ : ∃ W, W = w.alloc (Obj.cells #[.int .i64 z0, .int .i64 z1, .int .i64 z2, .int .i64 z3, .int .i64 z4, .int .i64 z5, .int .i64 z6, .int .i64 z7, .slice ad l.length c] 39) := ⟨_, rfl⟩
  have HB : Hid (w0.heap[w.heap.size]? = some (Obj.cells #[.int .i64 z0, .int .i64 z1, .int .i64 z2, .int .i64 z3, .int .i64 z4, .int .i64 z5, .int .i64 z6, .int .i64 z7, .slice ad l.length c] 39)) := Lib.hid (by rw [hw0]; exact heap_at_alloc _ _)
  have hg0 : w.grownBy w0 none := by rw [hw0]; exact gb_alloc _ _ _
  have HC := Lib.hid (ranswer_any z4 z5 z6 _ l w0.drew (hv.grown (gb_same hg0 (gb_drew _ _))))
  have HG0 := Lib.hid hg0
  have HW := Lib.hid hw0
  clear hw0 hv hg0
  have c4 := cell_row (j := 4) HB.out
  have c5 := cell_row (j := 5) HB.out
  have c6 := cell_row (j := 6) HB.out
  have c7 := cell_row (j := 7) HB.out
  have c8 := cell_row (j := 8) HB.out
  go_enter Try.func19, Try.ntmps19
  go_wp2_with fail
  rw [← HW.out]
  go_region_held3 (fun w' => w'.cell? ⟨w.heap.size, 4, none⟩ = some (.int .i64 z4) ∧ w'.cell? ⟨w.heap.size, 5, none⟩ = some (.int .i64 z5) ∧ w'.cell? ⟨w.heap.size, 6, none⟩ = some (.int .i64 z6) ∧ w'.cell? ⟨w.heap.size, 7, none⟩ = some (.int .i64 z7) ∧ w'.cell? ⟨w.heap.size, 8, none⟩ = some (.slice ad l.length c)) (go_keep) (first | (go_at_call 15; go_must (refine HC.out.mono ?_; rintro e w1 ⟨rfl, hg1⟩; have HG1 := Lib.hid hg1; have d4 : w1.cell? ⟨w.heap.size, 4, none⟩ = some (.int .i64 z4) := hg1.cell (show w0.drew.cell? _ = _ from c4) (by simp); have d5 : w1.cell? ⟨w.heap.size, 5, none⟩ = some (.int .i64 z5) := hg1.cell (show w0.drew.cell? _ = _ from c5) (by simp); have d6 : w1.cell? ⟨w.heap.size, 6, none⟩ = some (.int .i64 z6) := hg1.cell (show w0.drew.cell? _ = _ from c6) (by simp); have d7 : w1.cell? ⟨w.heap.size, 7, none⟩ = some (.int .i64 z7) := hg1.cell (show w0.drew.cell? _ = _ from c7) (by simp); have d8 : w1.cell? ⟨w.heap.size, 8, none⟩ = some (.slice ad l.length c) := hg1.cell (show w0.drew.cell? _ = _ from c8) (by simp); clear hg1)))
  go_wp2
  go_ret
  exact ⟨rfl, gb_same HG0.out (gb_same (gb_drew _ _) HG1.out)⟩
end Go.Proofs.Ytbibgjkcapjgnaa
