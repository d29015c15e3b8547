/-
  image.Equal: the walk.
-/
import Derived.Test.YtnkgoaloigmmfaaIFew
import Derived.Deep.RegionHeld3
namespace Go.Proofs.Ytnkgoaloigmmfaa
open Go.RowKit

set_option maxRecDepth 100000 in
set_option maxHeartbeats 4000000 in
theorem pequal_any (L1 L2 : Int) (v1 v2 : Value) (ps qs : List ChP) (w : World) (h1 : RdCs w v1 ps) (h2 : RdCs w v2 qs) :
    Calls Try.prog 26 #[.agg #[.int .i64 L1, v1], .agg #[.int .i64 L2, v2]] w (BoolQ (eqP L1 L2 (ps.map (·.1)) (qs.map (·.1))) w) := by
  obtain ⟨a1, c1, e1⟩ := h1.len
  obtain ⟨a2, c2, e2⟩ := h2.len
  rw [e1] at h1 ⊢
  rw [e2] at h2 ⊢
  obtain ⟨W, hW⟩ : ∃ W, (w.alloc (Obj.cells #[.int .i64 L1, .slice a1 ps.length c1] 29)).alloc (Obj.cells #[.int .i64 L2, .slice a2 qs.length c2] 29) = W := ⟨_, rfl⟩
  have hg : w.grownBy W none := by rw [← hW]; exact gb_same (gb_alloc _ _ _) (gb_alloc _ _ _)
  have k0 : W.heap[w.heap.size]? = some (.cells #[.int .i64 L1, .slice a1 ps.length c1] 29 (0, 0)) := by rw [← hW]; exact blk_kept (heap_at_alloc _ _) (gb_alloc _ _ _)
  have k1 : W.heap[w.heap.size + 1]? = some (.cells #[.int .i64 L2, .slice a2 qs.length c2] 29 (0, 0)) := by rw [← hW]; have := heap_at_alloc (w.alloc (Obj.cells #[.int .i64 L1, .slice a1 ps.length c1] 29)) (Obj.cells #[.int .i64 L2, .slice a2 qs.length c2] 29); rw [World.size_alloc] at this; exact this
  have q0 : W.cell? ⟨w.heap.size, 0, none⟩ = some (.int .i64 L1) := cell_row k0
  have q1 : W.cell? ⟨w.heap.size, 1, none⟩ = some (.slice a1 ps.length c1) := cell_row k0
  have q2 : W.cell? ⟨w.heap.size + 1, 0, none⟩ = some (.int .i64 L2) := cell_row k1
  have q3 : W.cell? ⟨w.heap.size + 1, 1, none⟩ = some (.slice a2 qs.length c2) := cell_row k1
  have HE := Lib.hid (eqf_any _ _ ps qs W (h1.grown hg) (h2.grown hg))
  have HB : Hid (eqP L1 L2 (ps.map (·.1)) (qs.map (·.1)) = ((L1 == L2) && (ps.map (·.1) == qs.map (·.1)))) := Lib.hid rfl
  have HW := Lib.hid hW
  have HG := Lib.hid hg
  clear h1 h2 k0 k1 hW hg e1 e2
  generalize (ps.map (·.1) == qs.map (·.1)) = q at *
  generalize eqP L1 L2 (ps.map (·.1)) (qs.map (·.1)) = z at *
  cases hk : L1 == L2
  · rw [hk, Bool.false_and] at HB
    go_enter Try.func26, Try.ntmps26
    go_wp2_with fail
    rw [HW.out]
    go_wp2
    go_ret
    exact ⟨by rw [HB.out]; rfl, HG.out⟩
  · rw [hk, Bool.true_and] at HB
    go_enter Try.func26, Try.ntmps26
    go_wp2_with fail
    rw [HW.out]
    go_wp2_with fail
    refine HE.out.mono ?_
    rintro e w' ⟨rfl, hg3⟩
    have HG3 := Lib.hid (gb_same HG.out hg3)
    clear hg3
    go_wp2
    go_ret
    exact ⟨by rw [HB.out]; rfl, HG3.out⟩
end Go.Proofs.Ytnkgoaloigmmfaa
