/-
  law.WireMessages: the walk.
-/
import Derived.Test.YtgfopepopcacmaaMsgMath
import Derived.Test.YtgfopepopcacmaaREff
import Derived.Test.YtgfopepopcacmaaSameW
import Derived.Test.YtgfopepopcacmaaPreL
namespace Go.Proofs.Ytgfopepopcacmaa
open Go.RowKit

theorem bool_end (b : Bool) (h : b = true) : Ending.returned (Value.bool b) = Ending.returned (Value.bool true) := by rw [h]
def ShInv (ps : List EffP) (u k : Value) (wr w10 : World) : Prop :=
  ∃ (i : Nat) (s : Bool), k = .int .i64 (i : Int) ∧ u = .bool s ∧ i ≤ ps.length ∧ w10.grownBy wr none ∧ (s = true ↔ (ps.length ≤ 160 ∧ ∀ q ∈ ps.take i, ShE q.1))
set_option maxRecDepth 100000 in
set_option maxHeartbeats 16000000 in
theorem wireMsgs_any (z0 z1 z2 z3 z4 z5 z6 z7 y0 y1 y2 y3 y4 y5 y6 : Int) (mv xv lv : Value) (ml xl : List UInt8) (ps : List EffP) (w : World) (hz : ∀ z ∈ [z0, z1, z2, z3, z4, z5, z6, z7], OkI z) (hy : ∀ z ∈ [y0, y1, y2, y3, y4, y5, y6], OkI z) (hm : RdW w mv ml) (hx : RdW w xv xl) (hl : RdEs w lv ps)
    (hmr : ml.length ≤ reachBytes) (hxr : xl.length ≤ reachBytes) (hr : ∀ p ∈ ps, p.1.2.1.2.length ≤ reachBytes ∧ p.1.2.2.length ≤ reachBytes) :
    Calls Try.prog 7 #[.agg #[.int .i64 z0, .int .i64 z1, .int .i64 z2, .int .i64 z3, .int .i64 z4, .int .i64 z5, .int .i64 z6, .int .i64 z7, mv], lv, .agg #[.int .i64 y0, .int .i64 y1, .int .i64 y2, .int .i64 y3, .int .i64 y4, .int .i64 y5, .int .i64 y6, xv]] w (BoolQ true w) := by
  obtain ⟨am, cm, rfl⟩ := hm.len
  obtain ⟨ax, cx, rfl⟩ := hx.len
  obtain ⟨a0, c0, rfl⟩ := hl.len
  have hmx := hl.max
  unfold reachBytes at hmr hxr
  obtain ⟨wB, hwB⟩ : ∃ W, W = (w.alloc (Obj.cells #[.int .i64 z0, .int .i64 z1, .int .i64 z2, .int .i64 z3, .int .i64 z4, .int .i64 z5, .int .i64 z6, .int .i64 z7, .slice am ml.length cm] 57)).alloc (Obj.cells #[.int .i64 y0, .int .i64 y1, .int .i64 y2, .int .i64 y3, .int .i64 y4, .int .i64 y5, .int .i64 y6, .slice ax xl.length cx] 65) := ⟨_, rfl⟩
  have HWB := Lib.hid hwB
  have HBM : Hid (wB.heap[w.heap.size]? = some (Obj.cells #[.int .i64 z0, .int .i64 z1, .int .i64 z2, .int .i64 z3, .int .i64 z4, .int .i64 z5, .int .i64 z6, .int .i64 z7, .slice am ml.length cm] 57 (0, 0))) := Lib.hid (by rw [hwB]; exact heap_alloc2_0 w _ _)
  have HBX : Hid (wB.heap[w.heap.size + 1]? = some (Obj.cells #[.int .i64 y0, .int .i64 y1, .int .i64 y2, .int .i64 y3, .int .i64 y4, .int .i64 y5, .int .i64 y6, .slice ax xl.length cx] 65 (0, 0))) := Lib.hid (by rw [hwB]; exact heap_alloc2_1 w _ _)
  have GB : Hid (w.grownBy wB none) := Lib.hid (by rw [hwB]; exact gb_same (gb_alloc _ _ _) (gb_alloc _ _ _))
  have HF : Hid (∀ W, w.grownBy W none → Calls Try.prog 39 #[.slice a0 ps.length c0] W (FewPost W ps)) := Lib.hid (fun W hW => fewE_any _ ps W (hl.grown hW) hr)
  have HL := Lib.hid hl
  have HM := Lib.hid hm
  have HX := Lib.hid hx
  have HZ := Lib.hid hz
  have HY := Lib.hid hy
  clear hl hm hx hz hy hr hwB
  go_enter Try.func7, Try.ntmps7
  go_wp2_with fail
  rw [← HWB.out]
  refine (awake_any _).mono ?_
  rintro e w0 ⟨rfl, g0⟩
  have HBM0 := Lib.hid (blk_kept HBM.out g0)
  have HBX0 := Lib.hid (blk_kept HBX.out g0)
  have G0 := Lib.hid (gb_same GB.out g0)
  have HF1 := Lib.hid (HF.out w0 (gb_same GB.out g0))
  have cm8 : w0.cell? ⟨w.heap.size, 8, none⟩ = some (.slice am ml.length cm) := cell_row HBM0.out
  have cx7 : w0.cell? ⟨w.heap.size + 1, 7, none⟩ = some (.slice ax xl.length cx) := cell_row HBX0.out
  clear g0 HF
  go_wp2_with fail
  refine HF1.out.mono ?_
  rintro e w1 ⟨r, rfl, g1, hfew⟩
  have HBM1 := Lib.hid (blk_kept HBM0.out g1)
  have HBX1 := Lib.hid (blk_kept HBX0.out g1)
  have G1 := Lib.hid (gb_same G0.out g1)
  have dm8 : w1.cell? ⟨w.heap.size, 8, none⟩ = some (.slice am ml.length cm) := cell_row HBM1.out
  have dx7 : w1.cell? ⟨w.heap.size + 1, 7, none⟩ = some (.slice ax xl.length cx) := cell_row HBX1.out
  clear g1 HF1
  cases r with
  | false =>
    go_wp2
    go_ret
    exact ⟨rfl, G1.out⟩
  | true =>
  obtain ⟨h170, h20⟩ := hfew rfl
  clear hfew
  by_cases hm2 : 2000 < ml.length
  · go_wp2
    go_ret
    exact ⟨rfl, G1.out⟩
  by_cases hx2 : 2000 < xl.length
  · go_wp2
    go_ret
    exact ⟨rfl, G1.out⟩
  obtain ⟨A, hA⟩ : ∃ A, encMM ([z0, z1, z2, z3, z4, z5, z6, z7], ml) = A := ⟨_, rfl⟩
  obtain ⟨B, hB⟩ : ∃ B, encEs (ps.map (·.1)) = B := ⟨_, rfl⟩
  obtain ⟨C, hC⟩ : ∃ C, encMM ([y0, y1, y2, y3, y4, y5, y6], xl) = C := ⟨_, rfl⟩
  have hAl : A.length ≤ 3000 := by
    rw [← hA]
    have h1 := encL_len [z0, z1, z2, z3, z4, z5, z6, z7]
    have h2 := encS_len ml
    unfold encMM
    simp only [List.length_append, List.length_cons, List.length_nil] at h1 ⊢
    omega
  have hCl : C.length ≤ 3000 := by
    rw [← hC]
    have h1 := encL_len [y0, y1, y2, y3, y4, y5, y6]
    have h2 := encS_len xl
    unfold encMM
    simp only [List.length_append, List.length_cons, List.length_nil] at h1 ⊢
    omega
  have hBl : B.length ≤ 1000000 := by rw [← hB]; exact (effs_cut _ ps w HL.out h170 h20).2
  have HWM : Hid (∀ W, w.grownBy W none → Calls Try.prog 36 #[.slice none 0 0, .agg #[.int .i64 z0, .int .i64 z1, .int .i64 z2, .int .i64 z3, .int .i64 z4, .int .i64 z5, .int .i64 z6, .int .i64 z7, .slice am ml.length cm]] W (EncPost W A)) := Lib.hid (fun W hW => by
    refine (wmsgW_any (.slice none 0 0) _ W W.heap.size [] ml z0 z1 z2 z3 z4 z5 z6 z7 (Own.nil _ _) (HM.out.grown hW) (Nat.le_refl _) HZ.out (by simp [Value.ownBlock]) (by simp) (by omega)).mono ?_
    rintro e w' ⟨v', rfl, ho, hg, _⟩
    exact ⟨v', rfl, by rw [← hA]; simpa [encMM, encM, encL] using ho, hg⟩)
  have HWX : Hid (∀ W, w.grownBy W none → Calls Try.prog 38 #[.slice none 0 0, .agg #[.int .i64 y0, .int .i64 y1, .int .i64 y2, .int .i64 y3, .int .i64 y4, .int .i64 y5, .int .i64 y6, .slice ax xl.length cx]] W (EncPost W C)) := Lib.hid (fun W hW => by
    refine (wentW_any (.slice none 0 0) _ W W.heap.size [] xl y0 y1 y2 y3 y4 y5 y6 (Own.nil _ _) (HX.out.grown hW) (Nat.le_refl _) HY.out (by simp [Value.ownBlock]) (by simp) (by omega)).mono ?_
    rintro e w' ⟨v', rfl, ho, hg, _⟩
    exact ⟨v', rfl, by rw [← hC]; simpa [encMM, encX, encL] using ho, hg⟩)
  have HWE : Hid (∀ W, w.grownBy W none → Calls Try.prog 37 #[.slice none 0 0, .slice a0 ps.length c0] W (EncPost W B)) := Lib.hid (fun W hW => by
    have := weffects_any _ ps W (HL.out.grown hW) (by rw [hB]; exact hBl) (by omega)
    rw [hB] at this
    exact this)
  have HQM : Hid (∀ W, w.grownBy W none → Calls Try.prog 41 #[.agg #[.int .i64 z0, .int .i64 z1, .int .i64 z2, .int .i64 z3, .int .i64 z4, .int .i64 z5, .int .i64 z6, .int .i64 z7, .slice am ml.length cm]] W (EncPost W A)) := Lib.hid (fun W hW => by
    have := rMsg_any z0 z1 z2 z3 z4 z5 z6 z7 _ ml W HZ.out (HM.out.grown hW) (by omega)
    rw [hA] at this
    exact this)
  have HQX : Hid (∀ W, w.grownBy W none → Calls Try.prog 43 #[.agg #[.int .i64 y0, .int .i64 y1, .int .i64 y2, .int .i64 y3, .int .i64 y4, .int .i64 y5, .int .i64 y6, .slice ax xl.length cx]] W (EncPost W C)) := Lib.hid (fun W hW => by
    have := rEntry_any y0 y1 y2 y3 y4 y5 y6 _ xl W HY.out (HX.out.grown hW) (by omega)
    rw [hC] at this
    exact this)
  have HQE : Hid (∀ W, w.grownBy W none → Calls Try.prog 42 #[.slice a0 ps.length c0] W (EncPost W B)) := Lib.hid (fun W hW => by
    have := rEffects_any _ ps W (HL.out.grown hW) (by rw [hB]; exact hBl) (by omega)
    rw [hB] at this
    exact this)
  have m1_0 : w1.cell? ⟨w.heap.size, 0, none⟩ = some (.int .i64 z0) := cell_row HBM1.out; have m1_1 : w1.cell? ⟨w.heap.size, 1, none⟩ = some (.int .i64 z1) := cell_row HBM1.out; have m1_2 : w1.cell? ⟨w.heap.size, 2, none⟩ = some (.int .i64 z2) := cell_row HBM1.out; have m1_3 : w1.cell? ⟨w.heap.size, 3, none⟩ = some (.int .i64 z3) := cell_row HBM1.out; have m1_4 : w1.cell? ⟨w.heap.size, 4, none⟩ = some (.int .i64 z4) := cell_row HBM1.out; have m1_5 : w1.cell? ⟨w.heap.size, 5, none⟩ = some (.int .i64 z5) := cell_row HBM1.out; have m1_6 : w1.cell? ⟨w.heap.size, 6, none⟩ = some (.int .i64 z6) := cell_row HBM1.out; have m1_7 : w1.cell? ⟨w.heap.size, 7, none⟩ = some (.int .i64 z7) := cell_row HBM1.out; have m1_8 : w1.cell? ⟨w.heap.size, 8, none⟩ = some (.slice am ml.length cm) := cell_row HBM1.out; have x1_0 : w1.cell? ⟨w.heap.size + 1, 0, none⟩ = some (.int .i64 y0) := cell_row HBX1.out; have x1_1 : w1.cell? ⟨w.heap.size + 1, 1, none⟩ = some (.int .i64 y1) := cell_row HBX1.out; have x1_2 : w1.cell? ⟨w.heap.size + 1, 2, none⟩ = some (.int .i64 y2) := cell_row HBX1.out; have x1_3 : w1.cell? ⟨w.heap.size + 1, 3, none⟩ = some (.int .i64 y3) := cell_row HBX1.out; have x1_4 : w1.cell? ⟨w.heap.size + 1, 4, none⟩ = some (.int .i64 y4) := cell_row HBX1.out; have x1_5 : w1.cell? ⟨w.heap.size + 1, 5, none⟩ = some (.int .i64 y5) := cell_row HBX1.out; have x1_6 : w1.cell? ⟨w.heap.size + 1, 6, none⟩ = some (.int .i64 y6) := cell_row HBX1.out; have x1_7 : w1.cell? ⟨w.heap.size + 1, 7, none⟩ = some (.slice ax xl.length cx) := cell_row HBX1.out
  go_wp2_with fail
  go_region_held3 (fun w' => w'.cell? ⟨w.heap.size, 0, none⟩ = some (.int .i64 z0) ∧ w'.cell? ⟨w.heap.size, 1, none⟩ = some (.int .i64 z1) ∧ w'.cell? ⟨w.heap.size, 2, none⟩ = some (.int .i64 z2) ∧ w'.cell? ⟨w.heap.size, 3, none⟩ = some (.int .i64 z3) ∧ w'.cell? ⟨w.heap.size, 4, none⟩ = some (.int .i64 z4) ∧ w'.cell? ⟨w.heap.size, 5, none⟩ = some (.int .i64 z5) ∧ w'.cell? ⟨w.heap.size, 6, none⟩ = some (.int .i64 z6) ∧ w'.cell? ⟨w.heap.size, 7, none⟩ = some (.int .i64 z7) ∧ w'.cell? ⟨w.heap.size, 8, none⟩ = some (.slice am ml.length cm) ∧ w'.cell? ⟨w.heap.size + 1, 0, none⟩ = some (.int .i64 y0) ∧ w'.cell? ⟨w.heap.size + 1, 1, none⟩ = some (.int .i64 y1) ∧ w'.cell? ⟨w.heap.size + 1, 2, none⟩ = some (.int .i64 y2) ∧ w'.cell? ⟨w.heap.size + 1, 3, none⟩ = some (.int .i64 y3) ∧ w'.cell? ⟨w.heap.size + 1, 4, none⟩ = some (.int .i64 y4) ∧ w'.cell? ⟨w.heap.size + 1, 5, none⟩ = some (.int .i64 y5) ∧ w'.cell? ⟨w.heap.size + 1, 6, none⟩ = some (.int .i64 y6) ∧ w'.cell? ⟨w.heap.size + 1, 7, none⟩ = some (.slice ax xl.length cx)) (go_keep) (first | (go_at_call 36; go_must (refine (HWM.out _ (by first | exact G1.out | exact gb_same G1.out (gb_drew _ _))).mono ?_; rintro e w2 ⟨va, rfl, ho2, hg2'⟩; have hg2 : w1.grownBy w2 none := (by first | exact hg2' | exact gb_same (gb_drew _ _) hg2'); have HBM2 := Lib.hid (blk_kept HBM1.out hg2); have HBX2 := Lib.hid (blk_kept HBX1.out hg2); have G2 : Hid (w.grownBy w2 none) := Lib.hid (gb_same G1.out hg2); have m2_0 : w2.cell? ⟨w.heap.size, 0, none⟩ = some (.int .i64 z0) := cell_row HBM2.out; have m2_1 : w2.cell? ⟨w.heap.size, 1, none⟩ = some (.int .i64 z1) := cell_row HBM2.out; have m2_2 : w2.cell? ⟨w.heap.size, 2, none⟩ = some (.int .i64 z2) := cell_row HBM2.out; have m2_3 : w2.cell? ⟨w.heap.size, 3, none⟩ = some (.int .i64 z3) := cell_row HBM2.out; have m2_4 : w2.cell? ⟨w.heap.size, 4, none⟩ = some (.int .i64 z4) := cell_row HBM2.out; have m2_5 : w2.cell? ⟨w.heap.size, 5, none⟩ = some (.int .i64 z5) := cell_row HBM2.out; have m2_6 : w2.cell? ⟨w.heap.size, 6, none⟩ = some (.int .i64 z6) := cell_row HBM2.out; have m2_7 : w2.cell? ⟨w.heap.size, 7, none⟩ = some (.int .i64 z7) := cell_row HBM2.out; have m2_8 : w2.cell? ⟨w.heap.size, 8, none⟩ = some (.slice am ml.length cm) := cell_row HBM2.out; have x2_0 : w2.cell? ⟨w.heap.size + 1, 0, none⟩ = some (.int .i64 y0) := cell_row HBX2.out; have x2_1 : w2.cell? ⟨w.heap.size + 1, 1, none⟩ = some (.int .i64 y1) := cell_row HBX2.out; have x2_2 : w2.cell? ⟨w.heap.size + 1, 2, none⟩ = some (.int .i64 y2) := cell_row HBX2.out; have x2_3 : w2.cell? ⟨w.heap.size + 1, 3, none⟩ = some (.int .i64 y3) := cell_row HBX2.out; have x2_4 : w2.cell? ⟨w.heap.size + 1, 4, none⟩ = some (.int .i64 y4) := cell_row HBX2.out; have x2_5 : w2.cell? ⟨w.heap.size + 1, 5, none⟩ = some (.int .i64 y5) := cell_row HBX2.out; have x2_6 : w2.cell? ⟨w.heap.size + 1, 6, none⟩ = some (.int .i64 y6) := cell_row HBX2.out; have x2_7 : w2.cell? ⟨w.heap.size + 1, 7, none⟩ = some (.slice ax xl.length cx) := cell_row HBX2.out; have HA2 := Lib.hid ho2.rd; clear ho2 hg2 hg2')) | (go_at_call 37; go_must (refine (HWE.out _ G2.out).mono ?_; rintro e w3 ⟨vb, rfl, ho3, hg3⟩; have HBM3 := Lib.hid (blk_kept HBM2.out hg3); have HBX3 := Lib.hid (blk_kept HBX2.out hg3); have G3 : Hid (w.grownBy w3 none) := Lib.hid (gb_same G2.out hg3); have m3_0 : w3.cell? ⟨w.heap.size, 0, none⟩ = some (.int .i64 z0) := cell_row HBM3.out; have m3_1 : w3.cell? ⟨w.heap.size, 1, none⟩ = some (.int .i64 z1) := cell_row HBM3.out; have m3_2 : w3.cell? ⟨w.heap.size, 2, none⟩ = some (.int .i64 z2) := cell_row HBM3.out; have m3_3 : w3.cell? ⟨w.heap.size, 3, none⟩ = some (.int .i64 z3) := cell_row HBM3.out; have m3_4 : w3.cell? ⟨w.heap.size, 4, none⟩ = some (.int .i64 z4) := cell_row HBM3.out; have m3_5 : w3.cell? ⟨w.heap.size, 5, none⟩ = some (.int .i64 z5) := cell_row HBM3.out; have m3_6 : w3.cell? ⟨w.heap.size, 6, none⟩ = some (.int .i64 z6) := cell_row HBM3.out; have m3_7 : w3.cell? ⟨w.heap.size, 7, none⟩ = some (.int .i64 z7) := cell_row HBM3.out; have m3_8 : w3.cell? ⟨w.heap.size, 8, none⟩ = some (.slice am ml.length cm) := cell_row HBM3.out; have x3_0 : w3.cell? ⟨w.heap.size + 1, 0, none⟩ = some (.int .i64 y0) := cell_row HBX3.out; have x3_1 : w3.cell? ⟨w.heap.size + 1, 1, none⟩ = some (.int .i64 y1) := cell_row HBX3.out; have x3_2 : w3.cell? ⟨w.heap.size + 1, 2, none⟩ = some (.int .i64 y2) := cell_row HBX3.out; have x3_3 : w3.cell? ⟨w.heap.size + 1, 3, none⟩ = some (.int .i64 y3) := cell_row HBX3.out; have x3_4 : w3.cell? ⟨w.heap.size + 1, 4, none⟩ = some (.int .i64 y4) := cell_row HBX3.out; have x3_5 : w3.cell? ⟨w.heap.size + 1, 5, none⟩ = some (.int .i64 y5) := cell_row HBX3.out; have x3_6 : w3.cell? ⟨w.heap.size + 1, 6, none⟩ = some (.int .i64 y6) := cell_row HBX3.out; have x3_7 : w3.cell? ⟨w.heap.size + 1, 7, none⟩ = some (.slice ax xl.length cx) := cell_row HBX3.out; have HA3 := Lib.hid (HA2.out.grown hg3); have HB3 := Lib.hid ho3.rd; clear ho3 hg3)) | (go_at_call 38; go_must (refine (HWX.out _ G3.out).mono ?_; rintro e w4 ⟨vc, rfl, ho4, hg4⟩; have HBM4 := Lib.hid (blk_kept HBM3.out hg4); have HBX4 := Lib.hid (blk_kept HBX3.out hg4); have G4 : Hid (w.grownBy w4 none) := Lib.hid (gb_same G3.out hg4); have m4_0 : w4.cell? ⟨w.heap.size, 0, none⟩ = some (.int .i64 z0) := cell_row HBM4.out; have m4_1 : w4.cell? ⟨w.heap.size, 1, none⟩ = some (.int .i64 z1) := cell_row HBM4.out; have m4_2 : w4.cell? ⟨w.heap.size, 2, none⟩ = some (.int .i64 z2) := cell_row HBM4.out; have m4_3 : w4.cell? ⟨w.heap.size, 3, none⟩ = some (.int .i64 z3) := cell_row HBM4.out; have m4_4 : w4.cell? ⟨w.heap.size, 4, none⟩ = some (.int .i64 z4) := cell_row HBM4.out; have m4_5 : w4.cell? ⟨w.heap.size, 5, none⟩ = some (.int .i64 z5) := cell_row HBM4.out; have m4_6 : w4.cell? ⟨w.heap.size, 6, none⟩ = some (.int .i64 z6) := cell_row HBM4.out; have m4_7 : w4.cell? ⟨w.heap.size, 7, none⟩ = some (.int .i64 z7) := cell_row HBM4.out; have m4_8 : w4.cell? ⟨w.heap.size, 8, none⟩ = some (.slice am ml.length cm) := cell_row HBM4.out; have x4_0 : w4.cell? ⟨w.heap.size + 1, 0, none⟩ = some (.int .i64 y0) := cell_row HBX4.out; have x4_1 : w4.cell? ⟨w.heap.size + 1, 1, none⟩ = some (.int .i64 y1) := cell_row HBX4.out; have x4_2 : w4.cell? ⟨w.heap.size + 1, 2, none⟩ = some (.int .i64 y2) := cell_row HBX4.out; have x4_3 : w4.cell? ⟨w.heap.size + 1, 3, none⟩ = some (.int .i64 y3) := cell_row HBX4.out; have x4_4 : w4.cell? ⟨w.heap.size + 1, 4, none⟩ = some (.int .i64 y4) := cell_row HBX4.out; have x4_5 : w4.cell? ⟨w.heap.size + 1, 5, none⟩ = some (.int .i64 y5) := cell_row HBX4.out; have x4_6 : w4.cell? ⟨w.heap.size + 1, 6, none⟩ = some (.int .i64 y6) := cell_row HBX4.out; have x4_7 : w4.cell? ⟨w.heap.size + 1, 7, none⟩ = some (.slice ax xl.length cx) := cell_row HBX4.out; have HA4 := Lib.hid (HA3.out.grown hg4); have HB4 := Lib.hid (HB3.out.grown hg4); have HC4 := Lib.hid ho4.rd; clear ho4 hg4)))
  clear m1_0 m1_1 m1_2 m1_3 m1_4 m1_5 m1_6 m1_7 m1_8 x1_0 x1_1 x1_2 x1_3 x1_4 x1_5 x1_6 x1_7 m2_0 m2_1 m2_2 m2_3 m2_4 m2_5 m2_6 m2_7 m2_8 x2_0 x2_1 x2_2 x2_3 x2_4 x2_5 x2_6 x2_7 m3_0 m3_1 m3_2 m3_3 m3_4 m3_5 m3_6 m3_7 m3_8 x3_0 x3_1 x3_2 x3_3 x3_4 x3_5 x3_6 x3_7 cm8 cx7 dm8 dx7
  go_wp2_with (first | (go_at_call 41; refine (HQM.out _ G4.out).mono ?_; go_must (rintro e w5 ⟨qa, rfl, ho5, hg5⟩; have HBM5 := Lib.hid (blk_kept HBM4.out hg5); have HBX5 := Lib.hid (blk_kept HBX4.out hg5); have G5 : Hid (w.grownBy w5 none) := Lib.hid (gb_same G4.out hg5); clear m4_0 m4_1 m4_2 m4_3 m4_4 m4_5 m4_6 m4_7 m4_8 x4_0 x4_1 x4_2 x4_3 x4_4 x4_5 x4_6 x4_7; have HA5 := Lib.hid (HA4.out.grown hg5); have HB5 := Lib.hid (HB4.out.grown hg5); have HC5 := Lib.hid (HC4.out.grown hg5); have HQ5 := Lib.hid ho5.rd; clear ho5 hg5)) | (go_at_call 32; refine (same_g va qa w5 A HA5.out HQ5.out).mono ?_; go_must (rintro e w6 ⟨rfl, hg6⟩; have HBM6 := Lib.hid (blk_kept HBM5.out hg6); have HBX6 := Lib.hid (blk_kept HBX5.out hg6); have G6 : Hid (w.grownBy w6 none) := Lib.hid (gb_same G5.out hg6); have HA6 := Lib.hid (HA5.out.grown hg6); have HB6 := Lib.hid (HB5.out.grown hg6); have HC6 := Lib.hid (HC5.out.grown hg6); clear hg6)) | (go_at_call 42; refine (HQE.out _ G6.out).mono ?_; go_must (rintro e w7 ⟨qb, rfl, ho7, hg7⟩; have HBM7 := Lib.hid (blk_kept HBM6.out hg7); have HBX7 := Lib.hid (blk_kept HBX6.out hg7); have G7 : Hid (w.grownBy w7 none) := Lib.hid (gb_same G6.out hg7); have HA7 := Lib.hid (HA6.out.grown hg7); have HB7 := Lib.hid (HB6.out.grown hg7); have HC7 := Lib.hid (HC6.out.grown hg7); have HQ7 := Lib.hid ho7.rd; clear ho7 hg7)) | (go_at_call 32; refine (same_g vb qb w7 B HB7.out HQ7.out).mono ?_; go_must (rintro e w8 ⟨rfl, hg8⟩; have HBM8 := Lib.hid (blk_kept HBM7.out hg8); have HBX8 := Lib.hid (blk_kept HBX7.out hg8); have G8 : Hid (w.grownBy w8 none) := Lib.hid (gb_same G7.out hg8); have x8_0 : w8.cell? ⟨w.heap.size + 1, 0, none⟩ = some (.int .i64 y0) := cell_row HBX8.out; have x8_1 : w8.cell? ⟨w.heap.size + 1, 1, none⟩ = some (.int .i64 y1) := cell_row HBX8.out; have x8_2 : w8.cell? ⟨w.heap.size + 1, 2, none⟩ = some (.int .i64 y2) := cell_row HBX8.out; have x8_3 : w8.cell? ⟨w.heap.size + 1, 3, none⟩ = some (.int .i64 y3) := cell_row HBX8.out; have x8_4 : w8.cell? ⟨w.heap.size + 1, 4, none⟩ = some (.int .i64 y4) := cell_row HBX8.out; have x8_5 : w8.cell? ⟨w.heap.size + 1, 5, none⟩ = some (.int .i64 y5) := cell_row HBX8.out; have x8_6 : w8.cell? ⟨w.heap.size + 1, 6, none⟩ = some (.int .i64 y6) := cell_row HBX8.out; have x8_7 : w8.cell? ⟨w.heap.size + 1, 7, none⟩ = some (.slice ax xl.length cx) := cell_row HBX8.out; have HA8 := Lib.hid (HA7.out.grown hg8); have HB8 := Lib.hid (HB7.out.grown hg8); have HC8 := Lib.hid (HC7.out.grown hg8); clear hg8)) | (go_at_call 43; refine (HQX.out _ G8.out).mono ?_; go_must (rintro e w9 ⟨qc, rfl, ho9, hg9⟩; have HBM9 := Lib.hid (blk_kept HBM8.out hg9); have HBX9 := Lib.hid (blk_kept HBX8.out hg9); have G9 : Hid (w.grownBy w9 none) := Lib.hid (gb_same G8.out hg9); have HA9 := Lib.hid (HA8.out.grown hg9); have HB9 := Lib.hid (HB8.out.grown hg9); have HC9 := Lib.hid (HC8.out.grown hg9); have HQ9 := Lib.hid ho9.rd; clear ho9 hg9)) | (go_at_call 32; refine (same_g vc qc w9 C HC9.out HQ9.out).mono ?_; go_must (rintro e w10 ⟨rfl, hg10⟩; have HBM10 := Lib.hid (blk_kept HBM9.out hg10); have HBX10 := Lib.hid (blk_kept HBX9.out hg10); have G10 : Hid (w.grownBy w10 none) := Lib.hid (gb_same G9.out hg10); have HA10 := Lib.hid (HA9.out.grown hg10); have HB10 := Lib.hid (HB9.out.grown hg10); have HC10 := Lib.hid (HC9.out.grown hg10); clear hg10)))
  clear x8_0 x8_1 x8_2 x8_3 x8_4 x8_5 x8_6 x8_7
  go_loopw [10, 11] (fun u k wr => ShInv ps u k wr w10) (fun _ k _ => ps.length - (intOf k).toNat)
  case atStart =>
    refine ⟨0, decide ((ps.length : Int) ≤ 160), rfl, rfl, Nat.zero_le _, gb_refl _ _, ?_⟩
    simp
    omega
  case round =>
    obtain ⟨i, sh, rfl, rfl, hi, hg, hsh⟩ := hrel
    by_cases hlt : i < ps.length
    · obtain ⟨p, hp⟩ : ∃ p, ps[i]? = some p := ⟨ps[i], by simp⟩
      obtain ⟨gb, off, rfl, hrange⟩ := HL.out.at hp
      obtain ⟨⟨hx5, hx8, _, _⟩, _, _, hrm, hrd⟩ := HL.out.2 p (List.mem_of_getElem? hp)
      have hnx : ∀ q ∈ ps.take (i + 1), q ∈ ps.take i ∨ q = p := fun q hq => by
        rw [List.take_add_one, hp] at hq
        simpa using hq
      have hnx2 : ∀ q ∈ ps.take i, q ∈ ps.take (i + 1) := fun q hq => by
        rw [List.take_add_one]
        exact List.mem_append_left _ hq
      have hnx3 : p ∈ ps.take (i + 1) := by rw [List.take_add_one, hp]; simp
      have hdn := dataN_mem (List.mem_of_getElem? hp)
      have HNX : Hid (∀ s' : Bool, (s' = true ↔ (sh = true ∧ p.1.2.2.length ≤ 1536 ∧ p.1.2.1.2.length ≤ 1536)) → (s' = true ↔ (ps.length ≤ 160 ∧ ∀ q ∈ ps.take (i + 1), ShE q.1))) := Lib.hid (fun s' hs' => by
        rw [hs', hsh]
        constructor
        · rintro ⟨⟨h1, h2⟩, h3, h4⟩
          exact ⟨h1, fun q hq => by rcases hnx q hq with h | rfl; exact h2 q h; exact ⟨h4, h3⟩⟩
        · rintro ⟨h1, h2⟩
          exact ⟨⟨h1, fun q hq => h2 q (hnx2 q hq)⟩, (h2 p hnx3).2, (h2 p hnx3).1⟩)
      obtain ⟨⟨xz, ⟨xm, xl'⟩, xd⟩, mv', dv⟩ := p
      simp only at hx5 hx8 hrm hrd hrange hdn
      match xz, hx5, xm, hx8 with
      | [k, a, b, c, d], _, [m0, m1, m2, m3, m4, m5, m6, m7], _ =>
      obtain ⟨am', cm', rfl⟩ := hrm.len
      obtain ⟨ad', cd', rfl⟩ := hrd.len
      have GW : w.grownBy wr none := gb_same G10.out hg
      have c13 : wr.cell? ⟨gb, off + i * 15 + 13, none⟩ = some (.slice am' xl'.length cm') := GW.cell (hrange 13 _ rfl) (by simp)
      have c14 : wr.cell? ⟨gb, off + i * 15 + 14, none⟩ = some (.slice ad' xd.length cd') := GW.cell (hrange 14 _ rfl) (by simp)
      have HG := Lib.hid hg
      clear hrange hrm hrd hp hnx hnx2 hnx3 GW hsh hg
      cases sh with
      | false =>
        go_wp2
        exact ⟨⟨i + 1, false, by go_num, rfl, by omega, HG.out, HNX.out false (by simp)⟩, by simp [intOf]; omega⟩
      | true =>
        by_cases h1 : xd.length ≤ 1536
        · by_cases h2 : xl'.length ≤ 1536
          · go_wp2
            exact ⟨⟨i + 1, _, by go_num, rfl, by omega, gb_same HG.out (by first | exact gb_drewN _ _ _ | exact gb_refl _ _), HNX.out _ (by simp; omega)⟩, by simp [intOf]; omega⟩
          · go_wp2
            exact ⟨⟨i + 1, _, by go_num, rfl, by omega, gb_same HG.out (by first | exact gb_drewN _ _ _ | exact gb_refl _ _), HNX.out _ (by simp; omega)⟩, by simp [intOf]; omega⟩
        · go_wp2
          exact ⟨⟨i + 1, _, by go_num, rfl, by omega, gb_same HG.out (by first | exact gb_drewN _ _ _ | exact gb_refl _ _), HNX.out _ (by simp; omega)⟩, by simp [intOf]; omega⟩
    · obtain rfl : i = ps.length := by omega
      rw [List.take_length] at hsh
      have HG := Lib.hid hg
      have HSH := Lib.hid hsh
      clear hg hsh
      have G11 : Hid (w.grownBy wr none) := Lib.hid (gb_same G10.out HG.out)
      have HA11 := Lib.hid (HA10.out.grown HG.out)
      have HB11 := Lib.hid (HB10.out.grown HG.out)
      have HC11 := Lib.hid (HC10.out.grown HG.out)
      have HBM11 := Lib.hid (blk_kept HBM10.out HG.out)
      have HBX11 := Lib.hid (blk_kept HBX10.out HG.out)
      go_wp2_with fail
      refine (readMsg_e va [z0, z1, z2, z3, z4, z5, z6, z7] ml wr rfl HZ.out (by omega) (by rw [hA]; omega) (by rw [hA]; exact HA11.out)).mono ?_
      rintro e w12 ⟨t0, t1, t2, t3, t4, t5, t6, t7, na, nn, nc, nl, r1, rfl, hn, g12, hr1⟩
      have HN12 := Lib.hid hn
      have HR1 := Lib.hid hr1
      have G12 := Lib.hid (gb_same G11 g12)
      have HB12 := Lib.hid (HB11.out.grown g12)
      have HC12 := Lib.hid (HC11.out.grown g12)
      have HBM12 := Lib.hid (blk_kept HBM11.out g12)
      have HBX12 := Lib.hid (blk_kept HBX11.out g12)
      clear hn g12 hr1 G11
      go_wp2_with ((with_reducible refine is_store 57 12 92 ?_); go_must (refine st_row 57 12 92 w12.heap.size _ #[.int .i64 t0, .int .i64 t1, .int .i64 t2, .int .i64 t3, .int .i64 t4, .int .i64 t5, .int .i64 t6, .int .i64 t7, .slice na nn nc] _ rfl rfl (heap_at_alloc _ _) sz_msg rfl rfl ?_; intro w13 hb13 hg13'; have hg13 : w12.grownBy w13 none := gb_new (gb_alloc _ _ _) hg13' (Nat.le_refl _); have HBN13 := Lib.hid hb13; have HN13 := Lib.hid (HN12.out.grown hg13); have G13 := Lib.hid (gb_same G12.out hg13); have HB13 := Lib.hid (HB12.out.grown hg13); have HC13 := Lib.hid (HC12.out.grown hg13); have HBM13 := Lib.hid (blk_kept HBM12.out hg13); have HBX13 := Lib.hid (blk_kept HBX12.out hg13); clear hb13 hg13 hg13'))
      refine (readEffs_e vb (ps.map (·.1)) sh w13 (fun x hx => by obtain ⟨p, hp, rfl⟩ := List.mem_map.1 hx; exact (HL.out.2 p hp).1) (by rw [hB]; exact hBl) (by rw [List.length_map]; omega) (by rw [HSH.out]; simp) (by rw [hB]; exact HB13.out)).mono ?_
      rintro e w14 ⟨ea, en, ec, qs, r2, rfl, hq, g14, hr2⟩
      have HQ14 := Lib.hid hq
      have HR2 := Lib.hid hr2
      have HN14 := Lib.hid (HN13.out.grown g14)
      have G14 := Lib.hid (gb_same G13.out g14)
      have HC14 := Lib.hid (HC13.out.grown g14)
      have HBM14 := Lib.hid (blk_kept HBM13.out g14)
      have HBX14 := Lib.hid (blk_kept HBX13.out g14)
      have HBN14 := Lib.hid (blk_kept HBN13.out g14)
      clear hq g14 hr2
      go_wp2_with fail
      refine (readEnt_e vc [y0, y1, y2, y3, y4, y5, y6] xl w14 rfl HY.out (by omega) (by rw [hC]; omega) (by rw [hC]; exact HC14.out)).mono ?_
      rintro e w15 ⟨s0, s1, s2, s3, s4, s5, s6, ya, yn, yc, yl, r3, rfl, hy, g15, hr3⟩
      have HR3 := Lib.hid hr3
      have HK : Hid (∀ W, W.heap[w15.heap.size]? = some (.cells #[.int .i64 s0, .int .i64 s1, .int .i64 s2, .int .i64 s3, .int .i64 s4, .int .i64 s5, .int .i64 s6, .slice ya yn yc] 65 (0, 0)) → w15.grownBy W none → W.heap[w.heap.size]? = some (.cells #[.int .i64 z0, .int .i64 z1, .int .i64 z2, .int .i64 z3, .int .i64 z4, .int .i64 z5, .int .i64 z6, .int .i64 z7, .slice am ml.length cm] 57 (0, 0)) ∧ W.heap[w.heap.size + 1]? = some (.cells #[.int .i64 y0, .int .i64 y1, .int .i64 y2, .int .i64 y3, .int .i64 y4, .int .i64 y5, .int .i64 y6, .slice ax xl.length cx] 65 (0, 0)) ∧ W.heap[w12.heap.size]? = some (.cells #[.int .i64 t0, .int .i64 t1, .int .i64 t2, .int .i64 t3, .int .i64 t4, .int .i64 t5, .int .i64 t6, .int .i64 t7, .slice na nn nc] 57 (0, 0)) ∧ w.grownBy W none) := Lib.hid (fun W h1 h2 => ⟨blk_kept HBM14.out (gb_same g15 h2), blk_kept HBX14.out (gb_same g15 h2), blk_kept HBN14.out (gb_same g15 h2), gb_same G14.out (gb_same g15 h2)⟩)
      have HSM : Hid (r1 = 0 → ∀ W, w15.grownBy W none → Calls Try.prog 44 #[.agg #[.int .i64 t0, .int .i64 t1, .int .i64 t2, .int .i64 t3, .int .i64 t4, .int .i64 t5, .int .i64 t6, .int .i64 t7, .slice na nn nc], .agg #[.int .i64 z0, .int .i64 z1, .int .i64 z2, .int .i64 z3, .int .i64 z4, .int .i64 z5, .int .i64 z6, .int .i64 z7, .slice am ml.length cm]] W fun e w' => e = .returned (.bool true) ∧ W.grownBy w' none) := Lib.hid (fun h W hW => by
        rcases HR1.out with ⟨_, _, ht, hk⟩ | ⟨h9, _⟩
        · simp only [List.cons.injEq, and_true] at ht
          obtain ⟨e0, e1, e2, e3, e4, e5, e6, e7⟩ := ht
          rw [e0, e1, e2, e3, e4, e5, e6, e7]
          have hnn := HN14.out
          rw [hk] at hnn
          exact sameMsgW z0 z1 z2 z3 z4 z5 z6 z7 _ _ ml W (hnn.w.grown (gb_same g15 hW)) (HM.out.grown (gb_same G14.out (gb_same g15 hW)))
        · omega)
      have HSX : Hid (r3 = 0 → ∀ W, w15.grownBy W none → Calls Try.prog 46 #[.agg #[.int .i64 s0, .int .i64 s1, .int .i64 s2, .int .i64 s3, .int .i64 s4, .int .i64 s5, .int .i64 s6, .slice ya yn yc], .agg #[.int .i64 y0, .int .i64 y1, .int .i64 y2, .int .i64 y3, .int .i64 y4, .int .i64 y5, .int .i64 y6, .slice ax xl.length cx]] W fun e w' => e = .returned (.bool true) ∧ W.grownBy w' none) := Lib.hid (fun h W hW => by
        rcases HR3.out with ⟨_, _, ht, hk⟩ | ⟨h9, _⟩
        · simp only [List.cons.injEq, and_true] at ht
          obtain ⟨e0, e1, e2, e3, e4, e5, e6⟩ := ht
          rw [e0, e1, e2, e3, e4, e5, e6]
          rw [hk] at hy
          exact sameEntW y0 y1 y2 y3 y4 y5 y6 _ _ xl W (hy.w.grown hW) (HX.out.grown (gb_same G14.out (gb_same g15 hW)))
        · omega)
      have HSE : Hid (r2 = 0 → ∀ W, w15.grownBy W none → Calls Try.prog 45 #[.slice ea en ec, .slice a0 ps.length c0] W fun e w' => e = .returned (.bool true) ∧ W.grownBy w' none) := Lib.hid (fun h W hW => by
        rcases HR2.out with ⟨_, _, hk⟩ | ⟨h9, _⟩
        · exact sameEffs _ _ qs ps W (HQ14.out.grown (gb_same g15 hW)) (HL.out.grown (gb_same G14.out (gb_same g15 hW))) hk
        · omega)
      have HP1 : Hid ((r1 = 0 ∧ ml.length ≤ 1536) ∨ (r1 = 4 ∧ 1536 < ml.length)) := Lib.hid (by rcases HR1.out with ⟨h1, h2, _⟩ | ⟨h1, h2⟩; exact .inl ⟨h1, h2⟩; exact .inr ⟨h1, by omega⟩)
      have HP3 : Hid ((r3 = 0 ∧ xl.length ≤ 1536) ∨ (r3 = 4 ∧ 1536 < xl.length)) := Lib.hid (by rcases HR3.out with ⟨h1, h2, _⟩ | ⟨h1, h2⟩; exact .inl ⟨h1, h2⟩; exact .inr ⟨h1, by omega⟩)
      have HP2 : Hid ((r2 = 0 ∧ sh = true) ∨ (r2 = 4 ∧ sh = false)) := Lib.hid (by rcases HR2.out with ⟨h1, h2, _⟩ | ⟨h1, h2⟩; exact .inl ⟨h1, h2⟩; exact .inr ⟨h1, h2⟩)
      clear HR1 HR2 HR3 hy g15 hr3 HN12 HN13 HN14 HQ14 HB12 HB13 HC12 HC13 HC14 HA11 HB11 HC11 HA10 HB10 HC10 HBM10 HBX10 HBM11 HBX11 HBM12 HBX12 HBM13 HBX13 HBM14 HBX14 HBN13 HBN14 G12 G13 G14 HWM HWX HWE HQM HQX HQE HSH hA hB hC
      rcases HP1.out with ⟨rfl, q1⟩ | ⟨rfl, q1⟩ <;> rcases HP2.out with ⟨rfl, rfl⟩ | ⟨rfl, rfl⟩ <;> rcases HP3.out with ⟨rfl, q3⟩ | ⟨rfl, q3⟩
      all_goals (try (have HSM1 := Lib.hid (HSM.out rfl)))
      all_goals (try (have HSX1 := Lib.hid (HSX.out rfl)))
      all_goals (try (have HSE1 := Lib.hid (HSE.out rfl)))
      all_goals clear HSM HSX HSE HP1 HP2 HP3
      all_goals (go_wp2_with (first | ((with_reducible refine is_store 65 16 102 ?_); go_must (refine st_row 65 16 102 w15.heap.size _ #[.int .i64 s0, .int .i64 s1, .int .i64 s2, .int .i64 s3, .int .i64 s4, .int .i64 s5, .int .i64 s6, .slice ya yn yc] _ rfl rfl (heap_at_alloc _ _) sz_ent rfl rfl ?_; intro wn hbf hgf; have g0 : w15.grownBy wn none := gb_new (gb_alloc _ _ _) hgf (Nat.le_refl _); have HQ := Lib.hid (And.intro g0 hbf); have HW := Lib.hid (HK.out _ HQ.out.2 HQ.out.1); have fm0 : wn.cell? ⟨w.heap.size, 0, none⟩ = some (.int .i64 z0) := cell_row HW.out.1; have fm1 : wn.cell? ⟨w.heap.size, 1, none⟩ = some (.int .i64 z1) := cell_row HW.out.1; have fm2 : wn.cell? ⟨w.heap.size, 2, none⟩ = some (.int .i64 z2) := cell_row HW.out.1; have fm3 : wn.cell? ⟨w.heap.size, 3, none⟩ = some (.int .i64 z3) := cell_row HW.out.1; have fm4 : wn.cell? ⟨w.heap.size, 4, none⟩ = some (.int .i64 z4) := cell_row HW.out.1; have fm5 : wn.cell? ⟨w.heap.size, 5, none⟩ = some (.int .i64 z5) := cell_row HW.out.1; have fm6 : wn.cell? ⟨w.heap.size, 6, none⟩ = some (.int .i64 z6) := cell_row HW.out.1; have fm7 : wn.cell? ⟨w.heap.size, 7, none⟩ = some (.int .i64 z7) := cell_row HW.out.1; have fm8 : wn.cell? ⟨w.heap.size, 8, none⟩ = some (.slice am ml.length cm) := cell_row HW.out.1; have fn0 : wn.cell? ⟨w12.heap.size, 0, none⟩ = some (.int .i64 t0) := cell_row HW.out.2.2.1; have fn1 : wn.cell? ⟨w12.heap.size, 1, none⟩ = some (.int .i64 t1) := cell_row HW.out.2.2.1; have fn2 : wn.cell? ⟨w12.heap.size, 2, none⟩ = some (.int .i64 t2) := cell_row HW.out.2.2.1; have fn3 : wn.cell? ⟨w12.heap.size, 3, none⟩ = some (.int .i64 t3) := cell_row HW.out.2.2.1; have fn4 : wn.cell? ⟨w12.heap.size, 4, none⟩ = some (.int .i64 t4) := cell_row HW.out.2.2.1; have fn5 : wn.cell? ⟨w12.heap.size, 5, none⟩ = some (.int .i64 t5) := cell_row HW.out.2.2.1; have fn6 : wn.cell? ⟨w12.heap.size, 6, none⟩ = some (.int .i64 t6) := cell_row HW.out.2.2.1; have fn7 : wn.cell? ⟨w12.heap.size, 7, none⟩ = some (.int .i64 t7) := cell_row HW.out.2.2.1; have fn8 : wn.cell? ⟨w12.heap.size, 8, none⟩ = some (.slice na nn nc) := cell_row HW.out.2.2.1; have fx0 : wn.cell? ⟨w.heap.size + 1, 0, none⟩ = some (.int .i64 y0) := cell_row HW.out.2.1; have fx1 : wn.cell? ⟨w.heap.size + 1, 1, none⟩ = some (.int .i64 y1) := cell_row HW.out.2.1; have fx2 : wn.cell? ⟨w.heap.size + 1, 2, none⟩ = some (.int .i64 y2) := cell_row HW.out.2.1; have fx3 : wn.cell? ⟨w.heap.size + 1, 3, none⟩ = some (.int .i64 y3) := cell_row HW.out.2.1; have fx4 : wn.cell? ⟨w.heap.size + 1, 4, none⟩ = some (.int .i64 y4) := cell_row HW.out.2.1; have fx5 : wn.cell? ⟨w.heap.size + 1, 5, none⟩ = some (.int .i64 y5) := cell_row HW.out.2.1; have fx6 : wn.cell? ⟨w.heap.size + 1, 6, none⟩ = some (.int .i64 y6) := cell_row HW.out.2.1; have fx7 : wn.cell? ⟨w.heap.size + 1, 7, none⟩ = some (.slice ax xl.length cx) := cell_row HW.out.2.1; have fu0 : wn.cell? ⟨w15.heap.size, 0, none⟩ = some (.int .i64 s0) := cell_row HQ.out.2; have fu1 : wn.cell? ⟨w15.heap.size, 1, none⟩ = some (.int .i64 s1) := cell_row HQ.out.2; have fu2 : wn.cell? ⟨w15.heap.size, 2, none⟩ = some (.int .i64 s2) := cell_row HQ.out.2; have fu3 : wn.cell? ⟨w15.heap.size, 3, none⟩ = some (.int .i64 s3) := cell_row HQ.out.2; have fu4 : wn.cell? ⟨w15.heap.size, 4, none⟩ = some (.int .i64 s4) := cell_row HQ.out.2; have fu5 : wn.cell? ⟨w15.heap.size, 5, none⟩ = some (.int .i64 s5) := cell_row HQ.out.2; have fu6 : wn.cell? ⟨w15.heap.size, 6, none⟩ = some (.int .i64 s6) := cell_row HQ.out.2; have fu7 : wn.cell? ⟨w15.heap.size, 7, none⟩ = some (.slice ya yn yc) := cell_row HQ.out.2; clear hbf hgf g0)) | (go_at_call 44; refine (HSM1.out _ HQ.out.1).mono ?_; go_must (rintro e wn ⟨rfl, hg1⟩; have hq := And.intro (gb_same HQ.out.1 hg1) (blk_kept HQ.out.2 hg1); have HQ := Lib.hid hq; have HW := Lib.hid (HK.out _ HQ.out.2 HQ.out.1); have fx0 : wn.cell? ⟨w.heap.size + 1, 0, none⟩ = some (.int .i64 y0) := cell_row HW.out.2.1; have fx1 : wn.cell? ⟨w.heap.size + 1, 1, none⟩ = some (.int .i64 y1) := cell_row HW.out.2.1; have fx2 : wn.cell? ⟨w.heap.size + 1, 2, none⟩ = some (.int .i64 y2) := cell_row HW.out.2.1; have fx3 : wn.cell? ⟨w.heap.size + 1, 3, none⟩ = some (.int .i64 y3) := cell_row HW.out.2.1; have fx4 : wn.cell? ⟨w.heap.size + 1, 4, none⟩ = some (.int .i64 y4) := cell_row HW.out.2.1; have fx5 : wn.cell? ⟨w.heap.size + 1, 5, none⟩ = some (.int .i64 y5) := cell_row HW.out.2.1; have fx6 : wn.cell? ⟨w.heap.size + 1, 6, none⟩ = some (.int .i64 y6) := cell_row HW.out.2.1; have fx7 : wn.cell? ⟨w.heap.size + 1, 7, none⟩ = some (.slice ax xl.length cx) := cell_row HW.out.2.1; have fu0 : wn.cell? ⟨w15.heap.size, 0, none⟩ = some (.int .i64 s0) := cell_row HQ.out.2; have fu1 : wn.cell? ⟨w15.heap.size, 1, none⟩ = some (.int .i64 s1) := cell_row HQ.out.2; have fu2 : wn.cell? ⟨w15.heap.size, 2, none⟩ = some (.int .i64 s2) := cell_row HQ.out.2; have fu3 : wn.cell? ⟨w15.heap.size, 3, none⟩ = some (.int .i64 s3) := cell_row HQ.out.2; have fu4 : wn.cell? ⟨w15.heap.size, 4, none⟩ = some (.int .i64 s4) := cell_row HQ.out.2; have fu5 : wn.cell? ⟨w15.heap.size, 5, none⟩ = some (.int .i64 s5) := cell_row HQ.out.2; have fu6 : wn.cell? ⟨w15.heap.size, 6, none⟩ = some (.int .i64 s6) := cell_row HQ.out.2; have fu7 : wn.cell? ⟨w15.heap.size, 7, none⟩ = some (.slice ya yn yc) := cell_row HQ.out.2; clear hg1 hq)) | (go_at_call 45; refine (HSE1.out _ HQ.out.1).mono ?_; go_must (rintro e wn ⟨rfl, hg1⟩; have hq := And.intro (gb_same HQ.out.1 hg1) (blk_kept HQ.out.2 hg1); have HQ := Lib.hid hq; have HW := Lib.hid (HK.out _ HQ.out.2 HQ.out.1); have fx0 : wn.cell? ⟨w.heap.size + 1, 0, none⟩ = some (.int .i64 y0) := cell_row HW.out.2.1; have fx1 : wn.cell? ⟨w.heap.size + 1, 1, none⟩ = some (.int .i64 y1) := cell_row HW.out.2.1; have fx2 : wn.cell? ⟨w.heap.size + 1, 2, none⟩ = some (.int .i64 y2) := cell_row HW.out.2.1; have fx3 : wn.cell? ⟨w.heap.size + 1, 3, none⟩ = some (.int .i64 y3) := cell_row HW.out.2.1; have fx4 : wn.cell? ⟨w.heap.size + 1, 4, none⟩ = some (.int .i64 y4) := cell_row HW.out.2.1; have fx5 : wn.cell? ⟨w.heap.size + 1, 5, none⟩ = some (.int .i64 y5) := cell_row HW.out.2.1; have fx6 : wn.cell? ⟨w.heap.size + 1, 6, none⟩ = some (.int .i64 y6) := cell_row HW.out.2.1; have fx7 : wn.cell? ⟨w.heap.size + 1, 7, none⟩ = some (.slice ax xl.length cx) := cell_row HW.out.2.1; have fu0 : wn.cell? ⟨w15.heap.size, 0, none⟩ = some (.int .i64 s0) := cell_row HQ.out.2; have fu1 : wn.cell? ⟨w15.heap.size, 1, none⟩ = some (.int .i64 s1) := cell_row HQ.out.2; have fu2 : wn.cell? ⟨w15.heap.size, 2, none⟩ = some (.int .i64 s2) := cell_row HQ.out.2; have fu3 : wn.cell? ⟨w15.heap.size, 3, none⟩ = some (.int .i64 s3) := cell_row HQ.out.2; have fu4 : wn.cell? ⟨w15.heap.size, 4, none⟩ = some (.int .i64 s4) := cell_row HQ.out.2; have fu5 : wn.cell? ⟨w15.heap.size, 5, none⟩ = some (.int .i64 s5) := cell_row HQ.out.2; have fu6 : wn.cell? ⟨w15.heap.size, 6, none⟩ = some (.int .i64 s6) := cell_row HQ.out.2; have fu7 : wn.cell? ⟨w15.heap.size, 7, none⟩ = some (.slice ya yn yc) := cell_row HQ.out.2; clear hg1 hq)) | (go_at_call 46; refine (HSX1.out _ HQ.out.1).mono ?_; go_must (rintro e wn ⟨rfl, hg1⟩; have hq := And.intro (gb_same HQ.out.1 hg1) (blk_kept HQ.out.2 hg1); have HQ := Lib.hid hq; have HW := Lib.hid (HK.out _ HQ.out.2 HQ.out.1); clear hg1 hq))))
      all_goals go_ret
      all_goals first
        | exact ⟨rfl, HW.out.2.2.2⟩
        | exact ⟨bool_end _ (by simp; omega), HW.out.2.2.2⟩
end Go.Proofs.Ytgfopepopcacmaa
