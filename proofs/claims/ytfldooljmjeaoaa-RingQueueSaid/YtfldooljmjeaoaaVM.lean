/-
  wire.Msg.
-/
import Derived.Test.YtfldooljmjeaoaaVE
import Derived.Deep.DeepMust
import Derived.Deep.RegionHeld3
namespace Go.Proofs.Ytfldooljmjeaoaa
open Go.RowKit Go.Shelf
def encM (a b : List Int) (z : List UInt8) : List UInt8 := encL a ++ encL b ++ encS z
/-- a new row of integers, or cells in the middle of one -/
theorem rdl4 {w : World} {g off : Nat} {z0 z1 z2 z3 : Int} (h0 : w.cell? ⟨g, off, none⟩ = some (.int .i64 z0)) (h1 : w.cell? ⟨g, off + 1, none⟩ = some (.int .i64 z1)) (h2 : w.cell? ⟨g, off + 2, none⟩ = some (.int .i64 z2)) (h3 : w.cell? ⟨g, off + 3, none⟩ = some (.int .i64 z3)) :
    RdL w (.slice (some ⟨g, off, none⟩) 4 4) (ivs [z0, z1, z2, z3]) := by
  refine .inr ⟨g, off, 4, rfl, by simp [ivs], by unfold maxLen; omega, fun j x hj => ?_⟩
  match j, hj with
  | 0, hj => simp only [ivs, List.map, List.getElem?_cons_zero, Option.some.injEq] at hj; subst hj; exact h0
  | 1, hj => simp [ivs] at hj; subst hj; exact h1
  | 2, hj => simp [ivs] at hj; subst hj; exact h2
  | 3, hj => simp [ivs] at hj; subst hj; exact h3
  | j + 4, hj => simp [ivs] at hj

set_option maxRecDepth 100000 in
set_option maxHeartbeats 1000000 in
theorem wmsgW_any (v dv : Value) (w : World) (B : Nat) (x z : List UInt8) (z0 z1 z2 z3 z4 z5 z6 z7 : Int) (hown : Own w B v x) (hd : RdW w dv z) (hB : B ≤ w.heap.size)
    (hz : ∀ y ∈ [z0, z1, z2, z3, z4, z5, z6, z7], -9223372036854775808 ≤ y ∧ y ≤ 9223372036854775807) (hdv : z ≠ [] → ∀ k, dv.ownBlock = some k → v.ownBlock ≠ some k)
    (hx : x.length ≤ 274877906944) (hzl : z.length ≤ 274877906944) :
    Calls Try.prog 39 #[v, .agg #[.int .i64 z0, .int .i64 z1, .int .i64 z2, .int .i64 z3, .int .i64 z4, .int .i64 z5, .int .i64 z6, .int .i64 z7, dv]] w (DataPost w B v (x ++ encM [z0, z1, z2, z3] [z4, z5, z6, z7] z)) := by
  have hvl := hown.lt
  have hbl := fun (h : z ≠ []) => hd.blk h
  obtain ⟨wB, hwB⟩ : ∃ W, W = (w.alloc (Obj.cells #[.int .i64 z0, .int .i64 z1, .int .i64 z2, .int .i64 z3, .int .i64 z4, .int .i64 z5, .int .i64 z6, .int .i64 z7, dv] 39)).alloc (Obj.cells #[.int .i64 z0, .int .i64 z1, .int .i64 z2, .int .i64 z3] 3) := ⟨_, rfl⟩
  have gB : w.grownBy wB none := by rw [hwB]; exact gb_same (gb_alloc _ _ _) (gb_alloc _ _ _)
  have sB : wB.heap.size = w.heap.size + 2 := by rw [hwB]; simp
  have e0 : wB.heap[w.heap.size]? = some (Obj.cells #[.int .i64 z0, .int .i64 z1, .int .i64 z2, .int .i64 z3, .int .i64 z4, .int .i64 z5, .int .i64 z6, .int .i64 z7, dv] 39) := by
    rw [hwB]
    exact heap_alloc2_0 w _ _
  have e1 : wB.heap[w.heap.size + 1]? = some (Obj.cells #[.int .i64 z0, .int .i64 z1, .int .i64 z2, .int .i64 z3] 3) := by
    rw [hwB]
    exact heap_alloc2_1 w _ _
  have c0 := fun j => cell_row (j := j) e0
  have c1 := fun j => cell_row (j := j) e1
  have hA : (encL [z0, z1, z2, z3]).length ≤ 40 := encL_len _
  have HN1 := Lib.hid (numbers_any (.slice none 0 0) (.slice (some ⟨w.heap.size + 1, 0, none⟩) 4 4) wB (w.heap.size + 2) [] [z0, z1, z2, z3] (fun y hy => hz y (by simp at hy ⊢; omega)) (Own.nil _ _) (rdl4 (c1 0) (c1 1) (c1 2) (c1 3)) (by omega) (by simp [Value.ownBlock]) (by simp))
  have HN2 := Lib.hid (fun (v1 : Value) (W : World) (h1 : Own W (w.heap.size + 2) v1 (encL [z0, z1, z2, z3])) (h2 : wB.grownBy W none) => numbers_any v1 (.slice (some ⟨w.heap.size, 4, none⟩) 4 4) W (w.heap.size + 2) (encL [z0, z1, z2, z3]) [z4, z5, z6, z7] (fun y hy => hz y (by simp at hy ⊢; omega)) h1 ((rdl4 (c0 4) (c0 5) (c0 6) (c0 7)).grown h2) (by have := h2.size; omega) (fun _ k hk e => by cases hk; have := (h1.lt _ e).1; simp at this; omega) (by simp; omega))
  have HD8 : Hid (wB.cell? ⟨w.heap.size, 8, none⟩ = some dv) := Lib.hid (c0 8)
  have HO := Lib.hid hown
  have HDD := Lib.hid hd
  have HDV := Lib.hid hdv
  have HVL := Lib.hid hvl
  have HBL := Lib.hid hbl
  have GB := Lib.hid gB
  have HWB := Lib.hid hwB
  clear hown hd hz hdv hvl hbl c0 c1 gB hwB
  go_enter Try.func39, Try.ntmps39
  go_wp2_with fail
  rw [← HWB.out]
  refine HN1.out.mono ?_
  rintro e w5 ⟨v1, rfl, ho5, hg5, hf5⟩
  have hg5' : wB.grownBy w5 none := hg5
  have HO5 := Lib.hid ho5
  have c8 : w5.cell? ⟨w.heap.size, 8, none⟩ = some dv := hg5'.cell HD8.out (by simp)
  clear ho5 hg5 hf5
  have HC := Lib.hid (HN2.out v1 w5.drew (HO5.out.grown (gb_drew _ _)) (gb_same hg5' (gb_drew _ _)))
  have hA2 : (encL [z4, z5, z6, z7]).length ≤ 40 := encL_len _
  have HG5 := Lib.hid hg5'
  have HW := Lib.hid (fun (v2 : Value) (w6 : World) (h1 : Own w6 (w.heap.size + 2) v2 (encL [z0, z1, z2, z3] ++ encL [z4, z5, z6, z7])) (h2 : wB.grownBy w6 none) =>
    withDataW_any wB v v2 dv w6 B (w.heap.size + 2) x (encL [z0, z1, z2, z3] ++ encL [z4, z5, z6, z7]) z (HO.out.grown (gb_same GB.out h2)) h1 (HDD.out.grown (gb_same GB.out h2)) (Nat.le_trans hB (gb_same GB.out h2).size) (by have := h2.size; omega) (gb_none _ h2)
      (fun k hk => by have := (h1.lt k hk).1; omega) (fun k hk e => by have := (h1.lt k e).1; have := (HVL.out k hk).2; omega) HDV.out (fun h k hk e => by have := (h1.lt k e).1; have := HBL.out h k hk; omega) hx (by simp only [List.length_append]; omega) hzl)
  go_wp2_with fail
  go_region_held3 (fun w' => w'.cell? ⟨w.heap.size, 8, none⟩ = some dv) (go_keep) (first | (go_at_call 60; go_must (refine HC.out.mono ?_; rintro e w6 ⟨v2, rfl, ho6, hg6, hf6⟩; have d6 : w6.cell? ⟨w.heap.size, 8, none⟩ = some dv := hg6.cell (show w5.drew.cell? _ = _ from c8) (fun e => by have := (HO5.out.lt _ e.symm).1; simp at this; omega); have HO6 := Lib.hid ho6; have hg6' : wB.grownBy w6 none := gb_trans (gb_same HG5.out (gb_drew _ _)) hg6 (fun k hk => .inr (by have := (HO5.out.lt k hk).1; omega)); clear ho6 hg6 hf6)) | (go_at_call 61; go_must (refine (HW.out v2 w6 HO6.out hg6').mono ?_; rintro e w7 ⟨v3, rfl, ho7, hg7, hf7⟩; have d7 : w7.cell? ⟨w.heap.size, 8, none⟩ = some dv := hg7.cell HD8.out (fun e => by have := (HVL.out _ e.symm).2; simp at this))))
  go_wp2
  go_ret
  refine ⟨v3, rfl, ?_, gb_trans (gb_none _ GB.out) hg7 (fun k hk => .inl hk), fun k hk => ?_⟩
  · rw [show x ++ encM [z0, z1, z2, z3] [z4, z5, z6, z7] z = x ++ (encL [z0, z1, z2, z3] ++ encL [z4, z5, z6, z7] ++ enc z.length) ++ z by simp [encM, encS]]
    exact ho7
  · rcases hf7 k hk with h | h
    · exact .inl h
    · exact .inr (by omega)
theorem wmsg_any (v dv : Value) (w : World) (B : Nat) (x z : List UInt8) (z0 z1 z2 z3 z4 z5 z6 z7 : Int) (hown : Own w B v x) (hd : Rd w dv z) (hB : B ≤ w.heap.size)
    (hz : ∀ y ∈ [z0, z1, z2, z3, z4, z5, z6, z7], -9223372036854775808 ≤ y ∧ y ≤ 9223372036854775807) (hdv : z ≠ [] → ∀ k, dv.ownBlock = some k → v.ownBlock ≠ some k)
    (hx : x.length ≤ 274877906944) (hzl : z.length ≤ 274877906944) :
    Calls Try.prog 39 #[v, .agg #[.int .i64 z0, .int .i64 z1, .int .i64 z2, .int .i64 z3, .int .i64 z4, .int .i64 z5, .int .i64 z6, .int .i64 z7, dv]] w (DataPost w B v (x ++ encM [z0, z1, z2, z3] [z4, z5, z6, z7] z)) := wmsgW_any v dv w B x z z0 z1 z2 z3 z4 z5 z6 z7 hown hd.w hB hz hdv hx hzl
end Go.Proofs.Ytfldooljmjeaoaa
