/-
  wire.Entry: an entry appended.
-/
import Derived.Test.YtgfopepopcacmaaMsgE
namespace Go.Proofs.Ytgfopepopcacmaa
open Go.RowKit

def encX (a b : List Int) (r : Int) (z : List UInt8) : List UInt8 := encL a ++ encL b ++ enc r ++ encS z
theorem rdl3 {w : World} {g off : Nat} {z0 z1 z2 : Int} (h0 : w.cell? ⟨g, off, none⟩ = some (.int .i64 z0)) (h1 : w.cell? ⟨g, off + 1, none⟩ = some (.int .i64 z1)) (h2 : w.cell? ⟨g, off + 2, none⟩ = some (.int .i64 z2)) :
    RdL w (.slice (some ⟨g, off, none⟩) 3 3) (ivs [z0, z1, z2]) := by
  refine .inr ⟨g, off, 3, rfl, by simp [ivs], by unfold maxLen; omega, fun j x hj => ?_⟩
  match j, hj with
  | 0, hj => simp only [ivs, List.map, List.getElem?_cons_zero, Option.some.injEq] at hj; subst hj; exact h0
  | 1, hj => simp [ivs] at hj; subst hj; exact h1
  | 2, hj => simp [ivs] at hj; subst hj; exact h2
  | j + 3, hj => simp [ivs] at hj

set_option maxRecDepth 100000 in
set_option maxHeartbeats 1000000 in
theorem wentW_any (v dv : Value) (w : World) (B : Nat) (x z : List UInt8) (z0 z1 z2 z3 z4 z5 z6 : Int) (hown : Own w B v x) (hd : RdW w dv z) (hB : B ≤ w.heap.size)
    (hz : ∀ y ∈ [z0, z1, z2, z3, z4, z5, z6], -9223372036854775808 ≤ y ∧ y ≤ 9223372036854775807) (hdv : z ≠ [] → ∀ k, dv.ownBlock = some k → v.ownBlock ≠ some k)
    (hx : x.length ≤ 274877906944) (hzl : z.length ≤ 274877906944) :
    Calls Try.prog 38 #[v, .agg #[.int .i64 z0, .int .i64 z1, .int .i64 z2, .int .i64 z3, .int .i64 z4, .int .i64 z5, .int .i64 z6, dv]] w (DataPost w B v (x ++ encX [z0, z1, z2] [z3, z4, z5] z6 z)) := by
  have hvl := hown.lt
  have hbl := fun (h : z ≠ []) => hd.blk h
  obtain ⟨wB, hwB⟩ : ∃ W, W = (w.alloc (Obj.cells #[.int .i64 z0, .int .i64 z1, .int .i64 z2, .int .i64 z3, .int .i64 z4, .int .i64 z5, .int .i64 z6, dv] 65)).alloc (Obj.cells #[.int .i64 z0, .int .i64 z1, .int .i64 z2] 3) := ⟨_, rfl⟩
  have gB : w.grownBy wB none := by rw [hwB]; exact gb_same (gb_alloc _ _ _) (gb_alloc _ _ _)
  have sB : wB.heap.size = w.heap.size + 2 := by rw [hwB]; simp
  have e0 : wB.heap[w.heap.size]? = some (Obj.cells #[.int .i64 z0, .int .i64 z1, .int .i64 z2, .int .i64 z3, .int .i64 z4, .int .i64 z5, .int .i64 z6, dv] 65) := by
    rw [hwB]
    exact heap_alloc2_0 w _ _
  have e1 : wB.heap[w.heap.size + 1]? = some (Obj.cells #[.int .i64 z0, .int .i64 z1, .int .i64 z2] 3) := by
    rw [hwB]
    exact heap_alloc2_1 w _ _
  have c0 := fun j => cell_row (j := j) e0
  have c1 := fun j => cell_row (j := j) e1
  have hA : (encL [z0, z1, z2]).length ≤ 30 := encL_len _
  have hA2 : (encL [z3, z4, z5]).length ≤ 30 := encL_len _
  have hA3 := (enc_len z6).2
  have hz6 := hz z6 (by simp)
  have HN1 := Lib.hid (numbers_any (.slice none 0 0) (.slice (some ⟨w.heap.size + 1, 0, none⟩) 3 3) wB (w.heap.size + 2) [] [z0, z1, z2] (fun y hy => hz y (by simp at hy ⊢; omega)) (Own.nil _ _) (rdl3 (c1 0) (c1 1) (c1 2)) (by omega) (by simp [Value.ownBlock]) (by simp))
  have HN2 := Lib.hid (fun (v1 : Value) (W : World) (h1 : Own W (w.heap.size + 2) v1 (encL [z0, z1, z2])) (h2 : wB.grownBy W none) => numbers_any v1 (.slice (some ⟨w.heap.size, 3, none⟩) 3 3) W (w.heap.size + 2) (encL [z0, z1, z2]) [z3, z4, z5] (fun y hy => hz y (by simp at hy ⊢; omega)) h1 ((rdl3 (c0 3) (c0 4) (c0 5)).grown h2) (by have := h2.size; omega) (fun _ k hk e => by cases hk; have := (h1.lt _ e).1; simp at this; omega) (by simp; omega))
  have HN3 := Lib.hid (fun (v1 : Value) (W : World) (h1 : Own W (w.heap.size + 2) v1 (encL [z0, z1, z2] ++ encL [z3, z4, z5])) (h2 : wB.grownBy W none) => int_any v1 z6 W (w.heap.size + 2) (encL [z0, z1, z2] ++ encL [z3, z4, z5]) hz6.1 hz6.2 h1 (by have := h2.size; omega) (by simp only [List.length_append]; omega))
  have HD6 : Hid (wB.cell? ⟨w.heap.size, 6, none⟩ = some (.int .i64 z6)) := Lib.hid (c0 6)
  have HD7 : Hid (wB.cell? ⟨w.heap.size, 7, none⟩ = some dv) := Lib.hid (c0 7)
  have HO := Lib.hid hown
  have HDD := Lib.hid hd
  have HDV := Lib.hid hdv
  have HVL := Lib.hid hvl
  have HBL := Lib.hid hbl
  have GB := Lib.hid gB
  have HWB := Lib.hid hwB
  clear hown hd hz hz6 hdv hvl hbl c0 c1 e0 e1 gB hwB
  go_enter Try.func38, Try.ntmps38
  go_wp2_with fail
  rw [← HWB.out]
  refine HN1.out.mono ?_
  rintro e w5 ⟨v1, rfl, ho5, hg5, hf5⟩
  have hg5' : wB.grownBy w5 none := hg5
  have HO5 := Lib.hid ho5
  have c6 : w5.cell? ⟨w.heap.size, 6, none⟩ = some (.int .i64 z6) := hg5'.cell HD6.out (by simp)
  clear ho5 hg5 hf5
  have HC := Lib.hid (HN2.out v1 w5.drew (HO5.out.grown (gb_drew _ _)) (gb_same hg5' (gb_drew _ _)))
  have HG5 := Lib.hid hg5'
  have HW := Lib.hid (fun (v2 : Value) (w6 : World) (h1 : Own w6 (w.heap.size + 2) v2 (encL [z0, z1, z2] ++ encL [z3, z4, z5] ++ enc z6)) (h2 : wB.grownBy w6 none) =>
    withDataW_any wB v v2 dv w6 B (w.heap.size + 2) x (encL [z0, z1, z2] ++ encL [z3, z4, z5] ++ enc z6) z (HO.out.grown (gb_same GB.out h2)) h1 (HDD.out.grown (gb_same GB.out h2)) (Nat.le_trans hB (gb_same GB.out h2).size) (by have := h2.size; omega) (gb_none _ h2)
      (fun k hk => by have := (h1.lt k hk).1; omega) (fun k hk e => by have := (h1.lt k e).1; have := (HVL.out k hk).2; omega) HDV.out (fun h k hk e => by have := (h1.lt k e).1; have := HBL.out h k hk; omega) hx (by simp only [List.length_append]; omega) hzl)
  go_wp2_with fail
  go_region_held3 (fun w' => w'.cell? ⟨w.heap.size, 6, none⟩ = some (.int .i64 z6)) (go_keep) (first | (go_at_call 61; go_must (refine HC.out.mono ?_; rintro e w6 ⟨v2, rfl, ho6, hg6, hf6⟩; have hg6' : wB.grownBy w6 none := gb_trans (gb_same HG5.out (gb_drew _ _)) hg6 (fun k hk => .inr (by have := (HO5.out.lt k hk).1; omega)); have d6 : w6.cell? ⟨w.heap.size, 6, none⟩ = some (.int .i64 z6) := hg6'.cell HD6.out (by simp); have HO6 := Lib.hid ho6; clear ho6 hg6 hf6)) | (go_at_call 20; go_must (refine (HN3.out v2 w6 HO6.out hg6').mono ?_; rintro e w7 ⟨v3, rfl, ho7, hg7, hf7⟩; have hg7' : wB.grownBy w7 none := gb_trans hg6' hg7 (fun k hk => .inr (by have := (HO6.out.lt k hk).1; omega)); have d7 : w7.cell? ⟨w.heap.size, 6, none⟩ = some (.int .i64 z6) := hg7'.cell HD6.out (by simp); have e7 : w7.cell? ⟨w.heap.size, 7, none⟩ = some dv := hg7'.cell HD7.out (by simp); have HO7 := Lib.hid ho7; clear ho7 hg7 hf7)))
  go_wp2_with (go_at_call 62; refine (HW.out v3 w7 HO7.out hg7').mono ?_; rintro e w8 ⟨v4, rfl, ho8, hg8, hf8⟩)
  go_ret
  refine ⟨v4, rfl, ?_, gb_trans (gb_none _ GB.out) hg8 (fun k hk => .inl hk), fun k hk => ?_⟩
  · rw [show x ++ encX [z0, z1, z2] [z3, z4, z5] z6 z = x ++ (encL [z0, z1, z2] ++ encL [z3, z4, z5] ++ enc z6 ++ enc z.length) ++ z by simp [encX, encS]]
    exact ho8
  · rcases hf8 k hk with h | h
    · exact .inl h
    · exact .inr (by omega)
theorem went_any (v dv : Value) (w : World) (B : Nat) (x z : List UInt8) (z0 z1 z2 z3 z4 z5 z6 : Int) (hown : Own w B v x) (hd : Rd w dv z) (hB : B ≤ w.heap.size)
    (hz : ∀ y ∈ [z0, z1, z2, z3, z4, z5, z6], -9223372036854775808 ≤ y ∧ y ≤ 9223372036854775807) (hdv : z ≠ [] → ∀ k, dv.ownBlock = some k → v.ownBlock ≠ some k)
    (hx : x.length ≤ 274877906944) (hzl : z.length ≤ 274877906944) :
    Calls Try.prog 38 #[v, .agg #[.int .i64 z0, .int .i64 z1, .int .i64 z2, .int .i64 z3, .int .i64 z4, .int .i64 z5, .int .i64 z6, dv]] w (DataPost w B v (x ++ encX [z0, z1, z2] [z3, z4, z5] z6 z)) := wentW_any v dv w B x z z0 z1 z2 z3 z4 z5 z6 hown hd.w hB hz hdv hx hzl
end Go.Proofs.Ytgfopepopcacmaa
