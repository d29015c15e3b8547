/-
  law.SumDamage: the walk.
-/
import Derived.Test.YtbibgjkcapjgnaaSumRight
import Derived.Test.YtbibgjkcapjgnaaSumOne
import Derived.Test.YtbibgjkcapjgnaaSDamMath
namespace Go.Proofs.Ytbibgjkcapjgnaa
open Go.RowKit

theorem dmg_store {w3 : World} {b g j cap n c B : Nat} {ad : Option Addr} {l : List UInt8} {x y : UInt8} {z0 z1 z2 z3 z4 z5 z6 z7 : Int} {T : TypeId} (hr : w3.heap[b]? = some (Obj.cells #[.int .i64 z0, .int .i64 z1, .int .i64 z2, .int .i64 z3, .int .i64 z4, .int .i64 z5, .int .i64 z6, .int .i64 z7, .slice ad n c] T)) (ho : Own w3 B (Value.slice (some ⟨g, 0, none⟩) l.length cap) l) (hj : l[j]? = some y) (hne : b ≠ g) :
    (w3.setCell ⟨b, 8, none⟩ (Value.slice (some ⟨g, 0, none⟩) l.length cap)).cell? ⟨g, j, none⟩ = some (.int .u8 (y.toNat : Int)) ∧ (w3.setCell ⟨b, 8, none⟩ (Value.slice (some ⟨g, 0, none⟩) l.length cap)).frozen? ⟨g, j, none⟩ = false ∧ ((w3.setCell ⟨b, 8, none⟩ (Value.slice (some ⟨g, 0, none⟩) l.length cap)).setCell ⟨g, j, none⟩ (.int .u8 (x.toNat : Int))).heap[b]? = some (Obj.cells #[.int .i64 z0, .int .i64 z1, .int .i64 z2, .int .i64 z3, .int .i64 z4, .int .i64 z5, .int .i64 z6, .int .i64 z7, .slice (some ⟨g, 0, none⟩) l.length cap] T) ∧ Own ((w3.setCell ⟨b, 8, none⟩ (Value.slice (some ⟨g, 0, none⟩) l.length cap)).setCell ⟨g, j, none⟩ (.int .u8 (x.toNat : Int))) B (Value.slice (some ⟨g, 0, none⟩) l.length cap) (l.set j x) ∧ w3.grownBy (w3.setCell ⟨b, 8, none⟩ (Value.slice (some ⟨g, 0, none⟩) l.length cap)) (some b) ∧ (w3.setCell ⟨b, 8, none⟩ (Value.slice (some ⟨g, 0, none⟩) l.length cap)).grownBy ((w3.setCell ⟨b, 8, none⟩ (Value.slice (some ⟨g, 0, none⟩) l.length cap)).setCell ⟨g, j, none⟩ (.int .u8 (x.toNat : Int))) (some g) := by
  have g34 : w3.grownBy (w3.setCell ⟨b, 8, none⟩ (Value.slice (some ⟨g, 0, none⟩) l.length cap)) (some b) := gb_setCell _ _ _
  have g45 : (w3.setCell ⟨b, 8, none⟩ (Value.slice (some ⟨g, 0, none⟩) l.length cap)).grownBy ((w3.setCell ⟨b, 8, none⟩ (Value.slice (some ⟨g, 0, none⟩) l.length cap)).setCell ⟨g, j, none⟩ (.int .u8 (x.toNat : Int))) (some g) := gb_setCell _ _ _
  have ho4 : Own (w3.setCell ⟨b, 8, none⟩ (Value.slice (some ⟨g, 0, none⟩) l.length cap)) B (Value.slice (some ⟨g, 0, none⟩) l.length cap) l := ho.kept g34 (fun k hk e => by cases hk; exact hne (Option.some.inj e))
  refine ⟨ho4.cellAt rfl j y hj, ho4.frozenAt rfl j, ?_, ho4.set rfl j x, g34, g45⟩
  refine blk_kept' ?_ g45 (fun e => hne (Option.some.inj e).symm)
  rw [heap_setCell_same _ _ _ _ _ _ hr, List.setIfInBounds_toArray]
  rfl
theorem u8_xor (a b : UInt8) : bits .xor .u8 (a.toNat : Int) (b.toNat : Int) = ((a ^^^ b).toNat : Int) := by
  rw [u8_xor_nat _ _ a.toNat_lt b.toNat_lt, UInt8.toNat_xor]

set_option maxRecDepth 100000 in
set_option maxHeartbeats 4000000 in
theorem sumDamage_any (z0 z1 z2 z3 z4 z5 z6 z7 : Int) (dv : Value) (l : List UInt8) (a : Nat) (t m : UInt8) (w : World) (ha : a < 65536) (hv : Rd w dv l) :
    Calls Try.prog 7 #[msgV z0 z1 z2 z3 z4 z5 z6 z7 dv, .agg #[.int .u16 (a : Int), .int .u8 (t.toNat : Int)], .int .u8 (m.toNat : Int)] w (BoolQ true w) := by
  have hs := hv.small
  obtain ⟨ad, c, rfl⟩ := hv.len
  obtain ⟨w0, hw0⟩ : ∃ W, W = (w.alloc (Obj.cells #[.int .i64 z0, .int .i64 z1, .int .i64 z2, .int .i64 z3, .int .i64 z4, .int .i64 z5, .int .i64 z6, .int .i64 z7, .slice ad l.length c] 39)).alloc (Obj.cells #[.int .u16 (a : Int), .int .u8 (t.toNat : Int)] 34) := ⟨_, rfl⟩
  obtain ⟨hb0, hb1, hg0⟩ := two_blocks hw0
  have HB := Lib.hid hb0
  have HB1 := Lib.hid hb1
  have HG0 := Lib.hid hg0
  have HW := Lib.hid hw0
  have HV := Lib.hid hv
  clear hw0 hv hb0 hb1 hg0
  unfold msgV
  go_enter Try.func7, Try.ntmps7
  go_wp2_with fail
  rw [← HW.out]
  refine (awake_any _).mono ?_; rintro e w1 ⟨rfl, hg1⟩
  have HR1 := Lib.hid (blk_kept HB.out hg1)
  have c8 : w1.cell? ⟨w.heap.size, 8, none⟩ = some (.slice ad l.length c) := cell_row HR1.out
  have d0 : w1.cell? ⟨w.heap.size + 1, 0, none⟩ = some (.int .u16 (a : Int)) := cell_row (blk_kept HB1.out hg1)
  have HG1 := Lib.hid (gb_same HG0.out hg1)
  clear hg1 HB HB1 HG0 HW
  by_cases h600 : 600 < l.length
  · go_wp2
    go_ret
    exact ⟨rfl, HG1.out⟩
  by_cases hm0 : m = 0
  · subst hm0
    go_wp2
    go_ret
    exact ⟨rfl, HG1.out⟩
  have hmn : ((m.toNat : Int) == 0) = false := by
    rw [beq_eq_false_iff_ne]
    intro e
    exact hm0 (UInt8.toNat_inj.1 (by simpa using e))
  obtain ⟨c0, c1, c2, c3, c4, c5, c6, c7, _⟩ := nine HR1.out
  have hfr : w1.frozen? ⟨w.heap.size, 7, none⟩ = false := frozen_of_row _ _ _ _ _ HR1.out
  have HA := Lib.hid (answer_any z4 z5 z6 _ l w1 (HV.out.grown HG1.out))
  obtain ⟨A, HAA⟩ : ∃ A, Hid (answer z4 z5 z6 l = A) := ⟨_, Lib.hid rfl⟩
  rw [HAA.out] at HA
  have hrow := heap_setCell_same w1 w.heap.size 7 _ _ (.int .i64 A) HR1.out
  simp only [List.setIfInBounds_toArray, List.set_cons_succ, List.set_cons_zero] at hrow
  obtain ⟨w2, hw2⟩ : ∃ W, W = w1.setCell ⟨w.heap.size, 7, none⟩ (.int .i64 A) := ⟨_, rfl⟩
  rw [← hw2] at hrow
  have HG12 : Hid (w1.grownBy w2 (some w.heap.size)) := Lib.hid (by rw [hw2]; exact gb_setCell _ _ _)
  have hsz : w.heap.size + 1 < w1.heap.size := World.block_lt_of_cell? _ _ d0
  have HW2 := Lib.hid hw2
  have HR2 := Lib.hid hrow
  clear hrow hw2
  have G2A := Lib.hid (fun o => gb_trans HG1.out (gb_trans0 HG12.out (gb_alloc w2 o none)) (fun k hk => .inr (by cases hk; exact Nat.le_refl _)))
  have G12A := Lib.hid (fun o => gb_trans0 HG12.out (gb_alloc w2 o none))
  obtain ⟨i, hii⟩ : ∃ i, a % (24 + l.length) = i := ⟨_, rfl⟩
  have hi : i < 24 + l.length := by rw [← hii]; exact Nat.mod_lt _ (by omega)
  have hia : (a : Int) % (24 + (l.length : Int)) = (i : Int) := by rw [← hii, Int.natCast_emod]; rfl
  have h24 : 0 ≤ (l.length : Int) := Int.natCast_nonneg _
  have hsz2 : w2.heap.size = w1.heap.size := by rw [HW2.out]; simp
  have HS2 := Lib.hid hsz2
  have HO : Hid (Own (w2.alloc (.cells #[] 5)) w1.heap.size (.slice (some ⟨w1.heap.size, 0, none⟩) 0 0) []) := Lib.hid (by have h := Own.lit w2 #[] [] 0 w2.heap.size rfl rfl (Nat.le_refl _) (Nat.zero_le _); rw [hsz2] at h; exact h)
  have g8 : ∀ o, ((w1.setCell ⟨w.heap.size, 7, none⟩ (.int .i64 A)).alloc o).cell? ⟨w.heap.size, 8, none⟩ = some (.slice ad l.length c) := fun o => by rw [← HW2.out]; exact (gb_alloc w2 o none).cell (cell_row (j := 8) HR2.out) (by simp)
  clear hii hsz2
  by_cases hi24 : i < 24
  · obtain ⟨q, hq⟩ : ∃ q, i / 8 = q := ⟨_, rfl⟩
    obtain ⟨r, hr⟩ : ∃ r, i % 8 = r := ⟨_, rfl⟩
    have hq3 : q < 3 := by omega
    have hr8 : r < 8 := by omega
    have hqi : (i : Int) / 8 = (q : Int) := by omega
    have hri : (i : Int) % 8 = (r : Int) := by omega
    have hi24' : (i : Int) < 24 := by omega
    go_wp2_with (first | (go_at_call 14; refine HA.out.mono ?_; rintro e w' ⟨rfl, rfl⟩) | (at_builtin; rw [← HW2.out]; refine app_bytes rfl (.tmp 32) (.tmp 34) rfl w1.heap.size _ _ [] l rfl rfl HO.out (HV.out.grown (G2A.out _)) (by rw [← HS2.out]; simp) (by simp; omega) ?_; go_must (intro v3 w3 ho3 hg3 hf3; rw [List.nil_append] at ho3; obtain ⟨a3, cap3, rfl⟩ := ho3.rd.len; have HO3 := Lib.hid ho3; have G13 : w1.grownBy w3 (some w.heap.size) := gb_trans (G12A.out _) hg3 (fun k hk => .inr (by cases hk; exact Nat.le_refl _)); have HR3 := Lib.hid (blk_kept' (blk_kept HR2.out (gb_alloc w2 _ none)) hg3 (fun e => by have e2 : w1.heap.size = w.heap.size := Option.some.inj e; omega)); have e8 : w3.cell? ⟨w.heap.size, 8, none⟩ = some (.slice ad l.length c) := cell_row HR3.out; have f8 : w3.frozen? ⟨w.heap.size, 8, none⟩ = false := frozen_of_row _ _ _ _ _ HR3.out; have f0 := G13.cell d0 (by simp); have HG3 := Lib.hid (gb_trans HG1.out G13 (fun k hk => .inr (by cases hk; exact Nat.le_refl _))); have HG13 := Lib.hid G13; clear ho3 hg3 hf3 G13)))
    obtain ⟨w4, hw4⟩ : ∃ W, W = w3.setCell ⟨w.heap.size, 8, none⟩ (.slice a3 l.length cap3) := ⟨_, rfl⟩
    have hrow4 := heap_setCell_same w3 w.heap.size 8 _ _ (.slice a3 l.length cap3) HR3.out
    simp only [List.setIfInBounds_toArray, List.set_cons_succ, List.set_cons_zero] at hrow4
    rw [← hw4] at hrow4
    have HR4 := Lib.hid hrow4
    have HG34 : Hid (w3.grownBy w4 (some w.heap.size)) := Lib.hid (by rw [hw4]; exact gb_setCell _ _ _)
    rw [← hw4]
    clear hw4 hrow4
    obtain ⟨g0, g1, g2, g3, g4, g5, g6, g7, _⟩ := nine HR4.out
    have k4 : w4.frozen? ⟨w.heap.size, 4 + q, none⟩ = false := frozen_of_row _ _ _ _ _ HR4.out
    obtain ⟨zq, hzq⟩ : ∃ zq, w4.cell? ⟨w.heap.size, 4 + q, none⟩ = some (.int .i64 zq) := by
      match q, hq3 with
      | 0, _ => exact ⟨_, g4⟩
      | 1, _ => exact ⟨_, g5⟩
      | 2, _ => exact ⟨_, g6⟩
    go_region
    obtain ⟨w5, hw5⟩ : ∃ W, W = w4.setCell ⟨w.heap.size, 4 + q, none⟩ (.int .i64 (dmgV zq m r)) := ⟨_, rfl⟩
    unfold dmgV at hw5
    have HG45 : Hid (w4.grownBy w5 (some w.heap.size)) := Lib.hid (by rw [hw5]; exact gb_setCell _ _ _)
    rw [← hw5]
    have HG5 := Lib.hid (gb_trans HG3.out (gb_same HG34.out HG45.out) (fun k hk => .inr (by cases hk; exact Nat.le_refl _)))
    have HR5 : Hid (w5.heap[w.heap.size]? = some (Obj.cells ((#[.int .i64 z0, .int .i64 z1, .int .i64 z2, .int .i64 z3, .int .i64 z4, .int .i64 z5, .int .i64 z6, .int .i64 A, .slice a3 l.length cap3] : Array Value).setIfInBounds (4 + q) (.int .i64 (dmgV zq m r))) 39)) := Lib.hid (by rw [hw5]; exact heap_setCell_same _ _ _ _ _ _ HR4.out)
    have HV5 : Hid (Rd w5.drew (.slice a3 l.length cap3) l) := Lib.hid ((HO3.out.rd.kept (gb_same HG34.out HG45.out) (fun k hk e => by have := (HO3.out.lt k hk).1; cases e; omega)).grown (gb_drew _ _))
    clear hw5 g0 g1 g2 g3 g7 k4 HR4
    have hcase : ∃ y0 y1 y2 : Int, w5.heap[w.heap.size]? = some (Obj.cells #[.int .i64 z0, .int .i64 z1, .int .i64 z2, .int .i64 z3, .int .i64 y0, .int .i64 y1, .int .i64 y2, .int .i64 A, .slice a3 l.length cap3] 39) ∧ (A == answer y0 y1 y2 l) = false := by
      have h5 := HR5.out
      match q, hq3 with
      | 0, _ => rw [g4] at hzq; cases hzq; exact ⟨_, _, _, by rw [h5, List.setIfInBounds_toArray]; rfl, by rw [← HAA.out]; exact answer_d _ _ _ _ _ _ hm0 hr8⟩
      | 1, _ => rw [g5] at hzq; cases hzq; exact ⟨_, _, _, by rw [h5, List.setIfInBounds_toArray]; rfl, by rw [← HAA.out]; exact answer_t _ _ _ _ _ _ hm0 hr8⟩
      | 2, _ => rw [g6] at hzq; cases hzq; exact ⟨_, _, _, by rw [h5, List.setIfInBounds_toArray]; rfl, by rw [← HAA.out]; exact answer_a _ _ _ _ _ _ hm0 hr8⟩
    obtain ⟨y0, y1, y2, hrow5, hans⟩ := hcase
    have hrt := right_any z0 z1 z2 z3 y0 y1 y2 A _ l w5.drew HV5.out
    rw [hans] at hrt
    unfold msgV at hrt
    have HRT := Lib.hid hrt
    obtain ⟨n0, n1, n2, n3, n4, n5, n6, n7, n8⟩ := nine (show w5.drew.heap[w.heap.size]? = _ from hrow5)
    clear hrt hans hrow5 hzq g4 g5 g6
    go_wp2_with fail
    refine HRT.out.mono ?_; rintro e w6 ⟨rfl, hg6⟩
    have HG6 := Lib.hid (gb_same (gb_same HG5.out (gb_drew _ _)) hg6)
    clear hg6
    go_wp2
    go_ret
    exact ⟨rfl, HG6.out⟩
  · have hi24' : 24 ≤ (i : Int) := by omega
    have hj : i - 24 < l.length := by omega
    have HNE : Hid (l ≠ []) := Lib.hid (fun e => by rw [e] at hj; simp at hj)
    obtain ⟨y, hy⟩ : ∃ y, l[i - 24] = y := ⟨_, rfl⟩
    have HY : Hid (l[i - 24]? = some y) := Lib.hid (by rw [List.getElem?_eq_getElem hj, hy])
    obtain ⟨x, hx⟩ : ∃ x, y ^^^ m = x := ⟨_, rfl⟩
    have hx8 := u8_xor y m
    rw [hx] at hx8
    have hans := answer_l z4 z5 z6 l m (i - 24) hm0 hj
    rw [HAA.out, hy, hx] at hans
    have HAN := Lib.hid hans
    clear hans hy hx
    go_wp2_with (first | (go_at_call 14; refine HA.out.mono ?_; rintro e w' ⟨rfl, rfl⟩) | (at_builtin; rw [← HW2.out]; refine app_bytes rfl (.tmp 32) (.tmp 34) rfl w1.heap.size _ _ [] l rfl rfl HO.out (HV.out.grown (G2A.out _)) (by rw [← HS2.out]; simp) (by simp; omega) ?_; go_must (intro v3 w3 ho3 hg3 hf3; rw [List.nil_append] at ho3; obtain ⟨g, cap3, rfl, hgB, hgs⟩ := Own.at ho3 HNE.out; have HO3 := Lib.hid ho3; have G13 : w1.grownBy w3 (some w.heap.size) := gb_trans (G12A.out _) hg3 (fun k hk => .inr (by cases hk; exact Nat.le_refl _)); have HR3 := Lib.hid (blk_kept' (blk_kept HR2.out (gb_alloc w2 _ none)) hg3 (fun e => by have e2 : w1.heap.size = w.heap.size := Option.some.inj e; omega)); have e8 : w3.cell? ⟨w.heap.size, 8, none⟩ = some (.slice ad l.length c) := cell_row HR3.out; have f8 : w3.frozen? ⟨w.heap.size, 8, none⟩ = false := frozen_of_row _ _ _ _ _ HR3.out; have f0 := G13.cell d0 (by simp); have HG3 := Lib.hid (gb_trans HG1.out G13 (fun k hk => .inr (by cases hk; exact Nat.le_refl _))); have HG13 := Lib.hid G13; have hne : w.heap.size ≠ g := (by omega); obtain ⟨k1, k2, hr5, ho5, h34, h45⟩ := dmg_store (x := x) HR3.out HO3.out HY.out hne; obtain ⟨n0, n1, n2, n3, n4, n5, n6, n7, n8⟩ := nine hr5; have HO5 := Lib.hid ho5; have HG5 := Lib.hid (gb_trans HG1.out (gb_trans (gb_same G13 h34) h45 (fun k hk => .inr (by have e2 : g = k := Option.some.inj hk; omega))) (fun k hk => .inr (by cases hk; exact Nat.le_refl _))); clear ho3 hg3 hf3 G13 hr5 ho5 h34 h45)))
    have hrt := right_any z0 z1 z2 z3 z4 z5 z6 A _ _ _ HO5.out.rd
    rw [HAN.out] at hrt
    unfold msgV at hrt
    have HRT := Lib.hid hrt
    clear hrt
    refine HRT.out.mono ?_; rintro e w6 ⟨rfl, hg6⟩
    have HG6 := Lib.hid (gb_same HG5.out hg6)
    clear hg6
    go_wp2
    go_ret
    exact ⟨rfl, HG6.out⟩
end Go.Proofs.Ytbibgjkcapjgnaa
