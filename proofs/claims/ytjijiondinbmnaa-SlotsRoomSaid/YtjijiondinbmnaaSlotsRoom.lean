/-
  law.SlotsRoom: the walk.
-/
import Derived.Test.YtjijiondinbmnaaTRoom
namespace Go.Proofs.Ytjijiondinbmnaa
open Go.RowKit

set_option maxRecDepth 100000 in
set_option maxHeartbeats 4000000 in
theorem slotsRoom_any (n x y : Int) (w : World) (hn : OkI n) (_ : OkI x) (hy : OkI y) : Calls Try.prog 6 #[.int .i64 n, .agg #[.int .i64 x, .int .i64 y]] w (BoolQ true w) := by
  obtain ⟨w1, hw1⟩ : ∃ w1, w.alloc (.cells #[.int .i64 x, .int .i64 y] 51) = w1 := ⟨_, rfl⟩
  have hg1 : w.grownBy w1 none := by rw [← hw1]; exact gb_alloc _ _ _
  have hb1 : w1.heap[w.heap.size]? = some (.cells #[.int .i64 x, .int .i64 y] 51 (0, 0)) := by rw [← hw1]; exact heap_at_alloc _ _
  have HA := Lib.hid (awake_any w1)
  have HW1 := Lib.hid hw1
  have HG1 := Lib.hid hg1
  have HB1 := Lib.hid hb1
  clear hw1 hg1 hb1
  go_enter Try.func6, Try.ntmps6
  go_wp2_with fail
  rw [HW1.out]
  refine HA.out.mono ?_
  rintro e w2 ⟨rfl, hg2⟩
  have HG2 := Lib.hid (gb_same HG1.out hg2)
  have HB2 := Lib.hid (blk_kept HB1.out hg2)
  clear hg2
  by_cases hn1 : n < 1
  · go_wp2
    go_ret
    exact ⟨rfl, HG2.out⟩
  · by_cases hn2 : 60 < n
    · go_wp2
      go_ret
      exact ⟨rfl, HG2.out⟩
    · obtain ⟨N, rfl⟩ : ∃ N : Nat, n = (N : Int) := ⟨n.toNat, by omega⟩
      have HN := Lib.hid (new_any N w2 (by omega) (by omega))
      go_wp2_with fail
      refine HN.out.mono ?_
      rintro e w3 ⟨g, s, rfl, hg, hs, hg3, ht3⟩
      rw [newS_fill N x] at ht3
      have HG3 := Lib.hid (gb_same HG2.out hg3)
      have HT3 := Lib.hid ht3
      have HB3 := Lib.hid (blk_kept HB2.out hg3)
      have HB := Lib.hid (show w.heap.size ≤ s ∧ w.heap.size ≠ s from by
        have h1 := (Array.getElem?_eq_some_iff.1 HB2.out).1
        omega)
      clear hg3 ht3 hg hs
      go_wp2
      go_loopw [7] (fun i wr => ∃ k : Nat, k ≤ N ∧ i = .int .i64 k ∧ Hid (IsT wr g s (fillS N x k)) ∧ Hid (w.grownBy wr none) ∧ Hid (wr.heap[w.heap.size]? = some (.cells #[.int .i64 x, .int .i64 y] 51 (0, 0)))) (fun i _ => N - (intOf i).toNat)
      case atStart => exact ⟨0, Nat.zero_le _, rfl, HT3, HG3, HB3⟩
      case round =>
        obtain ⟨k, hk, rfl, HT, HG, HBR⟩ := hrel
        have q0 : wr.cell? ⟨w.heap.size, 0, none⟩ = some (.int .i64 x) := cell_row HBR.out
        by_cases hlt : k < N
        · have hpu := put_any HT.out (xr x k) (xr_ok x k)
          unfold PutP at hpu
          rw [(fill_put x hlt).1, (fill_put x hlt).2.1, (fill_put x hlt).2.2] at hpu
          have HPU := Lib.hid hpu
          clear hpu
          go_wp2_with fail
          refine HPU.out.mono ?_
          rintro e w4 ⟨rfl, hg4, ht4⟩
          have HT4 := Lib.hid ht4
          have HG4 := Lib.hid (gb_new HG.out hg4 HB.out.1)
          have HB4 := Lib.hid (blk_kept' HBR.out hg4 (by have := HB.out.2; simp; omega))
          clear hg4 ht4 q0
          go_wp2
          go_roundw
          case rel => exact ⟨k + 1, by omega, by go_num, HT4, HG4, HB4⟩
          case measure => simp [intOf]; omega
        · obtain rfl : k = N := by omega
          have hpu := put_any HT.out 1 ⟨by omega, by omega⟩
          unfold PutP at hpu
          rw [(fill_full k x 1).1, (fill_full k x 1).2.1, (fill_full k x 1).2.2] at hpu
          have HPU := Lib.hid hpu
          clear hpu hlt
          rename World => wq
          go_wp2_with fail
          refine HPU.out.mono ?_
          rintro e w4 ⟨rfl, hg4, ht4⟩
          have HT4 := Lib.hid ht4
          have HG4 := Lib.hid (gb_new HG.out hg4 HB.out.1)
          have HB4 := Lib.hid (blk_kept' HBR.out hg4 (by have := HB.out.2; simp; omega))
          clear hg4 ht4 q0
          go_wp2
          go_loopw [12] (fun i wr => ∃ j : Nat, j ≤ k ∧ i = .int .i64 j ∧ Hid (w4.grownBy wr none)) (fun i _ => k - (intOf i).toNat)
          case atStart => exact ⟨0, Nat.zero_le _, rfl, Lib.hid (gb_refl _ _)⟩
          case round =>
            obtain ⟨j, hj, rfl, HJ⟩ := hrel
            have q0 : wr.cell? ⟨w.heap.size, 0, none⟩ = some (.int .i64 x) := cell_row (blk_kept HB4.out HJ.out)
            by_cases hjl : j < k
            · have hge := get_any (HT4.out.grown HJ.out) (j : Int) ⟨by omega, by omega⟩
              rw [(fill_get x hjl).1, (fill_get x hjl).2.1] at hge
              have HGE := Lib.hid hge
              clear hge
              go_wp2_with fail
              refine HGE.out.mono ?_
              rintro e w5 ⟨rfl, hg5⟩
              have q1 := hg5.cell q0 (by simp)
              have HJ5 := Lib.hid (gb_same HJ.out hg5)
              have hxx : (xr x j != bits .xor .i64 x (j : Int)) = false := by unfold xr; simp
              clear hg5 q0
              go_wp2
              go_roundw
              case rel => exact ⟨j + 1, by omega, by go_num, HJ5⟩
              case measure => simp [intOf]; omega
            · obtain rfl : j = k := by omega
              have hat : j / 2 < j := by omega
              have htd : (j : Int).tdiv 2 = ((j / 2 : Nat) : Int) := rfl
              have hdr := drop_any (HT4.out.grown HJ.out) ((j / 2 : Nat) : Int) ⟨by omega, by omega⟩
              rw [(fill_get x hat).2.2.1, (fill_get x hat).2.2.2] at hdr
              have HDR := Lib.hid hdr
              have HAT := Lib.hid hat
              have HGJ := Lib.hid (gb_same HG4.out HJ.out)
              have HBJ := Lib.hid (blk_kept HB4.out HJ.out)
              clear hdr hjl q0 hat
              generalize hdq : j / 2 = d at *
              go_wp2_with fail
              refine HDR.out.mono ?_
              rintro e w5 ⟨rfl, hg5, ht5⟩
              have hpu := put_any ht5 y hy
              unfold PutP at hpu
              rw [(fill_again x y HAT.out).1, (fill_again x y HAT.out).2.1, (fill_again x y HAT.out).2.2] at hpu
              have HPU2 := Lib.hid hpu
              have HG5 := Lib.hid (gb_new HGJ.out hg5 HB.out.1)
              have HB5 := Lib.hid (blk_kept' HBJ.out hg5 (by have := HB.out.2; simp; omega))
              have q1 : w5.cell? ⟨w.heap.size, 1, none⟩ = some (.int .i64 y) := cell_row HB5.out
              clear hpu hg5 ht5
              go_wp2_with fail
              refine HPU2.out.mono ?_
              rintro e w6 ⟨rfl, hg6, ht6⟩
              have hd60 : d < j := HAT.out
              have hge := get_any ht6 ((j + d : Nat) : Int) ⟨by omega, by omega⟩
              rw [(fill_last x y HAT.out).1, (fill_last x y HAT.out).2.1] at hge
              have HGE := Lib.hid hge
              have HT6 := Lib.hid ht6
              have HG6 := Lib.hid (gb_new HG5.out hg6 HB.out.1)
              have HB6 := Lib.hid (blk_kept' HB5.out hg6 (by have := HB.out.2; simp; omega))
              clear hge hg6 ht6 q1
              go_wp2_with fail
              refine HGE.out.mono ?_
              rintro e w7 ⟨rfl, hg7⟩
              have hge := get_any (HT6.out.grown hg7) (d : Int) ⟨by omega, by omega⟩
              rw [(fill_last x y HAT.out).2.2.1] at hge
              have HGE2 := Lib.hid hge
              have HT7 := Lib.hid (HT6.out.grown hg7)
              have HG7 := Lib.hid (gb_same HG6.out hg7)
              have HB7 := Lib.hid (blk_kept HB6.out hg7)
              clear hge hg7
              generalize getN ((fillS j x j).set d (1, true, y)) (d : Int) = gv at HGE2
              go_wp2_with fail
              refine HGE2.out.mono ?_
              rintro e w8 ⟨rfl, hg8⟩
              have hha := handles_any (HT7.out.grown hg8)
              have HHA := Lib.hid hha
              have HG8 := Lib.hid (gb_same HG7.out hg8)
              have q1 : w8.cell? ⟨w.heap.size, 1, none⟩ = some (.int .i64 y) := cell_row (blk_kept HB7.out hg8)
              have HLEN := Lib.hid (fill_last x y HAT.out).2.2.2
              generalize hsN ((fillS j x j).set d (1, true, y)) ((fillS j x j).set d (1, true, y)).length = hs at HHA HLEN
              clear hha hg8
              go_wp2_with fail
              refine HHA.out.mono ?_
              rintro e w9 ⟨v9, rfl, ho9, hg9⟩
              have HG9 := Lib.hid (gb_same HG8.out hg9)
              obtain ⟨a9, c9, rfl⟩ := ho9.len
              have hl9 : hs.length = j := HLEN.out
              rw [hl9]
              clear ho9 hg9 hl9 q1
              go_wp2
              go_ret
              exact ⟨rfl, HG9.out⟩
end Go.Proofs.Ytjijiondinbmnaa
