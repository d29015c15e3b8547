/-
  sum.Digits: the walk.
-/
import Derived.Test.YtbibgjkcapjgnaaSRight
import Derived.Laws.Rows
namespace Go.Proofs.Ytbibgjkcapjgnaa
open Go.RowKit

def dig (d : Nat) : UInt8 := if d < 10 then UInt8.ofNat (48 + d) else UInt8.ofNat (87 + d)
def hexAt (h i : Nat) : UInt8 := dig (h / 2 ^ (60 - 4 * i) % 16)
def hexL (h : Nat) : List UInt8 := (List.range 16).map (hexAt h)
def digs : ByteArray := ⟨#[48, 49, 50, 51, 52, 53, 54, 55, 56, 57, 97, 98, 99, 100, 101, 102]⟩

theorem hexL_len (h : Nat) : (hexL h).length = 16 := by simp [hexL]
theorem and15 {h i d : Nat} (hh : h < 18446744073709551616) (hd : h / 2 ^ (60 - 4 * i) % 16 = d) : bits .and .u64 ((h : Int) / 2 ^ (60 - 4 * i)) 15 = (d : Int) := by
  have h1 : h / 2 ^ (60 - 4 * i) < 18446744073709551616 := Nat.lt_of_le_of_lt (Nat.div_le_self _ _) hh
  rw [show (h : Int) / 2 ^ (60 - 4 * i) = ((h / 2 ^ (60 - 4 * i) : Nat) : Int) from by rw [Int.natCast_ediv, Int.natCast_pow]; rfl, show (15 : Int) = ((15 : Nat) : Int) from rfl, u64_and_nat _ _ h1 (by omega), ← hd]
  rw [show h / 2 ^ (60 - 4 * i) &&& 15 = h / 2 ^ (60 - 4 * i) % 16 from Nat.and_two_pow_sub_one_eq_mod _ 4]
theorem idx_dig {d : Nat} (hd : d < 16) (W : World) (K : IntKind := .u64) : (Instr.index 9 (.string ⟨#[48, 49, 50, 51, 52, 53, 54, 55, 56, 57, 97, 98, 99, 100, 101, 102]⟩) (.int K (d : Int))).run Try.prog W = .ok (.int .u8 ((dig d).toNat : Int)) W := by
  have hs : (ByteArray.mk #[48, 49, 50, 51, 52, 53, 54, 55, 56, 57, 97, 98, 99, 100, 101, 102]).size = 16 := rfl
  rw [run_index_string W 9 _ K d Try.underlying9, dif_pos ⟨by omega, by rw [hs]; omega⟩]
  congr 3
  have h : ∀ a : Fin 16, (digs[a.val]'a.isLt) = dig a.val := by decide +kernel
  exact congrArg UInt8.toNat (h ⟨d, hd⟩)
theorem dig_step {h d i B : Nat} {wr : World} (hd : hexAt h i = dig d) (hr : wr.heap[B]? = some (.cells (bvs ((List.range i).map (hexAt h)) ++ List.replicate (16 - i) (Value.int .u8 0)).toArray 50)) (hi : i < 16) :
    (wr.setCell ⟨B, i, none⟩ (.int .u8 ((dig d).toNat : Int))).heap[B]? = some (.cells (bvs ((List.range (i + 1)).map (hexAt h)) ++ List.replicate (16 - (i + 1)) (Value.int .u8 0)).toArray 50) := by
  rw [heap_setCell_same _ _ _ _ _ _ hr, List.setIfInBounds_toArray]
  congr 3
  rw [List.set_append_right _ _ (by simp [bvs]), List.range_succ, List.map_append, bvs_append, List.append_assoc]
  congr 1
  rw [show 16 - i = (16 - (i + 1)) + 1 by omega, List.replicate_succ]
  simp [bvs, hd, bv]

def DInv (w0 : World) (B h : Nat) (k : Value) (wr : World) : Prop :=
  ∃ i : Nat, i ≤ 16 ∧ k = .int .i64 (i : Int) ∧ wr.heap[B]? = some (.cells (bvs ((List.range i).map (hexAt h)) ++ List.replicate (16 - i) (Value.int .u8 0)).toArray 50) ∧ w0.grownBy wr (some B)

set_option maxRecDepth 100000 in
set_option maxHeartbeats 1000000 in
theorem digits_any (h : Nat) (w : World) (hh : h < 18446744073709551616) :
    Calls Try.prog 16 #[.int .u64 (h : Int)] w fun e w' => e = .returned (.string (str (hexL h))) ∧ w.grownBy w' none := by
  go_enter Try.func16, Try.ntmps16
  go_wp2
  obtain ⟨w0, hw0⟩ : ∃ W, W = w.alloc (Obj.cells #[.int .u8 0, .int .u8 0, .int .u8 0, .int .u8 0, .int .u8 0, .int .u8 0, .int .u8 0, .int .u8 0, .int .u8 0, .int .u8 0, .int .u8 0, .int .u8 0, .int .u8 0, .int .u8 0, .int .u8 0, .int .u8 0] 50) := ⟨_, rfl⟩
  rw [← hw0]
  have HB : Hid (w0.heap[w.heap.size]? = some (Obj.cells #[.int .u8 0, .int .u8 0, .int .u8 0, .int .u8 0, .int .u8 0, .int .u8 0, .int .u8 0, .int .u8 0, .int .u8 0, .int .u8 0, .int .u8 0, .int .u8 0, .int .u8 0, .int .u8 0, .int .u8 0, .int .u8 0] 50)) := Lib.hid (by rw [hw0]; exact heap_at_alloc _ _)
  have HG0 : Hid (w.grownBy w0 none) := Lib.hid (by rw [hw0]; exact gb_alloc _ _ _)
  clear hw0
  go_loopw [5] (fun k wr => DInv w0 w.heap.size h k wr) (fun k _ => 16 - (intOf k).toNat)
  case atStart => exact ⟨0, by omega, rfl, by rw [HB.out]; rfl, gb_refl _ _⟩
  case round =>
    obtain ⟨i, hi, rfl, hrow, hg⟩ := hrel
    have HR := Lib.hid hrow
    have HG := Lib.hid hg
    clear hrow hg
    by_cases hlt : i < 16
    · have hcell : wr.cell? ⟨w.heap.size, i, none⟩ = some (.int .u8 0) := by
        rw [cell_row HR.out]
        show (bvs ((List.range i).map (hexAt h)) ++ List.replicate (16 - i) (Value.int .u8 0)).toArray[i]? = _
        rw [List.getElem?_toArray, List.getElem?_append_right (by simp [bvs])]
        simp only [bvs, List.length_map, List.length_range, Nat.sub_self]
        rw [List.getElem?_replicate, if_pos (by omega)]
      have hfr : wr.frozen? ⟨w.heap.size, i, none⟩ = false := frozen_of_row _ _ _ _ _ HR.out
      obtain ⟨d, hd⟩ : ∃ d, h / 2 ^ (60 - 4 * i) % 16 = d := ⟨_, rfl⟩
      have he : bits .and .u64 ((h : Int) / 2 ^ (60 - 4 * i)) 15 = (d : Int) := and15 hh hd
      have hidx := fun W => idx_dig (d := d) (by omega) W
      have HD : Hid (hexAt h i = dig d) := Lib.hid (by unfold hexAt; rw [hd])
      have HX := Lib.hid (dig_step HD.out HR.out hlt)
      clear hd
      go_wp2
      exact ⟨⟨i + 1, by omega, by go_num, HX.out, gb_same HG.out (gb_setCell _ _ _)⟩, by simp [intOf]; omega⟩
    · obtain rfl : i = 16 := by omega
      have HS : Hid (wr.heap[w.heap.size]? = some (.cells (bvs (hexL h)).toArray 50)) := Lib.hid (by rw [HR.out]; simp [hexL])
      have hcv := run_toString wr (.slice (some ⟨w.heap.size, 0, none⟩) 16 16) (hexL h) (.inr ⟨w.heap.size, 0, 16, by rw [hexL_len], by rw [hexL_len]; exact Nat.le_refl _, by simp only [maxLen]; omega, fun j x hj => by rw [cell_row HS.out, Nat.zero_add]; show (bvs (hexL h)).toArray[j]? = _; rw [List.getElem?_toArray, bvs_get, hj]; rfl⟩)
      go_wp2
      go_ret
      exact ⟨rfl, gb_new HG0.out HG.out (Nat.le_refl _)⟩
end Go.Proofs.Ytbibgjkcapjgnaa
