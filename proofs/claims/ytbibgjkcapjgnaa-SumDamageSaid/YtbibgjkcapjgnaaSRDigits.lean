/-
  ref.Digits: the walk.
-/
import Derived.Test.YtbibgjkcapjgnaaSDigits
namespace Go.Proofs.Ytbibgjkcapjgnaa
open Go.RowKit

theorem str_append (a b : List UInt8) : str a ++ str b = str (a ++ b) := by
  apply ByteArray.ext
  rw [ByteArray.data_append]
  simp [str]
theorem dig_str {d : Nat} (hd : d < 16) (l : List UInt8) : (ByteArray.mk #[48, 49, 50, 51, 52, 53, 54, 55, 56, 57, 97, 98, 99, 100, 101, 102]).extract d (d + 1) ++ str l = str (dig d :: l) := by
  have h : ∀ a : Fin 16, ((ByteArray.mk #[48, 49, 50, 51, 52, 53, 54, 55, 56, 57, 97, 98, 99, 100, 101, 102]).extract a.val (a.val + 1)).data.toList = [dig a.val] := by decide +kernel
  have h1 := h ⟨d, hd⟩
  rw [show (ByteArray.mk #[48, 49, 50, 51, 52, 53, 54, 55, 56, 57, 97, 98, 99, 100, 101, 102]).extract d (d + 1) = str [dig d] from ByteArray.ext (Array.toList_inj.1 h1), str_append]
  rfl
theorem hex_drop (h i : Nat) (hi : i < 16) : (hexL h).drop (16 - (i + 1)) = dig (h / 16 ^ i % 16) :: (hexL h).drop (16 - i) := by
  have hl := hexL_len h
  rw [List.drop_eq_getElem_cons (by omega), show 16 - (i + 1) + 1 = 16 - i by omega]
  congr 1
  simp only [hexL, List.getElem_map, List.getElem_range, hexAt]
  rw [show 60 - 4 * (16 - (i + 1)) = 4 * i by omega, Nat.pow_mul]

def GInv (h : Nat) (x s k : Value) : Prop :=
  ∃ i : Nat, i ≤ 16 ∧ k = .int .i64 (i : Int) ∧ x = .int .u64 ((h / 16 ^ i : Nat) : Int) ∧ s = .string (str ((hexL h).drop (16 - i)))

set_option maxRecDepth 100000 in
set_option maxHeartbeats 1000000 in
theorem rdigits_any (h : Nat) (w : World) (hh : h < 18446744073709551616) :
    Calls Try.prog 17 #[.int .u64 (h : Int)] w fun e w' => e = .returned (.string (str (hexL h))) ∧ w.grownBy w' none := by
  have HH := Lib.hid hh
  clear hh
  go_enter Try.func17, Try.ntmps17
  go_wp2
  go_loop [0, 3, 4] (fun x s k => GInv h x s k) (fun _ _ k => 16 - (intOf k).toNat)
  case atStart => exact ⟨0, by omega, rfl, by simp, rfl⟩
  case round =>
    obtain ⟨i, hi, rfl, rfl, rfl⟩ := hrel
    by_cases hlt : i < 16
    · have hx : h / 16 ^ i < 18446744073709551616 := Nat.lt_of_le_of_lt (Nat.div_le_self _ _) HH.out
      have HS := Lib.hid (hex_drop h i hlt)
      have HN : Hid (h / 16 ^ (i + 1) = h / 16 ^ i / 16) := Lib.hid (by rw [Nat.pow_succ, Nat.div_div_eq_div_mul])
      have hsz : (str ((hexL h).drop (16 - i))).size ≤ 16 := by rw [str_size, List.length_drop, hexL_len]; omega
      generalize h / 16 ^ i = x at *
      go_wp2
      exact ⟨⟨i + 1, by omega, by go_num, by rw [HN.out]; rfl, by rw [HS.out]; exact congrArg Value.string (dig_str (by omega) _)⟩, by simp [intOf]; omega⟩
    · obtain rfl : i = 16 := by omega
      go_wp2
      go_ret
      exact ⟨rfl, gb_refl _ _⟩
end Go.Proofs.Ytbibgjkcapjgnaa
