/-
  sum.number: the walk.
-/
import Derived.Test.YtbibgjkcapjgnaaSFrom
namespace Go.Proofs.Ytbibgjkcapjgnaa
open Go.RowKit

def MInv (h0 : Nat) (l : List UInt8) (h k : Value) : Prop :=
  ∃ i : Nat, i ≤ 8 ∧ k = .int .i64 (i : Int) ∧ h = .int .u64 ((fromL h0 (l.take i) : Nat) : Int)

theorem byte_of (n : Int) {i : Nat} (hi : i < 8) : n / 2 ^ (8 * i) % 256 = ((UInt8.ofNat (un n / 256 ^ i)).toNat : Int) := by
  have hu := un_cast n
  rw [UInt8.toNat_ofNat']
  generalize un n = u at *
  match i, hi with
  | 0, _ => simp only [Nat.mul_zero, Int.pow_zero, Nat.pow_zero, Int.ediv_one, Nat.div_one]; omega
  | 1, _ => simp only [Nat.reduceMul, Int.reducePow, Nat.reducePow]; omega
  | 2, _ => simp only [Nat.reduceMul, Int.reducePow, Nat.reducePow]; omega
  | 3, _ => simp only [Nat.reduceMul, Int.reducePow, Nat.reducePow]; omega
  | 4, _ => simp only [Nat.reduceMul, Int.reducePow, Nat.reducePow]; omega
  | 5, _ => simp only [Nat.reduceMul, Int.reducePow, Nat.reducePow]; omega
  | 6, _ => simp only [Nat.reduceMul, Int.reducePow, Nat.reducePow]; omega
  | 7, _ => simp only [Nat.reduceMul, Int.reducePow, Nat.reducePow]; omega

set_option maxRecDepth 100000 in
set_option maxHeartbeats 400000 in
theorem number_any (h0 : Nat) (n : Int) (w : World) (hh : h0 < 18446744073709551616) :
    Calls Try.prog 24 #[.int .u64 (h0 : Int), .int .i64 n] w fun e w' => e = .returned (.int .u64 ((numL h0 n : Nat) : Int)) ∧ w = w' := by
  have HH := Lib.hid hh
  clear hh
  go_enter Try.func24, Try.ntmps24
  go_wp2
  go_loop [0, 6] (fun h k => MInv h0 (eight (un n)) h k) (fun _ k => 8 - (intOf k).toNat)
  case atStart => exact ⟨0, Nat.zero_le _, rfl, rfl⟩
  case round =>
    obtain ⟨i, hi, rfl, rfl⟩ := hrel
    by_cases hlt : i < 8
    · have HS : Hid (fromL h0 ((eight (un n)).take (i + 1)) = stp (fromL h0 ((eight (un n)).take i)) (UInt8.ofNat (un n / 256 ^ i)).toNat) := Lib.hid (by rw [eight_take _ _ hlt, fromL_snoc])
      have hf := fromL_lt HH.out ((eight (un n)).take i)
      have HB := Lib.hid (byte_of n hlt)
      have hb := (UInt8.ofNat (un n / 256 ^ i)).toNat_lt
      generalize (UInt8.ofNat (un n / 256 ^ i)).toNat = c0 at *
      go_wp2_with (go_at_call 22; rw [HB.out]; refine (step_any _ _ _ hf hb).mono ?_; rintro e w' ⟨rfl, rfl⟩)
      go_round
      case rel => exact ⟨i + 1, by omega, by go_num, by rw [HS.out]⟩
      case measure => simp [intOf]; omega
    · obtain rfl : i = 8 := by omega
      go_wp2
      go_ret
      exact ⟨rfl, rfl⟩
end Go.Proofs.Ytbibgjkcapjgnaa
