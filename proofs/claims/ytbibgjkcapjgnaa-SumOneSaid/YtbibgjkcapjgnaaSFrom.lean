/-
  sum.From, ref.From: the walks.
-/
import Derived.Test.YtbibgjkcapjgnaaSStep
import Derived.Test.YtbibgjkcapjgnaaCore
namespace Go.Proofs.Ytbibgjkcapjgnaa
open Go.RowKit

def FInv (h0 : Nat) (l : List UInt8) (h k : Value) : Prop :=
  ∃ i : Nat, i ≤ l.length ∧ k = .int .i64 (i : Int) ∧ h = .int .u64 ((fromL h0 (l.take i) : Nat) : Int)

set_option maxRecDepth 100000 in
set_option maxHeartbeats 400000 in
theorem from_any (h0 : Nat) (v : Value) (l : List UInt8) (w : World) (hh : h0 < 18446744073709551616) (hv : Rd w v l) :
    Calls Try.prog 10 #[.int .u64 (h0 : Int), v] w fun e w' => e = .returned (.int .u64 ((fromL h0 l : Nat) : Int)) ∧ w = w' := by
  have hs := hv.small
  obtain ⟨a, c, rfl⟩ := hv.len
  have HV := Lib.hid hv
  have HH := Lib.hid hh
  clear hv hh
  go_enter Try.func10, Try.ntmps10
  go_wp2
  go_loop [0, 9] (fun h k => FInv h0 l h k) (fun _ k => l.length - (intOf k).toNat)
  case atStart => exact ⟨0, Nat.zero_le _, rfl, rfl⟩
  case round =>
    obtain ⟨i, hi, rfl, rfl⟩ := hrel
    by_cases hlt : i < l.length
    · obtain ⟨g, off, rfl, hcell⟩ := HV.out.at (j := i) (x := l[i]) (by simp [hlt])
      have HS : Hid (fromL h0 (l.take (i + 1)) = stp (fromL h0 (l.take i)) l[i].toNat) := Lib.hid (by rw [List.take_succ_eq_append_getElem hlt, fromL_snoc])
      have hb := l[i].toNat_lt
      have hf := fromL_lt HH.out (l.take i)
      generalize l[i].toNat = c0 at *
      go_wp2_with (go_at_call 22; refine (step_any _ _ _ hf hb).mono ?_; rintro e w' ⟨rfl, rfl⟩)
      go_round
      case rel => exact ⟨i + 1, by omega, by go_num, by rw [HS.out]⟩
      case measure => simp [intOf]; omega
    · obtain rfl : i = l.length := by omega
      go_wp2
      go_ret
      exact ⟨rfl, rfl⟩

set_option maxRecDepth 100000 in
set_option maxHeartbeats 400000 in
theorem rfrom_any (h0 : Nat) (v : Value) (l : List UInt8) (w : World) (hh : h0 < 18446744073709551616) (hv : Rd w v l) :
    Calls Try.prog 11 #[.int .u64 (h0 : Int), v] w fun e w' => e = .returned (.int .u64 ((fromL h0 l : Nat) : Int)) ∧ w = w' := by
  have hs := hv.small
  obtain ⟨a, c, rfl⟩ := hv.len
  have HV := Lib.hid hv
  have HH := Lib.hid hh
  clear hv hh
  go_enter Try.func11, Try.ntmps11
  go_wp2
  go_loop [0, 5] (fun h k => FInv h0 l h k) (fun _ k => l.length - (intOf k).toNat)
  case atStart => exact ⟨0, Nat.zero_le _, rfl, rfl⟩
  case round =>
    obtain ⟨i, hi, rfl, rfl⟩ := hrel
    by_cases hlt : i < l.length
    · obtain ⟨g, off, rfl, hcell⟩ := HV.out.at (j := i) (x := l[i]) (by simp [hlt])
      have HS : Hid (fromL h0 (l.take (i + 1)) = stp (fromL h0 (l.take i)) l[i].toNat) := Lib.hid (by rw [List.take_succ_eq_append_getElem hlt, fromL_snoc])
      have hb := l[i].toNat_lt
      have hf := fromL_lt HH.out (l.take i)
      generalize l[i].toNat = c0 at *
      go_wp2_with (go_at_call 23; refine (rstep_any _ _ _ hf hb).mono ?_; rintro e w' ⟨rfl, rfl⟩)
      go_round
      case rel => exact ⟨i + 1, by omega, by go_num, by rw [HS.out]⟩
      case measure => simp [intOf]; omega
    · obtain rfl : i = l.length := by omega
      go_wp2
      go_ret
      exact ⟨rfl, rfl⟩
end Go.Proofs.Ytbibgjkcapjgnaa
