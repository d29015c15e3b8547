/-
  sum.step, ref.step: the walks.
-/
import Derived.Test.YtbibgjkcapjgnaaSMath
namespace Go.Proofs.Ytbibgjkcapjgnaa
open Go.RowKit

theorem step_walk {h c : Nat} (hh : h < 18446744073709551616) (hc : c < 256) :
    bits .xor .u64 (IntKind.u64.wrap (bits .xor .u64 (h : Int) (c : Int) * 15111065706836454659)) (IntKind.u64.wrap (bits .xor .u64 (h : Int) (c : Int) * 15111065706836454659) / 536870912) = ((stp h c : Nat) : Int) := by
  rw [u64_xor_nat _ _ hh (by omega)]
  have e : IntKind.u64.wrap (((h ^^^ c : Nat) : Int) * 15111065706836454659) = ((mulM (h ^^^ c) : Nat) : Int) := by
    rw [IntKind.wrap_u64]; unfold mulM; omega
  have hl := mulM_lt (h ^^^ c)
  rw [e, show ((mulM (h ^^^ c) : Nat) : Int) / 536870912 = ((mulM (h ^^^ c) / 536870912 : Nat) : Int) by omega, u64_xor_nat _ _ hl (by omega)]
  unfold stp fold29
  rfl

set_option maxRecDepth 100000 in
theorem step_any (h c : Nat) (w : World) (hh : h < 18446744073709551616) (hc : c < 256) :
    Calls Try.prog 22 #[.int .u64 (h : Int), .int .u8 (c : Int)] w fun e w' => e = .returned (.int .u64 ((stp h c : Nat) : Int)) ∧ w = w' := by
  have H := Lib.hid (step_walk hh hc)
  go_enter Try.func22, Try.ntmps22
  go_wp2
  go_ret
  exact ⟨by rw [← H.out]; rfl, rfl⟩
set_option maxRecDepth 100000 in
theorem rstep_any (h c : Nat) (w : World) (hh : h < 18446744073709551616) (hc : c < 256) :
    Calls Try.prog 23 #[.int .u64 (h : Int), .int .u8 (c : Int)] w fun e w' => e = .returned (.int .u64 ((stp h c : Nat) : Int)) ∧ w = w' := by
  have H := Lib.hid (step_walk hh hc)
  go_enter Try.func23, Try.ntmps23
  go_wp2
  go_ret
  exact ⟨by rw [← H.out]; rfl, rfl⟩
end Go.Proofs.Ytbibgjkcapjgnaa
