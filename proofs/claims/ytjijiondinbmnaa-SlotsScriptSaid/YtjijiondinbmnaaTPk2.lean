/-
  What the reference's peek answers at the first small group.
-/
import Derived.Test.YtjijiondinbmnaaTPeekM
namespace Go.Proofs.Ytjijiondinbmnaa
open Go.RowKit

theorem pk_wrap {H : Nat} (h : H < 9223372036854775808) : wrap64 (H : Int) = (H : Int) := by
  have h2 := Int.ofNat_lt.2 h
  unfold wrap64; omega
theorem pk_int {H : Nat} (h : H < 9223372036854775808) : (H : Int) ≤ 9223372036854775807 := by
  have h2 := Int.ofNat_lt.2 h
  omega
theorem pk_neg1 {H : Nat} (h : H < 9223372036854775808) : wrap64 (-(H : Int)) = -(H : Int) := by
  have h2 := Int.ofNat_lt.2 h
  unfold wrap64; omega
theorem pk_neg2 {H : Nat} (h : H < 9223372036854775808) : wrap64 (-(H : Int) - 1) = -(H : Int) - 1 := by
  have h2 := Int.ofNat_lt.2 h
  unfold wrap64; omega
theorem pk_fin {bs : List UInt8} {p k U2 H2 d : Nat} {x : UInt8} (hx : bs[p + k]? = some x) (hd : x.toNat = d) (hs : ¬ 128 ≤ d) (hb : ∀ j y, j < k → bs[p + j]? = some y → 128 ≤ y.toNat) (hpk : p + k < bs.length)
    (hU : U2 = acc (bs.drop p) (k + 1) % 18446744073709551616) (hH : H2 = U2 / 2 ∧ H2 < 9223372036854775808) :
    ∃ v, v = unzz U2 ∧ (U2 % 2 = 1 → -(H2 : Int) - 1 = v) ∧ (¬ U2 % 2 = 1 → (H2 : Int) = v) ∧ OkI v ∧ (enc v).length ≤ 10 ∧ (((enc v).length = k + 1 ∧ beg bs p (enc v) = true) → rdInt bs p = some (v, p + (enc v).length)) ∧ (¬ ((enc v).length = k + 1 ∧ beg bs p (enc v) = true) → rdInt bs p = none) := by
  have hpy := peek_yes hx (by rw [hd]; omega) hb hpk (unzz U2) (by rw [hU])
  refine ⟨unzz U2, rfl, fun h => ?_, fun h => ?_, hpy.1, (enc_len _).2, hpy.2.1, hpy.2.2⟩
  · rw [hH.1]; unfold unzz; rw [if_neg (by omega)]
  · rw [hH.1]; unfold unzz; rw [if_pos (by omega)]
end Go.Proofs.Ytjijiondinbmnaa
