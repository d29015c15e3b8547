/-
  What was encoded is read again.
-/
import Derived.Test.YtjijiondinbmnaaWS
namespace Go.Proofs.Ytjijiondinbmnaa
open Go.RowKit

theorem drop_next {bs a t : List UInt8} {p : Nat} (h : bs.drop p = a ++ t) : bs.drop (p + a.length) = t := by
  rw [← List.drop_drop, h, List.drop_left]
theorem drop_len {bs a t : List UInt8} {p : Nat} (h : bs.drop p = a ++ t) (ha : 0 < a.length) : p + a.length ≤ bs.length := by
  have := congrArg List.length h
  rw [List.length_drop, List.length_append] at this
  omega

theorem rdInt_at {bs t : List UInt8} {p : Nat} {z : Int} (h1 : -9223372036854775808 ≤ z) (h2 : z ≤ 9223372036854775807) (h : bs.drop p = enc z ++ t) : rdInt bs p = some (z, p + (enc z).length) := by
  unfold rdInt
  have e : num (bs.drop p) = (zz z, (encU (zz z)).length) := by rw [h]; exact num_enc (zz_lt h1 h2) t
  have hl := (encU_len (zz z)).1
  rw [e]
  simp only
  rw [if_neg (by omega), unzz_zz]
  rfl
theorem rdBounded_at {bs t : List UInt8} {p : Nat} {z least most : Int} (h1 : -9223372036854775808 ≤ z) (h2 : z ≤ 9223372036854775807) (hl : least ≤ z) (hm : z ≤ most) (h : bs.drop p = enc z ++ t) : rdBounded least most bs p = some (z, p + (enc z).length) := by
  unfold rdBounded
  rw [rdInt_at h1 h2 h]
  simp only
  rw [if_neg (by omega)]
theorem rdBool_at {bs t : List UInt8} {p : Nat} {v : Bool} (h : bs.drop p = encB v ++ t) : rdBool bs p = some (v, p + 1) := by
  have hx : bs[p]? = some (if v then 1 else 0) := by
    have := congrArg (fun l => l[0]?) h
    simp only [List.getElem?_drop, Nat.add_zero] at this
    rw [this]
    cases v <;> rfl
  unfold rdBool
  rw [hx]
  cases v <;> rfl
end Go.Proofs.Ytjijiondinbmnaa
