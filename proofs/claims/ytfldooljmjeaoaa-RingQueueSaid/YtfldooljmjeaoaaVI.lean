/-
  What was encoded is read again.
-/
import Derived.Test.YtfldooljmjeaoaaVY
import Derived.Test.YtfldooljmjeaoaaVM
namespace Go.Proofs.Ytfldooljmjeaoaa
open Go.RowKit Go.Shelf

theorem drop_next {bs a t : List UInt8} {p : Nat} (h : bs.drop p = a ++ t) : bs.drop (p + a.length) = t := by
  rw [← List.drop_drop, h, List.drop_left]
theorem drop_len {bs a t : List UInt8} {p : Nat} (h : bs.drop p = a ++ t) (ha : 0 < a.length) : p + a.length ≤ bs.length := by
  have := congrArg List.length h
  rw [List.length_drop, List.length_append] at this
  omega

theorem rdInt_at {bs t : List UInt8} {p : Nat} {z : Int} (h1 : -9223372036854775808 ≤ z) (h2 : z ≤ 9223372036854775807) (h : bs.drop p = enc z ++ t) : rdInt bs p = some (z, p + (enc z).length) := by
  unfold rdInt
  have e : num (bs.drop p) = (zz z, (encU (zz z)).length) := by rw [h]; exact num_enc (zz_lt h1 h2) t
  have hl := (encU_len (zz z)).1
  rw [e]
  simp only
  rw [if_neg (by omega), unzz_zz]
  rfl
theorem rdBounded_at {bs t : List UInt8} {p : Nat} {z least most : Int} (h1 : -9223372036854775808 ≤ z) (h2 : z ≤ 9223372036854775807) (hl : least ≤ z) (hm : z ≤ most) (h : bs.drop p = enc z ++ t) : rdBounded least most bs p = some (z, p + (enc z).length) := by
  unfold rdBounded
  rw [rdInt_at h1 h2 h]
  simp only
  rw [if_neg (by omega)]
theorem rdBytes_at {bs t l : List UInt8} {p : Nat} {most : Int} (hl : l.length ≤ 1099511627776) (hm : (l.length : Int) ≤ most) (h : bs.drop p = encS l ++ t) : rdBytes most bs p = some (l, p + (encS l).length) := by
  have h0 : bs.drop p = enc l.length ++ (l ++ t) := by rw [h]; unfold encS; rw [List.append_assoc]
  unfold rdBytes
  rw [rdBounded_at (by omega) (by omega) (by omega) hm h0]
  have hd := drop_next h0
  simp only [Int.toNat_natCast]
  have hlen := congrArg List.length hd
  rw [List.length_drop, List.length_append] at hlen
  rw [if_neg (by omega), hd, List.take_left]
  unfold encS
  rw [List.length_append, Nat.add_assoc]
end Go.Proofs.Ytfldooljmjeaoaa
