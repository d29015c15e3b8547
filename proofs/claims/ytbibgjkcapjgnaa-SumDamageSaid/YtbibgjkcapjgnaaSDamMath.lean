/-
  Plain mathematics: the checksum of an answer with one byte changed is another one; no walk.
-/
import Derived.Test.YtbibgjkcapjgnaaSMath
namespace Go.Proofs.Ytbibgjkcapjgnaa
open Go.RowKit

theorem un_i64 {n : Nat} (h : n < 18446744073709551616) : un (IntKind.i64.wrap (n : Int)) = n := by
  rw [IntKind.wrap_i64]; unfold un; omega
theorem toNat_ofInt64 (a : Int) : (BitVec.ofInt 64 a).toNat = un a := by rw [BitVec.toNat_ofInt]; rfl
theorem un_xor (a b : Int) : un (bits .xor .i64 a b) = un a ^^^ un b := by
  show un (IntKind.i64.wrap ((BitVec.ofInt 64 a ^^^ BitVec.ofInt 64 b).toNat : Int)) = _
  rw [BitVec.toNat_xor, toNat_ofInt64, toNat_ofInt64, un_i64 (xor_lt64 (un_lt a) (un_lt b))]
theorem un_wrap64 (a : Int) : un (wrap64 a) = un a := by unfold wrap64 un; omega
theorem shl_lt {m r : Nat} (hm : m < 256) (hr : r < 8) : m * 2 ^ (8 * r) < 18446744073709551616 := by
  have h1 : 2 ^ (8 * r) ≤ 2 ^ 56 := Nat.pow_le_pow_right (by omega) (by omega)
  have h2 : m * 2 ^ (8 * r) ≤ 255 * 2 ^ 56 := Nat.mul_le_mul (by omega) h1
  omega
theorem un_shl {m r : Nat} (hm : m < 256) (hr : r < 8) : un (wrap64 (IntKind.u64.wrap (IntKind.u64.wrap (m : Int) * 2 ^ (8 * r)))) = m * 2 ^ (8 * r) := by
  have h := shl_lt hm hr
  rw [un_wrap64, show IntKind.u64.wrap (m : Int) = (m : Int) by rw [IntKind.wrap_u64]; omega, show (m : Int) * 2 ^ (8 * r) = ((m * 2 ^ (8 * r) : Nat) : Int) by rw [Int.natCast_mul, Int.natCast_pow]; rfl, IntKind.wrap_u64]
  unfold un
  omega

theorem ofNat_xor (a b : Nat) : UInt8.ofNat (a ^^^ b) = UInt8.ofNat a ^^^ UInt8.ofNat b := by
  apply UInt8.toNat_inj.1
  rw [UInt8.toNat_xor, UInt8.toNat_ofNat', UInt8.toNat_ofNat', UInt8.toNat_ofNat', Nat.xor_mod_two_pow]
theorem div_xor (a b k : Nat) : (a ^^^ b) / 2 ^ k = a / 2 ^ k ^^^ b / 2 ^ k := by
  rw [← Nat.shiftRight_eq_div_pow, ← Nat.shiftRight_eq_div_pow, ← Nat.shiftRight_eq_div_pow, Nat.shiftRight_xor_distrib]
theorem byte_xor (u r i : Nat) (m : UInt8) : UInt8.ofNat ((u ^^^ m.toNat * 2 ^ (8 * r)) / 256 ^ i) = if i = r then UInt8.ofNat (u / 256 ^ i) ^^^ m else UInt8.ofNat (u / 256 ^ i) := by
  rw [show 256 ^ i = 2 ^ (8 * i) by rw [Nat.pow_mul], div_xor, ofNat_xor]
  have hm := m.toNat_lt
  split
  · rename_i e
    subst e
    rw [Nat.mul_div_cancel _ (Nat.two_pow_pos _)]
    simp
  · rename_i e
    have h0 : UInt8.ofNat (m.toNat * 2 ^ (8 * r) / 2 ^ (8 * i)) = 0 := by
      apply UInt8.toNat_inj.1
      rw [UInt8.toNat_ofNat']
      rcases Nat.lt_or_gt_of_ne e with h | h
      · obtain ⟨k, rfl⟩ : ∃ k, r = i + 1 + k := ⟨r - i - 1, by omega⟩
        rw [show 8 * (i + 1 + k) = 8 * i + (8 + 8 * k) by omega, Nat.pow_add, ← Nat.mul_assoc, Nat.mul_right_comm, Nat.mul_div_cancel _ (Nat.two_pow_pos _), Nat.pow_add, ← Nat.mul_assoc, Nat.mul_right_comm]
        exact Nat.mul_mod_left _ _
      · obtain ⟨k, rfl⟩ : ∃ k, i = r + 1 + k := ⟨i - r - 1, by omega⟩
        rw [show 8 * (r + 1 + k) = 8 * r + (8 + 8 * k) by omega, Nat.pow_add, ← Nat.div_div_eq_div_mul, Nat.mul_div_cancel _ (Nat.two_pow_pos _), Nat.pow_add, ← Nat.div_div_eq_div_mul, show m.toNat / 2 ^ 8 = 0 from Nat.div_eq_of_lt (by omega), Nat.zero_div]
        rfl
    rw [h0]
    simp
theorem xor_ne {c m : UInt8} (hm : m ≠ 0) : ¬ c = c ^^^ m := by
  intro e
  apply hm
  have := congrArg (c ^^^ ·) e
  simp only [UInt8.xor_self] at this
  rw [← UInt8.xor_assoc, UInt8.xor_self, UInt8.zero_xor] at this
  exact this.symm
theorem eight_xor (u r : Nat) (m : UInt8) : eight (u ^^^ m.toNat * 2 ^ (8 * r)) = (eight u).set r (UInt8.ofNat (u / 256 ^ r) ^^^ m) := by
  apply List.ext_getElem?
  intro i
  by_cases hi : i < 8
  · rw [eight_get _ i hi, byte_xor, List.getElem?_set, eight_get _ i hi]
    by_cases e : r = i
    · subst e
      rw [if_pos rfl, if_pos rfl, if_pos (by rw [eight_len]; exact hi)]
    · rw [if_neg (fun h => e h.symm), if_neg e]
  · rw [List.getElem?_eq_none (by rw [eight_len]; omega), List.getElem?_eq_none (by rw [List.length_set, eight_len]; omega)]
theorem numL_ne {h : Nat} (hh : h < 18446744073709551616) (z y : Int) (r : Nat) (m : UInt8) (hm : m ≠ 0) (hr : r < 8) (hy : un y = un z ^^^ m.toNat * 2 ^ (8 * r)) : ¬ numL h z = numL h y := by
  unfold numL
  rw [hy, eight_xor]
  have := fromL_set hh (eight (un z)) r (UInt8.ofNat (un z / 256 ^ r) ^^^ m) (by rw [eight_len]; exact hr)
  rw [this]
  obtain ⟨h1, h2⟩ := List.getElem?_eq_some_iff.1 (eight_get (un z) r hr)
  rw [h2]
  exact xor_ne hm
theorem numL_inj {a b : Nat} (z : Int) (ha : a < 18446744073709551616) (hb : b < 18446744073709551616) (h : numL a z = numL b z) : a = b := fromL_inj _ ha hb h

def dmgV (z : Int) (m : UInt8) (r : Nat) : Int := bits .xor .i64 z (wrap64 (IntKind.u64.wrap (IntKind.u64.wrap (m.toNat : Int) * 2 ^ (8 * r))))
theorem un_dmgV (z : Int) (m : UInt8) {r : Nat} (hr : r < 8) : un (dmgV z m r) = un z ^^^ m.toNat * 2 ^ (8 * r) := by
  unfold dmgV
  rw [un_xor, un_shl m.toNat_lt hr]
theorem answer_ne {d t a d' t' a' : Int} {l l' : List UInt8} (h : ¬ ansL d t a l = ansL d' t' a' l') : (answer d t a l == answer d' t' a' l') = false := by
  rw [beq_eq_false_iff_ne]
  intro e
  exact h (sg_inj (ansL_lt _ _ _ _) (ansL_lt _ _ _ _) e)
theorem answer_d (d t a : Int) (l : List UInt8) (m : UInt8) (r : Nat) (hm : m ≠ 0) (hr : r < 8) : (answer d t a l == answer (dmgV d m r) t a l) = false := by
  have h0 : (125762890854254 : Nat) < 18446744073709551616 := by omega
  refine answer_ne (fun e => numL_ne h0 d (dmgV d m r) r m hm hr (un_dmgV d m hr) ?_)
  unfold ansL at e
  have e1 := fromL_inj _ (numL_lt (numL_lt (numL_lt (numL_lt h0 _) _) _) _) (numL_lt (numL_lt (numL_lt (numL_lt h0 _) _) _) _) e
  have e2 := numL_inj _ (numL_lt (numL_lt (numL_lt h0 _) _) _) (numL_lt (numL_lt (numL_lt h0 _) _) _) e1
  have e3 := numL_inj _ (numL_lt (numL_lt h0 _) _) (numL_lt (numL_lt h0 _) _) e2
  exact numL_inj _ (numL_lt h0 _) (numL_lt h0 _) e3
theorem answer_t (d t a : Int) (l : List UInt8) (m : UInt8) (r : Nat) (hm : m ≠ 0) (hr : r < 8) : (answer d t a l == answer d (dmgV t m r) a l) = false := by
  have h0 : (125762890854254 : Nat) < 18446744073709551616 := by omega
  refine answer_ne (fun e => numL_ne (numL_lt h0 d) t (dmgV t m r) r m hm hr (un_dmgV t m hr) ?_)
  unfold ansL at e
  have e1 := fromL_inj _ (numL_lt (numL_lt (numL_lt (numL_lt h0 _) _) _) _) (numL_lt (numL_lt (numL_lt (numL_lt h0 _) _) _) _) e
  have e2 := numL_inj _ (numL_lt (numL_lt (numL_lt h0 _) _) _) (numL_lt (numL_lt (numL_lt h0 _) _) _) e1
  exact numL_inj _ (numL_lt (numL_lt h0 _) _) (numL_lt (numL_lt h0 _) _) e2
theorem answer_a (d t a : Int) (l : List UInt8) (m : UInt8) (r : Nat) (hm : m ≠ 0) (hr : r < 8) : (answer d t a l == answer d t (dmgV a m r) l) = false := by
  have h0 : (125762890854254 : Nat) < 18446744073709551616 := by omega
  refine answer_ne (fun e => numL_ne (numL_lt (numL_lt h0 d) t) a (dmgV a m r) r m hm hr (un_dmgV a m hr) ?_)
  unfold ansL at e
  have e1 := fromL_inj _ (numL_lt (numL_lt (numL_lt (numL_lt h0 _) _) _) _) (numL_lt (numL_lt (numL_lt (numL_lt h0 _) _) _) _) e
  exact numL_inj _ (numL_lt (numL_lt (numL_lt h0 _) _) _) (numL_lt (numL_lt (numL_lt h0 _) _) _) e1
theorem answer_l (d t a : Int) (l : List UInt8) (m : UInt8) (j : Nat) (hm : m ≠ 0) (hj : j < l.length) : (answer d t a l == answer d t a (l.set j (l[j] ^^^ m))) = false := by
  have h0 : (125762890854254 : Nat) < 18446744073709551616 := by omega
  refine answer_ne (fun e => ?_)
  unfold ansL at e
  rw [List.length_set] at e
  exact xor_ne hm ((fromL_set (numL_lt (numL_lt (numL_lt (numL_lt h0 _) _) _) _) l j _ hj).1 e)
end Go.Proofs.Ytbibgjkcapjgnaa
