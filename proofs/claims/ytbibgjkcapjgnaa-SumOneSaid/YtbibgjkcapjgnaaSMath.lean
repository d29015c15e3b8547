/-
  Plain mathematics of the sums: a step, the sum of bytes, the eight bytes of a number; no walk.
-/
import Derived.Test.YtbibgjkcapjgnaaBase
namespace Go.Proofs.Ytbibgjkcapjgnaa
open Go.RowKit

def two64 : Nat := 18446744073709551616
def fac : Nat := 15111065706836454659
def mulM (x : Nat) : Nat := x * 15111065706836454659 % 18446744073709551616
def fold29 (k : Nat) : Nat := k ^^^ (k / 536870912)
def stp (h c : Nat) : Nat := fold29 (mulM (h ^^^ c))
def fromL (h : Nat) (l : List UInt8) : Nat := l.foldl (fun h c => stp h c.toNat) h

theorem xor_lt64 {a b : Nat} (ha : a < 18446744073709551616) (hb : b < 18446744073709551616) : a ^^^ b < 18446744073709551616 := Nat.xor_lt_two_pow (n := 64) ha hb
theorem mulM_lt (x : Nat) : mulM x < 18446744073709551616 := Nat.mod_lt _ (by omega)
theorem fold29_lt {k : Nat} (h : k < 18446744073709551616) : fold29 k < 18446744073709551616 := xor_lt64 h (by omega)
theorem stp_lt (h c : Nat) : stp h c < 18446744073709551616 := fold29_lt (mulM_lt _)
theorem fromL_lt {h : Nat} (hh : h < 18446744073709551616) : ∀ (l : List UInt8), fromL h l < 18446744073709551616 := by
  intro l
  induction l generalizing h with
  | nil => exact hh
  | cons c l ih => exact ih (stp_lt _ _)
theorem fromL_nil (h : Nat) : fromL h [] = h := List.foldl_nil
theorem fromL_cons (h : Nat) (c : UInt8) (l : List UInt8) : fromL h (c :: l) = fromL (stp h c.toNat) l := List.foldl_cons ..
theorem fromL_append (h : Nat) (a b : List UInt8) : fromL h (a ++ b) = fromL (fromL h a) b := by unfold fromL; rw [List.foldl_append]
theorem fromL_snoc (h : Nat) (a : List UInt8) (c : UInt8) : fromL h (a ++ [c]) = stp (fromL h a) c.toNat := by rw [fromL_append, fromL_cons, fromL_nil]

/-- the three maps of a step can be taken back -/
theorem mulM_inj {a b : Nat} (ha : a < 18446744073709551616) (hb : b < 18446744073709551616) (h : mulM a = mulM b) : a = b := by
  have back : ∀ x, x < 18446744073709551616 → mulM x * 436968802925209003 % 18446744073709551616 = x := by
    intro x hx
    unfold mulM
    rw [Nat.mod_mul_mod, Nat.mul_assoc, Nat.mul_mod, show 15111065706836454659 * 436968802925209003 % 18446744073709551616 = 1 by decide]
    omega
  rw [← back a ha, ← back b hb, h]
theorem fold29_inj {a b : Nat} (ha : a < 18446744073709551616) (hb : b < 18446744073709551616) (h : fold29 a = fold29 b) : a = b := by
  have sh : ∀ x : Nat, x / 536870912 = x >>> 29 := fun x => by rw [Nat.shiftRight_eq_div_pow]
  have back : ∀ x, x < 18446744073709551616 → fold29 x ^^^ (fold29 x >>> 29) ^^^ (fold29 x >>> 58) = x := by
    intro x hx
    unfold fold29
    rw [sh, Nat.shiftRight_xor_distrib, Nat.shiftRight_xor_distrib, ← Nat.shiftRight_add, ← Nat.shiftRight_add]
    have h0 : x >>> (29 + 58) = 0 := by rw [Nat.shiftRight_eq_div_pow]; exact Nat.div_eq_of_lt (by omega)
    rw [h0, Nat.xor_zero, show x >>> (29 + 29) = x >>> 58 from rfl]
    apply Nat.eq_of_testBit_eq
    intro i
    simp only [Nat.testBit_xor]
    cases x.testBit i <;> cases (x >>> 29).testBit i <;> cases (x >>> 58).testBit i <;> rfl
  rw [← back a ha, ← back b hb, h]
theorem xor_inj {a b c : Nat} (h : a ^^^ c = b ^^^ c) : a = b := by
  have := congrArg (· ^^^ c) h
  simpa [Nat.xor_assoc] using this
theorem xor_inj' {a b c : Nat} (h : c ^^^ a = c ^^^ b) : a = b := by
  rw [Nat.xor_comm c a, Nat.xor_comm c b] at h; exact xor_inj h
theorem stp_inj {a b c : Nat} (ha : a < 18446744073709551616) (hb : b < 18446744073709551616) (hc : c < 256) (h : stp a c = stp b c) : a = b :=
  xor_inj (mulM_inj (xor_lt64 ha (by omega)) (xor_lt64 hb (by omega)) (fold29_inj (mulM_lt _) (mulM_lt _) h))
theorem stp_inj' {a c d : Nat} (ha : a < 18446744073709551616) (hc : c < 256) (hd : d < 256) (h : stp a c = stp a d) : c = d :=
  xor_inj' (mulM_inj (xor_lt64 ha (by omega)) (xor_lt64 ha (by omega)) (fold29_inj (mulM_lt _) (mulM_lt _) h))
theorem fromL_inj {a b : Nat} (l : List UInt8) (ha : a < 18446744073709551616) (hb : b < 18446744073709551616) (h : fromL a l = fromL b l) : a = b := by
  induction l generalizing a b with
  | nil => exact h
  | cons c l ih => exact stp_inj ha hb c.toNat_lt (ih (stp_lt _ _) (stp_lt _ _) h)
theorem fromL_iff {a b : Nat} (l : List UInt8) (ha : a < 18446744073709551616) (hb : b < 18446744073709551616) : fromL a l = fromL b l ↔ a = b := ⟨fromL_inj l ha hb, fun h => by rw [h]⟩

/-- exactly one byte is changed -/
theorem fromL_set {h : Nat} (hh : h < 18446744073709551616) (l : List UInt8) (i : Nat) (c : UInt8) (hi : i < l.length) : fromL h l = fromL h (l.set i c) ↔ l[i] = c := by
  constructor
  · intro e
    have h1 : l = l.take i ++ l[i] :: l.drop (i + 1) := by simp
    have h2 : l.set i c = l.take i ++ c :: l.drop (i + 1) := by rw [List.set_eq_take_append_cons_drop, if_pos hi]
    rw [h2] at e
    conv at e => lhs; rw [h1]
    rw [fromL_append, fromL_append, fromL_cons, fromL_cons] at e
    have h3 := fromL_inj _ (stp_lt _ _) (stp_lt _ _) e
    exact UInt8.toNat_inj.1 (stp_inj' (fromL_lt hh _) (UInt8.toNat_lt _) (UInt8.toNat_lt _) h3)
  · rintro rfl
    rw [List.set_getElem_self]

/-- the number that is congruent to an integer -/
def un (n : Int) : Nat := (n % 18446744073709551616).toNat
theorem un_lt (n : Int) : un n < 18446744073709551616 := by unfold un; omega
theorem un_cast (n : Int) : (un n : Int) = n % 18446744073709551616 := by unfold un; omega
def eight (n : Nat) : List UInt8 := [UInt8.ofNat n, UInt8.ofNat (n / 256), UInt8.ofNat (n / 65536), UInt8.ofNat (n / 16777216), UInt8.ofNat (n / 4294967296), UInt8.ofNat (n / 1099511627776), UInt8.ofNat (n / 281474976710656), UInt8.ofNat (n / 72057594037927936)]
theorem eight_len (n : Nat) : (eight n).length = 8 := rfl
theorem eight_get (n i : Nat) (hi : i < 8) : (eight n)[i]? = some (UInt8.ofNat (n / 256 ^ i)) := by
  match i, hi with
  | 0, _ => simp [eight]
  | 1, _ => rfl
  | 2, _ => rfl
  | 3, _ => rfl
  | 4, _ => rfl
  | 5, _ => rfl
  | 6, _ => rfl
  | 7, _ => rfl
theorem eight_take (n i : Nat) (hi : i < 8) : (eight n).take (i + 1) = (eight n).take i ++ [UInt8.ofNat (n / 256 ^ i)] := by
  obtain ⟨h1, h2⟩ := List.getElem?_eq_some_iff.1 (eight_get n i hi)
  rw [List.take_succ_eq_append_getElem h1, h2]
def numL (h : Nat) (n : Int) : Nat := fromL h (eight (un n))
theorem numL_lt {h : Nat} (hh : h < 18446744073709551616) (n : Int) : numL h n < 18446744073709551616 := fromL_lt hh _
def ofL (l : List UInt8) : Nat := numL (fromL 125762890854254 l) l.length
def ansL (d t a : Int) (l : List UInt8) : Nat := fromL (numL (numL (numL (numL 125762890854254 d) t) a) l.length) l
theorem ofL_lt (l : List UInt8) : ofL l < 18446744073709551616 := numL_lt (fromL_lt (by omega) _) _
theorem ansL_lt (d t a : Int) (l : List UInt8) : ansL d t a l < 18446744073709551616 := fromL_lt (numL_lt (numL_lt (numL_lt (numL_lt (by omega) _) _) _) _) _

/-- the integer that is congruent to a number -/
def sg (n : Nat) : Int := if n < 9223372036854775808 then n else (n : Int) - 18446744073709551616
theorem sg_inj {a b : Nat} (ha : a < 18446744073709551616) (hb : b < 18446744073709551616) (h : sg a = sg b) : a = b := by unfold sg at h; split at h <;> split at h <;> omega
theorem sg_wrap {n : Nat} (h : n < 18446744073709551616) : IntKind.i64.wrap (n : Int) = sg n := by rw [IntKind.wrap_i64]; unfold sg; split <;> omega
theorem sg_range {n : Nat} (h : n < 18446744073709551616) : -9223372036854775808 ≤ sg n ∧ sg n ≤ 9223372036854775807 := by unfold sg; split <;> omega
def answer (d t a : Int) (l : List UInt8) : Int := sg (ansL d t a l)
theorem answer_range (d t a : Int) (l : List UInt8) : -9223372036854775808 ≤ answer d t a l ∧ answer d t a l ≤ 9223372036854775807 := sg_range (ansL_lt _ _ _ _)
end Go.Proofs.Ytbibgjkcapjgnaa
