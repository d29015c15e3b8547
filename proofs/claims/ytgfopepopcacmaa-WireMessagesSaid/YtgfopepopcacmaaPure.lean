/-
  Plain mathematics of the encoding of integers; no walk.
-/
import Derived.Test.YtgfopepopcacmaaBase
namespace Go.Proofs.Ytgfopepopcacmaa
open Go.RowKit

def zz (n : Int) : Nat := if 0 ≤ n then (2 * n).toNat else (-2 * n - 1).toNat
def grp : Nat → Nat → List UInt8
  | 0, u => [UInt8.ofNat u]
  | f + 1, u => if u < 128 then [UInt8.ofNat u] else UInt8.ofNat (u % 128 + 128) :: grp f (u / 128)
def encU (u : Nat) : List UInt8 := grp 9 u
def enc (n : Int) : List UInt8 := encU (zz n)

theorem grp_more : ∀ (f u : Nat), u < 128 ^ (f + 1) → grp (f + 1) u = grp f u := by
  intro f
  induction f with
  | zero => intro u hu; simp [grp]; omega
  | succ f ih =>
    intro u hu
    unfold grp
    split
    · rfl
    · rw [ih (u / 128) (by rw [Nat.div_lt_iff_lt_mul (by omega)]; rw [Nat.pow_succ] at hu; exact hu)]

theorem encU_lo {u : Nat} (h : u < 128) : encU u = [UInt8.ofNat u] := by unfold encU grp; rw [if_pos h]
theorem encU_hi {u : Nat} (h : ¬ u < 128) (hu : u < 18446744073709551616) : encU u = UInt8.ofNat (u % 128 + 128) :: encU (u / 128) := by
  unfold encU
  rw [show grp 9 u = UInt8.ofNat (u % 128 + 128) :: grp 8 (u / 128) from by
    show (if u < 128 then _ else _) = _
    rw [if_neg h]]
  rw [grp_more 8 (u / 128) (by omega)]

theorem grp_len : ∀ (f u : Nat), 1 ≤ (grp f u).length ∧ (grp f u).length ≤ f + 1 := by
  intro f
  induction f with
  | zero => intro u; simp [grp]
  | succ f ih =>
    intro u
    unfold grp
    split
    · simp
    · have := ih (u / 128); simp; omega
theorem encU_len (u : Nat) : 1 ≤ (encU u).length ∧ (encU u).length ≤ 10 := grp_len 9 u
theorem enc_len (n : Int) : 1 ≤ (enc n).length ∧ (enc n).length ≤ 10 := encU_len _

theorem zz_lt {n : Int} (h1 : -9223372036854775808 ≤ n) (h2 : n ≤ 9223372036854775807) : zz n < 18446744073709551616 := by
  unfold zz; split <;> omega

/-- what the walk has computed is the number -/
theorem zz_walk {n : Int} (h1 : -9223372036854775808 ≤ n) (h2 : n ≤ 9223372036854775807) :
    bits .xor .u64 (IntKind.u64.wrap (IntKind.u64.wrap n * 2)) (IntKind.u64.wrap (n / 9223372036854775808)) = (zz n : Int) := by
  by_cases h : 0 ≤ n
  · have e1 : n / 9223372036854775808 = 0 := by omega
    rw [e1]
    have e2 : IntKind.u64.wrap (IntKind.u64.wrap n * 2) = ((2 * n).toNat : Int) := by rw [IntKind.wrap_u64, IntKind.wrap_u64]; omega
    have e3 : IntKind.u64.wrap 0 = ((0 : Nat) : Int) := by rw [IntKind.wrap_u64]; rfl
    rw [e2, e3, u64_xor_nat _ _ (by omega) (by omega)]
    simp [zz, h]
  · have e1 : n / 9223372036854775808 = -1 := by omega
    rw [e1]
    have e2 : IntKind.u64.wrap (IntKind.u64.wrap n * 2) = ((18446744073709551616 + 2 * n).toNat : Int) := by rw [IntKind.wrap_u64, IntKind.wrap_u64]; omega
    have e3 : IntKind.u64.wrap (-1) = ((18446744073709551615 : Nat) : Int) := by rw [IntKind.wrap_u64]; rfl
    rw [e2, e3, u64_xor_nat _ _ (by omega) (by omega)]
    have : (18446744073709551616 + 2 * n).toNat ^^^ 18446744073709551615 = (-2 * n - 1).toNat := by
      have hx : (18446744073709551616 + 2 * n).toNat < 2 ^ 64 := by omega
      have key : ∀ a : Nat, a < 2 ^ 64 → a ^^^ (2 ^ 64 - 1) = 2 ^ 64 - 1 - a := by
        intro a ha
        have := BitVec.toNat_not (x := BitVec.ofNat 64 a)
        have h2 : (BitVec.ofNat 64 a ^^^ BitVec.allOnes 64).toNat = a ^^^ (2 ^ 64 - 1) := by
          rw [BitVec.toNat_xor, BitVec.toNat_ofNat, BitVec.toNat_allOnes, Nat.mod_eq_of_lt ha]
        rw [← h2, BitVec.xor_allOnes, this, BitVec.toNat_ofNat, Nat.mod_eq_of_lt ha]
      have := key _ hx
      rw [show (18446744073709551615 : Nat) = 2 ^ 64 - 1 from rfl, this]
      omega
    rw [this]
    simp [zz, h]

/-- the byte of the loop -/
theorem byte_or {u : Nat} : bits .or .u8 (IntKind.u8.wrap (u : Int)) 128 = ((UInt8.ofNat (u % 128 + 128)).toNat : Int) := by
  have e1 : IntKind.u8.wrap (u : Int) = ((u % 256 : Nat) : Int) := by rw [IntKind.wrap_u8]; omega
  rw [e1, show (128 : Int) = ((128 : Nat) : Int) from rfl, u8_or_nat _ _ (by omega) (by omega)]
  rw [UInt8.toNat_ofNat']
  congr 1
  have : u % 256 ||| 128 = u % 128 + 128 := by
    have h : ∀ a : Fin 256, a.val ||| 128 = a.val % 128 + 128 := by decide +kernel
    have := h ⟨u % 256, by omega⟩
    simp only at this
    rw [this]; omega
  rw [this]; omega
theorem byte_lo {u : Nat} (h : u < 128) : IntKind.u8.wrap (u : Int) = ((UInt8.ofNat u).toNat : Int) := by
  rw [IntKind.wrap_u8, UInt8.toNat_ofNat']; omega

theorem bv_or {u : Nat} : Value.int .u8 (bits .or .u8 ((u : Int) % 256) 128) = bv (UInt8.ofNat (u % 128 + 128)) := by
  have := @byte_or u
  rw [IntKind.wrap_u8] at this
  rw [this]; rfl
theorem bv_lo {u : Nat} (h : u < 128) : Value.int .u8 ((u : Int) % 256) = bv (UInt8.ofNat u) := by
  have := byte_lo h
  rw [IntKind.wrap_u8] at this
  rw [this]; rfl
theorem bv_lo' {u : Nat} (h : u < 128) : Value.int .u8 (u : Int) = bv (UInt8.ofNat u) := by
  rw [← bv_lo h]; congr 1; omega

end Go.Proofs.Ytgfopepopcacmaa
