/-
  strings.IndexByte at the digits, sum.Parse: the walks.
-/
import Derived.Test.YtbibgjkcapjgnaaSRDigits
import Derived.Lib.Bytealg
namespace Go.Proofs.Ytbibgjkcapjgnaa
open Go.RowKit

def nib (c : UInt8) : Int := Lib.indexByte [48, 49, 50, 51, 52, 53, 54, 55, 56, 57, 97, 98, 99, 100, 101, 102] c
theorem nib_range (c : UInt8) : -1 ≤ nib c ∧ nib c ≤ 15 := by
  have h : ∀ a : Fin 256, -1 ≤ nib (UInt8.ofNat a.val) ∧ nib (UInt8.ofNat a.val) ≤ 15 := by decide +kernel
  have := h ⟨c.toNat, c.toNat_lt⟩
  simpa using this

theorem indexByte_any (c : UInt8) (w : World) :
    Calls Try.prog 26 #[.string ⟨#[48, 49, 50, 51, 52, 53, 54, 55, 56, 57, 97, 98, 99, 100, 101, 102]⟩, .int .u8 (c.toNat : Int)] w fun e w' => e = .returned (.int .i64 (nib c)) ∧ w = w' := by
  have hx : Lib.indexByte (ByteArray.mk #[48, 49, 50, 51, 52, 53, 54, 55, 56, 57, 97, 98, 99, 100, 101, 102]).data.toList ((c.toNat : Int)).toNat.toUInt8 = nib c := by
    rw [show ((c.toNat : Int)).toNat.toUInt8 = c by simp]
    rfl
  have HX := Lib.hid hx
  clear hx
  have HI : Hid (∀ W, Calls Try.prog 27 #[.string ⟨#[48, 49, 50, 51, 52, 53, 54, 55, 56, 57, 97, 98, 99, 100, 101, 102]⟩, .int .u8 (c.toNat : Int)] W fun e w' => e = .returned (.int .i64 (nib c)) ∧ W = w') := Lib.hid (fun W => by
    go_enter Try.func27, Try.ntmps27
    go_wp2
    rw [run_callFunc_extern Try.func28 (by kernel_rfl) (by kernel_rfl) (by kernel_rfl) (e := Extern.BytealgIndexByte.indexByte) (by kernel_rfl), Lib.run_indexByteString, HX.out]
    simp only [Result.andThen]
    rw [Oper.upon_value]
    go_wp2
    go_ret
    exact ⟨rfl, rfl⟩)
  go_enter Try.func26, Try.ntmps26
  go_wp2_with (go_at_call 27; refine (HI.out _).mono ?_; rintro e w' ⟨rfl, rfl⟩)
  go_ret
  exact ⟨rfl, rfl⟩

def parL : Nat → List UInt8 → Option Nat
  | acc, [] => some acc
  | acc, c :: l => if nib c < 0 then none else parL (16 * acc + (nib c).toNat) l
def parO (l : List UInt8) : Option Nat := if l.length = 16 then parL 0 l else none
def parN (o : Option Nat) : Int := match o with | some n => (n : Int) | none => 0
def parE (o : Option Nat) : Int := match o with | some _ => 0 | none => 3
def PPost (o : Option Nat) (w : World) (e : Ending) (w' : World) : Prop := e = .returned (.tuple #[.int .u64 (parN o), .int .i64 (parE o)]) ∧ ∃ n, w' = w.drewN n

def PInv (l : List UInt8) (h k : Value) : Prop :=
  ∃ (i acc : Nat), i ≤ 16 ∧ k = .int .i64 (i : Int) ∧ h = .int .u64 (acc : Int) ∧ acc < 16 ^ i ∧ parO l = parL acc (l.drop i)

theorem parL_step {l : List UInt8} {i acc : Nat} (hi : i < l.length) : parL acc (l.drop i) = if nib l[i] < 0 then none else parL (16 * acc + (nib l[i]).toNat) (l.drop (i + 1)) := by
  rw [List.drop_eq_getElem_cons hi]; rfl
theorem pow16_le {i : Nat} (h : i ≤ 16) : 16 ^ i ≤ 18446744073709551616 := by
  have : 16 ^ i ≤ 16 ^ 16 := Nat.pow_le_pow_right (by omega) h
  omega
theorem or_nib {acc d i : Nat} (ha : acc < 16 ^ i) (hi : i < 16) (hd : d < 16) : bits .or .u64 (IntKind.u64.wrap ((acc : Int) * 16)) (d : Int) = ((16 * acc + d : Nat) : Int) := by
  have h1 := pow16_le (i := i + 1) (by omega)
  have h2 : 16 ^ (i + 1) = 16 * 16 ^ i := by rw [Nat.pow_succ, Nat.mul_comm]
  rw [show IntKind.u64.wrap ((acc : Int) * 16) = ((16 * acc : Nat) : Int) by rw [IntKind.wrap_u64]; omega, u64_or_nat _ _ (by omega) (by omega), nat_join 4 _ _ (by omega) (by omega)]

set_option maxRecDepth 100000 in
set_option maxHeartbeats 1000000 in
theorem parse_any (s : ByteArray) (w : World) :
    Calls Try.prog 20 #[.string s] w (PPost (parO s.data.toList) w) := by
  have hsl : s.data.toList.length = s.size := by rw [Array.length_toList]; rfl
  by_cases h16 : s.size = 16
  · have HL : Hid (s.data.toList.length = 16) := Lib.hid (by rw [hsl, h16])
    have H16 := Lib.hid h16
    have hs1 : (s.size : Int) = 16 := by omega
    clear hsl h16
    go_enter Try.func20, Try.ntmps20
    go_wp2
    go_loop [4, 12] (fun h k => PInv s.data.toList h k) (fun _ k => 16 - (intOf k).toNat)
    case atStart => exact ⟨0, 0, by omega, rfl, rfl, by omega, by unfold parO; rw [if_pos HL.out]; rfl⟩
    case round =>
      obtain ⟨i, acc, hi, rfl, rfl, hacc, hp⟩ := hrel
      by_cases hlt : i < 16
      · have hb : i < s.size := by rw [H16.out]; exact hlt
        have hbl : i < s.data.toList.length := by rw [HL.out]; exact hlt
        have hgi : s[i] = s.data.toList[i] := rfl
        have hst := parL_step (acc := acc) hbl
        rw [← hp, ← hgi] at hst
        have HST := Lib.hid hst
        have HA := Lib.hid hacc
        have hn := nib_range s[i]
        have HC := Lib.hid (indexByte_any s[i] w)
        clear hst hacc hp hgi
        have hb2 : (i : Int) < (s.size : Int) := by omega
        generalize nib s[i] = d at *
        obtain ⟨hn1, hn2⟩ := hn
        by_cases hd : d < 0
        · go_wp2_with (go_at_call 26; refine HC.out.mono ?_; rintro e w' ⟨rfl, rfl⟩)
          go_ret2
          exact ⟨by rw [HST.out, if_pos hd]; rfl, 0, rfl⟩
        · obtain ⟨m, rfl⟩ : ∃ m : Nat, d = (m : Int) := ⟨d.toNat, by omega⟩
          have HOR := Lib.hid (or_nib (d := m) HA.out hlt (by omega))
          go_wp2_with (go_at_call 26; refine HC.out.mono ?_; rintro e w' ⟨rfl, rfl⟩)
          exact ⟨⟨i + 1, 16 * acc + m, by omega, by go_num, congrArg (Value.int .u64) HOR.out, by have := HA.out; have h2 : 16 ^ (i + 1) = 16 * 16 ^ i := by rw [Nat.pow_succ, Nat.mul_comm]
                                                                                                  omega, by rw [HST.out, if_neg (by omega), Int.toNat_natCast]⟩, by simp [intOf]; omega⟩
      · obtain rfl : i = 16 := by omega
        have hp2 : parO s.data.toList = some acc := by rw [hp, List.drop_of_length_le (by rw [HL.out]; exact Nat.le_refl _)]; rfl
        have HP := Lib.hid hp2
        clear hp hp2 hacc
        go_wp2
        go_ret2
        exact ⟨by rw [HP.out]; rfl, 0, rfl⟩
  · have hs1 : ¬ (s.size : Int) = 16 := by omega
    have HP : Hid (parO s.data.toList = none) := Lib.hid (by unfold parO; rw [hsl, if_neg h16])
    clear hsl h16
    go_enter Try.func20, Try.ntmps20
    go_wp2
    go_ret2
    exact ⟨by rw [HP.out]; rfl, 0, rfl⟩
end Go.Proofs.Ytbibgjkcapjgnaa
