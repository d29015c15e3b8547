/-
  ref.Parse: the walk.
-/
import Derived.Test.YtbibgjkcapjgnaaSParse
namespace Go.Proofs.Ytbibgjkcapjgnaa
open Go.RowKit

def found (c : UInt8) (k : Nat) : Int := if nib c < k then nib c else -1
theorem nib_is (c : UInt8) (k : Nat) (hk : k < 16) : ((dig k).toNat == c.toNat) = (nib c == (k : Int)) := by
  have h : ∀ b : Fin 16, ∀ a : Fin 256, ((dig b.val).toNat == a.val) = (nib (UInt8.ofNat a.val) == (b.val : Int)) := by decide +kernel
  have := h ⟨k, hk⟩ ⟨c.toNat, c.toNat_lt⟩
  simpa using this
theorem found_yes {c : UInt8} {k : Nat} (h : nib c = k) : found c (k + 1) = k := by unfold found; rw [if_pos (by omega), h]
theorem found_no {c : UInt8} {k : Nat} (h : ¬ nib c = k) : found c (k + 1) = found c k := by
  unfold found
  by_cases h1 : nib c < k
  · rw [if_pos (by omega), if_pos h1]
  · rw [if_neg (by omega), if_neg h1]
theorem found_end (c : UInt8) : found c 16 = nib c := by unfold found; rw [if_pos (by have := nib_range c; omega)]
theorem found_start (c : UInt8) : found c 0 = -1 := by
  unfold found
  have := nib_range c
  split <;> omega

def FdInv (c : UInt8) (w0 : World) (d k : Value) (wr : World) : Prop :=
  ∃ j : Nat, j ≤ 16 ∧ k = .int .i64 (j : Int) ∧ d = .int .i64 (found c j) ∧ ∃ n, wr = w0.drewN n

def RInv (l : List UInt8) (w0 : World) (h k : Value) (wr : World) : Prop :=
  ∃ (i acc : Nat), i ≤ 16 ∧ k = .int .i64 (i : Int) ∧ h = .int .u64 (acc : Int) ∧ acc < 16 ^ i ∧ parO l = parL acc (l.drop i) ∧ ∃ n, wr = w0.drewN n

set_option maxRecDepth 100000 in
set_option maxHeartbeats 1000000 in
theorem rparse_any (s : ByteArray) (w : World) :
    Calls Try.prog 21 #[.string s] w (PPost (parO s.data.toList) w) := by
  have hsl : s.data.toList.length = s.size := by rw [Array.length_toList]; rfl
  by_cases h16 : s.size = 16
  · have HL : Hid (s.data.toList.length = 16) := Lib.hid (by rw [hsl, h16])
    have H16 := Lib.hid h16
    have hs1 : (s.size : Int) = 16 := by omega
    clear hsl h16
    go_enter Try.func21, Try.ntmps21
    go_wp2
    go_loopw [4, 5] (fun h k wr => RInv s.data.toList w h k wr) (fun _ k _ => 16 - (intOf k).toNat)
    case atStart => exact ⟨0, 0, by omega, rfl, rfl, by omega, by unfold parO; rw [if_pos HL.out]; rfl, 0, rfl⟩
    case round =>
      obtain ⟨i, acc, hi, rfl, rfl, hacc, hp, n0, rfl⟩ := hrel
      by_cases hlt : i < 16
      · have hb : i < s.size := by rw [H16.out]; exact hlt
        have hbl : i < s.data.toList.length := by rw [HL.out]; exact hlt
        have hgi : s[i] = s.data.toList[i] := rfl
        have hst := parL_step (acc := acc) hbl
        rw [← hp, ← hgi] at hst
        have HST := Lib.hid hst
        have HA := Lib.hid hacc
        have HN := Lib.hid (nib_range s[i])
        have hidx : ∀ W, (Instr.index 9 (.string s) (.int .i64 (i : Int))).run Try.prog W = .ok (.int .u8 (s[i].toNat : Int)) W := fun W => by
          rw [run_index_string W 9 s .i64 i Try.underlying9, dif_pos ⟨by omega, by omega⟩]
          rfl
        clear hst hacc hp hgi
        generalize s[i] = c at *
        go_wp2
        obtain ⟨wo, hwo⟩ : ∃ W, W = w.drewN n0 := ⟨_, rfl⟩
        rw [← hwo]
        have HWO := Lib.hid hwo
        clear hwo
        go_loopw [6, 7] (fun d k wr => FdInv c wo d k wr) (fun _ k _ => 16 - (intOf k).toNat)
        case atStart => exact ⟨0, by omega, rfl, by rw [found_start], 0, rfl⟩
        case round =>
          obtain ⟨j, hj, rfl, rfl, n1, rfl⟩ := hrel
          by_cases hjl : j < 16
          · have hidx2 := fun W => idx_dig (d := j) hjl W .i64
            have hni := nib_is c j hjl
            by_cases hq : nib c = j
            · have HF := Lib.hid (found_yes hq)
              rw [beq_iff_eq.2 hq] at hni
              have ht : (((dig j).toNat : Int) == (c.toNat : Int)) = true := by rw [beq_iff_eq] at hni ⊢; omega
              clear hq hni
              generalize (dig j).toNat = dj at *
              generalize c.toNat = cn at *
              go_wp2
              go_quiet (fail)
              go_wp2
              exact ⟨⟨j + 1, by omega, by go_num, by rw [HF.out], _, rfl⟩, by simp [intOf]; omega⟩
            · have HF := Lib.hid (found_no hq)
              rw [beq_eq_false_iff_ne.2 hq] at hni
              have ht : (((dig j).toNat : Int) == (c.toNat : Int)) = false := by rw [beq_eq_false_iff_ne] at hni ⊢; omega
              clear hq hni
              generalize (dig j).toNat = dj at *
              generalize c.toNat = cn at *
              go_wp2
              go_quiet (fail)
              go_wp2
              exact ⟨⟨j + 1, by omega, by go_num, by rw [HF.out], _, rfl⟩, by simp [intOf]; omega⟩
          · obtain rfl : j = 16 := by omega
            have hfe := found_end c
            rw [hfe]
            obtain ⟨hn1, hn2⟩ := HN.out
            clear hfe HN
            generalize nib c = d at *
            by_cases hd : d < 0
            · go_wp2
              go_ret2
              exact ⟨by rw [HST.out, if_pos hd]; rfl, n0 + n1, by rw [HWO.out, World.drewN_drewN]⟩
            · obtain ⟨m, rfl⟩ : ∃ m : Nat, d = (m : Int) := ⟨d.toNat, by omega⟩
              have hp16 := pow16_le (i := i + 1) (by omega)
              have h2 : 16 ^ (i + 1) = 16 * 16 ^ i := by rw [Nat.pow_succ, Nat.mul_comm]
              have hacc := HA.out
              have hlim : 16 * acc + m < 18446744073709551616 := by omega
              have HP : Hid (16 * acc + m < 16 ^ (i + 1)) := Lib.hid (by omega)
              clear hp16 h2 hacc
              go_wp2
              exact ⟨⟨i + 1, 16 * acc + m, by omega, by go_num, by go_num, HP.out, by rw [HST.out, if_neg (by omega), Int.toNat_natCast], n0 + n1, by rw [HWO.out, World.drewN_drewN]⟩, by simp [intOf]; omega⟩
      · obtain rfl : i = 16 := by omega
        have hp2 : parO s.data.toList = some acc := by rw [hp, List.drop_of_length_le (by rw [HL.out]; exact Nat.le_refl _)]; rfl
        have HP := Lib.hid hp2
        clear hp hp2 hacc
        go_wp2
        go_ret2
        exact ⟨by rw [HP.out]; rfl, n0, rfl⟩
  · have hs1 : ¬ (s.size : Int) = 16 := by omega
    have HP : Hid (parO s.data.toList = none) := Lib.hid (by unfold parO; rw [hsl, if_neg h16])
    clear hsl h16
    go_enter Try.func21, Try.ntmps21
    go_wp2
    go_ret2
    exact ⟨by rw [HP.out]; rfl, 0, rfl⟩
end Go.Proofs.Ytbibgjkcapjgnaa
