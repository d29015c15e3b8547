/-
  Plain mathematics of decoding integers; no walk.
-/
import Derived.Test.YtgfopepopcacmaaNum
namespace Go.Proofs.Ytgfopepopcacmaa
open Go.RowKit

theorem u8_ofNat_toNat (c : UInt8) : UInt8.ofNat c.toNat = c := by simp

theorem decF_canon : ∀ (f i acc : Nat) (bs : List UInt8) (u k : Nat), f + i = 10 → decF f i acc bs = (u, k) → k ≠ 0 →
    ∃ m, u = acc + m * 2 ^ (7 * i) ∧ (0 < i → 0 < m) ∧ m * 2 ^ (7 * i) < 18446744073709551616 ∧ k = i + (encU m).length ∧ bs.take (encU m).length = encU m ∧ (encU m).length ≤ bs.length := by
  intro f
  induction f with
  | zero => intro i acc bs u k _ h hk; simp only [decF, Prod.mk.injEq] at h; omega
  | succ f ih =>
    intro i acc bs u k hf h hk
    cases bs with
    | nil => simp only [decF, Prod.mk.injEq] at h; omega
    | cons c cs =>
      have hc := c.toNat_lt
      rw [decF] at h
      split at h
      · rename_i h128
        obtain ⟨m, hu, hm0, hm, hk', ht, hl⟩ := ih (i + 1) _ cs u k (by omega) h hk
        have hm0 := hm0 (by omega)
        have hp : 2 ^ (7 * (i + 1)) = 2 ^ (7 * i) * 128 := by rw [show 7 * (i + 1) = 7 * i + 7 by omega, Nat.pow_add]
        have hi : i ≤ 8 := by
          rcases Nat.lt_or_ge i 9 with h9 | h9
          · omega
          · have : f = 0 := by omega
            subst this
            simp only [decF, Prod.mk.injEq] at h
            omega
        have hmm : (c.toNat % 128 + 128 * m) * 2 ^ (7 * i) < 18446744073709551616 := by
          rw [hp] at hm
          have hpp : 2 ^ (7 * i) * 128 ∣ 18446744073709551616 := by
            have h1 : (18446744073709551616 : Nat) = 2 ^ (7 * i) * 128 * 2 ^ (57 - 7 * i) := by
              rw [show (128 : Nat) = 2 ^ 7 from rfl, ← Nat.pow_add, ← Nat.pow_add, show 7 * i + 7 + (57 - 7 * i) = 64 by omega]
            exact ⟨_, h1⟩
          obtain ⟨q, hq⟩ := hpp
          rw [hq] at hm ⊢
          have hpos : 0 < 2 ^ (7 * i) := Nat.two_pow_pos _
          generalize 2 ^ (7 * i) = P at *
          have h2 : m < q := by
            rcases Nat.lt_or_ge m q with h3 | h3
            · exact h3
            · have := Nat.mul_le_mul_right (P * 128) h3
              rw [Nat.mul_comm q] at this
              omega
          have h4 : P * 128 * (m + 1) ≤ P * 128 * q := Nat.mul_le_mul_left _ h2
          have h5 : (c.toNat % 128 + 128 * m) * P < P * 128 * (m + 1) := by
            have h6 : c.toNat % 128 + 128 * m < 128 * (m + 1) := by omega
            have := Nat.mul_lt_mul_of_pos_right h6 hpos
            rw [show P * 128 * (m + 1) = 128 * (m + 1) * P by rw [Nat.mul_comm P, Nat.mul_assoc, Nat.mul_assoc, Nat.mul_comm P]]
            exact this
          omega
        have hbig : c.toNat % 128 + 128 * m < 18446744073709551616 := Nat.lt_of_le_of_lt (Nat.le_mul_of_pos_right _ (Nat.two_pow_pos _)) hmm
        have he : encU (c.toNat % 128 + 128 * m) = c :: encU m := by
          rw [encU_hi (by omega) hbig]
          have e1 : (c.toNat % 128 + 128 * m) % 128 + 128 = c.toNat := by omega
          have e2 : (c.toNat % 128 + 128 * m) / 128 = m := by omega
          rw [e1, e2, u8_ofNat_toNat]
        refine ⟨c.toNat % 128 + 128 * m, ?_, fun _ => by omega, hmm, ?_, ?_, ?_⟩
        · rw [hu, hp, Nat.add_mul, Nat.add_assoc]
          congr 2
          rw [Nat.mul_comm 128 m, Nat.mul_assoc, Nat.mul_comm 128]
        · rw [he, hk']; simp; omega
        · rw [he]; simp [ht]
        · rw [he]; simp; omega
      · rename_i h128
        split at h
        · simp only [Prod.mk.injEq] at h; omega
        · rename_i hno
          simp only [Prod.mk.injEq] at h
          obtain ⟨rfl, rfl⟩ := h
          have e1 : c.toNat % 128 = c.toNat := by omega
          have he : encU c.toNat = [c] := by rw [encU_lo (by omega), u8_ofNat_toNat]
          refine ⟨c.toNat, by rw [e1], fun h => by omega, ?_, by rw [he]; rfl, by rw [he]; rfl, by rw [he]; simp⟩
          rcases Nat.lt_or_ge i 9 with h9 | h9
          · have h1 : 2 ^ (7 * i) ≤ 2 ^ 56 := Nat.pow_le_pow_right (by omega) (by omega)
            have h2 : c.toNat * 2 ^ (7 * i) ≤ 127 * 2 ^ 56 := Nat.mul_le_mul (by omega) h1
            omega
          · have : i = 9 := by omega
            subst this
            have : c.toNat * 2 ^ (7 * 9) ≤ 1 * 2 ^ (7 * 9) := Nat.mul_le_mul (by omega) (Nat.le_refl _)
            omega

theorem num_canon {bs : List UInt8} {u k : Nat} (h : num bs = (u, k)) (hk : k ≠ 0) :
    u < 18446744073709551616 ∧ k = (encU u).length ∧ bs.take k = encU u ∧ k ≤ bs.length := by
  obtain ⟨m, h1, _, h3, h4, h5, h6⟩ := decF_canon 10 0 0 bs u k (by omega) h hk
  have hm : m = u := by omega
  subst hm
  have h7 : k = (encU m).length := by omega
  exact ⟨by omega, h7, by rw [h7]; exact h5, by omega⟩

theorem decF_enc : ∀ (f i acc m : Nat) (rest : List UInt8), f + i = 10 → (0 < i → 0 < m) → m * 2 ^ (7 * i) < 18446744073709551616 →
    decF f i acc (encU m ++ rest) = (acc + m * 2 ^ (7 * i), i + (encU m).length) := by
  intro f
  induction f with
  | zero =>
    intro i acc m rest hf h0 hm
    have : i = 10 := by omega
    subst this
    have := h0 (by omega)
    have h1 : 1 * 2 ^ (7 * 10) ≤ m * 2 ^ (7 * 10) := Nat.mul_le_mul_right _ this
    omega
  | succ f ih =>
    intro i acc m rest hf h0 hm
    have hb : m < 18446744073709551616 := Nat.lt_of_le_of_lt (Nat.le_mul_of_pos_right _ (Nat.two_pow_pos _)) hm
    by_cases h : m < 128
    · rw [encU_lo h, List.singleton_append, decF]
      have e : (UInt8.ofNat m).toNat = m := by rw [UInt8.toNat_ofNat']; omega
      rw [e, if_neg (by omega), if_neg]
      · rw [Nat.mod_eq_of_lt h]; rfl
      · rintro (⟨h1, h2⟩ | ⟨h1, h2⟩)
        · have := h0 h1; omega
        · subst h1
          have : 2 * 2 ^ (7 * 9) ≤ m * 2 ^ (7 * 9) := Nat.mul_le_mul_right _ h2
          omega
    · rw [encU_hi h hb, List.cons_append, decF]
      have e : (UInt8.ofNat (m % 128 + 128)).toNat = m % 128 + 128 := by rw [UInt8.toNat_ofNat']; omega
      rw [e, if_pos (by omega)]
      have hp : 2 ^ (7 * (i + 1)) = 128 * 2 ^ (7 * i) := by rw [show 7 * (i + 1) = 7 + 7 * i by omega, Nat.pow_add]
      have hmm : m / 128 * 2 ^ (7 * (i + 1)) ≤ m * 2 ^ (7 * i) := by
        rw [hp, ← Nat.mul_assoc]
        exact Nat.mul_le_mul_right _ (by omega)
      rw [ih (i + 1) _ (m / 128) rest (by omega) (fun _ => by omega) (by omega)]
      congr 1
      · rw [hp, ← Nat.mul_assoc, Nat.add_assoc, ← Nat.add_mul]
        congr 2
        omega
      · simp; omega

theorem num_enc {u : Nat} (h : u < 18446744073709551616) (rest : List UInt8) : num (encU u ++ rest) = (u, (encU u).length) := by
  have := decF_enc 10 0 0 u rest (by omega) (by omega) (by omega)
  simpa [num] using this

theorem num_le (bs : List UInt8) : (num bs).2 ≤ bs.length := by
  by_cases h : (num bs).2 = 0
  · omega
  · exact (num_canon (u := (num bs).1) (k := (num bs).2) rfl h).2.2.2
theorem num_len (bs : List UInt8) : (num bs).2 ≤ 10 := by
  by_cases h : (num bs).2 = 0
  · omega
  · rw [(num_canon (u := (num bs).1) (k := (num bs).2) rfl h).2.1]
    exact (encU_len _).2

def unzz (u : Nat) : Int := if u % 2 = 0 then ((u / 2 : Nat) : Int) else -((u / 2 : Nat) : Int) - 1
theorem unzz_zz (n : Int) : unzz (zz n) = n := by unfold unzz zz; split <;> split <;> omega
theorem zz_unzz (u : Nat) : zz (unzz u) = u := by unfold unzz zz; split <;> split <;> omega
theorem unzz_range {u : Nat} (h : u < 18446744073709551616) : -9223372036854775808 ≤ unzz u ∧ unzz u ≤ 9223372036854775807 := by unfold unzz; split <;> omega

end Go.Proofs.Ytgfopepopcacmaa
