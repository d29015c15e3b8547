/-
  law.SumDigits: the walk.
-/
import Derived.Test.YtbibgjkcapjgnaaSAwake
namespace Go.Proofs.Ytbibgjkcapjgnaa
open Go.RowKit

def hexN : Nat → Nat → List UInt8
  | 0, _ => []
  | k + 1, n => dig (n / 16 ^ k % 16) :: hexN k n
theorem hexL_N (n : Nat) : hexL n = hexN 16 n := by
  unfold hexL hexAt
  simp [hexN, List.range, List.range.loop]
theorem nib_dig {d : Nat} (h : d < 16) : nib (dig d) = d := by
  have k : ∀ a : Fin 16, nib (dig a.val) = (a.val : Int) := by decide +kernel
  exact k ⟨d, h⟩
theorem dig_nib {c : UInt8} (h : ¬ nib c < 0) : dig (nib c).toNat = c := by
  have k : ∀ a : Fin 256, ¬ nib (UInt8.ofNat a.val) < 0 → dig (nib (UInt8.ofNat a.val)).toNat = UInt8.ofNat a.val := by decide +kernel
  have := k ⟨c.toNat, c.toNat_lt⟩
  simpa using this (by simpa using h)
theorem parL_back : ∀ (k n : Nat), parL (n / 16 ^ k) (hexN k n) = some n := by
  intro k
  induction k with
  | zero => intro n; simp [hexN, parL]
  | succ k ih =>
    intro n
    unfold hexN parL
    have hd : n / 16 ^ k % 16 < 16 := Nat.mod_lt _ (by omega)
    rw [nib_dig hd, if_neg (by omega), Int.toNat_natCast, Nat.pow_succ, ← Nat.div_div_eq_div_mul, Nat.div_add_mod]
    exact ih n
theorem parL_uniq : ∀ (l : List UInt8) (acc n : Nat), parL acc l = some n → acc = n / 16 ^ l.length ∧ l = hexN l.length n := by
  intro l
  induction l with
  | nil => intro acc n h; simp only [parL, Option.some.injEq] at h; simp [hexN, h]
  | cons c l ih =>
    intro acc n h
    unfold parL at h
    by_cases hc : nib c < 0
    · rw [if_pos hc] at h; cases h
    · rw [if_neg hc] at h
      obtain ⟨h1, h2⟩ := ih _ _ h
      have hr := nib_range c
      have hm : n / 16 ^ l.length % 16 = (nib c).toNat := by omega
      refine ⟨by rw [List.length_cons, Nat.pow_succ, ← Nat.div_div_eq_div_mul]; omega, ?_⟩
      rw [List.length_cons, hexN, hm, dig_nib hc, ← h2]
theorem parO_hex {h : Nat} (hh : h < 18446744073709551616) : parO (hexL h) = some h := by
  unfold parO
  rw [if_pos (hexL_len h), hexL_N]
  have := parL_back 16 h
  rwa [Nat.div_eq_of_lt (by omega)] at this
theorem parO_some {l : List UInt8} {n : Nat} (h : parO l = some n) : n < 18446744073709551616 ∧ hexL n = l := by
  unfold parO at h
  split at h
  · rename_i h16
    obtain ⟨h1, h2⟩ := parL_uniq _ _ _ h
    rw [h16] at h1 h2
    refine ⟨?_, by rw [hexL_N]; exact h2.symm⟩
    have h3 : ¬ 16 ^ 16 ≤ n := fun hx => by
      have := Nat.div_pos hx (by omega)
      omega
    omega
  · cases h
theorem str_of (s : ByteArray) : str s.data.toList = s := by unfold str; simp

theorem parse_str (l : List UInt8) (w : World) : Calls Try.prog 20 #[.string (str l)] w (PPost (parO l) w) := by
  have := parse_any (str l) w
  rwa [str_toList] at this

set_option maxRecDepth 100000 in
set_option maxHeartbeats 4000000 in
theorem sumDigits_any (s : ByteArray) (h : Nat) (w : World) (hs : s.size ≤ 9223372036854775807) (hh : h < 18446744073709551616) :
    Calls Try.prog 8 #[.string s, .int .u64 (h : Int)] w (BoolQ true w) := by
  have HH := Lib.hid hh
  clear hh
  by_cases h60 : 60 < s.size
  · go_enter Try.func8, Try.ntmps8
    go_wp2_with (go_at_call 9; refine (awake_any _).mono ?_; rintro e w1 ⟨rfl, hg1⟩)
    go_ret
    exact ⟨rfl, hg1⟩
  have HP3 := Lib.hid (fun W => by have := parse_str (hexL h) W; rw [parO_hex HH.out] at this; exact this)
  cases ho : parO s.data.toList with
  | none =>
    have HP1 := Lib.hid (fun W => by have := parse_any s W; rw [ho] at this; exact this)
    have HP2 := Lib.hid (fun W => by have := rparse_any s W; rw [ho] at this; exact this)
    clear ho
    go_enter Try.func8, Try.ntmps8
    go_wp2_with fail
    refine (awake_any _).mono ?_; rintro e w1 ⟨rfl, hg1⟩
    go_wp2_with fail
    refine (HP1.out _).mono ?_; rintro e w2 ⟨rfl, n2, hw2⟩
    have g2 : w.grownBy w2 none := by rw [hw2]; exact gb_same hg1 (gb_drewN _ _ _)
    clear hw2 hg1
    unfold parN parE
    go_wp2_with fail
    refine (HP2.out _).mono ?_; rintro e w3 ⟨rfl, n3, hw3⟩
    have g3 : w.grownBy w3 none := by rw [hw3]; exact gb_same g2 (gb_drewN _ _ _)
    clear hw3 g2
    unfold parN parE
    go_wp2_with fail
    refine (digits_any _ _ HH.out).mono ?_; rintro e w4 ⟨rfl, hg4⟩
    have g4 := gb_same g3 hg4
    clear g3 hg4
    go_wp2_with fail
    refine (HP3.out _).mono ?_; rintro e w5 ⟨rfl, n5, hw5⟩
    have g5 : w.grownBy w5 none := by rw [hw5]; exact gb_same g4 (gb_drewN _ _ _)
    clear hw5 g4
    unfold parN parE
    go_wp2
    go_ret
    exact ⟨rfl, g5⟩
  | some m =>
    have HP1 := Lib.hid (fun W => by have := parse_any s W; rw [ho] at this; exact this)
    have HP2 := Lib.hid (fun W => by have := rparse_any s W; rw [ho] at this; exact this)
    obtain ⟨hm, hx⟩ := parO_some ho
    have hD := fun W => digits_any m W hm
    rw [hx, str_of] at hD
    have HD := Lib.hid hD
    clear ho hx hD hm
    go_enter Try.func8, Try.ntmps8
    go_wp2_with fail
    refine (awake_any _).mono ?_; rintro e w1 ⟨rfl, hg1⟩
    go_wp2_with fail
    refine (HP1.out _).mono ?_; rintro e w2 ⟨rfl, n2, hw2⟩
    have g2 : w.grownBy w2 none := by rw [hw2]; exact gb_same hg1 (gb_drewN _ _ _)
    clear hw2 hg1
    unfold parN parE
    go_wp2_with fail
    refine (HP2.out _).mono ?_; rintro e w3 ⟨rfl, n3, hw3⟩
    have g3 : w.grownBy w3 none := by rw [hw3]; exact gb_same g2 (gb_drewN _ _ _)
    clear hw3 g2
    unfold parN parE
    go_wp2_with fail
    refine (digits_any _ _ HH.out).mono ?_; rintro e w4 ⟨rfl, hg4⟩
    have g4 := gb_same g3 hg4
    clear g3 hg4
    go_wp2_with fail
    refine (HP3.out _).mono ?_; rintro e w5 ⟨rfl, n5, hw5⟩
    have g5 : w.grownBy w5 none := by rw [hw5]; exact gb_same g4 (gb_drewN _ _ _)
    clear hw5 g4
    unfold parN parE
    go_wp2_with fail
    refine (HD.out _).mono ?_; rintro e w6 ⟨rfl, hg6⟩
    have g6 := gb_same g5 hg6
    clear g5 hg6
    go_wp2
    go_ret
    exact ⟨rfl, g6⟩
end Go.Proofs.Ytbibgjkcapjgnaa
