/-
  wire.number: the walk.
-/
import Derived.Test.YtgfopepopcacmaaRdr
namespace Go.Proofs.Ytgfopepopcacmaa
open Go.RowKit

def decF : Nat → Nat → Nat → List UInt8 → Nat × Nat
  | 0, _, _, _ => (0, 0)
  | _ + 1, _, _, [] => (0, 0)
  | f + 1, i, acc, c :: cs =>
    if 128 ≤ c.toNat then decF f (i + 1) (acc + c.toNat % 128 * 2 ^ (7 * i)) cs
    else if (0 < i ∧ c.toNat = 0) ∨ (i = 9 ∧ 1 < c.toNat) then (0, 0) else (acc + c.toNat % 128 * 2 ^ (7 * i), i + 1)
def num (bs : List UInt8) : Nat × Nat := decF 10 0 0 bs

theorem decF_step {bs : List UInt8} {i A : Nat} {c : UInt8} (hi : i < 10) (hc : bs[i]? = some c) :
    decF (10 - i) i A (bs.drop i) = if 128 ≤ c.toNat then decF (10 - (i + 1)) (i + 1) (A + c.toNat % 128 * 2 ^ (7 * i)) (bs.drop (i + 1))
      else if (0 < i ∧ c.toNat = 0) ∨ (i = 9 ∧ 1 < c.toNat) then (0, 0) else (A + c.toNat % 128 * 2 ^ (7 * i), i + 1) := by
  obtain ⟨h1, h2⟩ := List.getElem?_eq_some_iff.1 hc
  rw [List.drop_eq_getElem_cons h1, h2, show 10 - i = (10 - (i + 1)) + 1 by omega]
  rfl
theorem decF_end {bs : List UInt8} {i A : Nat} (hi : i ≤ 10) (h : bs.length ≤ i ∨ i = 10) : decF (10 - i) i A (bs.drop i) = (0, 0) := by
  rcases h with h | rfl
  · rw [List.drop_eq_nil_iff.2 h]
    cases 10 - i <;> rfl
  · rfl

theorem pow_le63 {i : Nat} (h : i ≤ 9) : 2 ^ (7 * i) ≤ 9223372036854775808 := by
  have : 2 ^ (7 * i) ≤ 2 ^ 63 := Nat.pow_le_pow_right (by omega) (by omega)
  simpa using this
theorem acc_or {A d i : Nat} (hA : A < 2 ^ (7 * i)) (hd : d < 256) (hi : i ≤ 8 ∨ (i = 9 ∧ d ≤ 1)) :
    bits .or .u64 (A : Int) (IntKind.u64.wrap (IntKind.u64.wrap (bits .and .u8 (d : Int) 127) * 2 ^ (7 * i))) = ((A + d % 128 * 2 ^ (7 * i) : Nat) : Int) := by
  have e1 : bits .and .u8 (d : Int) 127 = ((d % 128 : Nat) : Int) := by
    rw [show (127 : Int) = ((127 : Nat) : Int) from rfl, u8_and_nat _ _ hd (by omega), nat_mask7]
  have e2 : IntKind.u64.wrap ((d % 128 : Nat) : Int) = ((d % 128 : Nat) : Int) := by rw [IntKind.wrap_u64]; omega
  have hp : d % 128 * 2 ^ (7 * i) < 18446744073709551616 := by
    rcases hi with h | ⟨h, h'⟩
    · have h1 : 2 ^ (7 * i) ≤ 2 ^ 56 := Nat.pow_le_pow_right (by omega) (by omega)
      have h2 : d % 128 * 2 ^ (7 * i) ≤ 127 * 2 ^ 56 := Nat.mul_le_mul (by omega) h1
      omega
    · subst h
      have : d % 128 * 2 ^ (7 * 9) ≤ 1 * 2 ^ (7 * 9) := Nat.mul_le_mul (by omega) (Nat.le_refl _)
      omega
  have e3 : IntKind.u64.wrap (((d % 128 : Nat) : Int) * 2 ^ (7 * i)) = ((d % 128 * 2 ^ (7 * i) : Nat) : Int) := by
    rw [show (((d % 128 : Nat) : Int) * 2 ^ (7 * i)) = ((d % 128 * 2 ^ (7 * i) : Nat) : Int) from by rw [Int.natCast_mul, Int.natCast_pow]; rfl, IntKind.wrap_u64]
    omega
  have hA2 : A < 18446744073709551616 := by
    have := pow_le63 (i := i) (by omega)
    omega
  rw [e1, e2, e3, u64_or_nat _ _ hA2 hp, Nat.or_comm, nat_join (7 * i) _ _ (Nat.mul_mod_left _ _) hA, Nat.add_comm]
theorem u64_some (op : BinOp) (x y : Int) : ∃ n : Nat, bits op .u64 x y = (n : Int) := by
  have : ∃ z, bits op .u64 x y = IntKind.u64.wrap z := by
    unfold bits
    split <;> exact ⟨_, rfl⟩
  obtain ⟨z, hz⟩ := this
  rw [hz, IntKind.wrap_u64]
  exact ⟨(z % 18446744073709551616).toNat, by omega⟩
theorem pow_step {A d i : Nat} (hA : A < 2 ^ (7 * i)) : A + d % 128 * 2 ^ (7 * i) < 2 ^ (7 * (i + 1)) := by
  rw [show 7 * (i + 1) = 7 * i + 7 by omega, Nat.pow_add]
  have : d % 128 * 2 ^ (7 * i) ≤ 127 * 2 ^ (7 * i) := Nat.mul_le_mul (by omega) (Nat.le_refl _)
  omega

def NumPost (w : World) (r : Nat × Nat) (e : Ending) (w' : World) : Prop := e = .returned (.tuple #[.int .u64 (r.1 : Int), .int .i64 (r.2 : Int)]) ∧ ∃ n, w' = w.drewN n

def NumInv (bs : List UInt8) (u k : Value) : Prop :=
  ∃ (A i : Nat), u = .int .u64 (A : Int) ∧ k = .int .i64 (i : Int) ∧ i ≤ bs.length ∧ i ≤ 10 ∧ (i < 10 → A < 2 ^ (7 * i)) ∧ num bs = decF (10 - i) i A (bs.drop i)

theorem tup2 {a a' b b' : Int} (h1 : a = a') (h2 : b = b') : Value.tuple #[.int .u64 a, .int .i64 b] = .tuple #[.int .u64 a', .int .i64 b'] := by rw [h1, h2]
theorem NumInv.more {bs : List UInt8} {A i d : Nat} {c : UInt8} (hi : i < bs.length) (h10 : i < 10) (hA : A < 2 ^ (7 * i)) (hnum : num bs = decF (10 - i) i A (bs.drop i)) (hci : bs[i]? = some c) (hd : c.toNat = d) (h128 : 128 ≤ d) :
    NumInv bs (Value.int .u64 (bits .or .u64 (A : Int) (IntKind.u64.wrap (IntKind.u64.wrap (bits .and .u8 (d : Int) 127) * 2 ^ (7 * i))))) (.int .i64 ((i : Int) + 1)) := by
  have hlt := c.toNat_lt
  subst hd
  rw [decF_step h10 hci, if_pos h128] at hnum
  by_cases h9 : i = 9
  · obtain ⟨A', hA'⟩ := u64_some .or (A : Int) (IntKind.u64.wrap (IntKind.u64.wrap (bits .and .u8 (c.toNat : Int) 127) * 2 ^ (7 * i)))
    refine ⟨A', i + 1, by rw [hA'], by go_num, by omega, by omega, fun h => by omega, ?_⟩
    rw [hnum, decF_end (by omega) (.inr (by omega)), decF_end (by omega) (.inr (by omega))]
  · refine ⟨_, i + 1, by rw [acc_or hA (by omega) (.inl (by omega))], by go_num, by omega, by omega, fun _ => pow_step hA, hnum⟩

set_option maxRecDepth 100000 in
set_option maxHeartbeats 1000000 in
theorem number_any (b off cap : Nat) (bs : List UInt8) (w : World) (hcap : bs.length ≤ cap) (hmax : cap ≤ maxLen) (hc : ∀ (j : Nat) (x : UInt8), bs[j]? = some x → w.cell? ⟨b, off + j, none⟩ = some (bv x)) (hsm : bs.length ≤ 1099511627776) :
    Calls Try.prog 78 #[.slice (some ⟨b, off, none⟩) bs.length cap] w (NumPost w (num bs)) := by
  have HC := Lib.hid hc
  clear hc
  by_cases h10 : bs.length ≤ 10
  all_goals
    go_enter Try.func78, Try.ntmps78
    go_wp2
    go_loop [2, 12] (fun u k => NumInv bs u k) (fun _ k => 10 - (intOf k).toNat)
    case atStart => exact ⟨0, 0, rfl, rfl, by omega, by omega, fun _ => by simp, by simp [num]⟩
    case round =>
      obtain ⟨A, i, rfl, rfl, hi1, hi2, hA, hnum⟩ := hrel
      have HN := Lib.hid hnum
      have HA := Lib.hid hA
      clear hnum hA
      by_cases hlt : i < bs.length ∧ i < 10
      · obtain ⟨hlt, hlt10⟩ := hlt
        obtain ⟨c, hci⟩ : ∃ c, bs[i]? = some c := ⟨bs[i], by simp [hlt]⟩
        obtain ⟨d, hd⟩ : ∃ d, c.toNat = d := ⟨_, rfl⟩
        have hcell : w.cell? ⟨b, off + i, none⟩ = some (.int .u8 (d : Int)) := by rw [← hd]; exact HC.out i c hci
        have hd256 : d < 256 := by rw [← hd]; exact c.toNat_lt
        have HI := Lib.hid hci
        have HD := Lib.hid hd
        clear hci hd
        by_cases h128 : 128 ≤ d
        · go_wp2
          exact ⟨NumInv.more hlt hlt10 (HA.out hlt10) HN.out HI.out HD.out h128, by simp [intOf]; omega⟩
        · by_cases hi0 : 0 < i
          · by_cases hd0 : 0 < d
            · by_cases hi9 : i < 9
              · go_wp2
                go_ret2
                refine ⟨?_, 0, rfl⟩
                rw [HN.out, decF_step hlt10 HI.out, HD.out, if_neg h128, if_neg (by omega)]
                exact congrArg Ending.returned (tup2 (acc_or (HA.out hlt10) hd256 (.inl (by omega))) (by simp))
              · by_cases hd1 : 1 < d
                · go_wp2
                  go_ret2
                  refine ⟨?_, 0, rfl⟩
                  rw [HN.out, decF_step hlt10 HI.out, HD.out, if_neg h128, if_pos (by omega)]
                  rfl
                · go_wp2
                  go_ret2
                  refine ⟨?_, 0, rfl⟩
                  rw [HN.out, decF_step hlt10 HI.out, HD.out, if_neg h128, if_neg (by omega)]
                  exact congrArg Ending.returned (tup2 (acc_or (HA.out hlt10) hd256 (.inr (by omega))) (by simp; omega))
            · go_wp2
              go_ret2
              refine ⟨?_, 0, rfl⟩
              rw [HN.out, decF_step hlt10 HI.out, HD.out, if_neg h128, if_pos (by omega)]
              rfl
          · go_wp2
            go_ret2
            refine ⟨?_, 0, rfl⟩
            rw [HN.out, decF_step hlt10 HI.out, HD.out, if_neg h128, if_neg (by omega)]
            exact congrArg Ending.returned (tup2 (acc_or (HA.out hlt10) hd256 (.inl (by omega))) (by simp))
      · go_wp2
        go_ret2
        refine ⟨?_, 0, rfl⟩
        rw [HN.out, decF_end (by omega) (by omega)]
        rfl
end Go.Proofs.Ytgfopepopcacmaa
