/-
  wire.number and Reader.Int.
-/
import Derived.Test.YtfldooljmjeaoaaVA
namespace Go.Proofs.Ytfldooljmjeaoaa
open Go.RowKit Go.Shelf

def decF : Nat → Nat → Nat → List UInt8 → Nat × Nat
  | 0, _, _, _ => (0, 0)
  | _ + 1, _, _, [] => (0, 0)
  | f + 1, i, acc, c :: cs =>
    if 128 ≤ c.toNat then decF f (i + 1) (acc + c.toNat % 128 * 2 ^ (7 * i)) cs
    else if (0 < i ∧ c.toNat = 0) ∨ (i = 9 ∧ 1 < c.toNat) then (0, 0) else (acc + c.toNat % 128 * 2 ^ (7 * i), i + 1)
def num (bs : List UInt8) : Nat × Nat := decF 10 0 0 bs

theorem decF_step {bs : List UInt8} {i A : Nat} {c : UInt8} (hi : i < 10) (hc : bs[i]? = some c) :
    decF (10 - i) i A (bs.drop i) = if 128 ≤ c.toNat then decF (10 - (i + 1)) (i + 1) (A + c.toNat % 128 * 2 ^ (7 * i)) (bs.drop (i + 1))
      else if (0 < i ∧ c.toNat = 0) ∨ (i = 9 ∧ 1 < c.toNat) then (0, 0) else (A + c.toNat % 128 * 2 ^ (7 * i), i + 1) := by
  obtain ⟨h1, h2⟩ := List.getElem?_eq_some_iff.1 hc
  rw [List.drop_eq_getElem_cons h1, h2, show 10 - i = (10 - (i + 1)) + 1 by omega]
  rfl
theorem decF_end {bs : List UInt8} {i A : Nat} (hi : i ≤ 10) (h : bs.length ≤ i ∨ i = 10) : decF (10 - i) i A (bs.drop i) = (0, 0) := by
  rcases h with h | rfl
  · rw [List.drop_eq_nil_iff.2 h]
    cases 10 - i <;> rfl
  · rfl

theorem pow_le63 {i : Nat} (h : i ≤ 9) : 2 ^ (7 * i) ≤ 9223372036854775808 := by
  have : 2 ^ (7 * i) ≤ 2 ^ 63 := Nat.pow_le_pow_right (by omega) (by omega)
  simpa using this
theorem acc_or {A d i : Nat} (hA : A < 2 ^ (7 * i)) (hd : d < 256) (hi : i ≤ 8 ∨ (i = 9 ∧ d ≤ 1)) :
    bits .or .u64 (A : Int) (IntKind.u64.wrap (IntKind.u64.wrap (bits .and .u8 (d : Int) 127) * 2 ^ (7 * i))) = ((A + d % 128 * 2 ^ (7 * i) : Nat) : Int) := by
  have e1 : bits .and .u8 (d : Int) 127 = ((d % 128 : Nat) : Int) := by
    rw [show (127 : Int) = ((127 : Nat) : Int) from rfl, u8_and_nat _ _ hd (by omega), nat_mask7]
  have e2 : IntKind.u64.wrap ((d % 128 : Nat) : Int) = ((d % 128 : Nat) : Int) := by rw [IntKind.wrap_u64]; omega
  have hp : d % 128 * 2 ^ (7 * i) < 18446744073709551616 := by
    rcases hi with h | ⟨h, h'⟩
    · have h1 : 2 ^ (7 * i) ≤ 2 ^ 56 := Nat.pow_le_pow_right (by omega) (by omega)
      have h2 : d % 128 * 2 ^ (7 * i) ≤ 127 * 2 ^ 56 := Nat.mul_le_mul (by omega) h1
      omega
    · subst h
      have : d % 128 * 2 ^ (7 * 9) ≤ 1 * 2 ^ (7 * 9) := Nat.mul_le_mul (by omega) (Nat.le_refl _)
      omega
  have e3 : IntKind.u64.wrap (((d % 128 : Nat) : Int) * 2 ^ (7 * i)) = ((d % 128 * 2 ^ (7 * i) : Nat) : Int) := by
    rw [show (((d % 128 : Nat) : Int) * 2 ^ (7 * i)) = ((d % 128 * 2 ^ (7 * i) : Nat) : Int) from by rw [Int.natCast_mul, Int.natCast_pow]; rfl, IntKind.wrap_u64]
    omega
  have hA2 : A < 18446744073709551616 := by
    have := pow_le63 (i := i) (by omega)
    omega
  rw [e1, e2, e3, u64_or_nat _ _ hA2 hp, Nat.or_comm, nat_join (7 * i) _ _ (Nat.mul_mod_left _ _) hA, Nat.add_comm]
theorem u64_some (op : BinOp) (x y : Int) : ∃ n : Nat, bits op .u64 x y = (n : Int) := by
  have : ∃ z, bits op .u64 x y = IntKind.u64.wrap z := by
    unfold bits
    split <;> exact ⟨_, rfl⟩
  obtain ⟨z, hz⟩ := this
  rw [hz, IntKind.wrap_u64]
  exact ⟨(z % 18446744073709551616).toNat, by omega⟩
theorem pow_step {A d i : Nat} (hA : A < 2 ^ (7 * i)) : A + d % 128 * 2 ^ (7 * i) < 2 ^ (7 * (i + 1)) := by
  rw [show 7 * (i + 1) = 7 * i + 7 by omega, Nat.pow_add]
  have : d % 128 * 2 ^ (7 * i) ≤ 127 * 2 ^ (7 * i) := Nat.mul_le_mul (by omega) (Nat.le_refl _)
  omega

def NumPost (w : World) (r : Nat × Nat) (e : Ending) (w' : World) : Prop := e = .returned (.tuple #[.int .u64 (r.1 : Int), .int .i64 (r.2 : Int)]) ∧ ∃ n, w' = w.drewN n

def NumInv (bs : List UInt8) (u k : Value) : Prop :=
  ∃ (A i : Nat), u = .int .u64 (A : Int) ∧ k = .int .i64 (i : Int) ∧ i ≤ bs.length ∧ i ≤ 10 ∧ (i < 10 → A < 2 ^ (7 * i)) ∧ num bs = decF (10 - i) i A (bs.drop i)

theorem tup2 {a a' b b' : Int} (h1 : a = a') (h2 : b = b') : Value.tuple #[.int .u64 a, .int .i64 b] = .tuple #[.int .u64 a', .int .i64 b'] := by rw [h1, h2]
theorem NumInv.more {bs : List UInt8} {A i d : Nat} {c : UInt8} (hi : i < bs.length) (h10 : i < 10) (hA : A < 2 ^ (7 * i)) (hnum : num bs = decF (10 - i) i A (bs.drop i)) (hci : bs[i]? = some c) (hd : c.toNat = d) (h128 : 128 ≤ d) :
    NumInv bs (Value.int .u64 (bits .or .u64 (A : Int) (IntKind.u64.wrap (IntKind.u64.wrap (bits .and .u8 (d : Int) 127) * 2 ^ (7 * i))))) (.int .i64 ((i : Int) + 1)) := by
  have hlt := c.toNat_lt
  subst hd
  rw [decF_step h10 hci, if_pos h128] at hnum
  by_cases h9 : i = 9
  · obtain ⟨A', hA'⟩ := u64_some .or (A : Int) (IntKind.u64.wrap (IntKind.u64.wrap (bits .and .u8 (c.toNat : Int) 127) * 2 ^ (7 * i)))
    refine ⟨A', i + 1, by rw [hA'], by go_num, by omega, by omega, fun h => by omega, ?_⟩
    rw [hnum, decF_end (by omega) (.inr (by omega)), decF_end (by omega) (.inr (by omega))]
  · refine ⟨_, i + 1, by rw [acc_or hA (by omega) (.inl (by omega))], by go_num, by omega, by omega, fun _ => pow_step hA, hnum⟩

set_option maxRecDepth 100000 in
set_option maxHeartbeats 1000000 in
theorem number_any (b off cap : Nat) (bs : List UInt8) (w : World) (hcap : bs.length ≤ cap) (hmax : cap ≤ maxLen) (hc : ∀ (j : Nat) (x : UInt8), bs[j]? = some x → w.cell? ⟨b, off + j, none⟩ = some (bv x)) (hsm : bs.length ≤ 1099511627776) :
    Calls Try.prog 65 #[.slice (some ⟨b, off, none⟩) bs.length cap] w (NumPost w (num bs)) := by
  have HC := Lib.hid hc
  clear hc
  by_cases h10 : bs.length ≤ 10
  all_goals
    go_enter Try.func65, Try.ntmps65
    go_wp2
    go_loop [2, 12] (fun u k => NumInv bs u k) (fun _ k => 10 - (intOf k).toNat)
    case atStart => exact ⟨0, 0, rfl, rfl, by omega, by omega, fun _ => by simp, by simp [num]⟩
    case round =>
      obtain ⟨A, i, rfl, rfl, hi1, hi2, hA, hnum⟩ := hrel
      have HN := Lib.hid hnum
      have HA := Lib.hid hA
      clear hnum hA
      by_cases hlt : i < bs.length ∧ i < 10
      · obtain ⟨hlt, hlt10⟩ := hlt
        obtain ⟨c, hci⟩ : ∃ c, bs[i]? = some c := ⟨bs[i], by simp [hlt]⟩
        obtain ⟨d, hd⟩ : ∃ d, c.toNat = d := ⟨_, rfl⟩
        have hcell : w.cell? ⟨b, off + i, none⟩ = some (.int .u8 (d : Int)) := by rw [← hd]; exact HC.out i c hci
        have hd256 : d < 256 := by rw [← hd]; exact c.toNat_lt
        have HI := Lib.hid hci
        have HD := Lib.hid hd
        clear hci hd
        by_cases h128 : 128 ≤ d
        · go_wp2
          exact ⟨NumInv.more hlt hlt10 (HA.out hlt10) HN.out HI.out HD.out h128, by simp [intOf]; omega⟩
        · by_cases hi0 : 0 < i
          · by_cases hd0 : 0 < d
            · by_cases hi9 : i < 9
              · go_wp2
                go_ret2
                refine ⟨?_, 0, rfl⟩
                rw [HN.out, decF_step hlt10 HI.out, HD.out, if_neg h128, if_neg (by omega)]
                exact congrArg Ending.returned (tup2 (acc_or (HA.out hlt10) hd256 (.inl (by omega))) (by simp))
              · by_cases hd1 : 1 < d
                · go_wp2
                  go_ret2
                  refine ⟨?_, 0, rfl⟩
                  rw [HN.out, decF_step hlt10 HI.out, HD.out, if_neg h128, if_pos (by omega)]
                  rfl
                · go_wp2
                  go_ret2
                  refine ⟨?_, 0, rfl⟩
                  rw [HN.out, decF_step hlt10 HI.out, HD.out, if_neg h128, if_neg (by omega)]
                  exact congrArg Ending.returned (tup2 (acc_or (HA.out hlt10) hd256 (.inr (by omega))) (by simp; omega))
            · go_wp2
              go_ret2
              refine ⟨?_, 0, rfl⟩
              rw [HN.out, decF_step hlt10 HI.out, HD.out, if_neg h128, if_pos (by omega)]
              rfl
          · go_wp2
            go_ret2
            refine ⟨?_, 0, rfl⟩
            rw [HN.out, decF_step hlt10 HI.out, HD.out, if_neg h128, if_neg (by omega)]
            exact congrArg Ending.returned (tup2 (acc_or (HA.out hlt10) hd256 (.inl (by omega))) (by simp))
      · go_wp2
        go_ret2
        refine ⟨?_, 0, rfl⟩
        rw [HN.out, decF_end (by omega) (by omega)]
        rfl


theorem u8_ofNat_toNat (c : UInt8) : UInt8.ofNat c.toNat = c := by simp

theorem decF_canon : ∀ (f i acc : Nat) (bs : List UInt8) (u k : Nat), f + i = 10 → decF f i acc bs = (u, k) → k ≠ 0 →
    ∃ m, u = acc + m * 2 ^ (7 * i) ∧ (0 < i → 0 < m) ∧ m * 2 ^ (7 * i) < 18446744073709551616 ∧ k = i + (encU m).length ∧ bs.take (encU m).length = encU m ∧ (encU m).length ≤ bs.length := by
  intro f
  induction f with
  | zero => intro i acc bs u k _ h hk; simp only [decF, Prod.mk.injEq] at h; omega
  | succ f ih =>
    intro i acc bs u k hf h hk
    cases bs with
    | nil => simp only [decF, Prod.mk.injEq] at h; omega
    | cons c cs =>
      have hc := c.toNat_lt
      rw [decF] at h
      split at h
      · rename_i h128
        obtain ⟨m, hu, hm0, hm, hk', ht, hl⟩ := ih (i + 1) _ cs u k (by omega) h hk
        have hm0 := hm0 (by omega)
        have hp : 2 ^ (7 * (i + 1)) = 2 ^ (7 * i) * 128 := by rw [show 7 * (i + 1) = 7 * i + 7 by omega, Nat.pow_add]
        have hi : i ≤ 8 := by
          rcases Nat.lt_or_ge i 9 with h9 | h9
          · omega
          · have : f = 0 := by omega
            subst this
            simp only [decF, Prod.mk.injEq] at h
            omega
        have hmm : (c.toNat % 128 + 128 * m) * 2 ^ (7 * i) < 18446744073709551616 := by
          rw [hp] at hm
          have hpp : 2 ^ (7 * i) * 128 ∣ 18446744073709551616 := by
            have h1 : (18446744073709551616 : Nat) = 2 ^ (7 * i) * 128 * 2 ^ (57 - 7 * i) := by
              rw [show (128 : Nat) = 2 ^ 7 from rfl, ← Nat.pow_add, ← Nat.pow_add, show 7 * i + 7 + (57 - 7 * i) = 64 by omega]
            exact ⟨_, h1⟩
          obtain ⟨q, hq⟩ := hpp
          rw [hq] at hm ⊢
          have hpos : 0 < 2 ^ (7 * i) := Nat.two_pow_pos _
          generalize 2 ^ (7 * i) = P at *
          have h2 : m < q := by
            rcases Nat.lt_or_ge m q with h3 | h3
            · exact h3
            · have := Nat.mul_le_mul_right (P * 128) h3
              rw [Nat.mul_comm q] at this
              omega
          have h4 : P * 128 * (m + 1) ≤ P * 128 * q := Nat.mul_le_mul_left _ h2
          have h5 : (c.toNat % 128 + 128 * m) * P < P * 128 * (m + 1) := by
            have h6 : c.toNat % 128 + 128 * m < 128 * (m + 1) := by omega
            have := Nat.mul_lt_mul_of_pos_right h6 hpos
            rw [show P * 128 * (m + 1) = 128 * (m + 1) * P by rw [Nat.mul_comm P, Nat.mul_assoc, Nat.mul_assoc, Nat.mul_comm P]]
            exact this
          omega
        have hbig : c.toNat % 128 + 128 * m < 18446744073709551616 := Nat.lt_of_le_of_lt (Nat.le_mul_of_pos_right _ (Nat.two_pow_pos _)) hmm
        have he : encU (c.toNat % 128 + 128 * m) = c :: encU m := by
          rw [encU_hi (by omega) hbig]
          have e1 : (c.toNat % 128 + 128 * m) % 128 + 128 = c.toNat := by omega
          have e2 : (c.toNat % 128 + 128 * m) / 128 = m := by omega
          rw [e1, e2, u8_ofNat_toNat]
        refine ⟨c.toNat % 128 + 128 * m, ?_, fun _ => by omega, hmm, ?_, ?_, ?_⟩
        · rw [hu, hp, Nat.add_mul, Nat.add_assoc]
          congr 2
          rw [Nat.mul_comm 128 m, Nat.mul_assoc, Nat.mul_comm 128]
        · rw [he, hk']; simp; omega
        · rw [he]; simp [ht]
        · rw [he]; simp; omega
      · rename_i h128
        split at h
        · simp only [Prod.mk.injEq] at h; omega
        · rename_i hno
          simp only [Prod.mk.injEq] at h
          obtain ⟨rfl, rfl⟩ := h
          have e1 : c.toNat % 128 = c.toNat := by omega
          have he : encU c.toNat = [c] := by rw [encU_lo (by omega), u8_ofNat_toNat]
          refine ⟨c.toNat, by rw [e1], fun h => by omega, ?_, by rw [he]; rfl, by rw [he]; rfl, by rw [he]; simp⟩
          rcases Nat.lt_or_ge i 9 with h9 | h9
          · have h1 : 2 ^ (7 * i) ≤ 2 ^ 56 := Nat.pow_le_pow_right (by omega) (by omega)
            have h2 : c.toNat * 2 ^ (7 * i) ≤ 127 * 2 ^ 56 := Nat.mul_le_mul (by omega) h1
            omega
          · have : i = 9 := by omega
            subst this
            have : c.toNat * 2 ^ (7 * 9) ≤ 1 * 2 ^ (7 * 9) := Nat.mul_le_mul (by omega) (Nat.le_refl _)
            omega

theorem num_canon {bs : List UInt8} {u k : Nat} (h : num bs = (u, k)) (hk : k ≠ 0) :
    u < 18446744073709551616 ∧ k = (encU u).length ∧ bs.take k = encU u ∧ k ≤ bs.length := by
  obtain ⟨m, h1, _, h3, h4, h5, h6⟩ := decF_canon 10 0 0 bs u k (by omega) h hk
  have hm : m = u := by omega
  subst hm
  have h7 : k = (encU m).length := by omega
  exact ⟨by omega, h7, by rw [h7]; exact h5, by omega⟩

theorem decF_enc : ∀ (f i acc m : Nat) (rest : List UInt8), f + i = 10 → (0 < i → 0 < m) → m * 2 ^ (7 * i) < 18446744073709551616 →
    decF f i acc (encU m ++ rest) = (acc + m * 2 ^ (7 * i), i + (encU m).length) := by
  intro f
  induction f with
  | zero =>
    intro i acc m rest hf h0 hm
    have : i = 10 := by omega
    subst this
    have := h0 (by omega)
    have h1 : 1 * 2 ^ (7 * 10) ≤ m * 2 ^ (7 * 10) := Nat.mul_le_mul_right _ this
    omega
  | succ f ih =>
    intro i acc m rest hf h0 hm
    have hb : m < 18446744073709551616 := Nat.lt_of_le_of_lt (Nat.le_mul_of_pos_right _ (Nat.two_pow_pos _)) hm
    by_cases h : m < 128
    · rw [encU_lo h, List.singleton_append, decF]
      have e : (UInt8.ofNat m).toNat = m := by rw [UInt8.toNat_ofNat']; omega
      rw [e, if_neg (by omega), if_neg]
      · rw [Nat.mod_eq_of_lt h]; rfl
      · rintro (⟨h1, h2⟩ | ⟨h1, h2⟩)
        · have := h0 h1; omega
        · subst h1
          have : 2 * 2 ^ (7 * 9) ≤ m * 2 ^ (7 * 9) := Nat.mul_le_mul_right _ h2
          omega
    · rw [encU_hi h hb, List.cons_append, decF]
      have e : (UInt8.ofNat (m % 128 + 128)).toNat = m % 128 + 128 := by rw [UInt8.toNat_ofNat']; omega
      rw [e, if_pos (by omega)]
      have hp : 2 ^ (7 * (i + 1)) = 128 * 2 ^ (7 * i) := by rw [show 7 * (i + 1) = 7 + 7 * i by omega, Nat.pow_add]
      have hmm : m / 128 * 2 ^ (7 * (i + 1)) ≤ m * 2 ^ (7 * i) := by
        rw [hp, ← Nat.mul_assoc]
        exact Nat.mul_le_mul_right _ (by omega)
      rw [ih (i + 1) _ (m / 128) rest (by omega) (fun _ => by omega) (by omega)]
      congr 1
      · rw [hp, ← Nat.mul_assoc, Nat.add_assoc, ← Nat.add_mul]
        congr 2
        omega
      · simp; omega

theorem num_enc {u : Nat} (h : u < 18446744073709551616) (rest : List UInt8) : num (encU u ++ rest) = (u, (encU u).length) := by
  have := decF_enc 10 0 0 u rest (by omega) (by omega) (by omega)
  simpa [num] using this

theorem num_le (bs : List UInt8) : (num bs).2 ≤ bs.length := by
  by_cases h : (num bs).2 = 0
  · omega
  · exact (num_canon (u := (num bs).1) (k := (num bs).2) rfl h).2.2.2
theorem num_len (bs : List UInt8) : (num bs).2 ≤ 10 := by
  by_cases h : (num bs).2 = 0
  · omega
  · rw [(num_canon (u := (num bs).1) (k := (num bs).2) rfl h).2.1]
    exact (encU_len _).2

def unzz (u : Nat) : Int := if u % 2 = 0 then ((u / 2 : Nat) : Int) else -((u / 2 : Nat) : Int) - 1
theorem unzz_zz (n : Int) : unzz (zz n) = n := by unfold unzz zz; split <;> split <;> omega
theorem zz_unzz (u : Nat) : zz (unzz u) = u := by unfold unzz zz; split <;> split <;> omega
theorem unzz_range {u : Nat} (h : u < 18446744073709551616) : -9223372036854775808 ≤ unzz u ∧ unzz u ≤ 9223372036854775807 := by unfold unzz; split <;> omega



theorem number_nil (w : World) : Calls Try.prog 65 #[.slice none 0 0] w (NumPost w (num [])) := by
  have e : num [] = (0, 0) := rfl
  rw [e]
  go_enter Try.func65, Try.ntmps65
  go_wp2
  go_rounds 1
  go_ret2
  exact ⟨rfl, 0, rfl⟩

theorem number_rd (v : Value) (bs : List UInt8) (w : World) (h : Rd w v bs) (hsm : bs.length ≤ 1099511627776) : Calls Try.prog 65 #[v] w (NumPost w (num bs)) := by
  rcases h with ⟨rfl, rfl⟩ | ⟨b, off, cap, rfl, h1, h2, h3⟩
  · exact number_nil w
  · exact number_any b off cap bs w h1 h2 h3 hsm

/-- what an operation on a reader leaves -/
def ROut (w : World) (b : Nat) (sl : Value) (bs : List UInt8) (p : Nat) (zero : Value) (r : Option (Value × Nat)) (e : Ending) (w' : World) : Prop :=
  match r with
  | some (v, q) => e = .returned v ∧ IsR w' b sl bs q false ∧ w.grownBy w' (some b)
  | none => e = .returned zero ∧ IsR w' b sl bs p true ∧ w.grownBy w' (some b)

/-- the integer that begins at a position, and the position behind it -/
def rdInt (bs : List UInt8) (p : Nat) : Option (Int × Nat) := if (num (bs.drop p)).2 = 0 then none else some (unzz (num (bs.drop p)).1, p + (num (bs.drop p)).2)

theorem i64_xor_m1 {a : Int} (h1 : 0 ≤ a) (h2 : a ≤ 9223372036854775807) : bits .xor .i64 a (-1) = -a - 1 := by
  obtain ⟨n, rfl⟩ := Int.eq_ofNat_of_zero_le h1
  have hn : n < 2 ^ 64 := by omega
  have e1 : (BitVec.ofInt 64 (n : Int)).toNat = n := by rw [BitVec.ofInt_natCast, BitVec.toNat_ofNat, Nat.mod_eq_of_lt hn]
  have e2 : (BitVec.ofInt 64 (-1)) = BitVec.allOnes 64 := by decide
  have e3 : ((BitVec.ofInt 64 (n : Int)) ^^^ (BitVec.ofInt 64 (-1))).toNat = 2 ^ 64 - 1 - n := by
    rw [e2, BitVec.xor_allOnes, BitVec.toNat_not, e1]
  have e4 : bits .xor .i64 (n : Int) (-1) = IntKind.i64.wrap (((BitVec.ofInt 64 (n : Int)) ^^^ (BitVec.ofInt 64 (-1))).toNat : Int) := rfl
  rw [e4, e3, IntKind.wrap_i64]
  omega
theorem i64_xor_0 {a : Int} (h1 : 0 ≤ a) (h2 : a ≤ 9223372036854775807) : bits .xor .i64 a 0 = a := by
  obtain ⟨n, rfl⟩ := Int.eq_ofNat_of_zero_le h1
  have hn : n < 2 ^ 64 := by omega
  have e1 : (BitVec.ofInt 64 (n : Int)).toNat = n := by rw [BitVec.ofInt_natCast, BitVec.toNat_ofNat, Nat.mod_eq_of_lt hn]
  have e2 : (BitVec.ofInt 64 0) = 0#64 := by decide
  have e3 : ((BitVec.ofInt 64 (n : Int)) ^^^ (BitVec.ofInt 64 0)).toNat = n := by
    rw [e2, BitVec.xor_zero, e1]
  have e4 : bits .xor .i64 (n : Int) 0 = IntKind.i64.wrap (((BitVec.ofInt 64 (n : Int)) ^^^ (BitVec.ofInt 64 0)).toNat : Int) := rfl
  rw [e4, e3, IntKind.wrap_i64]
  omega

theorem unzz_walk {u : Nat} (h : u < 18446744073709551616) :
    bits .xor .i64 (IntKind.i64.wrap ((u : Int) / 2)) (IntKind.i64.wrap (-IntKind.i64.wrap (bits .and .u64 (u : Int) 1))) = unzz u := by
  have e0 : bits .and .u64 (u : Int) 1 = ((u % 2 : Nat) : Int) := by
    rw [show (1 : Int) = ((1 : Nat) : Int) from rfl, u64_and_nat _ _ h (by omega), nat_mask1]
  have e1 : IntKind.i64.wrap ((u : Int) / 2) = ((u / 2 : Nat) : Int) := by rw [IntKind.wrap_i64]; omega
  rw [e0, e1]
  have e2 : IntKind.i64.wrap ((u % 2 : Nat) : Int) = ((u % 2 : Nat) : Int) := by rw [IntKind.wrap_i64]; omega
  rw [e2]
  unfold unzz
  split
  · rename_i h2
    rw [h2, show IntKind.i64.wrap (-((0 : Nat) : Int)) = 0 by rw [IntKind.wrap_i64]; rfl]
    exact i64_xor_0 (by omega) (by omega)
  · rename_i h2
    rw [show u % 2 = 1 by omega, show IntKind.i64.wrap (-((1 : Nat) : Int)) = -1 by rw [IntKind.wrap_i64]; rfl]
    exact i64_xor_m1 (by omega) (by omega)

theorem unzz_walk' {u : Nat} (h : u < 18446744073709551616) :
    bits .xor .i64 (wrap64 ((u : Int) / 2)) (wrap64 (-wrap64 (bits .and .u64 (u : Int) 1))) = unzz u := by
  have := unzz_walk h
  simp only [IntKind.wrap_i64] at this
  simp only [wrap64]
  exact this

theorem Rd.drop {w : World} {g off cap : Nat} {bs : List UInt8} (h1 : bs.length ≤ cap) (h2 : cap ≤ maxLen) (h3 : ∀ (j : Nat) (x : UInt8), bs[j]? = some x → w.cell? ⟨g, off + j, none⟩ = some (bv x)) (p : Nat) (hp : p ≤ bs.length) :
    Rd w (.slice (some ⟨g, off + p, none⟩) (bs.length - p) (cap - p)) (bs.drop p) :=
  .inr ⟨g, off + p, cap - p, by rw [List.length_drop], by rw [List.length_drop]; omega, by omega, fun j x hj => by
    rw [List.getElem?_drop] at hj
    rw [Nat.add_assoc]
    exact h3 _ _ hj⟩
theorem Rd.empty {w : World} (g off cap : Nat) (h2 : cap ≤ maxLen) : Rd w (.slice (some ⟨g, off, none⟩) 0 cap) [] :=
  .inr ⟨g, off, cap, rfl, Nat.zero_le _, h2, fun j x hj => by simp at hj⟩

theorem rdInt_le {bs : List UInt8} {p : Nat} {v : Int} {q : Nat} (hp : p ≤ bs.length) (h : rdInt bs p = some (v, q)) : p < q ∧ q ≤ bs.length := by
  unfold rdInt at h
  split at h
  · cases h
  · simp only [Option.some.injEq, Prod.mk.injEq] at h
    have := num_le (bs.drop p)
    rw [List.length_drop] at this
    omega


set_option maxRecDepth 100000 in
set_option maxHeartbeats 400000 in
theorem rint_any (b : Nat) (sl : Value) (bs : List UInt8) (p : Nat) (w : World) (h : IsR w b sl bs p false) :
    Calls Try.prog 48 #[.pointer (some ⟨b, 0, none⟩)] w (ROut w b sl bs p (.int .i64 0) ((rdInt bs p).map fun r => (.int .i64 r.1, r.2))) := by
  have c0 := h.c0
  have c1 := h.c1
  have c2 := h.c2
  have f1 := h.fr 1
  have f2 := h.fr 2
  have hle := h.le
  have hrd := h.rd
  have H := Lib.hid h
  clear h
  rcases hrd with ⟨rfl, rfl⟩ | ⟨g, off, cap, rfl, h1, h2, h3⟩
  · have hp0 : p = 0 := by simpa using hle
    subst hp0
    have HN := Lib.hid (fun n => number_nil (w.drewN n))
    go_enter Try.func48, Try.ntmps48
    go_wp2
    go_quiet ((go_at_call 65; exact Calls.quiet_of (HN.out _)))
    go_wp2
    go_ret
    exact ⟨rfl, (H.out.grown (gb_drewN _ _ _)).setF true, gb_same (gb_drewN _ _ _) (gb_setCell _ _ _)⟩
  · have hpc : p < cap ∨ p = cap := by omega
    have HN : p < cap → ∀ n, Calls Try.prog 65 #[.slice (some ⟨g, off + p, none⟩) (bs.length - p) (cap - p)] (w.drewN n) (NumPost (w.drewN n) (num (bs.drop p))) := fun _ n =>
      number_rd _ _ _ ((Rd.drop h1 h2 h3 p hle).kept (gb_drewN _ _ none) (by simp)) (by rw [List.length_drop]; have := H.out.sm; omega)
    have HN0 : p = cap → ∀ n, Calls Try.prog 65 #[.slice (some ⟨g, off, none⟩) 0 0] (w.drewN n) (NumPost (w.drewN n) (num (bs.drop p))) := fun hp n => by
      rw [List.drop_eq_nil_iff.2 (by omega)]
      exact number_rd _ _ _ (Rd.empty g off 0 (Nat.zero_le _)) (by simp)
    have HN := Lib.hid HN
    have HN0 := Lib.hid HN0
    have hr : (num (bs.drop p)).2 ≤ bs.length - p := by have := num_le (bs.drop p); rwa [List.length_drop] at this
    have hr64 : (num (bs.drop p)).2 ≠ 0 → (num (bs.drop p)).1 < 18446744073709551616 := fun h => (num_canon (u := (num (bs.drop p)).1) (k := (num (bs.drop p)).2) rfl h).1
    unfold rdInt
    generalize num (bs.drop p) = r at *
    obtain ⟨u, k⟩ := r
    clear h3
    have Hu := Lib.hid hr64
    clear hr64
    simp only at hr
    have hsm := Lib.hid H.out.sm
    rcases hpc with hpc | hpc
    · go_enter Try.func48, Try.ntmps48
      go_wp2
      go_quiet ((go_at_call 65; exact Calls.quiet_of (HN.out hpc _)))
      by_cases hk : 0 < k
      · have hk0 : ((k : Int) == 0) = false := by simp; omega
        have hpk : (p : Int) + (k : Int) ≤ 1099511627776 := by have := hsm.out; omega
        go_wp2
        go_ret
        have hkn : ¬ k = 0 := by omega
        refine ⟨?_, (H.out.grown (gb_drewN _ nq _)).setP (p + k) (by omega), gb_same (gb_drewN _ nq _) (gb_setCell _ _ _)⟩
        exact congrArg (fun z => Ending.returned (Value.int .i64 z)) (unzz_walk' (Hu.out hkn))
      · have hk0 : k = 0 := by omega
        subst hk0
        go_wp2
        go_ret
        exact ⟨rfl, (H.out.grown (gb_drewN _ _ _)).setF true, gb_same (gb_drewN _ _ _) (gb_setCell _ _ _)⟩
    · have HN1 := Lib.hid (HN0.out hpc)
      subst hpc
      clear HN HN0
      go_enter Try.func48, Try.ntmps48
      go_wp2
      go_quiet ((go_at_call 65; exact Calls.quiet_of (HN1.out _)))
      by_cases hk : 0 < k
      · exfalso; omega
      · have hk0 : k = 0 := by omega
        subst hk0
        go_wp2
        go_ret
        exact ⟨rfl, (H.out.grown (gb_drewN _ _ _)).setF true, gb_same (gb_drewN _ _ _) (gb_setCell _ _ _)⟩
end Go.Proofs.Ytfldooljmjeaoaa
