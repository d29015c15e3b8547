/-
  Mathematics of peek.
-/
import Derived.Test.YtfldooljmjeaoaaVBg
namespace Go.Proofs.Ytfldooljmjeaoaa
open Go.RowKit Go.Shelf

theorem rdInt_enc {bs : List UInt8} {p : Nat} {v : Int} {q : Nat} (h : rdInt bs p = some (v, q)) : OkI v ∧ q = p + (enc v).length ∧ (bs.drop p).take (enc v).length = enc v ∧ q ≤ bs.length ∧ p < q := by
  unfold rdInt at h
  split at h
  · cases h
  · rename_i hk
    cases h
    obtain ⟨h1, h2, h3, h4⟩ := num_canon (bs := bs.drop p) (u := (num (bs.drop p)).1) (k := (num (bs.drop p)).2) rfl hk
    have he : enc (unzz (num (bs.drop p)).1) = encU (num (bs.drop p)).1 := by unfold enc; rw [zz_unzz]
    rw [he, ← h2]
    rw [List.length_drop] at h4
    exact ⟨unzz_range h1, rfl, h3, by omega, by omega⟩
theorem rdBounded_enc {a b : Int} {bs : List UInt8} {p : Nat} {v : Int} {q : Nat} (h : rdBounded a b bs p = some (v, q)) : a ≤ v ∧ v ≤ b ∧ rdInt bs p = some (v, q) := by
  unfold rdBounded at h
  split at h
  · cases h
  · rename_i n q' hi
    split at h
    · cases h
    · cases h
      exact ⟨by omega, by omega, hi⟩
theorem rdBool_enc {bs : List UInt8} {p : Nat} {v : Bool} {q : Nat} (h : rdBool bs p = some (v, q)) : q = p + 1 ∧ (bs.drop p).take 1 = encB v ∧ q ≤ bs.length := by
  unfold rdBool at h
  split at h
  · cases h
  · rename_i c hc
    split at h
    · rename_i hle
      cases h
      obtain ⟨h1, h2⟩ := List.getElem?_eq_some_iff.1 hc
      refine ⟨rfl, ?_, by omega⟩
      rw [List.drop_eq_getElem_cons h1, h2]
      simp only [List.take_succ_cons, List.take_zero]
      unfold encB
      have hc2 : c = UInt8.ofNat c.toNat := by simp
      by_cases h1 : c.toNat = 1
      · rw [if_pos (by simp [h1]), hc2, h1]; rfl
      · have h0 : c.toNat = 0 := by omega
        rw [if_neg (by simp [h1]), hc2, h0]; rfl
    · cases h

theorem seg_append {bs x y : List UInt8} {p : Nat} (h1 : (bs.drop p).take x.length = x) (h2 : (bs.drop (p + x.length)).take y.length = y) : (bs.drop p).take (x ++ y).length = x ++ y := by
  rw [List.length_append, List.take_add, h1, List.drop_drop, h2]

/-- the sum of the first k groups -/
def acc (l : List UInt8) : Nat → Nat
  | 0 => 0
  | k + 1 => acc l k + (l.getD k 0).toNat % 128 * 128 ^ k
theorem acc_cons (x : UInt8) (l : List UInt8) : ∀ k, acc (x :: l) (k + 1) = x.toNat % 128 + 128 * acc l k
  | 0 => by simp [acc]
  | k + 1 => by
    rw [acc, acc_cons x l k, acc, Nat.mul_add, Nat.pow_succ]
    have : (x :: l).getD (k + 1) 0 = l.getD k 0 := by simp
    rw [this]
    have e : 128 * ((l.getD k 0).toNat % 128 * 128 ^ k) = (l.getD k 0).toNat % 128 * (128 ^ k * 128) := by
      rw [Nat.mul_comm 128, Nat.mul_assoc]
    omega
/-- an encoding ends at its first small group, and its groups add up to the number -/
theorem encU_acc : ∀ (n U : Nat) (t : List UInt8), U < 128 ^ (n + 1) → U < 18446744073709551616 → ∃ i, i + 1 = (encU U).length ∧ (∀ j x, j < i → (encU U ++ t)[j]? = some x → 128 ≤ x.toNat) ∧ (∃ x, (encU U ++ t)[i]? = some x ∧ x.toNat < 128) ∧ acc (encU U ++ t) (i + 1) = U
  | n, U, t, h, h64 => by
    by_cases hlt : U < 128
    · rw [encU_lo hlt]
      have hx : (UInt8.ofNat U).toNat = U := by rw [UInt8.toNat_ofNat']; omega
      refine ⟨0, rfl, fun j x hj => by omega, ⟨_, rfl, by rw [hx]; exact hlt⟩, ?_⟩
      rw [List.singleton_append, acc_cons, hx]
      simp [acc]
      omega
    · cases n with
      | zero => omega
      | succ n =>
        have hdiv : U / 128 < 128 ^ (n + 1) := by
          rw [Nat.pow_succ] at h
          exact Nat.div_lt_of_lt_mul (by rw [Nat.mul_comm]; exact h)
        obtain ⟨i, h1, h2, ⟨x, h3, h4⟩, h5⟩ := encU_acc n (U / 128) t hdiv (by omega)
        rw [encU_hi hlt h64]
        have hx : (UInt8.ofNat (U % 128 + 128)).toNat = U % 128 + 128 := by rw [UInt8.toNat_ofNat']; omega
        refine ⟨i + 1, by rw [List.length_cons]; omega, fun j y hj hy => ?_, ⟨x, by rw [List.cons_append, List.getElem?_cons_succ]; exact h3, h4⟩, ?_⟩
        · cases j with
          | zero => rw [List.cons_append, List.getElem?_cons_zero] at hy; cases hy; rw [hx]; omega
          | succ j => rw [List.cons_append, List.getElem?_cons_succ] at hy; exact h2 j y (by omega) hy
        · rw [List.cons_append, acc_cons, h5, hx]
          omega
theorem zz_64 {v : Int} (h : OkI v) : zz v < 18446744073709551616 := zz_lt h.1 h.2
/-- where an integer is read, its bytes stand there -/
theorem rdInt_split {bs : List UInt8} {p : Nat} {v : Int} {q : Nat} (h : rdInt bs p = some (v, q)) : OkI v ∧ ∃ t, bs.drop p = encU (zz v) ++ t := by
  obtain ⟨h1, h2, h3, _⟩ := rdInt_enc h
  refine ⟨h1, (bs.drop p).drop (enc v).length, ?_⟩
  have h4 := List.take_append_drop (enc v).length (bs.drop p)
  rw [h3] at h4
  exact h4.symm
theorem rdInt_first {bs : List UInt8} {p : Nat} {v : Int} {q : Nat} (h : rdInt bs p = some (v, q)) : ∃ i, i < 10 ∧ i + 1 = (enc v).length ∧ (∀ j x, j < i → bs[p + j]? = some x → 128 ≤ x.toNat) ∧ (∃ x, bs[p + i]? = some x ∧ x.toNat < 128) ∧ acc (bs.drop p) (i + 1) = zz v := by
  obtain ⟨h1, t, h2⟩ := rdInt_split h
  obtain ⟨i, a1, a2, ⟨x, a3, a4⟩, a5⟩ := encU_acc 9 (zz v) t (by have := zz_64 h1; omega) (zz_64 h1)
  rw [← h2] at a2 a3 a5
  have hlen := (encU_len (zz v)).2
  refine ⟨i, by omega, a1, fun j y hj hy => a2 j y hj (by rw [List.getElem?_drop]; exact hy), ⟨x, by rw [List.getElem?_drop] at a3; exact a3, a4⟩, a5⟩
theorem peek_yes {bs : List UInt8} {p i : Nat} {x : UInt8} (hx : bs[p + i]? = some x) (hs : x.toNat < 128) (hb : ∀ j y, j < i → bs[p + j]? = some y → 128 ≤ y.toNat) (hlen : p + i < bs.length) (v : Int) (hv : v = unzz (acc (bs.drop p) (i + 1) % 18446744073709551616)) :
    OkI v ∧ (((enc v).length = i + 1 ∧ beg bs p (enc v) = true) → rdInt bs p = some (v, p + (enc v).length)) ∧ (¬ ((enc v).length = i + 1 ∧ beg bs p (enc v) = true) → rdInt bs p = none) := by
  have hok : OkI v := by rw [hv]; exact unzz_range (Nat.mod_lt _ (by omega))
  refine ⟨hok, ?_, ?_⟩
  · rintro ⟨_, h2⟩
    unfold beg at h2
    rw [decide_eq_true_iff] at h2
    have h4 := List.take_append_drop (enc v).length (bs.drop p)
    rw [h2] at h4
    exact rdInt_at hok.1 hok.2 h4.symm
  · intro hn
    cases hr : rdInt bs p with
    | none => rfl
    | some r =>
      exfalso
      obtain ⟨v', q⟩ := r
      obtain ⟨i0, a0, a1, a2, ⟨y, a3, a4⟩, a5⟩ := rdInt_first hr
      have hi : i0 = i := by
        rcases Nat.lt_trichotomy i0 i with h | h | h
        · have := hb i0 y h a3; omega
        · exact h
        · have := a2 i x h hx; omega
      subst hi
      obtain ⟨c1, c2, c3, _⟩ := rdInt_enc hr
      have hvv : v = v' := by rw [hv, a5, Nat.mod_eq_of_lt (zz_64 c1), unzz_zz]
      subst hvv
      exact hn ⟨a1.symm, by unfold beg; rw [decide_eq_true_iff]; exact c3⟩
theorem peek_no {bs : List UInt8} {p n : Nat} (hb : ∀ j y, j < n → bs[p + j]? = some y → 128 ≤ y.toNat) (hn : n = 10 ∨ bs.length ≤ p + n) : rdInt bs p = none := by
  cases hr : rdInt bs p with
  | none => rfl
  | some r =>
    exfalso
    obtain ⟨v', q⟩ := r
    obtain ⟨i0, a0, a1, a2, ⟨y, a3, a4⟩, a5⟩ := rdInt_first hr
    have hlt := (List.getElem?_eq_some_iff.1 a3).1
    have := hb i0 y (by omega) a3
    omega
theorem acc_step {bs : List UInt8} {p k : Nat} {x : UInt8} (hx : bs[p + k]? = some x) : acc (bs.drop p) (k + 1) = acc (bs.drop p) k + x.toNat % 128 * 128 ^ k := by
  rw [acc]
  congr 2
  rw [List.getD_eq_getElem?_getD, List.getElem?_drop, hx]
  rfl
end Go.Proofs.Ytfldooljmjeaoaa
