/-
  Bitmaps: what setting and clearing bits one after the other does; no walk.
-/
import Derived.Test.YtpfeaeklenopdaaERTake
import Derived.Test.YtpfeaeklenopdaaERel
namespace Go.Proofs.Ytpfeaeklenopdaa
open Go.RowKit Go.Shelf

theorem byte_ext {x y : UInt8} (h : ∀ j, j < 8 → x.toNat.testBit j = y.toNat.testBit j) : x = y := by
  apply UInt8.toNat_inj.1
  apply Nat.eq_of_testBit_eq
  intro j
  by_cases hj : j < 8
  · exact h j hj
  · have h1 : x.toNat < 2 ^ j := Nat.lt_of_lt_of_le x.toNat_lt (Nat.pow_le_pow_right (by omega) (by omega))
    have h2 : y.toNat < 2 ^ j := Nat.lt_of_lt_of_le y.toNat_lt (Nat.pow_le_pow_right (by omega) (by omega))
    rw [Nat.testBit_lt_two_pow h1, Nat.testBit_lt_two_pow h2]
theorem bits_ext {l l' : List UInt8} (hl : l.length = l'.length) (h : ∀ j, bitN l j = bitN l' j) : l = l' := by
  apply List.ext_getElem? 
  intro i
  by_cases hi : i < l.length
  · have hi' : i < l'.length := by omega
    rw [List.getElem?_eq_getElem hi, List.getElem?_eq_getElem hi']
    congr 1
    apply byte_ext
    intro j hj
    have h1 := h (8 * i + j)
    rw [bitN_at (x := l[i]) (by rw [show (8 * i + j) / 8 = i by omega]; simp), bitN_at (x := l'[i]) (by rw [show (8 * i + j) / 8 = i by omega]; simp)] at h1
    rwa [show (8 * i + j) % 8 = j by omega] at h1
  · rw [List.getElem?_eq_none (by omega), List.getElem?_eq_none (by omega)]
theorem setAll_bit : ∀ {ls : List Nat} {l : List UInt8}, (∀ k ∈ ls, k < 8 * l.length) → ∀ j, bitN (setAll l ls) j = (decide (j ∈ ls) || bitN l j)
  | [], l, _, j => by simp [setAll]
  | k :: ks, l, h, j => by
    have e : setAll l (k :: ks) = setAll (setB l k true) ks := rfl
    rw [e, setAll_bit (fun q hq => by rw [setB_len]; exact h q (List.mem_cons_of_mem _ hq)) j, bitN_set (h k (List.mem_cons_self ..))]
    by_cases h1 : j = k
    · subst h1; simp
    · simp [h1]
theorem rel_back : ∀ {ls : List Nat} {l : List UInt8}, ls.Nodup → (∀ k ∈ ls, k < 8 * l.length) → (∀ k ∈ ls, bitN l k = false) → relF (setAll l ls) (ns ls) = .ok l
  | [], l, _, _, _ => rfl
  | k :: ks, l, hn, hk, hb => by
    rw [List.nodup_cons] at hn
    have hk0 := hk k (List.mem_cons_self ..)
    have h1 : bitI (setAll l (k :: ks)) (k : Int) = true := by
      unfold bitI
      rw [Int.toNat_natCast, setAll_bit hk]
      simp
    have h2 : setB (setAll l (k :: ks)) k false = setAll l ks := by
      apply bits_ext
      · rw [setB_len, setAll_len, setAll_len]
      · intro j
        rw [bitN_set (by rw [setAll_len]; exact hk0), setAll_bit hk, setAll_bit (fun q hq => hk q (List.mem_cons_of_mem _ hq))]
        by_cases hj : j = k
        · subst hj
          rw [if_pos rfl, hb j (List.mem_cons_self ..)]
          simp [hn.1]
        · rw [if_neg hj]
          simp [hj]
    show relF (setAll l (k :: ks)) ((k : Int) :: ns ks) = _
    rw [relF, if_pos h1, Int.toNat_natCast, h2]
    exact rel_back hn.2 (fun q hq => hk q (List.mem_cons_of_mem _ hq)) (fun q hq => hb q (List.mem_cons_of_mem _ hq))
theorem findL_congr {l l' : List UInt8} {f t : Nat} {on : Bool} (h : ∀ j, f ≤ j → j < t → bitN l j = bitN l' j) : findL l f t on = findL l' f t on := by
  unfold findL
  apply List.filter_congr
  intro j hj
  rw [List.mem_range'_1] at hj
  rw [h j hj.1 (by omega)]
theorem count_set {l : List UInt8} {k T : Nat} (hk : k < 8 * l.length) (hT : k < T) (hb : bitN l k = false) : (findL (setB l k true) 0 T true).length = (findL l 0 T true).length + 1 := by
  have e1 : findL (setB l k true) 0 k true = findL l 0 k true := findL_congr (fun j _ h2 => by rw [bitN_set hk, if_neg (by omega)])
  have e2 : findL (setB l k true) (k + 1) T true = findL l (k + 1) T true := findL_congr (fun j h1 _ => by rw [bitN_set hk, if_neg (by omega)])
  rw [findL_split (setB l k true) true (Nat.zero_le (k + 1)) (by omega), findL_split l true (Nat.zero_le (k + 1)) (by omega), findL_snoc (Nat.zero_le k), findL_snoc (Nat.zero_le k), if_pos (by rw [bitN_set hk, if_pos rfl]), if_neg (by simp [hb]), e1, e2]
  simp only [List.length_append, List.length_singleton]
  omega
theorem count_all : ∀ {ls : List Nat} {l : List UInt8} {T : Nat}, ls.Nodup → (∀ k ∈ ls, k < 8 * l.length ∧ k < T) → (∀ k ∈ ls, bitN l k = false) → (findL (setAll l ls) 0 T true).length = (findL l 0 T true).length + ls.length
  | [], l, T, _, _, _ => rfl
  | k :: ks, l, T, hn, hk, hb => by
    rw [List.nodup_cons] at hn
    have hk0 := hk k (List.mem_cons_self ..)
    have e : setAll l (k :: ks) = setAll (setB l k true) ks := rfl
    rw [e, count_all hn.2 (fun q hq => by rw [setB_len]; exact hk q (List.mem_cons_of_mem _ hq)) (fun q hq => by
      rw [bitN_set hk0.1]
      by_cases hqk : q = k
      · subst hqk; exact absurd hq hn.1
      · rw [if_neg hqk]; exact hb q (List.mem_cons_of_mem _ hq)), count_set hk0.1 hk0.2 (hb k (List.mem_cons_self ..)), List.length_cons]
    omega
theorem findL_nodup (l : List UInt8) (f t : Nat) (on : Bool) : (findL l f t on).Nodup := by
  unfold findL
  exact List.Pairwise.filter _ (List.nodup_range' ..)
theorem findL_at {l : List UInt8} {f : Nat} {on : Bool} : ∀ {d i z : Nat}, (findL l f (f + d) on)[i]? = some z → (findL l f z on).length = i
  | 0, i, z, h => by rw [Nat.add_zero, findL_nil] at h; simp at h
  | d + 1, i, z, h => by
    rw [show f + (d + 1) = (f + d) + 1 by omega, findL_snoc (Nat.le_add_right _ _)] at h
    split at h
    · by_cases hi : i < (findL l f (f + d) on).length
      · rw [List.getElem?_append_left hi] at h
        exact findL_at h
      · rw [List.getElem?_append_right (by omega)] at h
        have h0 : i - (findL l f (f + d) on).length = 0 := by
          rcases Nat.eq_zero_or_pos (i - (findL l f (f + d) on).length) with h0 | h0
          · exact h0
          · rw [List.getElem?_eq_none (by simp; omega)] at h; cases h
        rw [h0] at h
        simp at h
        subst h
        omega
    · exact findL_at h
end Go.Proofs.Ytpfeaeklenopdaa
