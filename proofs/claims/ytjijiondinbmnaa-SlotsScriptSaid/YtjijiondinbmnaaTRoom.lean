/-
  A table that is filled from its beginning.
-/
import Derived.Test.YtjijiondinbmnaaTOnce
import Derived.Laws.Closers25b
namespace Go.Proofs.Ytjijiondinbmnaa
open Go.RowKit

def xr (v : Int) (i : Nat) : Int := bits .xor .i64 v (i : Int)
theorem xr_ok (v : Int) (i : Nat) : OkI (xr v i) := ⟨bits_lo_i64 _ _ _, bits_hi_i64 _ _ _⟩
def fillS (N : Nat) (v : Int) (i : Nat) : List SS := (List.range N).map fun j => if j < i then (0, true, xr v j) else (0, false, 0)
theorem fillS_len (N : Nat) (v : Int) (i : Nat) : (fillS N v i).length = N := by simp [fillS]
theorem fillS_get {N : Nat} (v : Int) (i : Nat) {j : Nat} (hj : j < N) : (fillS N v i)[j]? = some (if j < i then (0, true, xr v j) else (0, false, 0)) := by
  unfold fillS
  rw [List.getElem?_map, List.getElem?_range hj]
  rfl
theorem bestN_at {l : List SS} {at' : Nat} {p : SS} (hp : l[at']? = some p) (h1 : p.2.1 = false) (h2 : p.1 ≠ 1000) (hb : ∀ j q, l[j]? = some q → j < at' → q.2.1 = true) (ha : ∀ j q, l[j]? = some q → at' < j → q.2.1 = true ∨ ¬ q.1 < p.1) :
    ∀ k, k ≤ l.length → bestN l k = if k ≤ at' then none else some at'
  | 0, _ => by simp [bestN]
  | k + 1, hk => by
    have ih := bestN_at hp h1 h2 hb ha k (by omega)
    obtain ⟨q, hq⟩ : ∃ q, l[k]? = some q := ⟨_, List.getElem?_eq_getElem (by omega)⟩
    by_cases hlt : k < at'
    · rw [bestN_skip hq (.inl (hb k q hq hlt)), ih, if_pos (by omega), if_pos (by omega)]
    · by_cases he : k = at'
      · subst he
        rw [hp] at hq
        cases hq
        rw [bestN_first hp h1 h2 (by rw [ih, if_pos (Nat.le_refl _)]), if_neg (by omega)]
      · rw [if_neg (by omega)] at ih ⊢
        by_cases hf : q.2.1 = true ∨ q.1 = 1000
        · rw [bestN_skip hq hf, ih]
        · obtain ⟨hf1, hf2⟩ := not_or.1 hf
          rcases ha k q hq (by omega) with h3 | h3
          · exact absurd h3 hf1
          · rw [bestN_next hq (by simpa using hf1) hf2 ih hp, if_neg h3]
theorem bestN_none {l : List SS} (h : ∀ p ∈ l, p.2.1 = true) : ∀ k, bestN l k = none
  | 0 => rfl
  | k + 1 => by
    cases hq : l[k]? with
    | none => rw [bestN, hq]; exact bestN_none h k
    | some q => rw [bestN_skip hq (.inl (h q (List.mem_of_getElem? hq)))]; exact bestN_none h k
theorem hsN_all {l : List SS} (h : ∀ p ∈ l, p.2.1 = true) : ∀ k, k ≤ l.length → (hsN l k).length = k
  | 0, _ => rfl
  | k + 1, hk => by
    obtain ⟨q, hq⟩ : ∃ q, l[k]? = some q := ⟨_, List.getElem?_eq_getElem (by omega)⟩
    rw [hsN_full hq (h q (List.mem_of_getElem? hq)), List.length_append, hsN_all h k (by omega)]
    rfl
theorem newS_fill (N : Nat) (v : Int) : newS N = fillS N v 0 := by
  apply List.ext_getElem?
  intro j
  by_cases hj : j < N
  · rw [fillS_get v 0 hj, newS, List.getElem?_replicate, if_pos hj]; rfl
  · rw [List.getElem?_eq_none (by rw [newS_len]; omega), List.getElem?_eq_none (by rw [fillS_len]; omega)]
theorem fill_best {N i : Nat} (v : Int) (hi : i < N) : bestN (fillS N v i) (fillS N v i).length = some i := by
  have hp : (fillS N v i)[i]? = some (0, false, 0) := by rw [fillS_get v i hi, if_neg (by omega)]
  rw [bestN_at hp rfl (by simp) (fun j q hq hj => by
    rw [fillS_get v i (by omega), if_pos hj] at hq; cases hq; rfl) (fun j q hq hj => .inr (by simp)) _ (Nat.le_refl _), fillS_len, if_neg (by omega)]
theorem fill_put {N i : Nat} (v : Int) (hi : i < N) : putL (fillS N v i) (xr v i) = fillS N v (i + 1) ∧ putH (fillS N v i) = i ∧ putE (fillS N v i) = 0 := by
  have hp : (fillS N v i)[i]? = some (0, false, 0) := by rw [fillS_get v i hi, if_neg (by omega)]
  unfold putL putH putE
  rw [fill_best v hi]
  simp only [gd hp]
  refine ⟨?_, by rw [hnd_at hp]; simp, trivial⟩
  apply List.ext_getElem?
  intro j
  by_cases hj : j < N
  · rw [fillS_get v _ hj]
    by_cases he : i = j
    · subst he
      rw [List.getElem?_set_self (by rw [fillS_len]; exact hi), if_pos (by omega)]
    · rw [List.getElem?_set_ne he, fillS_get v _ hj]
      by_cases h1 : j < i
      · rw [if_pos h1, if_pos (by omega)]
      · rw [if_neg h1, if_neg (by omega)]
  · rw [List.getElem?_eq_none (by rw [List.length_set, fillS_len]; omega), List.getElem?_eq_none (by rw [fillS_len]; omega)]
theorem fill_all (N : Nat) (v : Int) : ∀ p ∈ fillS N v N, p.2.1 = true := by
  intro p hp
  unfold fillS at hp
  obtain ⟨j, hj, rfl⟩ := List.mem_map.1 hp
  rw [if_pos (by simpa using hj)]
theorem fill_full (N : Nat) (v x : Int) : putL (fillS N v N) x = fillS N v N ∧ putH (fillS N v N) = 0 ∧ putE (fillS N v N) = 13 := by
  unfold putL putH putE
  rw [bestN_none (fill_all N v)]
  simp
theorem findI_some {l : List SS} {x : Int} {i : Nat} {p : SS} (hp : l[i]? = some p) (hf : p.2.1 = true) (hx : x = ((p.1 * l.length + i : Nat) : Int)) : findI l x = some i := by
  have hi : i < l.length := (List.getElem?_eq_some_iff.1 hp).1
  have hm : x.toNat % l.length = i := by
    rw [hx, Int.toNat_natCast, Nat.mul_comm, Nat.mul_add_mod]; exact Nat.mod_eq_of_lt hi
  unfold findI
  rw [if_neg (by omega), hm, hp]
  simp only
  rw [if_pos ⟨hf, by omega⟩]
theorem findI_none {l : List SS} {x : Int} (h : ∀ i p, l[i]? = some p → p.2.1 = true → x ≠ ((p.1 * l.length + i : Nat) : Int)) : findI l x = none := by
  cases hf : findI l x with
  | none => rfl
  | some i =>
    obtain ⟨p, h1, h2, h3, _⟩ := findI_spec hf
    exact absurd h3.symm (h i p h1 h2)
theorem fill_get {N i : Nat} (v : Int) (hi : i < N) : getN (fillS N v N) i = xr v i ∧ getB (fillS N v N) i = true ∧ errF (fillS N v N) i = 0 ∧ dropL (fillS N v N) i = (fillS N v N).set i (1, false, 0) := by
  have hp : (fillS N v N)[i]? = some (0, true, xr v i) := by rw [fillS_get v N hi, if_pos hi]
  unfold getN getB errF dropL
  rw [findI_some hp rfl (by simp)]
  simp only [gd hp]
  simp
theorem fill_again {N i : Nat} (v y : Int) (hi : i < N) :
    putL ((fillS N v N).set i (1, false, 0)) y = (fillS N v N).set i (1, true, y) ∧ putH ((fillS N v N).set i (1, false, 0)) = ((N + i : Nat) : Int) ∧ putE ((fillS N v N).set i (1, false, 0)) = 0 := by
  have hlen : ((fillS N v N).set i (1, false, 0)).length = N := by rw [List.length_set, fillS_len]
  have hp : ((fillS N v N).set i (1, false, 0))[i]? = some (1, false, 0) := List.getElem?_set_self (by rw [fillS_len]; exact hi)
  have hfull : ∀ j q, ((fillS N v N).set i (1, false, 0))[j]? = some q → i ≠ j → q.2.1 = true := fun j q hq hne => by
    rw [List.getElem?_set_ne hne] at hq
    exact fill_all N v q (List.mem_of_getElem? hq)
  have hb : bestN ((fillS N v N).set i (1, false, 0)) ((fillS N v N).set i (1, false, 0)).length = some i := by
    rw [bestN_at hp rfl (by simp) (fun j q hq hj => hfull j q hq (by omega)) (fun j q hq hj => .inl (hfull j q hq (by omega))) _ (Nat.le_refl _), hlen, if_neg (by omega)]
  unfold putL putH putE
  rw [hb]
  simp only [gd hp]
  refine ⟨by rw [List.set_set], ?_, trivial⟩
  rw [hnd_at hp, hlen]
  simp
theorem fill_last {N i : Nat} (v y : Int) (hi : i < N) :
    getN ((fillS N v N).set i (1, true, y)) ((N + i : Nat) : Int) = y ∧ getB ((fillS N v N).set i (1, true, y)) ((N + i : Nat) : Int) = true ∧ getB ((fillS N v N).set i (1, true, y)) i = false ∧
    (hsN ((fillS N v N).set i (1, true, y)) ((fillS N v N).set i (1, true, y)).length).length = N := by
  have hlen : ((fillS N v N).set i (1, true, y)).length = N := by rw [List.length_set, fillS_len]
  have hp : ((fillS N v N).set i (1, true, y))[i]? = some (1, true, y) := List.getElem?_set_self (by rw [fillS_len]; exact hi)
  refine ⟨?_, ?_, ?_, ?_⟩
  · unfold getN
    rw [findI_some hp rfl (by rw [hlen]; simp)]
    simp only [gd hp]
  · unfold getB
    rw [findI_some hp rfl (by rw [hlen]; simp)]
    rfl
  · unfold getB
    rw [findI_none]
    · rfl
    · intro j p hj _ hx
      have hjl : j < N := by have := (List.getElem?_eq_some_iff.1 hj).1; omega
      by_cases he : i = j
      · subst he
        rw [hp] at hj
        cases hj
        rw [hlen] at hx
        omega
      · rw [List.getElem?_set_ne he, fillS_get v N hjl, if_pos hjl] at hj
        cases hj
        simp at hx
        omega
  · rw [hsN_all _ _ (Nat.le_refl _), hlen]
    intro p hp2
    rcases List.mem_or_eq_of_mem_set hp2 with h1 | h1
    · exact fill_all N v p h1
    · rw [h1]
end Go.Proofs.Ytjijiondinbmnaa
