/-
  A table as a list of handles with their values: what the calls do to it.
-/
import Derived.Test.YtjijiondinbmnaaTRoom
namespace Go.Proofs.Ytjijiondinbmnaa
open Go.RowKit

abbrev PT := Int × Int
def prS (n i : Nat) (p : SS) : Option PT := if p.2.1 = true then some (((p.1 * n + i : Nat) : Int), p.2.2) else none
def pairsL (l : List SS) : List PT := (List.range l.length).filterMap fun i => prS l.length i (l.getD i zS)
theorem fm_same {β : Type} {f f' : Nat → Option β} : ∀ {R : List Nat}, (∀ j ∈ R, f' j = f j) → R.filterMap f' = R.filterMap f
  | [], _ => rfl
  | a :: R, h => by
    rw [List.filterMap_cons, List.filterMap_cons, h a (by simp), fm_same (fun j hj => h j (by simp [hj]))]
theorem fm_perm {β : Type} {f f' : Nat → Option β} {i : Nat} {x : β} (h : ∀ j, j ≠ i → f' j = f j) (hf : f i = none) (hf' : f' i = some x) : ∀ {R : List Nat}, R.Nodup → i ∈ R → (R.filterMap f').Perm (x :: R.filterMap f)
  | [], _, hi => by cases hi
  | a :: R, hn, hi => by
    rw [List.nodup_cons] at hn
    by_cases ha : a = i
    · subst ha
      rw [List.filterMap_cons, List.filterMap_cons, hf, hf']
      simp only
      rw [fm_same (R := R) (f := f) (f' := f') (fun j hj => h j (by rintro rfl; exact hn.1 hj))]
    · have hi2 : i ∈ R := by rcases List.mem_cons.1 hi with e | e; exact absurd e.symm ha; exact e
      have ih := fm_perm h hf hf' hn.2 hi2
      rw [List.filterMap_cons, List.filterMap_cons, h a ha]
      cases f a with
      | none => exact ih
      | some y => exact (List.Perm.cons y ih).trans (List.Perm.swap _ _ _)
theorem getD_set_self {l : List SS} {i : Nat} (h : i < l.length) (q : SS) : (l.set i q).getD i zS = q := by rw [List.getD_eq_getElem?_getD, List.getElem?_set_self h]; rfl
theorem getD_set_other {l : List SS} {i j : Nat} (h : j ≠ i) (q : SS) : (l.set i q).getD j zS = l.getD j zS := by rw [List.getD_eq_getElem?_getD, List.getElem?_set_ne (Ne.symm h), ← List.getD_eq_getElem?_getD]
/-- one slot turns from empty to full -/
theorem pairs_fill {l : List SS} {i : Nat} {p q : SS} (hp : l[i]? = some p) (h1 : p.2.1 = false) (h2 : q.2.1 = true) : (pairsL (l.set i q)).Perm ((((q.1 * l.length + i : Nat) : Int), q.2.2) :: pairsL l) := by
  have hi : i < l.length := (List.getElem?_eq_some_iff.1 hp).1
  unfold pairsL
  rw [List.length_set]
  refine fm_perm (i := i) (fun j hj => by rw [getD_set_other hj]) ?_ ?_ List.nodup_range (by simpa using hi)
  · unfold prS; rw [gd hp, if_neg (by simp [h1])]
  · unfold prS; rw [getD_set_self hi, if_pos h2]
/-- .. from full to empty -/
theorem pairs_empty {l : List SS} {i : Nat} {p q : SS} (hp : l[i]? = some p) (h1 : p.2.1 = true) (h2 : q.2.1 = false) : (pairsL l).Perm ((((p.1 * l.length + i : Nat) : Int), p.2.2) :: pairsL (l.set i q)) := by
  have hi : i < l.length := (List.getElem?_eq_some_iff.1 hp).1
  unfold pairsL
  rw [List.length_set]
  refine fm_perm (i := i) (fun j hj => by rw [getD_set_other hj]) ?_ ?_ List.nodup_range (by simpa using hi)
  · unfold prS; rw [getD_set_self hi, if_neg (by simp [h2])]
  · unfold prS; rw [gd hp, if_pos h1]
theorem pairs_put {l : List SS} (v : Int) (he : putE l = 0) : (pairsL (putL l v)).Perm ((putH l, v) :: pairsL l) := by
  unfold putL putH
  unfold putE at he
  cases hb : bestN l l.length with
  | none => rw [hb] at he; simp at he
  | some b =>
    obtain ⟨_, p, hp, hf, _⟩ := bestN_spec hb
    simp only [gd hp]
    have := pairs_fill (q := (p.1, true, v)) hp hf rfl
    rwa [hnd_at hp]
theorem put_same {l : List SS} (v : Int) (he : putE l = 13) : putL l v = l := by
  unfold putL
  unfold putE at he
  cases hb : bestN l l.length with
  | none => rfl
  | some b => rw [hb] at he; simp at he
theorem pairs_drop {l : List SS} {x : Int} {i : Nat} (hf : findI l x = some i) : (pairsL l).Perm ((x, getN l x) :: pairsL (dropL l x)) := by
  obtain ⟨p, hp, h1, h2, _⟩ := findI_spec hf
  unfold getN dropL
  rw [hf]
  simp only [gd hp]
  have := pairs_empty (q := (p.1 + 1, false, 0)) hp h1 rfl
  rwa [h2] at this
theorem pairs_set {l : List SS} {x : Int} {i : Nat} (v : Int) (hf : findI l x = some i) : (pairsL (setL l x v)).Perm ((x, v) :: pairsL (dropL l x)) := by
  obtain ⟨p, hp, h1, h2, hi⟩ := findI_spec hf
  unfold setL dropL
  rw [hf]
  simp only [gd hp]
  have := pairs_fill (l := l.set i (p.1 + 1, false, 0)) (i := i) (p := (p.1 + 1, false, 0)) (q := (p.1, true, v)) (List.getElem?_set_self hi) rfl rfl
  rw [List.set_set, List.length_set, h2] at this
  exact this
theorem mem_pairs {l : List SS} {x v : Int} (h : (x, v) ∈ pairsL l) : getB l x = true ∧ getN l x = v := by
  unfold pairsL at h
  rw [List.mem_filterMap] at h
  obtain ⟨i, hi, hs⟩ := h
  have hi : i < l.length := by simpa using hi
  obtain ⟨p, hp⟩ : ∃ p, l[i]? = some p := ⟨_, List.getElem?_eq_getElem hi⟩
  rw [gd hp] at hs
  unfold prS at hs
  split at hs
  · rename_i hf
    cases hs
    unfold getB getN
    rw [findI_some hp hf rfl]
    simp only [gd hp]
    exact ⟨rfl, trivial⟩
  · cases hs
theorem pairs_mem {l : List SS} {x : Int} (h : getB l x = true) : (x, getN l x) ∈ pairsL l := by
  unfold getB at h
  obtain ⟨i, hi⟩ := Option.isSome_iff_exists.1 h
  exact (pairs_drop hi).mem_iff.2 (by simp)
theorem get_drop {l : List SS} {x : Int} {i : Nat} (hf : findI l x = some i) : getB (dropL l x) x = false := by
  obtain ⟨p, hp, h1, h2, hi⟩ := findI_spec hf
  unfold getB dropL
  rw [hf]
  simp only [gd hp]
  rw [findI_none]
  · rfl
  · intro j q hq hqf hx
    have hj : j < l.length := by have := (List.getElem?_eq_some_iff.1 hq).1; simpa using this
    rw [List.length_set] at hx
    obtain ⟨e1, e2⟩ := eq_of_hnd hi hj (by omega : p.1 * l.length + i = q.1 * l.length + j)
    subst e2
    rw [List.getElem?_set_self hi] at hq
    cases hq
    cases hqf
theorem hs_pairs (l : List SS) : ∀ k, k ≤ l.length → (hsN l k).length = ((List.range k).filterMap fun i => prS l.length i (l.getD i zS)).length
  | 0, _ => rfl
  | k + 1, hk => by
    obtain ⟨p, hp⟩ : ∃ p, l[k]? = some p := ⟨_, List.getElem?_eq_getElem (by omega)⟩
    have ih := hs_pairs l k (by omega)
    rw [List.range_succ, List.filterMap_append, List.length_append, ← ih, List.filterMap_cons, List.filterMap_nil, gd hp]
    by_cases hf : p.2.1 = true
    · rw [hsN_full hp hf, List.length_append]; unfold prS; rw [if_pos hf]; rfl
    · rw [hsN_free hp (by simpa using hf)]; unfold prS; rw [if_neg hf]; rfl
theorem errF_some {l : List SS} {x : Int} : (getB l x = true ∧ errF l x = 0 ∧ ∃ i, findI l x = some i) ∨ (getB l x = false ∧ errF l x = 8 ∧ findI l x = none) := by
  unfold getB errF
  cases findI l x with
  | none => exact .inr ⟨rfl, rfl, rfl⟩
  | some i => exact .inl ⟨rfl, rfl, i, rfl⟩
theorem setL_none {l : List SS} {x : Int} (v : Int) (h : findI l x = none) : setL l x v = l := by unfold setL; rw [h]
theorem dropL_none {l : List SS} {x : Int} (h : findI l x = none) : dropL l x = l := by unfold dropL; rw [h]
theorem pairs_new (n : Nat) : pairsL (newS n) = [] := by
  unfold pairsL
  rw [List.filterMap_eq_nil_iff]
  intro i hi
  unfold prS
  rw [if_neg]
  rw [List.getD_eq_getElem?_getD, newS, List.getElem?_replicate]
  split <;> simp [zS]
theorem putH_ok {l : List SS} (hl : l.length ≤ 200) (h : ∀ p ∈ l, SOk p) : OkI (putH l) := by
  unfold putH
  cases hb : bestN l l.length with
  | none => exact ⟨by simp, by simp⟩
  | some b =>
    obtain ⟨_, p, hp, _⟩ := bestN_spec hb
    have := (hnd_small hl hp (h p (List.mem_of_getElem? hp)).1).2
    exact ⟨by simp only; omega, by simp only; omega⟩
/-- one out of a list -/
theorem split_at {α : Type} {m : List α} {a : Nat} {x : α} (h : m[a]? = some x) : m = m.take a ++ x :: m.drop (a + 1) := by
  obtain ⟨h1, h2⟩ := List.getElem?_eq_some_iff.1 h
  rw [← h2, List.getElem_cons_drop, List.take_append_drop]
theorem perm_at {α : Type} {m : List α} {a : Nat} {x : α} (h : m[a]? = some x) : m.Perm (x :: (m.take a ++ m.drop (a + 1))) := by
  conv => lhs; rw [split_at h]
  exact List.perm_middle
theorem perm_set {α : Type} {m : List α} {a : Nat} {x y : α} (h : m[a]? = some x) : (m.set a y).Perm (y :: (m.take a ++ m.drop (a + 1))) := by
  have h1 : a < m.length := (List.getElem?_eq_some_iff.1 h).1
  have h2 := perm_at (m := m.set a y) (a := a) (x := y) (List.getElem?_set_self h1)
  rwa [List.take_set_of_le (Nat.le_refl _), List.drop_set_of_lt (by omega)] at h2
end Go.Proofs.Ytjijiondinbmnaa
