/-
  Handles that were used stay used: what the calls do to it.
-/
import Derived.Test.YtjijiondinbmnaaTArg
namespace Go.Proofs.Ytjijiondinbmnaa
open Go.RowKit

def used (l : List SS) (h : Int) : Prop := ∃ (i : Nat) (p : SS) (g : Nat), l[i]? = some p ∧ h = ((g * l.length + i : Nat) : Int) ∧ (g < p.1 ∨ (g = p.1 ∧ p.2.1 = true))
theorem eq_of_hnd {n g g' i i' : Nat} (hi : i < n) (hi' : i' < n) (h : g * n + i = g' * n + i') : g = g' ∧ i = i' := by
  have h1 : (g * n + i) % n = i := by rw [Nat.mul_comm, Nat.mul_add_mod]; exact Nat.mod_eq_of_lt hi
  have h2 : (g' * n + i') % n = i' := by rw [Nat.mul_comm, Nat.mul_add_mod]; exact Nat.mod_eq_of_lt hi'
  have hii : i = i' := by rw [← h1, ← h2, h]
  subst hii
  have h3 : g * n = g' * n := by omega
  exact ⟨Nat.eq_of_mul_eq_mul_right (by omega) h3, rfl⟩
theorem used_set {l : List SS} {b : Nat} {p q : SS} (hp : l[b]? = some p) (hq : p.1 < q.1 ∨ (p.1 = q.1 ∧ (p.2.1 = true → q.2.1 = true))) {h : Int} (hu : used l h) : used (l.set b q) h := by
  obtain ⟨i, r, g, hi, hh, hg⟩ := hu
  have hlt : b < l.length := (List.getElem?_eq_some_iff.1 hp).1
  by_cases hib : b = i
  · subst hib
    rw [hp] at hi
    cases hi
    refine ⟨b, q, g, by simp [hlt], by rw [List.length_set]; exact hh, ?_⟩
    rcases hq with h1 | ⟨h1, h2⟩
    · left; rcases hg with h3 | ⟨h3, _⟩ <;> omega
    · rcases hg with h3 | ⟨h3, h4⟩
      · left; omega
      · right; exact ⟨by omega, h2 h4⟩
  · exact ⟨i, r, g, by rw [List.getElem?_set_ne hib]; exact hi, by rw [List.length_set]; exact hh, hg⟩
theorem used_put {l : List SS} (v : Int) {h : Int} (hu : used l h) : used (putL l v) h := by
  unfold putL
  cases hb : bestN l l.length with
  | none => exact hu
  | some b =>
    obtain ⟨_, p, hp, hf, _⟩ := bestN_spec hb
    simp only [gd hp]
    exact used_set (q := (p.1, true, v)) hp (.inr ⟨rfl, fun _ => rfl⟩) hu
theorem used_setL {l : List SS} (x v : Int) {h : Int} (hu : used l h) : used (setL l x v) h := by
  unfold setL
  cases hb : findI l x with
  | none => exact hu
  | some b =>
    obtain ⟨p, hp, hf, _⟩ := findI_spec hb
    simp only [gd hp]
    exact used_set (q := (p.1, true, v)) hp (.inr ⟨rfl, fun _ => rfl⟩) hu
theorem used_drop {l : List SS} (x : Int) {h : Int} (hu : used l h) : used (dropL l x) h := by
  unfold dropL
  cases hb : findI l x with
  | none => exact hu
  | some b =>
    obtain ⟨p, hp, hf, _⟩ := findI_spec hb
    simp only [gd hp]
    exact used_set (q := (p.1 + 1, false, 0)) hp (.inl (by simp)) hu
theorem used_new {l : List SS} (v : Int) (he : putE l = 0) : used (putL l v) (putH l) ∧ ¬ used l (putH l) := by
  unfold putL putH
  unfold putE at he
  cases hb : bestN l l.length with
  | none => rw [hb] at he; simp at he
  | some b =>
    obtain ⟨hlt, p, hp, hf, _⟩ := bestN_spec hb
    simp only [gd hp]
    refine ⟨⟨b, (p.1, true, v), p.1, by simp [hlt], by rw [List.length_set, hnd_at hp], .inr ⟨rfl, rfl⟩⟩, ?_⟩
    rintro ⟨i, r, g, hi, hh, hg⟩
    rw [hnd_at hp] at hh
    have hil : i < l.length := (List.getElem?_eq_some_iff.1 hi).1
    obtain ⟨e1, e2⟩ := eq_of_hnd hlt hil (by omega : p.1 * l.length + b = g * l.length + i)
    subst e2
    rw [hp] at hi
    cases hi
    rcases hg with h1 | ⟨_, h2⟩
    · omega
    · rw [hf] at h2; cases h2
theorem setL_len (l : List SS) (x v : Int) : (setL l x v).length = l.length := by unfold setL; split <;> simp
theorem dropL_len (l : List SS) (x : Int) : (dropL l x).length = l.length := by unfold dropL; split <;> simp
theorem newS_len (n : Nat) : (newS n).length = n := by simp [newS]
theorem putE_cases (l : List SS) : putE l = 0 ∨ putE l = 13 := by unfold putE; split <;> simp
end Go.Proofs.Ytjijiondinbmnaa
