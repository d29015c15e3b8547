/-
  Plain mathematics: an encoding says where it ends; no walk.
-/
import Derived.Test.YtgfopepopcacmaaCanMath
namespace Go.Proofs.Ytgfopepopcacmaa
open Go.RowKit

theorem enc_pre {z z' : Int} {s s' : List UInt8} (h1 : OkI z) (h2 : OkI z') (h : enc z ++ s = enc z' ++ s') : z = z' ∧ s = s' := by
  have e1 := num_enc (zz_lt h1.1 h1.2) s
  have e2 := num_enc (zz_lt h2.1 h2.2) s'
  unfold enc at h
  rw [h, e2] at e1
  have e3 : zz z' = zz z := (Prod.mk.inj e1).1
  have e4 : z = z' := by rw [← unzz_zz z, ← unzz_zz z', e3]
  subst e4
  exact ⟨rfl, List.append_cancel_left h⟩
theorem encL_pre : ∀ {zs zs' : List Int} {s s' : List UInt8}, zs.length = zs'.length → (∀ z ∈ zs, OkI z) → (∀ z ∈ zs', OkI z) → encL zs ++ s = encL zs' ++ s' → zs = zs' ∧ s = s' := by
  intro zs
  induction zs with
  | nil =>
    intro zs' s s' hl _ _ h
    obtain rfl : zs' = [] := List.eq_nil_of_length_eq_zero (by simpa using hl.symm)
    exact ⟨rfl, by simpa [encL] using h⟩
  | cons z zs ih =>
    intro zs' s s' hl h1 h2 h
    cases zs' with
    | nil => simp at hl
    | cons z' zs' =>
      have e1 : ∀ (y : Int) (ys : List Int) (t : List UInt8), encL (y :: ys) ++ t = enc y ++ (encL ys ++ t) := fun y ys t => by simp [encL]
      rw [e1, e1] at h
      obtain ⟨rfl, h3⟩ := enc_pre (h1 z (by simp)) (h2 z' (by simp)) h
      obtain ⟨rfl, rfl⟩ := ih (by simpa using hl) (fun y hy => h1 y (by simp [hy])) (fun y hy => h2 y (by simp [hy])) h3
      exact ⟨rfl, rfl⟩
theorem encS_pre {l l' s s' : List UInt8} (h1 : l.length ≤ 1099511627776) (h2 : l'.length ≤ 1099511627776) (h : encS l ++ s = encS l' ++ s') : l = l' ∧ s = s' := by
  unfold encS at h
  rw [List.append_assoc, List.append_assoc] at h
  obtain ⟨h3, h4⟩ := enc_pre ⟨by omega, by omega⟩ ⟨by omega, by omega⟩ h
  exact List.append_inj h4 (by omega)
theorem encMM_pre {m m' : List Int × List UInt8} {s s' : List UInt8} (hl : m.1.length = m'.1.length) (h1 : ∀ z ∈ m.1, OkI z) (h2 : ∀ z ∈ m'.1, OkI z) (h3 : m.2.length ≤ 1099511627776) (h4 : m'.2.length ≤ 1099511627776)
    (h : encMM m ++ s = encMM m' ++ s') : m = m' ∧ s = s' := by
  unfold encMM at h
  rw [List.append_assoc, List.append_assoc] at h
  obtain ⟨h5, h6⟩ := encL_pre hl h1 h2 h
  obtain ⟨h7, h8⟩ := encS_pre h3 h4 h6
  exact ⟨Prod.ext h5 h7, h8⟩
/-- an effect whose data are no longer than a list can be -/
def FewE (x : EffT) : Prop := x.2.1.2.length ≤ 1099511627776 ∧ x.2.2.length ≤ 1099511627776
theorem encEE_pre {x x' : EffT} {s s' : List UInt8} (h1 : OkE x) (h2 : OkE x') (h3 : FewE x) (h4 : FewE x') (h : encEE x ++ s = encEE x' ++ s') : x = x' ∧ s = s' := by
  unfold encEE at h
  simp only [List.append_assoc] at h
  obtain ⟨h5, h6⟩ := encL_pre (by rw [h1.1, h2.1]) h1.2.2.1 h2.2.2.1 h
  obtain ⟨h7, h8⟩ := encMM_pre (by rw [h1.2.1, h2.2.1]) h1.2.2.2 h2.2.2.2 h3.1 h4.1 h6
  obtain ⟨h9, h10⟩ := encS_pre h3.2 h4.2 h8
  exact ⟨Prod.ext h5 (Prod.ext h7 h9), h10⟩
theorem encFE_pre : ∀ {xs xs' : List EffT} {s s' : List UInt8}, xs.length = xs'.length → (∀ x ∈ xs, OkE x ∧ FewE x) → (∀ x ∈ xs', OkE x ∧ FewE x) → xs.flatMap encEE ++ s = xs'.flatMap encEE ++ s' → xs = xs' ∧ s = s' := by
  intro xs
  induction xs with
  | nil =>
    intro xs' s s' hl _ _ h
    obtain rfl : xs' = [] := List.eq_nil_of_length_eq_zero (by simpa using hl.symm)
    exact ⟨rfl, by simpa using h⟩
  | cons x xs ih =>
    intro xs' s s' hl h1 h2 h
    cases xs' with
    | nil => simp at hl
    | cons x' xs' =>
      rw [List.flatMap_cons, List.flatMap_cons, List.append_assoc, List.append_assoc] at h
      obtain ⟨rfl, h3⟩ := encEE_pre (h1 x (by simp)).1 (h2 x' (by simp)).1 (h1 x (by simp)).2 (h2 x' (by simp)).2 h
      obtain ⟨rfl, rfl⟩ := ih (by simpa using hl) (fun y hy => h1 y (by simp [hy])) (fun y hy => h2 y (by simp [hy])) h3
      exact ⟨rfl, rfl⟩
theorem encEs_pre {xs xs' : List EffT} {s s' : List UInt8} (hn : xs.length ≤ 1099511627776) (hn' : xs'.length ≤ 1099511627776) (h1 : ∀ x ∈ xs, OkE x ∧ FewE x) (h2 : ∀ x ∈ xs', OkE x ∧ FewE x)
    (h : encEs xs ++ s = encEs xs' ++ s') : xs = xs' ∧ s = s' := by
  unfold encEs at h
  rw [List.append_assoc, List.append_assoc] at h
  obtain ⟨h3, h4⟩ := enc_pre ⟨by omega, by omega⟩ ⟨by omega, by omega⟩ h
  exact encFE_pre (by omega) h1 h2 h4

/-- a proper beginning of a message's encoding isn't read whole -/
theorem rdM_cut {m : List Int × List UInt8} {k : Nat} (hm : m.1.length = 8) (hz : ∀ z ∈ m.1, OkI z) (hl : m.2.length ≤ 1099511627776) (hk : k < (encMM m).length) : wholeO (rdM ((encMM m).take k) 0) ((encMM m).take k).length = none := by
  cases h : wholeO (rdM ((encMM m).take k) 0) ((encMM m).take k).length with
  | none => rfl
  | some x =>
    exfalso
    obtain ⟨h1, h2, h3, h4⟩ := rdM_seg (Nat.zero_le _) (whole_seg h)
    have h5 : (encMM m).take k = encMM x := h1.all rfl
    have h6 : encMM x ++ (encMM m).drop k = encMM m ++ [] := by rw [← h5, List.take_append_drop, List.append_nil]
    obtain ⟨_, h7⟩ := encMM_pre (by rw [h2, hm]) h3 hz (by omega) hl h6
    have h8 := congrArg List.length h7
    rw [List.length_drop, List.length_nil] at h8
    omega
theorem few_len {xs : List EffT} (h : (encEs xs).length ≤ 1000000) : ∀ x ∈ xs, FewE x := fun x hx => by
  obtain ⟨i, hi⟩ := List.getElem?_of_mem hx
  have h1 := data_le hi
  exact ⟨by omega, by omega⟩
theorem rdLE_cut {xs : List EffT} {k : Nat} (hn : xs.length ≤ 1099511627776) (hx : ∀ x ∈ xs, OkE x) (hlen : (encEs xs).length ≤ 1000000) (hk : k < (encEs xs).length) : wholeO (rdLE 160 ((encEs xs).take k) 0) ((encEs xs).take k).length = none := by
  cases h : wholeO (rdLE 160 ((encEs xs).take k) 0) ((encEs xs).take k).length with
  | none => rfl
  | some ys =>
    exfalso
    have hw := whole_seg h
    obtain ⟨h1, h2, h3⟩ := rdLE_seg (Nat.zero_le _) hw
    have h5 : (encEs xs).take k = encEs ys := h1.all rfl
    have h6 : encEs xs ++ [] = encEs ys ++ (encEs xs).drop k := by rw [← h5, List.take_append_drop, List.append_nil]
    have hfew : ∀ y ∈ ys, FewE y := few_len (by rw [← h5, List.length_take]; omega)
    obtain ⟨_, h7⟩ := encEs_pre hn (by omega) (fun x hx1 => ⟨hx x hx1, few_len hlen x hx1⟩) (fun y hy => ⟨h2 y hy, hfew y hy⟩) h6
    have h8 := congrArg List.length h7
    rw [List.length_drop, List.length_nil] at h8
    omega
/-- a proper beginning of an integer's encoding isn't read -/
theorem rdInt_cut {z : Int} {k : Nat} (hz : OkI z) (hk : k < (enc z).length) : rdInt ((enc z).take k) 0 = none := by
  cases h : rdInt ((enc z).take k) 0 with
  | none => rfl
  | some r =>
    exfalso
    obtain ⟨y, q⟩ := r
    obtain ⟨h1, h2⟩ := rdInt_seg (Nat.zero_le _) h
    have h3 : (enc z).take k = enc y ++ ((enc z).take k).drop q := by simpa using h1.1
    have h6 : enc y ++ (((enc z).take k).drop q ++ (enc z).drop k) = enc z ++ [] := by rw [← List.append_assoc, ← h3, List.take_append_drop, List.append_nil]
    obtain ⟨_, h7⟩ := enc_pre h2 hz h6
    have h8 := congrArg List.length h7
    rw [List.length_append, List.length_drop (l := enc z), List.length_nil] at h8
    omega
end Go.Proofs.Ytgfopepopcacmaa
