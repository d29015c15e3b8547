/-
  Recovering twice is recovering once: mathematics.
-/
import Derived.Test.YtfdkmncjcehdkaaURcv
namespace Go.Proofs.Ytfdkmncjcehdkaa

def gt (a : List UInt8) (j : Nat) : UInt8 := a.getD j 0
theorem gt_sized (a : List UInt8) (n j : Nat) : gt (sized a n) j = if j < n then gt a j else 0 := by
  unfold gt sized
  split
  · rename_i h
    rw [List.getD_eq_getElem?_getD, List.getElem?_take]
    split <;> rfl
  · rename_i h
    rw [List.getD_eq_getElem?_getD, List.getD_eq_getElem?_getD]
    by_cases hj : j < a.length
    · rw [List.getElem?_append_left hj, if_pos (by omega)]
    · rw [List.getElem?_append_right (by omega), List.getElem?_replicate, List.getElem?_eq_none (by omega)]
      split <;> split <;> rfl
theorem gt_put {a x : List UInt8} {o : Nat} (h : o + x.length ≤ a.length) (j : Nat) : gt (putAt a o x) j = if o ≤ j ∧ j < o + x.length then x.getD (j - o) 0 else gt a j := by
  unfold gt putAt
  simp only [List.getD_eq_getElem?_getD]
  have h1 : (a.take o).length = o := by rw [List.length_take]; omega
  by_cases hj : j < o
  · rw [if_neg (by omega), List.append_assoc, List.getElem?_append_left (by omega), List.getElem?_take, if_pos hj]
  · by_cases hj2 : j < o + x.length
    · rw [if_pos ⟨by omega, hj2⟩, List.append_assoc, List.getElem?_append_right (by omega), h1, List.getElem?_append_left (by omega)]
    · rw [if_neg (by omega), List.getElem?_append_right (by rw [List.length_append]; omega), List.length_append, h1, List.getElem?_drop]
      congr 2
      omega
theorem gt_takeR {a : List UInt8} {r : RT} (h : okR r = true) (j : Nat) : gt (takeR a r) j = if r.1.toNat ≤ j ∧ j < r.1.toNat + r.2.2.length then r.2.2.getD (j - r.1.toNat) 0 else if j < r.2.1.toNat then gt a j else 0 := by
  have hs := okR_spec h
  unfold takeR
  rw [gt_put (by rw [sized_len]; omega), gt_sized]
/-- a byte of the result is fixed, or the byte that was there -/
theorem gt_all : ∀ (rs : List RT), (∀ r ∈ rs, okR r = true) → ∀ j, (∃ c, ∀ a, gt (takeAll a rs) j = c) ∨ (∀ a, gt (takeAll a rs) j = gt a j)
  | [], _, j => .inr fun _ => rfl
  | r :: rs, h, j => by
    have hr := h r (by simp)
    rcases gt_all rs (fun q hq => h q (by simp [hq])) j with ⟨c, hc⟩ | hc
    · exact .inl ⟨c, fun a => hc (takeR a r)⟩
    · by_cases h1 : r.1.toNat ≤ j ∧ j < r.1.toNat + r.2.2.length
      · exact .inl ⟨r.2.2.getD (j - r.1.toNat) 0, fun a => by
          show gt (takeAll (takeR a r) rs) j = _
          rw [hc, gt_takeR hr, if_pos h1]⟩
      · by_cases h2 : j < r.2.1.toNat
        · exact .inr fun a => by
            show gt (takeAll (takeR a r) rs) j = _
            rw [hc, gt_takeR hr, if_neg h1, if_pos h2]
        · exact .inl ⟨0, fun a => by
            show gt (takeAll (takeR a r) rs) j = _
            rw [hc, gt_takeR hr, if_neg h1, if_neg h2]⟩
theorem ext_gt {a b : List UInt8} (hl : a.length = b.length) (h : ∀ j, gt a j = gt b j) : a = b := by
  apply List.ext_getElem hl
  intro i h1 h2
  have := h i
  unfold gt at this
  rw [List.getD_eq_getElem?_getD, List.getD_eq_getElem?_getD, List.getElem?_eq_getElem h1, List.getElem?_eq_getElem h2] at this
  exact this
theorem takeAll_len : ∀ (rs : List RT) (a b : List UInt8), (∀ r ∈ rs, okR r = true) → rs ≠ [] → (takeAll a rs).length = (takeAll b rs).length
  | [], _, _, _, h => absurd rfl h
  | [r], a, b, h, _ => by
    show (takeR a r).length = (takeR b r).length
    rw [takeR_len (h r (by simp)), takeR_len (h r (by simp))]
  | r :: q :: rs, a, b, h, _ => takeAll_len (q :: rs) (takeR a r) (takeR b r) (fun x hx => h x (by simp only [List.mem_cons] at hx ⊢; exact .inr hx)) (by simp)
theorem takeAll_twice (rs : List RT) (a : List UInt8) (h : ∀ r ∈ rs, okR r = true) : takeAll (takeAll a rs) rs = takeAll a rs := by
  by_cases hn : rs = []
  · subst hn; rfl
  · refine ext_gt (takeAll_len rs _ _ h hn) fun j => ?_
    rcases gt_all rs h j with ⟨c, hc⟩ | hc
    · rw [hc, hc]
    · rw [hc]
theorem okAll_spec {rs : List RT} (h : okAll rs = true) : ∀ r ∈ rs.reverse, okR r = true := by
  intro r hr
  unfold okAll at h
  rw [List.all_eq_true] at h
  exact h r (by simpa using hr)
theorem rec_twice {rs : List RT} (a : List UInt8) (h : okAll rs = true) : recL (recL a rs) rs = recL a rs := takeAll_twice _ _ (okAll_spec h)
end Go.Proofs.Ytfdkmncjcehdkaa
