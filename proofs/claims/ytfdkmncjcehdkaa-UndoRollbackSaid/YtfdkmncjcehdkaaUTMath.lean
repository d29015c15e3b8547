/-
  What a log's records mean: mathematics.
-/
import Derived.Test.YtfdkmncjcehdkaaURRcv
namespace Go.Proofs.Ytfdkmncjcehdkaa

theorem gt_sub {l : List UInt8} {a b : Nat} (_hb : b ≤ l.length) (j : Nat) : (sub l a b).getD j 0 = if j < b - a then gt l (a + j) else 0 := by
  unfold sub gt
  simp only [List.getD_eq_getElem?_getD, List.getElem?_take]
  split
  · rw [List.getElem?_drop]
  · rfl
/-- the record of a write, and of a resizing -/
def wrRec (img : List UInt8) (o n : Nat) : RT := ((o : Int), (img.length : Int), sub img o (o + n))
def szRec (img : List UInt8) (n : Nat) : RT := (((min n img.length : Nat) : Int), (img.length : Int), sub img (min n img.length) img.length)
theorem wrRec_ok {img : List UInt8} {o n : Nat} (h : o + n ≤ img.length) (hi : img.length ≤ 24000) : okR (wrRec img o n) = true := by
  unfold okR wrRec
  rw [sub_len h, decide_eq_true_eq]
  simp only
  omega
theorem szRec_ok {img : List UInt8} {n : Nat} (hi : img.length ≤ 24000) : okR (szRec img n) = true := by
  unfold okR szRec
  rw [sub_len (Nat.le_refl _), decide_eq_true_eq]
  simp only
  omega
/-- some bytes of the range may be any -/
theorem torn_back {img torn : List UInt8} {o n : Nat} (h : o + n ≤ img.length) (hi : img.length ≤ 24000) (_hl : torn.length = img.length) (ht : ∀ j, ¬ (o ≤ j ∧ j < o + n) → gt torn j = gt img j) : takeR torn (wrRec img o n) = img := by
  have hok := wrRec_ok h hi
  refine ext_gt ?_ fun j => ?_
  · rw [takeR_len hok]; simp [wrRec]
  · rw [gt_takeR hok]
    have e1 : (wrRec img o n).1.toNat = o := Int.toNat_natCast o
    have e2 : (wrRec img o n).2.2.length = n := by show (sub img o (o + n)).length = n; rw [sub_len h]; omega
    have e3 : (wrRec img o n).2.1.toNat = img.length := Int.toNat_natCast _
    by_cases hj : o ≤ j ∧ j < o + n
    · rw [if_pos (by rw [e1, e2]; exact hj), e1]
      show (sub img o (o + n)).getD (j - o) 0 = _
      rw [gt_sub h, if_pos (by omega), show o + (j - o) = j by omega]
    · rw [if_neg (by rw [e1, e2]; exact hj), ht j hj]
      split
      · rfl
      · rename_i h2
        rw [e3] at h2
        unfold gt; rw [List.getD_eq_getElem?_getD, List.getElem?_eq_none (by omega)]; rfl
theorem size_back {img : List UInt8} {n : Nat} (hi : img.length ≤ 24000) : takeR (sized img n) (szRec img n) = img := by
  have hok := szRec_ok (n := n) hi
  refine ext_gt ?_ fun j => ?_
  · rw [takeR_len hok]; simp [szRec]
  · rw [gt_takeR hok]
    have e1 : (szRec img n).1.toNat = min n img.length := Int.toNat_natCast _
    have e2 : (szRec img n).2.2.length = img.length - min n img.length := sub_len (Nat.le_refl _)
    have e3 : (szRec img n).2.1.toNat = img.length := Int.toNat_natCast _
    by_cases hj : min n img.length ≤ j ∧ j < min n img.length + (img.length - min n img.length)
    · rw [if_pos (by rw [e1, e2]; exact hj), e1]
      show (sub img (min n img.length) img.length).getD (j - min n img.length) 0 = _
      rw [gt_sub (Nat.le_refl _), if_pos (by omega), show min n img.length + (j - min n img.length) = j by omega]
    · rw [if_neg (by rw [e1, e2]; exact hj), gt_sized]
      by_cases h2 : j < img.length
      · rw [if_pos (by rw [e3]; exact h2), if_pos (by omega)]
      · rw [if_neg (by rw [e3]; exact h2)]; unfold gt; rw [List.getD_eq_getElem?_getD, List.getElem?_eq_none (by omega)]; rfl
theorem put_gt {img d : List UInt8} {o : Nat} (h : o + d.length ≤ img.length) (j : Nat) (hj : ¬ (o ≤ j ∧ j < o + d.length)) : gt (putAt img o d) j = gt img j := by
  rw [gt_put h, if_neg hj]
theorem recL_snoc (a : List UInt8) (rs : List RT) (r : RT) : recL a (rs ++ [r]) = recL (takeR a r) rs := by
  unfold recL
  rw [List.reverse_append]
  rfl
theorem okAll_snoc {rs : List RT} {r : RT} (h : okAll rs = true) (hr : okR r = true) : okAll (rs ++ [r]) = true := by
  unfold okAll at *
  rw [List.all_append, h]
  simp [hr]
/-- a write or a resizing: the error, the image and the record -/
def wrS (img : List UInt8) (s : RT) : Option (List UInt8 × RT) :=
  if s.1 = 1 then (if s.2.1 < 0 ∨ (img.length : Int) - s.2.2.length < s.2.1 then none else some (putAt img s.2.1.toNat s.2.2, wrRec img s.2.1.toNat s.2.2.length))
  else (if s.2.1 < 0 ∨ 24000 < s.2.1 then none else some (sized img s.2.1.toNat, szRec img s.2.1.toNat))
/-- what the records of a log say -/
def LInv (b img : List UInt8) (rs : List RT) : Prop := recL img rs = b ∧ okAll rs = true ∧ img.length ≤ 24000
theorem LInv.step {b img img' : List UInt8} {rs : List RT} {r s : RT} (h : LInv b img rs) (hs : wrS img s = some (img', r)) : LInv b img' (rs ++ [r]) ∧ takeR img' r = img := by
  obtain ⟨h1, h2, h3⟩ := h
  unfold wrS at hs
  split at hs
  · split at hs
    · cases hs
    · rename_i hc
      simp only [Option.some.injEq, Prod.mk.injEq] at hs
      obtain ⟨rfl, rfl⟩ := hs
      have ho : s.2.1.toNat + s.2.2.length ≤ img.length := by omega
      have hb := torn_back ho h3 (putAt_len ho) (fun j hj => put_gt ho j hj)
      exact ⟨⟨by rw [recL_snoc, hb, h1], okAll_snoc h2 (wrRec_ok ho h3), by rw [putAt_len ho]; exact h3⟩, hb⟩
  · split at hs
    · cases hs
    · simp only [Option.some.injEq, Prod.mk.injEq] at hs
      obtain ⟨rfl, rfl⟩ := hs
      have hb := size_back (n := s.2.1.toNat) h3
      exact ⟨⟨by rw [recL_snoc, hb, h1], okAll_snoc h2 (szRec_ok h3), by rw [sized_len]; omega⟩, hb⟩
end Go.Proofs.Ytfdkmncjcehdkaa
