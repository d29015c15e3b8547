/-
  Plain mathematics: what has been read to the end is the encoding of what was read; no walk.
-/
import Derived.Test.YtgfopepopcacmaaEffE
namespace Go.Proofs.Ytgfopepopcacmaa
open Go.RowKit

/-- from p to q there stands l -/
def Seg (bs : List UInt8) (p q : Nat) (l : List UInt8) : Prop := bs.drop p = l ++ bs.drop q ∧ q = p + l.length ∧ q ≤ bs.length
theorem Seg.nil {bs : List UInt8} {p : Nat} (h : p ≤ bs.length) : Seg bs p p [] := ⟨rfl, rfl, h⟩
theorem Seg.app {bs : List UInt8} {p q r : Nat} {l m : List UInt8} (h : Seg bs p q l) (k : Seg bs q r m) : Seg bs p r (l ++ m) :=
  ⟨by rw [h.1, k.1, List.append_assoc], by rw [k.2.1, h.2.1, List.length_append, Nat.add_assoc], k.2.2⟩
theorem Seg.all {bs : List UInt8} {q : Nat} {l : List UInt8} (h : Seg bs 0 q l) (hq : q = bs.length) : bs = l := by
  have := h.1
  rw [hq, List.drop_length, List.append_nil, List.drop_zero] at this
  exact this
theorem Seg.le {bs : List UInt8} {p q : Nat} {l : List UInt8} (h : Seg bs p q l) : q ≤ bs.length := h.2.2

theorem rdInt_seg {bs : List UInt8} {p : Nat} {z : Int} {q : Nat} (hp : p ≤ bs.length) (h : rdInt bs p = some (z, q)) : Seg bs p q (enc z) ∧ OkI z := by
  have hr := rdInt_range h
  unfold rdInt at h
  split at h
  · cases h
  · rename_i h0
    simp only [Option.some.injEq, Prod.mk.injEq] at h
    obtain ⟨h1, h2, h3, h4⟩ := num_canon (bs := bs.drop p) (u := (num (bs.drop p)).1) (k := (num (bs.drop p)).2) rfl h0
    have he : enc z = encU (num (bs.drop p)).1 := by unfold enc; rw [← h.1, zz_unzz]
    rw [List.length_drop] at h4
    refine ⟨⟨?_, by rw [he, ← h2]; exact h.2.symm, by omega⟩, hr⟩
    rw [he, ← h3, ← h.2, ← List.drop_drop, List.take_append_drop]
theorem rdBounded_seg {least most : Int} {bs : List UInt8} {p : Nat} {z : Int} {q : Nat} (hp : p ≤ bs.length) (h : rdBounded least most bs p = some (z, q)) : Seg bs p q (enc z) ∧ least ≤ z ∧ z ≤ most := by
  have hr := rdBounded_range h
  unfold rdBounded at h
  split at h
  · cases h
  · rename_i n' q' hi
    split at h
    · cases h
    · simp only [Option.some.injEq, Prod.mk.injEq] at h
      rw [← h.1, ← h.2]
      rw [← h.1] at hr
      exact ⟨(rdInt_seg hp hi).1, hr⟩
theorem rdBytes_seg {most : Int} {bs : List UInt8} {p : Nat} {l : List UInt8} {q : Nat} (hp : p ≤ bs.length) (h : rdBytes most bs p = some (l, q)) : Seg bs p q (encS l) ∧ (l.length : Int) ≤ most := by
  unfold rdBytes at h
  split at h
  · cases h
  · rename_i n q1 hb
    obtain ⟨h1, h2, h3⟩ := rdBounded_seg hp hb
    split at h
    · cases h
    · rename_i hle
      simp only [Option.some.injEq, Prod.mk.injEq] at h
      obtain ⟨rfl, rfl⟩ := h
      have hq := h1.le
      have hl : ((bs.drop q1).take n.toNat).length = n.toNat := by simp; omega
      have e : encS ((bs.drop q1).take n.toNat) = enc n ++ (bs.drop q1).take n.toNat := by unfold encS; rw [hl, Int.toNat_of_nonneg h2]
      rw [e]
      refine ⟨h1.app ⟨?_, by rw [hl], by omega⟩, by rw [hl, Int.toNat_of_nonneg h2]; exact h3⟩
      rw [← List.drop_drop, List.take_append_drop]
theorem rdIs_seg : ∀ {n : Nat} {bs : List UInt8} {p : Nat} {zs : List Int} {q : Nat}, p ≤ bs.length → rdIs n bs p = some (zs, q) → Seg bs p q (encL zs) ∧ zs.length = n ∧ ∀ z ∈ zs, OkI z := by
  intro n
  induction n with
  | zero =>
    intro bs p zs q hp h
    simp only [rdIs, Option.some.injEq, Prod.mk.injEq] at h
    obtain ⟨rfl, rfl⟩ := h
    exact ⟨Seg.nil hp, rfl, by simp⟩
  | succ n ih =>
    intro bs p zs q hp h
    rw [rdIs] at h
    cases hr : rdIs n bs p with
    | none => rw [hr] at h; cases h
    | some r =>
      obtain ⟨ys, q1⟩ := r
      rw [hr] at h
      simp only [Option.map_eq_some_iff, Prod.mk.injEq] at h
      obtain ⟨⟨z, q2⟩, hz, rfl, rfl⟩ := h
      obtain ⟨h1, h2, h3⟩ := ih hp hr
      obtain ⟨k1, k2⟩ := rdInt_seg h1.le hz
      refine ⟨?_, by simp [h2], fun y hy => ?_⟩
      · have e : encL (ys ++ [z]) = encL ys ++ enc z := by simp [encL]
        rw [e]
        exact h1.app k1
      · rcases List.mem_append.1 hy with hy | hy
        · exact h3 y hy
        · rw [List.mem_singleton.1 hy]; exact k2
theorem encL_app (a b : List Int) : encL (a ++ b) = encL a ++ encL b := by simp [encL]

def OkM (n : Nat) (x : List Int × List UInt8) : Prop := x.1.length = n ∧ (∀ z ∈ x.1, OkI z) ∧ x.2.length ≤ 1536
theorem rdM_seg {bs : List UInt8} {p : Nat} {x : List Int × List UInt8} {q : Nat} (hp : p ≤ bs.length) (h : rdM bs p = some (x, q)) : Seg bs p q (encMM x) ∧ OkM 8 x := by
  unfold rdM at h
  split at h
  · cases h
  · rename_i z1 q1 h1
    split at h
    · cases h
    · rename_i z2 q2 h2
      split at h
      · cases h
      · rename_i l q3 h3
        simp only [Option.some.injEq, Prod.mk.injEq] at h
        obtain ⟨rfl, rfl⟩ := h
        obtain ⟨a1, a2, a3⟩ := rdIs_seg hp h1
        obtain ⟨b1, b2, b3⟩ := rdIs_seg a1.le h2
        obtain ⟨c1, c2⟩ := rdBytes_seg b1.le h3
        refine ⟨?_, by simp [a2, b2], fun z hz => ?_, by simp only; omega⟩
        · unfold encMM
          rw [encL_app]
          exact (a1.app b1).app c1
        · rcases List.mem_append.1 hz with hz | hz
          · exact a3 z hz
          · exact b3 z hz
theorem rdX_seg {bs : List UInt8} {p : Nat} {x : List Int × List UInt8} {q : Nat} (hp : p ≤ bs.length) (h : rdX bs p = some (x, q)) : Seg bs p q (encMM x) ∧ OkM 7 x := by
  unfold rdX at h
  split at h
  · cases h
  · rename_i z1 q1 h1
    split at h
    · cases h
    · rename_i z2 q2 h2
      split at h
      · cases h
      · rename_i l q3 h3
        simp only [Option.some.injEq, Prod.mk.injEq] at h
        obtain ⟨rfl, rfl⟩ := h
        obtain ⟨a1, a2, a3⟩ := rdIs_seg hp h1
        obtain ⟨b1, b2, b3⟩ := rdIs_seg a1.le h2
        obtain ⟨c1, c2⟩ := rdBytes_seg b1.le h3
        refine ⟨?_, by simp [a2, b2], fun z hz => ?_, by simp only; omega⟩
        · unfold encMM
          rw [encL_app]
          exact (a1.app b1).app c1
        · rcases List.mem_append.1 hz with hz | hz
          · exact a3 z hz
          · exact b3 z hz
theorem rdE_seg {bs : List UInt8} {p : Nat} {x : EffT} {q : Nat} (hp : p ≤ bs.length) (h : rdE bs p = some (x, q)) : Seg bs p q (encEE x) ∧ OkE x := by
  unfold rdE at h
  split at h
  · cases h
  · rename_i z1 q1 h1
    split at h
    · cases h
    · rename_i m q2 h2
      split at h
      · cases h
      · rename_i l q3 h3
        simp only [Option.some.injEq, Prod.mk.injEq] at h
        obtain ⟨rfl, rfl⟩ := h
        obtain ⟨a1, a2, a3⟩ := rdIs_seg hp h1
        obtain ⟨b1, b2, b3, _⟩ := rdM_seg a1.le h2
        obtain ⟨c1, c2⟩ := rdBytes_seg b1.le h3
        exact ⟨(a1.app b1).app c1, a2, b2, a3, b3⟩
theorem rdNE_seg : ∀ {n : Nat} {bs : List UInt8} {p : Nat} {xs : List EffT} {q : Nat}, p ≤ bs.length → rdNE bs n p = some (xs, q) → Seg bs p q (xs.flatMap encEE) ∧ xs.length = n ∧ ∀ x ∈ xs, OkE x := by
  intro n
  induction n with
  | zero =>
    intro bs p xs q hp h
    simp only [rdNE, Option.some.injEq, Prod.mk.injEq] at h
    obtain ⟨rfl, rfl⟩ := h
    exact ⟨Seg.nil hp, rfl, by simp⟩
  | succ n ih =>
    intro bs p xs q hp h
    rw [rdNE] at h
    cases hr : rdE bs p with
    | none => rw [hr] at h; cases h
    | some r =>
      obtain ⟨x, q1⟩ := r
      rw [hr] at h
      simp only [Option.map_eq_some_iff, Prod.mk.injEq] at h
      obtain ⟨⟨ys, q2⟩, hy, rfl, rfl⟩ := h
      obtain ⟨h1, h2⟩ := rdE_seg hp hr
      obtain ⟨k1, k2, k3⟩ := ih h1.le hy
      refine ⟨by rw [List.flatMap_cons]; exact h1.app k1, by simp [k2], fun y hy => ?_⟩
      rcases List.mem_cons.1 hy with rfl | hy
      · exact h2
      · exact k3 y hy
theorem rdLE_seg {most : Int} {bs : List UInt8} {p : Nat} {xs : List EffT} {q : Nat} (hp : p ≤ bs.length) (h : rdLE most bs p = some (xs, q)) : Seg bs p q (encEs xs) ∧ (∀ x ∈ xs, OkE x) ∧ (xs.length : Int) ≤ most := by
  unfold rdLE at h
  split at h
  · cases h
  · rename_i n q1 hb
    obtain ⟨h1, h2, h3⟩ := rdBounded_seg hp hb
    obtain ⟨k1, k2, k3⟩ := rdNE_seg h1.le h
    have e : (xs.length : Int) = n := by rw [k2, Int.toNat_of_nonneg h2]
    refine ⟨?_, k3, by rw [e]; exact h3⟩
    unfold encEs
    rw [e]
    exact h1.app k1

theorem rdN_strs : ∀ {n : Nat} {bs : List UInt8} {p : Nat} {vs : List Value} {q : Nat}, p ≤ bs.length → rdN (oneStr bs) n p = some (vs, q) → ∃ ss : List ByteArray, vs = svs ss ∧ ss.length = n ∧ Seg bs p q (encSL ss) := by
  intro n
  induction n with
  | zero =>
    intro bs p vs q hp h
    simp only [rdN, Option.some.injEq, Prod.mk.injEq] at h
    obtain ⟨rfl, rfl⟩ := h
    exact ⟨[], rfl, rfl, Seg.nil hp⟩
  | succ n ih =>
    intro bs p vs q hp h
    rw [rdN] at h
    cases hr : oneStr bs p with
    | none => rw [hr] at h; cases h
    | some r =>
      obtain ⟨x, q1⟩ := r
      rw [hr] at h
      simp only [Option.map_eq_some_iff, Prod.mk.injEq] at h
      obtain ⟨⟨ys, q2⟩, hy, rfl, rfl⟩ := h
      unfold oneStr strO at hr
      simp only [Option.map_eq_some_iff, Prod.mk.injEq] at hr
      obtain ⟨⟨l, q3⟩, hl, rfl, rfl⟩ := hr
      obtain ⟨h1, _⟩ := rdBytes_seg hp hl
      obtain ⟨ss, rfl, h2, h3⟩ := ih h1.le hy
      refine ⟨str l :: ss, rfl, by simp [h2], ?_⟩
      have e : encSL (str l :: ss) = encS l ++ encSL ss := by simp [encSL, bl, str]
      rw [e]
      exact h1.app h3
theorem rdList_strs_seg {most : Int} {bs : List UInt8} {p : Nat} {vs : List Value} {q : Nat} (hp : p ≤ bs.length) (h : rdList (oneStr bs) most bs p = some (vs, q)) : ∃ ss : List ByteArray, vs = svs ss ∧ (ss.length : Int) ≤ most ∧ Seg bs p q (encSs ss) := by
  unfold rdList at h
  split at h
  · cases h
  · rename_i n q1 hb
    obtain ⟨h1, h2, h3⟩ := rdBounded_seg hp hb
    obtain ⟨ss, rfl, k2, k3⟩ := rdN_strs h1.le h
    have e : (ss.length : Int) = n := by rw [k2, Int.toNat_of_nonneg h2]
    refine ⟨ss, rfl, by rw [e]; exact h3, ?_⟩
    unfold encSs
    rw [e]
    exact h1.app k3
theorem whole_seg {α : Type} {rd : Option (α × Nat)} {bs : List UInt8} {x : α} (h : wholeO rd bs.length = some x) : rd = some (x, bs.length) := by
  unfold wholeO at h
  cases rd with
  | none => cases h
  | some r =>
    obtain ⟨y, q⟩ := r
    simp only at h
    split at h
    · rename_i e
      cases h
      rw [e]
    · cases h
end Go.Proofs.Ytgfopepopcacmaa
