/-
  Plain mathematics: what is read of an encoding is what was encoded, if it is short enough; no walk.
-/
import Derived.Test.YtgfopepopcacmaaPreMath
import Derived.Test.YtgfopepopcacmaaCanon
namespace Go.Proofs.Ytgfopepopcacmaa
open Go.RowKit

/-- at p stands a, and then something -/
def At (bs : List UInt8) (p : Nat) (a : List UInt8) : Prop := ∃ t, bs.drop p = a ++ t
theorem At.app {bs : List UInt8} {p : Nat} {a b : List UInt8} (h : At bs p (a ++ b)) : At bs p a ∧ At bs (p + a.length) b := by
  obtain ⟨t, h⟩ := h
  rw [List.append_assoc] at h
  exact ⟨⟨_, h⟩, ⟨t, by rw [← List.drop_drop, h, List.drop_left]⟩⟩
theorem gInt {bs : List UInt8} {p : Nat} {z : Int} (hz : OkI z) (h : At bs p (enc z)) : rdInt bs p = some (z, p + (enc z).length) := by
  obtain ⟨t, h⟩ := h
  unfold rdInt
  have e : num (bs.drop p) = (zz z, (encU (zz z)).length) := by rw [h]; exact num_enc (zz_lt hz.1 hz.2) t
  have hl := (encU_len (zz z)).1
  rw [e]
  simp only
  rw [if_neg (by omega), unzz_zz]
  rfl
theorem gBounded {bs : List UInt8} {p : Nat} {z least most : Int} (hz : OkI z) (hl : least ≤ z) (hm : z ≤ most) (h : At bs p (enc z)) : rdBounded least most bs p = some (z, p + (enc z).length) := by
  unfold rdBounded
  rw [gInt hz h]
  simp only
  rw [if_neg (by omega)]
theorem gBytes {bs l : List UInt8} {p : Nat} {most : Int} (hl : l.length ≤ 1099511627776) (hm : (l.length : Int) ≤ most) (h : At bs p (encS l)) : rdBytes most bs p = some (l, p + (encS l).length) := by
  have h1 := h
  unfold encS at h1
  obtain ⟨h2, t, h3⟩ := h1.app
  unfold rdBytes
  rw [gBounded ⟨by omega, by omega⟩ (by omega) hm h2]
  simp only [Int.toNat_natCast]
  have hlen := congrArg List.length h3
  rw [List.length_drop, List.length_append] at hlen
  rw [if_neg (by omega), h3, List.take_left]
  unfold encS
  rw [List.length_append, Nat.add_assoc]
theorem gIs : ∀ {n : Nat} {bs : List UInt8} {p : Nat} {zs : List Int}, zs.length = n → (∀ z ∈ zs, OkI z) → At bs p (encL zs) → rdIs n bs p = some (zs, p + (encL zs).length) := by
  intro n
  induction n with
  | zero =>
    intro bs p zs hn _ _
    obtain rfl := List.eq_nil_of_length_eq_zero hn
    simp [rdIs, encL]
  | succ n ih =>
    intro bs p zs hn hz h
    obtain ⟨ys, y, rfl⟩ : ∃ ys y, zs = ys ++ [y] := by
      rcases List.eq_nil_or_concat zs with rfl | ⟨ys, y, rfl⟩
      · simp at hn
      · exact ⟨ys, y, by simp⟩
    have e : encL (ys ++ [y]) = encL ys ++ enc y := by simp [encL]
    rw [e] at h ⊢
    obtain ⟨h1, h2⟩ := h.app
    rw [rdIs, ih (zs := ys) (by simpa using hn) (fun z hm => hz z (by simp [hm])) h1]
    simp only
    rw [gInt (hz y (by simp)) h2]
    simp only [Option.map_some, List.length_append, Nat.add_assoc]
theorem split_at {n k : Nat} {zs : List Int} (h : zs.length = n + k) : ∃ a b : List Int, a.length = n ∧ b.length = k ∧ zs = a ++ b :=
  ⟨zs.take n, zs.drop n, by rw [List.length_take]; omega, by rw [List.length_drop]; omega, (List.take_append_drop n zs).symm⟩
theorem gM {bs : List UInt8} {p : Nat} {m : List Int × List UInt8} (hm : m.1.length = 8) (hz : ∀ z ∈ m.1, OkI z) (hl : m.2.length ≤ 1536) (h : At bs p (encMM m)) : rdM bs p = some (m, p + (encMM m).length) := by
  obtain ⟨zs, l⟩ := m
  simp only at hm hz hl
  obtain ⟨a, b, ha, hb, rfl⟩ := split_at (n := 4) (k := 4) hm
  unfold encMM at h ⊢
  simp only [encL_app] at h ⊢
  obtain ⟨h1, h3⟩ := h.app
  obtain ⟨h1, h2⟩ := h1.app
  rw [List.length_append, ← Nat.add_assoc] at h3
  unfold rdM
  rw [gIs ha (fun z hz1 => hz z (by simp [hz1])) h1]
  simp only
  rw [gIs hb (fun z hz1 => hz z (by simp [hz1])) h2]
  simp only
  rw [gBytes (by omega) (by omega) h3]
  simp only [List.length_append, Nat.add_assoc]
theorem gX {bs : List UInt8} {p : Nat} {m : List Int × List UInt8} (hm : m.1.length = 7) (hz : ∀ z ∈ m.1, OkI z) (hl : m.2.length ≤ 1536) (h : At bs p (encMM m)) : rdX bs p = some (m, p + (encMM m).length) := by
  obtain ⟨zs, l⟩ := m
  simp only at hm hz hl
  obtain ⟨a, b, ha, hb, rfl⟩ := split_at (n := 3) (k := 4) hm
  unfold encMM at h ⊢
  simp only [encL_app] at h ⊢
  obtain ⟨h1, h3⟩ := h.app
  obtain ⟨h1, h2⟩ := h1.app
  rw [List.length_append, ← Nat.add_assoc] at h3
  unfold rdX
  rw [gIs ha (fun z hz1 => hz z (by simp [hz1])) h1]
  simp only
  rw [gIs hb (fun z hz1 => hz z (by simp [hz1])) h2]
  simp only
  rw [gBytes (by omega) (by omega) h3]
  simp only [List.length_append, Nat.add_assoc]
/-- data of an effect that can be read -/
def ShE (x : EffT) : Prop := x.2.1.2.length ≤ 1536 ∧ x.2.2.length ≤ 1536
theorem gE {bs : List UInt8} {p : Nat} {x : EffT} (hx : OkE x) (hs : ShE x) (h : At bs p (encEE x)) : rdE bs p = some (x, p + (encEE x).length) := by
  obtain ⟨zs, m, l⟩ := x
  obtain ⟨h5, h8, hz5, hz8⟩ := hx
  obtain ⟨s1, s2⟩ := hs
  simp only at h5 h8 hz5 hz8 s1 s2
  unfold encEE at h ⊢
  simp only at h ⊢
  obtain ⟨h1, h3⟩ := h.app
  obtain ⟨h1, h2⟩ := h1.app
  rw [List.length_append, ← Nat.add_assoc] at h3
  unfold rdE
  rw [gIs h5 hz5 h1]
  simp only
  rw [gM h8 hz8 s1 h2]
  simp only
  rw [gBytes (by omega) (by omega) h3]
  simp only [List.length_append, Nat.add_assoc]
theorem gNE : ∀ {xs : List EffT} {bs : List UInt8} {p : Nat}, (∀ x ∈ xs, OkE x ∧ ShE x) → At bs p (xs.flatMap encEE) → rdNE bs xs.length p = some (xs, p + (xs.flatMap encEE).length) := by
  intro xs
  induction xs with
  | nil => intro bs p _ _; simp [rdNE]
  | cons x xs ih =>
    intro bs p hx h
    rw [List.flatMap_cons] at h ⊢
    obtain ⟨h1, h2⟩ := h.app
    rw [List.length_cons, rdNE, gE (hx x (by simp)).1 (hx x (by simp)).2 h1]
    simp only
    rw [ih (fun y hy => hx y (by simp [hy])) h2]
    simp only [Option.map_some, List.length_append, Nat.add_assoc]
theorem at_self (l : List UInt8) : At l 0 l := ⟨[], by simp⟩
theorem whole_self {α : Type} {rd : Option (α × Nat)} {x : α} {n : Nat} (h : rd = some (x, 0 + n)) : wholeO rd n = some x := by
  rw [h]
  unfold wholeO
  simp
theorem readM {m : List Int × List UInt8} (hm : m.1.length = 8) (hz : ∀ z ∈ m.1, OkI z) (hl : m.2.length ≤ 1099511627776) : wholeO (rdM (encMM m) 0) (encMM m).length = if m.2.length ≤ 1536 then some m else none := by
  split
  · rename_i h
    exact whole_self (gM hm hz h (at_self _))
  · rename_i h
    cases ho : wholeO (rdM (encMM m) 0) (encMM m).length with
    | none => rfl
    | some x =>
      exfalso
      obtain ⟨h1, h2, h3, h4⟩ := rdM_seg (Nat.zero_le _) (whole_seg ho)
      have h5 : encMM m ++ [] = encMM x ++ [] := by rw [List.append_nil, List.append_nil]; exact h1.all rfl
      obtain ⟨rfl, _⟩ := encMM_pre (by rw [h2, hm]) hz h3 hl (by omega) h5
      exact h h4
theorem readX {m : List Int × List UInt8} (hm : m.1.length = 7) (hz : ∀ z ∈ m.1, OkI z) (hl : m.2.length ≤ 1099511627776) : wholeO (rdX (encMM m) 0) (encMM m).length = if m.2.length ≤ 1536 then some m else none := by
  split
  · rename_i h
    exact whole_self (gX hm hz h (at_self _))
  · rename_i h
    cases ho : wholeO (rdX (encMM m) 0) (encMM m).length with
    | none => rfl
    | some x =>
      exfalso
      obtain ⟨h1, h2, h3, h4⟩ := rdX_seg (Nat.zero_le _) (whole_seg ho)
      have h5 : encMM m ++ [] = encMM x ++ [] := by rw [List.append_nil, List.append_nil]; exact h1.all rfl
      obtain ⟨rfl, _⟩ := encMM_pre (by rw [h2, hm]) hz h3 hl (by omega) h5
      exact h h4
theorem rdE_sh {bs : List UInt8} {p : Nat} {x : EffT} {q : Nat} (hp : p ≤ bs.length) (h : rdE bs p = some (x, q)) : ShE x := by
  unfold rdE at h
  split at h
  · cases h
  · rename_i z1 q1 h1
    split at h
    · cases h
    · rename_i m q2 h2
      split at h
      · cases h
      · rename_i l q3 h3
        simp only [Option.some.injEq, Prod.mk.injEq] at h
        obtain ⟨rfl, rfl⟩ := h
        have a1 := (rdIs_seg hp h1).1
        obtain ⟨b1, _, _, b4⟩ := rdM_seg a1.le h2
        have c2 := (rdBytes_seg b1.le h3).2
        exact ⟨b4, by simp only; omega⟩
theorem rdNE_sh : ∀ {n : Nat} {bs : List UInt8} {p : Nat} {xs : List EffT} {q : Nat}, p ≤ bs.length → rdNE bs n p = some (xs, q) → ∀ x ∈ xs, ShE x := by
  intro n
  induction n with
  | zero =>
    intro bs p xs q hp h
    simp only [rdNE, Option.some.injEq, Prod.mk.injEq] at h
    obtain ⟨rfl, rfl⟩ := h
    intro x hx
    cases hx
  | succ n ih =>
    intro bs p xs q hp h
    rw [rdNE] at h
    cases hr : rdE bs p with
    | none => rw [hr] at h; cases h
    | some r =>
      obtain ⟨x, q1⟩ := r
      rw [hr] at h
      simp only [Option.map_eq_some_iff, Prod.mk.injEq] at h
      obtain ⟨⟨ys, q2⟩, hy, rfl, rfl⟩ := h
      intro y hm
      rcases List.mem_cons.1 hm with rfl | hm
      · exact rdE_sh hp hr
      · exact ih (rdE_seg hp hr).1.le hy y hm
theorem readE {xs : List EffT} (hx : ∀ x ∈ xs, OkE x) (hlen : (encEs xs).length ≤ 1000000) (hn : xs.length ≤ 1000) (b : Bool) (hb : b = true ↔ (xs.length ≤ 160 ∧ ∀ x ∈ xs, ShE x)) :
    wholeO (rdLE 160 (encEs xs) 0) (encEs xs).length = if b then some xs else none := by
  cases b with
  | true =>
    obtain ⟨h1, h2⟩ := hb.1 rfl
    rw [if_pos rfl]
    refine whole_self ?_
    have h := at_self (encEs xs)
    unfold encEs at h ⊢
    obtain ⟨h3, h4⟩ := h.app
    unfold rdLE
    rw [gBounded ⟨by omega, by omega⟩ (by omega) (by omega) h3]
    simp only [Int.toNat_natCast]
    rw [gNE (fun x hm => ⟨hx x hm, h2 x hm⟩) h4]
    simp only [List.length_append, Nat.add_assoc]
  | false =>
    rw [if_neg (by simp)]
    cases ho : wholeO (rdLE 160 (encEs xs) 0) (encEs xs).length with
    | none => rfl
    | some ys =>
      exfalso
      have hw := whole_seg ho
      obtain ⟨h1, h2, h3⟩ := rdLE_seg (Nat.zero_le _) hw
      have h5 : encEs xs = encEs ys := h1.all rfl
      have h6 : encEs xs ++ [] = encEs ys ++ [] := by rw [h5]
      obtain ⟨rfl, _⟩ := encEs_pre (by omega) (by omega) (fun x hm => ⟨hx x hm, few_len hlen x hm⟩) (fun y hy => ⟨h2 y hy, few_len (by rw [← h5]; exact hlen) y hy⟩) h6
      have h7 : ∀ x ∈ xs, ShE x := by
        unfold rdLE at hw
        split at hw
        · cases hw
        · rename_i n q1 hb1
          exact rdNE_sh (rdBounded_seg (Nat.zero_le _) hb1).1.le hw
      have := hb.2 ⟨by omega, h7⟩
      cases this


def RM (zs : List Int) (l : List UInt8) (w : World) (e : Ending) (w' : World) : Prop :=
  ∃ (t0 t1 t2 t3 t4 t5 t6 t7 : Int) (a : Option Addr) (n c : Nat) (k : List UInt8) (r : Int), e = .returned (.tuple #[.agg #[.int .i64 t0, .int .i64 t1, .int .i64 t2, .int .i64 t3, .int .i64 t4, .int .i64 t5, .int .i64 t6, .int .i64 t7, .slice a n c], .int .i64 r]) ∧ Rd w' (.slice a n c) k ∧ w.grownBy w' none ∧ ((r = 0 ∧ l.length ≤ 1536 ∧ [t0, t1, t2, t3, t4, t5, t6, t7] = zs ∧ k = l) ∨ (r = 4 ∧ ¬ l.length ≤ 1536))
theorem readMsg_e (v : Value) (zs : List Int) (l : List UInt8) (w : World) (h8 : zs.length = 8) (hz : ∀ z ∈ zs, OkI z) (hl : l.length ≤ 2000) (hlen : (encMM (zs, l)).length ≤ 3000) (hv : Rd w v (encMM (zs, l))) : Calls Try.prog 33 #[v] w (RM zs l w) := by
  have h := readMsg_any v _ w hv (by omega)
  rw [readM (m := (zs, l)) h8 hz (by simp only; omega)] at h
  refine h.mono fun e w' hr => ?_
  by_cases hs : l.length ≤ 1536
  · rw [if_pos hs] at hr
    obtain ⟨mv, rfl, ⟨a, n, c, rfl⟩, hl8, hom, hg⟩ := hr
    match zs, h8 with
    | [t0, t1, t2, t3, t4, t5, t6, t7], _ => exact ⟨t0, t1, t2, t3, t4, t5, t6, t7, a, n, c, l, 0, rfl, hom.rd, hg, .inl ⟨rfl, hs, rfl, rfl⟩⟩
  · rw [if_neg hs] at hr
    obtain ⟨rfl, hg⟩ := hr
    exact ⟨0, 0, 0, 0, 0, 0, 0, 0, none, 0, 0, [], 4, rfl, .inl ⟨rfl, rfl⟩, hg, .inr ⟨rfl, hs⟩⟩
def RX (zs : List Int) (l : List UInt8) (w : World) (e : Ending) (w' : World) : Prop :=
  ∃ (t0 t1 t2 t3 t4 t5 t6 : Int) (a : Option Addr) (n c : Nat) (k : List UInt8) (r : Int), e = .returned (.tuple #[.agg #[.int .i64 t0, .int .i64 t1, .int .i64 t2, .int .i64 t3, .int .i64 t4, .int .i64 t5, .int .i64 t6, .slice a n c], .int .i64 r]) ∧ Rd w' (.slice a n c) k ∧ w.grownBy w' none ∧ ((r = 0 ∧ l.length ≤ 1536 ∧ [t0, t1, t2, t3, t4, t5, t6] = zs ∧ k = l) ∨ (r = 4 ∧ ¬ l.length ≤ 1536))
theorem readEnt_e (v : Value) (zs : List Int) (l : List UInt8) (w : World) (h8 : zs.length = 7) (hz : ∀ z ∈ zs, OkI z) (hl : l.length ≤ 2000) (hlen : (encMM (zs, l)).length ≤ 3000) (hv : Rd w v (encMM (zs, l))) : Calls Try.prog 35 #[v] w (RX zs l w) := by
  have h := readEntry_any v _ w hv (by omega)
  rw [readX (m := (zs, l)) h8 hz (by simp only; omega)] at h
  refine h.mono fun e w' hr => ?_
  by_cases hs : l.length ≤ 1536
  · rw [if_pos hs] at hr
    obtain ⟨mv, rfl, ⟨a, n, c, rfl⟩, hl8, hom, hg⟩ := hr
    match zs, h8 with
    | [t0, t1, t2, t3, t4, t5, t6], _ => exact ⟨t0, t1, t2, t3, t4, t5, t6, a, n, c, l, 0, rfl, hom.rd, hg, .inl ⟨rfl, hs, rfl, rfl⟩⟩
  · rw [if_neg hs] at hr
    obtain ⟨rfl, hg⟩ := hr
    exact ⟨0, 0, 0, 0, 0, 0, 0, none, 0, 0, [], 4, rfl, .inl ⟨rfl, rfl⟩, hg, .inr ⟨rfl, hs⟩⟩
def RE (xs : List EffT) (sh : Bool) (w : World) (e : Ending) (w' : World) : Prop :=
  ∃ (a : Option Addr) (n c : Nat) (qs : List EffP) (r : Int), e = .returned (.tuple #[.slice a n c, .int .i64 r]) ∧ RdEs w' (.slice a n c) qs ∧ w.grownBy w' none ∧ ((r = 0 ∧ sh = true ∧ qs.map (·.1) = xs) ∨ (r = 4 ∧ sh = false))
theorem readEffs_e (v : Value) (xs : List EffT) (sh : Bool) (w : World) (hx : ∀ x ∈ xs, OkE x) (hlen : (encEs xs).length ≤ 1000000) (hn : xs.length ≤ 1000) (hs : sh = true ↔ (xs.length ≤ 160 ∧ ∀ x ∈ xs, ShE x)) (hv : Rd w v (encEs xs)) : Calls Try.prog 34 #[v] w (RE xs sh w) := by
  have h := readEffects_any v _ w hv (by omega)
  rw [readE hx hlen hn sh hs] at h
  refine h.mono fun e w' hr => ?_
  cases sh with
  | true =>
    rw [if_pos rfl] at hr
    obtain ⟨v', rfl, ⟨qs, hps, hel⟩, hg⟩ := hr
    obtain ⟨a, c, rfl⟩ := hel.slice
    exact ⟨a, _, c, qs, 0, rfl, hel.rdes (by rw [hps]; exact hx), hg, .inl ⟨rfl, rfl, hps⟩⟩
  | false =>
    rw [if_neg (by simp)] at hr
    obtain ⟨rfl, hg⟩ := hr
    exact ⟨none, 0, 0, [], 4, rfl, ⟨.inl ⟨rfl, rfl⟩, by simp⟩, hg, .inr ⟨rfl, rfl⟩⟩
end Go.Proofs.Ytgfopepopcacmaa
