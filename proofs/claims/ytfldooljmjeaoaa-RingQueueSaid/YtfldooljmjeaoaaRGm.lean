/-
  Messages that are read: the mathematics, and Reader.Msg in one form.
-/
import Derived.Test.YtfldooljmjeaoaaVMr
import Derived.Test.YtfldooljmjeaoaaRDecB
namespace Go.Proofs.Ytfldooljmjeaoaa
open Go.RowKit Go.Shelf

def mgOf (x : List Int × List UInt8) : Mg := ⟨x.1.getD 0 0, x.1.getD 1 0, x.1.getD 2 0, x.1.getD 3 0, x.1.getD 4 0, x.1.getD 5 0, x.1.getD 6 0, x.1.getD 7 0, x.2⟩
theorem eight {cs : List Int} (h : cs.length = 8) : ∃ a b c d e f g i, cs = [a, b, c, d, e, f, g, i] := match cs, h with | [a, b, c, d, e, f, g, i], _ => ⟨a, b, c, d, e, f, g, i, rfl⟩
theorem rowI_mg {x : List Int × List UInt8} (h : x.1.length = 8) (dv : Value) : (rowI x.1 dv).toArray = (mgOf x).row dv := by
  obtain ⟨zs, l⟩ := x
  obtain ⟨a, b, c, d, e, f, g, i, rfl⟩ := eight h
  rfl
/-- a message that begins at a position -/
def rdG (bs : List UInt8) (p : Nat) : Option (Mg × Nat) := (rdM bs p).map fun r => (mgOf r.1, r.2)
def encG (m : Mg) : List UInt8 := encM [m.s, m.d, m.k, m.q] [m.a, m.b, m.c, m.e] m.z
def OkMg (m : Mg) : Prop := (∀ y ∈ [m.s, m.d, m.k, m.q, m.a, m.b, m.c, m.e], -9223372036854775808 ≤ y ∧ y ≤ 9223372036854775807) ∧ m.z.length ≤ 1536
theorem rdIs_enc : ∀ {n : Nat} {bs : List UInt8} {p : Nat} {zs : List Int} {q : Nat}, p ≤ bs.length → rdIs n bs p = some (zs, q) → (∀ z ∈ zs, OkI z) ∧ q = p + (encL zs).length ∧ (bs.drop p).take (encL zs).length = encL zs ∧ q ≤ bs.length
  | 0, bs, p, zs, q, hp, h => by
    cases h
    exact ⟨by simp, rfl, rfl, hp⟩
  | n + 1, bs, p, zs, q, hp, h => by
    unfold rdIs at h
    split at h
    · cases h
    · rename_i z1 q1 h1
      simp only [Option.map_eq_some_iff] at h
      obtain ⟨r, h2, h3⟩ := h
      obtain ⟨z, q2⟩ := r
      cases h3
      obtain ⟨a1, a2, a3, a4⟩ := rdIs_enc hp h1
      obtain ⟨c1, c2, c3, c4, c5⟩ := rdInt_enc h2
      have e : encL (z1 ++ [z]) = encL z1 ++ enc z := by simp [encL]
      refine ⟨?_, ?_, ?_, c4⟩
      · intro x hx
        rcases List.mem_append.1 hx with hx | hx
        · exact a1 x hx
        · simp at hx; subst hx; exact c1
      · rw [e, List.length_append]; simp only; omega
      · rw [e]
        exact seg_append a3 (by rw [← a2]; exact c3)
theorem rdG_enc {bs : List UInt8} {p : Nat} {m : Mg} {q : Nat} (hp : p ≤ bs.length) (h : rdG bs p = some (m, q)) : OkMg m ∧ q = p + (encG m).length ∧ (bs.drop p).take (encG m).length = encG m ∧ q ≤ bs.length := by
  unfold rdG at h
  simp only [Option.map_eq_some_iff] at h
  obtain ⟨⟨x, q0⟩, h1, h2⟩ := h
  cases h2
  unfold rdM at h1
  split at h1
  · cases h1
  · rename_i z1 q1 e1
    split at h1
    · cases h1
    · rename_i z2 q2 e2
      split at h1
      · cases h1
      · rename_i l q3 e3
        cases h1
        obtain ⟨a1, a2, a3, a4⟩ := rdIs_enc hp e1
        obtain ⟨b1, b2, b3, b4⟩ := rdIs_enc a4 e2
        obtain ⟨d1, d2, d3, d4⟩ := rdBytes_enc e3
        obtain ⟨x0, x1, x2, x3, rfl⟩ : ∃ a b c d, z1 = [a, b, c, d] := match z1, rdIs_len e1 with | [a, b, c, d], _ => ⟨a, b, c, d, rfl⟩
        obtain ⟨y0, y1, y2, y3, rfl⟩ : ∃ a b c d, z2 = [a, b, c, d] := match z2, rdIs_len e2 with | [a, b, c, d], _ => ⟨a, b, c, d, rfl⟩
        have eg : encG (mgOf ([x0, x1, x2, x3] ++ [y0, y1, y2, y3], l)) = encL [x0, x1, x2, x3] ++ encL [y0, y1, y2, y3] ++ encS l := rfl
        refine ⟨⟨?_, by show l.length ≤ 1536; omega⟩, ?_, ?_, d4⟩
        · intro y hy
          have h1 : y ∈ [x0, x1, x2, x3] ∨ y ∈ [y0, y1, y2, y3] := by
            rw [← List.mem_append]; exact hy
          rcases h1 with h1 | h1
          · exact a1 y h1
          · exact b1 y h1
        · rw [eg, List.length_append, List.length_append]; simp only; omega
        · rw [eg]
          exact seg_append (seg_append a3 (by rw [← a2]; exact b3)) (by rw [List.length_append, ← Nat.add_assoc, ← a2, ← b2]; exact d3)
/-- so many messages that begin at a position -/
def rdGs (bs : List UInt8) (p : Nat) : Nat → Option (List Mg × Nat)
  | 0 => some ([], p)
  | k + 1 =>
    match rdGs bs p k with
    | none => none
    | some (l, q) =>
      match rdG bs q with
      | none => none
      | some (m, r) => some (l ++ [m], r)
theorem rdGs_enc {bs : List UInt8} {p : Nat} : ∀ {k : Nat} {l : List Mg} {q : Nat}, rdGs bs p k = some (l, q) → p ≤ bs.length →
    l.length = k ∧ (∀ m ∈ l, OkMg m) ∧ q = p + (l.flatMap encG).length ∧ (bs.drop p).take (l.flatMap encG).length = l.flatMap encG ∧ q ≤ bs.length
  | 0, l, q, h, hp => by cases h; exact ⟨rfl, by simp, rfl, rfl, hp⟩
  | k + 1, l, q, h, hp => by
    unfold rdGs at h
    split at h
    · cases h
    · rename_i l1 q1 h1
      split at h
      · cases h
      · rename_i m r h2
        cases h
        obtain ⟨a1, a2, a3, a4, a5⟩ := rdGs_enc h1 hp
        obtain ⟨b1, b2, b3, b4⟩ := rdG_enc a5 h2
        refine ⟨by simp [a1], ?_, ?_, ?_, b4⟩
        · intro x hx
          rcases List.mem_append.1 hx with h | h
          · exact a2 x h
          · simp at h; subst h; exact b1
        · rw [List.flatMap_append, List.length_append, List.flatMap_cons, List.flatMap_nil, List.append_nil]; omega
        · rw [List.flatMap_append]
          simp only [List.flatMap_cons, List.flatMap_nil, List.append_nil]
          exact seg_append a4 (by rw [← a3]; exact b3)
theorem rdGs_none {bs : List UInt8} {p : Nat} {i : Nat} (h : rdGs bs p i = none) : ∀ k, i ≤ k → rdGs bs p k = none
  | 0, hk => by have : i = 0 := by omega
                subst this; exact h
  | k + 1, hk => by
    by_cases he : i = k + 1
    · subst he; exact h
    · have := rdGs_none h k (by omega)
      unfold rdGs; rw [this]
/-- the size and the messages of the queue that has these bytes as its encoding -/
def decM (bs : List UInt8) : Option (Nat × List Mg) :=
  match rdBounded 1 200 bs 0 with
  | none => none
  | some (n, p) =>
    match rdBounded 0 n bs p with
    | none => none
    | some (k, q) =>
      match rdGs bs q k.toNat with
      | none => none
      | some (l, r) => if r < bs.length then none else some (n.toNat, l)
def encMs (n : Nat) (l : List Mg) : List UInt8 := enc (n : Int) ++ enc (l.length : Int) ++ l.flatMap encG
theorem decM_enc {bs : List UInt8} {n : Nat} {l : List Mg} (h : decM bs = some (n, l)) : encMs n l = bs ∧ (∀ m ∈ l, OkMg m) ∧ l.length ≤ n ∧ n ≤ 200 := by
  unfold decM at h
  split at h
  · cases h
  · rename_i z p hb
    split at h
    · cases h
    · rename_i k q hc
      split at h
      · cases h
      · rename_i l1 r hs
        split at h
        · cases h
        · rename_i hq
          cases h
          obtain ⟨b1, b2, b3⟩ := rdBounded_enc hb
          obtain ⟨c1, c2, c3, c4, c5⟩ := rdInt_enc b3
          obtain ⟨d1, d2, d3⟩ := rdBounded_enc hc
          obtain ⟨e1, e2, e3, e4, e5⟩ := rdInt_enc d3
          obtain ⟨f1, f2, f3, f4, f5⟩ := rdGs_enc hs e4
          have hz : ((z.toNat : Nat) : Int) = z := by omega
          have hk : ((l.length : Nat) : Int) = k := by rw [f1]; omega
          refine ⟨?_, f2, by omega, by omega⟩
          unfold encMs
          rw [hz, hk]
          have h1 : (bs.drop 0).take (enc z ++ enc k ++ l.flatMap encG).length = enc z ++ enc k ++ l.flatMap encG :=
            seg_append (seg_append c3 (by rw [← c2]; exact e3)) (by rw [List.length_append, ← Nat.add_assoc, ← c2, ← e2]; exact f4)
          rw [← h1, List.drop_zero, List.take_of_length_le]
          rw [List.length_append, List.length_append]
          omega
def gMg : Option (Mg × Nat) → Mg | some r => r.1 | none => zMg
def gPos (p : Nat) : Option (Mg × Nat) → Nat | some r => r.2 | none => p
/-- what a reader's Msg gives -/
def GotM (o : Option (Mg × Nat)) (b : Nat) (sl : Value) (bs : List UInt8) (p : Nat) (w : World) (e : Ending) (w' : World) : Prop :=
  ∃ dv, e = .returned (.agg ((gMg o).row dv)) ∧ Own w' w.heap.size dv (gMg o).z ∧ IsR w' b sl bs (gPos p o) o.isNone ∧ w.grownBy w' (some b)
theorem unl_map {α β : Type} (f : Bool) (r : Option α) (g : α → β) : unl f (r.map g) = (unl f r).map g := by cases f <;> rfl
theorem msgG_any (b : Nat) (sl : Value) (bs : List UInt8) (p : Nat) (f : Bool) (w : World) (h : IsR w b sl bs p f) :
    Calls Try.prog 29 #[.pointer (some ⟨b, 0, none⟩)] w (GotM (unl f (rdG bs p)) b sl bs p w) := by
  refine (rmsg_any b sl bs p f w h).mono ?_
  intro e w' hr
  unfold rdG
  rw [unl_map]
  cases ho : unl f (rdM bs p) with
  | none =>
    rw [ho] at hr
    obtain ⟨rfl, h1, h2⟩ := hr
    exact ⟨.slice none 0 0, rfl, Own.nil _ _, h1, h2⟩
  | some r =>
    obtain ⟨x, q⟩ := r
    rw [ho] at hr
    obtain ⟨v, rfl, ⟨dv, rfl, h0⟩, h1, h2⟩ := hr
    have hl : x.1.length = 8 := by
      cases f with
      | true => cases ho
      | false => exact rdM_len ho
    exact ⟨dv, by rw [rowI_mg hl dv]; rfl, h0, h1, h2⟩
end Go.Proofs.Ytfldooljmjeaoaa
