/-
  next.
-/
import Derived.Test.YtgfopepopcacmaaBounded
namespace Go.Proofs.Ytgfopepopcacmaa
open Go.RowKit

theorem Rd.sub {w : World} {g off cap : Nat} {bs : List UInt8} (h1 : bs.length ≤ cap) (h2 : cap ≤ maxLen) (h3 : ∀ (j : Nat) (x : UInt8), bs[j]? = some x → w.cell? ⟨g, off + j, none⟩ = some (bv x)) (p n : Nat) (hp : p + n ≤ bs.length) :
    Rd w (.slice (some ⟨g, off + p, none⟩) n (cap - p)) ((bs.drop p).take n) := by
  have hl : ((bs.drop p).take n).length = n := by simp; omega
  refine .inr ⟨g, off + p, cap - p, by rw [hl], by rw [hl]; omega, by omega, fun j x hj => ?_⟩
  rw [List.getElem?_take] at hj
  split at hj
  · rw [List.getElem?_drop] at hj
    rw [Nat.add_assoc]
    exact h3 _ _ hj
  · cases hj

def NextBad (w : World) (b : Nat) (sl : Value) (bs : List UInt8) (p : Nat) (e : Ending) (w' : World) : Prop := e = .returned (.slice none 0 0) ∧ IsR w' b sl bs p true ∧ w.grownBy w' (some b)
def NextGood (w : World) (b : Nat) (sl : Value) (bs : List UInt8) (p : Nat) (n : Nat) (e : Ending) (w' : World) : Prop :=
  ∃ a c, e = .returned (.slice a n c) ∧ Rd w' (.slice a n c) ((bs.drop p).take n) ∧ (∀ W, Rd W sl bs → Rd W (.slice a n c) ((bs.drop p).take n)) ∧ (∀ x, a = some x → x.block ≠ b) ∧ IsR w' b sl bs (p + n) false ∧ w.grownBy w' (some b)
def NextPost (w : World) (b : Nat) (sl : Value) (bs : List UInt8) (p : Nat) (f : Bool) (n : Nat) : Ending → World → Prop :=
  if f = true ∨ bs.length - p < n then NextBad w b sl bs p else NextGood w b sl bs p n

set_option maxRecDepth 100000 in
set_option maxHeartbeats 400000 in
theorem next_any (b : Nat) (sl : Value) (bs : List UInt8) (p : Nat) (f : Bool) (n : Nat) (w : World) (h : IsR w b sl bs p f) (hn : n ≤ 9223372036854775807) :
    Calls Try.prog 70 #[.pointer (some ⟨b, 0, none⟩), .int .i64 (n : Int)] w (NextPost w b sl bs p f n) := by
  have HL := Lib.hid (left_any b sl bs p f w h)
  have c0 := h.c0
  have c1 := h.c1
  have c2 := h.c2
  have f1 := h.fr 1
  have f2 := h.fr 2
  have hle := h.le
  have hsm := h.sm
  have hrd := h.rd
  have hne := h.ne
  have H := Lib.hid h
  clear h
  unfold NextPost
  cases f with
  | true =>
    rw [if_pos (Or.inl rfl)]
    clear c0 c1 hrd hne
    go_enter Try.func70, Try.ntmps70
    go_wp2
    go_ret
    exact ⟨rfl, H.out.setF true, gb_setCell _ _ _⟩
  | false =>
    by_cases hgt : bs.length - p < n
    · rw [if_pos (.inr hgt)]
      have hgt2 : ((bs.length - p : Nat) : Int) < (n : Int) := by omega
      clear c0 c1 hrd hne hgt
      go_enter Try.func70, Try.ntmps70
      go_wp2_with (go_at_call 13; refine HL.out.mono ?_; rintro e w1 ⟨rfl, nq, rfl⟩)
      go_ret
      exact ⟨rfl, (H.out.grown (gb_drewN _ _ _)).setF true, gb_same (gb_drewN _ _ _) (gb_setCell _ _ _)⟩
    · rw [if_neg (by simp; omega)]
      have hle2 : (n : Int) ≤ ((bs.length - p : Nat) : Int) := by omega
      rcases hrd with ⟨rfl, rfl⟩ | ⟨g, off, cap, rfl, h1, h2, h3⟩
      · have hp0 : p = 0 := by simpa using hle
        have hn0 : n = 0 := by simp at hgt; omega
        subst hp0 hn0
        go_enter Try.func70, Try.ntmps70
        go_wp2_with (go_at_call 13; refine HL.out.mono ?_; rintro e w1 ⟨rfl, nq, rfl⟩)
        go_quiet (fail)
        go_wp2
        go_ret
        exact ⟨none, 0, rfl, Or.inl ⟨rfl, rfl⟩, fun _ _ => Or.inl ⟨rfl, rfl⟩, (fun x hx => by cases hx), ((H.out.grown (gb_drewN _ _ _)).setP 0 (by simp)).grown (gb_drewN _ _ _), gb_same (gb_drewN _ _ _) (gb_same (gb_setCell _ _ _) (gb_drewN _ _ _))⟩
      · have hgb : g ≠ b := fun e => hne (by rw [e]; rfl)
        have HS := Lib.hid (Rd.sub h1 h2 h3 p n (by omega))
        have HW : Hid (∀ W, Rd W (.slice (some ⟨g, off, none⟩) bs.length cap) bs → Rd W (.slice (some ⟨g, off + p, none⟩) n (cap - p)) ((bs.drop p).take n)) := Lib.hid (fun W hW => by
          rcases hW with ⟨h4, _⟩ | ⟨g', off', cap', h4, h5, h6, h7⟩
          · cases h4
          · simp only [Value.slice.injEq, Option.some.injEq, Addr.mk.injEq, and_true, true_and] at h4
            obtain ⟨⟨rfl, rfl⟩, rfl⟩ := h4
            exact Rd.sub h1 h2 h7 p n (by omega))
        clear h3 hne
        unfold maxLen at h2
        have hpc : p < cap ∨ p = cap := by omega
        rcases hpc with hpc | hpc
        · go_enter Try.func70, Try.ntmps70
          go_wp2_with (go_at_call 13; refine HL.out.mono ?_; rintro e w1 ⟨rfl, nq, rfl⟩)
          go_quiet (fail)
          go_wp2
          go_ret
          refine ⟨some ⟨g, off + p, none⟩, cap - p, ?_, ((HS.out.kept (gb_drewN _ _ none) (by simp)).kept (gb_setCell _ _ _) (fun k hk e => ?_)).kept (gb_drewN _ _ none) (by simp), HW.out, (fun x hx => by cases hx; exact hgb), ((H.out.grown (gb_drewN _ _ _)).setP (p + n) (by omega)).grown (gb_drewN _ _ _), gb_same (gb_drewN _ _ _) (gb_same (gb_setCell _ _ _) (gb_drewN _ _ _))⟩
          · show Ending.returned (Value.slice _ (p + n - p) _) = _
            rw [show p + n - p = n by omega]
          · simp only [Value.ownBlock, Option.some.injEq] at hk e
            omega
        · have hn0 : n = 0 := by omega
          subst hn0
          subst hpc
          go_enter Try.func70, Try.ntmps70
          go_wp2_with (go_at_call 13; refine HL.out.mono ?_; rintro e w1 ⟨rfl, nq, rfl⟩)
          go_quiet (fail)
          go_wp2
          go_ret
          exact ⟨some ⟨g, off, none⟩, 0, rfl, Rd.empty g off 0 (Nat.zero_le _), fun _ _ => Rd.empty g off 0 (Nat.zero_le _), (fun x hx => by cases hx; exact hgb), ((H.out.grown (gb_drewN _ _ _)).setP (p + 0) (by omega)).grown (gb_drewN _ _ _), gb_same (gb_drewN _ _ _) (gb_same (gb_setCell _ _ _) (gb_drewN _ _ _))⟩
end Go.Proofs.Ytgfopepopcacmaa
