/-
  Take and Index of a byte queue: the walks.
-/
import Derived.Test.YtfldooljmjeaoaaRQPeek
namespace Go.Proofs.Ytfldooljmjeaoaa
open Go.RowKit Go.Shelf

def TakeP (w : World) (g s n : Nat) (l : List UInt8) (z : Int) (e : Ending) (w' : World) : Prop :=
  ∃ v' f' cs', e = .returned v' ∧ Own w' w.heap.size v' (l.take z.toNat) ∧ K2 w w' g s ∧ IsB w' g s n f' cs' (l.drop z.toNat)
theorem K2.set2 (w : World) (g s i j : Nat) (u v : Value) : K2 w ((w.setCell ⟨g, i, none⟩ u).setCell ⟨g, j, none⟩ v) g s :=
  (K2.of (gb_setCell w ⟨g, i, none⟩ u) (.inr (.inl rfl))).trans (K2.of (gb_setCell (w.setCell ⟨g, i, none⟩ u) ⟨g, j, none⟩ v) (.inr (.inl rfl)))
set_option maxRecDepth 100000 in
set_option maxHeartbeats 4000000 in
theorem take_any {w : World} {g s n f : Nat} {cs l : List UInt8} (h : IsB w g s n f cs l) (z : Int) (hz : OkI z) :
    Calls Try.prog 25 #[.pointer (some ⟨g, 0, none⟩), .int .i64 z] w (TakeP w g s n l z) := by
  have HP := Lib.hid (peek_any h z hz)
  have hle : l.length ≤ 4096 := by have := h.le; have := h.cnt; omega
  have HCN := Lib.hid h.cnt
  have H := Lib.hid h
  clear h hz
  go_enter Try.func25, Try.ntmps25
  go_wp2_with fail
  refine HP.out.mono ?_
  rintro e w1 ⟨v1, rfl, ho1, hg1⟩
  have HO1 := Lib.hid ho1
  have HG1 := Lib.hid hg1
  have hb1 := H.out.grown hg1
  obtain ⟨a, c, hv1⟩ := ho1.rd.len
  have hk : (l.take z.toNat).length = min z.toNat l.length := List.length_take
  have HLT := Lib.hid (fun b hb => (HO1.out.lt b hb))
  by_cases h0 : (l.take z.toNat).length = 0
  · have HE : Hid (l.drop z.toNat = l) := Lib.hid (by
      rcases Nat.eq_zero_or_pos z.toNat with e | e
      · rw [e]; rfl
      · obtain rfl : l = [] := List.eq_nil_of_length_eq_zero (by omega)
        simp)
    rw [h0] at hv1
    subst hv1
    have HB := Lib.hid hb1
    clear h0 hk hb1 ho1 hg1
    go_wp2
    go_ret
    exact ⟨_, _, _, rfl, HO1.out, K2.of HG1.out (.inl rfl), by rw [HE.out]; exact HB.out⟩
  · obtain ⟨k, hkk⟩ : ∃ k, (l.take z.toNat).length = k := ⟨_, rfl⟩
    rw [hkk] at hv1 h0 hk
    subst hv1
    have hkl : k ≤ l.length := by omega
    have HE : Hid (l.drop k = l.drop z.toNat) := Lib.hid (by
      rcases Nat.le_total z.toNat l.length with e | e
      · rw [show k = z.toNat by omega]
      · rw [show k = l.length by omega, List.drop_length, List.drop_eq_nil_of_le e])
    have HPL := Lib.hid (place_any hb1 (i := k) (by have := HCN.out; omega))
    have HB := Lib.hid hb1
    have h01 : (0 : Int) < (k : Int) := by omega
    have hks : k ≤ 4096 := by omega
    have HGS : Hid (a ≠ none → ∀ b, (Value.slice a k c).ownBlock = some b → b ≠ g ∧ b ≠ s) := Lib.hid (fun _ b hb => by have := HLT.out b hb; have := H.out.lt; omega)
    clear h0 hk hb1 ho1 hg1 hkk
    go_wp2_with fail
    refine HPL.out.mono ?_
    rintro e w3 ⟨rfl, hg3⟩
    have hq3 := HB.out.grown hg3
    have HG3 := Lib.hid hg3
    have HPO := Lib.hid (hq3.pop k hkl)
    have hf1 := hq3.frozenB 1
    have hc1 := hq3.c1
    have hc2 : (w3.setCell ⟨g, 1, none⟩ (.int .i64 (((f + k) % n : Nat) : Int))).cell? ⟨g, 2, none⟩ = some (.int .i64 (l.length : Int)) := by
      rw [cell_row (blk_set hq3.blk 1 _)]; simp
    have hf2 : (w3.setCell ⟨g, 1, none⟩ (.int .i64 (((f + k) % n : Nat) : Int))).frozen? ⟨g, 2, none⟩ = false := blk_frozen (blk_set hq3.blk 1 _)
    have HO3 := Lib.hid (HO1.out.grown hg3)
    have HKW : Hid (K2 w ((w3.setCell ⟨g, 1, none⟩ (.int .i64 (((f + k) % n : Nat) : Int))).setCell ⟨g, 2, none⟩ (.int .i64 ((l.length : Int) - (k : Int)))) g s) := Lib.hid ((K2.of (gb_same HG1.out hg3) (.inl rfl)).trans (K2.set2 _ g s _ _ _ _))
    have HKO : Hid (K2 w3 ((w3.setCell ⟨g, 1, none⟩ (.int .i64 (((f + k) % n : Nat) : Int))).setCell ⟨g, 2, none⟩ (.int .i64 ((l.length : Int) - (k : Int)))) g s) := Lib.hid (K2.set2 _ g s _ _ _ _)
    clear hg3 hq3
    have hr : (((f + k) % n : Nat) : Int) = (((f + k) % n : Nat) : Int) := rfl
    clear hr
    generalize (f + k) % n = r at *
    have hsub : IntKind.i64.wrap ((l.length : Int) - (k : Int)) = (l.length : Int) - (k : Int) := by rw [IntKind.wrap_i64] <;> omega
    go_wp2
    go_ret
    exact ⟨_, _, _, rfl, K2.own HO3.out HKO.out (fun b hb => by have := HLT.out b hb; have := H.out.lt; omega), HKW.out, by rw [← HE.out]; exact HPO.out⟩

/-- the place of the first byte that equals c, of the first k -/
def idxK (l : List UInt8) (c : UInt8) : Nat → Option Nat
  | 0 => none
  | k + 1 => match idxK l c k with
    | some i => some i
    | none => if l[k]? = some c then some k else none
def idxI (l : List UInt8) (c : UInt8) : Int := match idxK l c l.length with | some i => (i : Int) | none => -1
theorem idxK_some {l : List UInt8} {c : UInt8} {k i : Nat} (h : idxK l c k = some i) : ∀ m, k ≤ m → idxK l c m = some i := by
  intro m hm
  induction m with
  | zero => obtain rfl : k = 0 := by omega
            exact h
  | succ m ih =>
    rcases Nat.lt_or_ge k (m + 1) with h1 | h1
    · rw [idxK, ih (by omega)]
    · obtain rfl : k = m + 1 := by omega
      exact h
end Go.Proofs.Ytfldooljmjeaoaa
