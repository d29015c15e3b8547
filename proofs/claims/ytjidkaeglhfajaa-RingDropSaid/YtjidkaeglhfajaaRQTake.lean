/-
  Take and Index of a byte queue: the walks.
-/
import Derived.Test.YtjidkaeglhfajaaRQPeek
namespace Go.Proofs.Ytjidkaeglhfajaa
open Go.RowKit Go.Shelf

def TakeP (w : World) (g s n : Nat) (l : List UInt8) (z : Int) (e : Ending) (w' : World) : Prop :=
  ∃ v' f' cs', e = .returned v' ∧ Own w' w.heap.size v' (l.take z.toNat) ∧ K2 w w' g s ∧ IsB w' g s n f' cs' (l.drop z.toNat)
theorem K2.set2 (w : World) (g s i j : Nat) (u v : Value) : K2 w ((w.setCell ⟨g, i, none⟩ u).setCell ⟨g, j, none⟩ v) g s :=
  (K2.of (gb_setCell w ⟨g, i, none⟩ u) (.inr (.inl rfl))).trans (K2.of (gb_setCell (w.setCell ⟨g, i, none⟩ u) ⟨g, j, none⟩ v) (.inr (.inl rfl)))
set_option maxRecDepth 100000 in
set_option maxHeartbeats 4000000 in
theorem take_any {w : World} {g s n f : Nat} {cs l : List UInt8} (h : IsB w g s n f cs l) (z : Int) (hz : OkI z) :
    Calls Try.prog 20 #[.pointer (some ⟨g, 0, none⟩), .int .i64 z] w (TakeP w g s n l z) := by
  have HP := Lib.hid (peek_any h z hz)
  have hle : l.length ≤ 4096 := by have := h.le; have := h.cnt; omega
  have HCN := Lib.hid h.cnt
  have H := Lib.hid h
  clear h hz
  go_enter Try.func20, Try.ntmps20
  go_wp2_with fail
  refine HP.out.mono ?_
  rintro e w1 ⟨v1, rfl, ho1, hg1⟩
  have HO1 := Lib.hid ho1
  have HG1 := Lib.hid hg1
  have hb1 := H.out.grown hg1
  obtain ⟨a, c, hv1⟩ := ho1.rd.len
  have hk : (l.take z.toNat).length = min z.toNat l.length := List.length_take
  have HLT := Lib.hid (fun b hb => (HO1.out.lt b hb))
  by_cases h0 : (l.take z.toNat).length = 0
  · have HE : Hid (l.drop z.toNat = l) := Lib.hid (by
      rcases Nat.eq_zero_or_pos z.toNat with e | e
      · rw [e]; rfl
      · obtain rfl : l = [] := List.eq_nil_of_length_eq_zero (by omega)
        simp)
    rw [h0] at hv1
    subst hv1
    have HB := Lib.hid hb1
    clear h0 hk hb1 ho1 hg1
    go_wp2
    go_ret
    exact ⟨_, _, _, rfl, HO1.out, K2.of HG1.out (.inl rfl), by rw [HE.out]; exact HB.out⟩
  · obtain ⟨k, hkk⟩ : ∃ k, (l.take z.toNat).length = k := ⟨_, rfl⟩
    rw [hkk] at hv1 h0 hk
    subst hv1
    have hkl : k ≤ l.length := by omega
    have HE : Hid (l.drop k = l.drop z.toNat) := Lib.hid (by
      rcases Nat.le_total z.toNat l.length with e | e
      · rw [show k = z.toNat by omega]
      · rw [show k = l.length by omega, List.drop_length, List.drop_eq_nil_of_le e])
    have HPL := Lib.hid (place_any hb1 (i := k) (by have := HCN.out; omega))
    have HB := Lib.hid hb1
    have h01 : (0 : Int) < (k : Int) := by omega
    have hks : k ≤ 4096 := by omega
    have HGS : Hid (a ≠ none → ∀ b, (Value.slice a k c).ownBlock = some b → b ≠ g ∧ b ≠ s) := Lib.hid (fun _ b hb => by have := HLT.out b hb; have := H.out.lt; omega)
    clear h0 hk hb1 ho1 hg1 hkk
    go_wp2_with fail
    refine HPL.out.mono ?_
    rintro e w3 ⟨rfl, hg3⟩
    have hq3 := HB.out.grown hg3
    have HG3 := Lib.hid hg3
    have HPO := Lib.hid (hq3.pop k hkl)
    have hf1 := hq3.frozenB 1
    have hc1 := hq3.c1
    have hc2 : (w3.setCell ⟨g, 1, none⟩ (.int .i64 (((f + k) % n : Nat) : Int))).cell? ⟨g, 2, none⟩ = some (.int .i64 (l.length : Int)) := by
      rw [cell_row (blk_set hq3.blk 1 _)]; simp
    have hf2 : (w3.setCell ⟨g, 1, none⟩ (.int .i64 (((f + k) % n : Nat) : Int))).frozen? ⟨g, 2, none⟩ = false := blk_frozen (blk_set hq3.blk 1 _)
    have HO3 := Lib.hid (HO1.out.grown hg3)
    have HKW : Hid (K2 w ((w3.setCell ⟨g, 1, none⟩ (.int .i64 (((f + k) % n : Nat) : Int))).setCell ⟨g, 2, none⟩ (.int .i64 ((l.length : Int) - (k : Int)))) g s) := Lib.hid ((K2.of (gb_same HG1.out hg3) (.inl rfl)).trans (K2.set2 _ g s _ _ _ _))
    have HKO : Hid (K2 w3 ((w3.setCell ⟨g, 1, none⟩ (.int .i64 (((f + k) % n : Nat) : Int))).setCell ⟨g, 2, none⟩ (.int .i64 ((l.length : Int) - (k : Int)))) g s) := Lib.hid (K2.set2 _ g s _ _ _ _)
    clear hg3 hq3
    have hr : (((f + k) % n : Nat) : Int) = (((f + k) % n : Nat) : Int) := rfl
    clear hr
    generalize (f + k) % n = r at *
    have hsub : IntKind.i64.wrap ((l.length : Int) - (k : Int)) = (l.length : Int) - (k : Int) := by rw [IntKind.wrap_i64] <;> omega
    go_wp2
    go_ret
    exact ⟨_, _, _, rfl, K2.own HO3.out HKO.out (fun b hb => by have := HLT.out b hb; have := H.out.lt; omega), HKW.out, by rw [← HE.out]; exact HPO.out⟩

/-- the place of the first byte that equals c, of the first k -/
def idxK (l : List UInt8) (c : UInt8) : Nat → Option Nat
  | 0 => none
  | k + 1 => match idxK l c k with
    | some i => some i
    | none => if l[k]? = some c then some k else none
def idxI (l : List UInt8) (c : UInt8) : Int := match idxK l c l.length with | some i => (i : Int) | none => -1
theorem idxK_some {l : List UInt8} {c : UInt8} {k i : Nat} (h : idxK l c k = some i) : ∀ m, k ≤ m → idxK l c m = some i := by
  intro m hm
  induction m with
  | zero => obtain rfl : k = 0 := by omega
            exact h
  | succ m ih =>
    rcases Nat.lt_or_ge k (m + 1) with h1 | h1
    · rw [idxK, ih (by omega)]
    · obtain rfl : k = m + 1 := by omega
      exact h
set_option maxRecDepth 100000 in
set_option maxHeartbeats 4000000 in
theorem index_any {w : World} {g s n f : Nat} {cs l : List UInt8} (h : IsB w g s n f cs l) (c : UInt8) :
    Calls Try.prog 23 #[.pointer (some ⟨g, 0, none⟩), .int .u8 (c.toNat : Int)] w (NumG (idxI l c) w) := by
  have HL := Lib.hid (lenB_any h)
  have hle : l.length ≤ 4096 := by have := h.le; have := h.cnt; omega
  have HCN := Lib.hid h.cnt
  have HFS := Lib.hid h.fst
  have H := Lib.hid h
  clear h
  go_enter Try.func23, Try.ntmps23
  go_wp2_with fail
  refine HL.out.mono ?_
  rintro e w1 ⟨rfl, rfl⟩
  go_wp2
  go_loopw [8] (fun i wr => ∃ k : Nat, k ≤ l.length ∧ i = .int .i64 k ∧ Hid (idxK l c k = none) ∧ Hid (w.grownBy wr none)) (fun i _ => l.length - (intOf i).toNat)
  case atStart => exact ⟨0, Nat.zero_le _, rfl, Lib.hid rfl, Lib.hid (gb_refl _ _)⟩
  case round =>
    obtain ⟨k, hk, rfl, HI, HG⟩ := hrel
    by_cases hlt : k < l.length
    · have hq := H.out.grown HG.out
      obtain ⟨x, hx⟩ : ∃ x, l[k]? = some x := ⟨l[k]'hlt, by simp⟩
      have HPL := Lib.hid (place_any (hq.grown (gb_drew _ none)) (i := k) (by have := HCN.out; omega))
      have hrn : (f + k) % n < n := Nat.mod_lt _ (by have := HFS.out; omega)
      have HC : Hid (∀ X, wr.grownBy X none → X.cell? ⟨g, 0, none⟩ = some (.slice (some ⟨s, 0, none⟩) n n) ∧ X.cell? ⟨s, (f + k) % n, none⟩ = some (.int .u8 (x.toNat : Int))) := Lib.hid (fun X hX => ⟨(hq.grown hX).c0, (hq.grown hX).at hx⟩)
      have HX := Lib.hid hx
      clear hq hx
      generalize hr : (f + k) % n = r at *
      clear hr
      have HS0 := Lib.hid (HC.out _ (gb_drew wr none))
      go_wp2_with fail
      refine region_KL (fuel := 11) (listed := #[false, false, false, false, false, false, false, false, false, false, false]) (fun X => X.cell? ⟨g, 0, none⟩ = some (.slice (some ⟨s, 0, none⟩) n n) ∧ X.cell? ⟨s, r, none⟩ = some (.int .u8 (x.toNat : Int))) 10 (by kernel_rfl) rfl (by kernel_rfl) ?_
      refine wpAnyK_takeL (i := 0) (d := 11) (v := ?_) (T' := ?_) (listed' := #[true, false, false, false, false, false, false, false, false, false, false]) rfl rfl (by kernel_rfl) (fun _ _ _ h => h) rfl (Or.inl ⟨by rfl, ?_⟩) ?_ HS0.out ?_
      rotate_left 2
      · intro w hS; clear hS; go_simp; rfl
      · simp only [List.setIfInBounds_toArray, List.set_cons_succ, List.set_cons_zero]; rfl
      refine wpAnyK_takeL (i := 1) (d := 12) (v := ?_) (T' := ?_) (listed' := #[true, true, false, false, false, false, false, false, false, false, false]) rfl rfl (by kernel_rfl) (fun _ _ _ h => h) rfl (Or.inl ⟨by rfl, ?_⟩) ?_ HS0.out ?_
      rotate_left 2
      · intro w hS; clear hS; go_simp; rfl
      · simp only [List.setIfInBounds_toArray, List.set_cons_succ, List.set_cons_zero]; rfl
      refine wpAnyK_takeL (i := 2) (d := 13) (v := ?_) (T' := ?_) (listed' := #[true, true, true, false, false, false, false, false, false, false, false]) rfl rfl (by kernel_rfl) (fun _ _ _ h => h) rfl (Or.inl ⟨by rfl, ?_⟩) ?_ HS0.out ?_
      rotate_left 2
      · intro w hS; clear hS; go_simp; rfl
      · simp only [List.setIfInBounds_toArray, List.set_cons_succ, List.set_cons_zero]; rfl
      refine wpAnyK_takeL (i := 3) (d := 14) (v := ?_) (T' := ?_) (listed' := #[true, true, true, true, false, false, false, false, false, false, false]) rfl rfl (by kernel_rfl) (fun _ _ _ h => h) rfl (Or.inl ⟨by rfl, ?_⟩) ?_ HS0.out ?_
      rotate_left 2
      · intro w hS; have t0 := hS.1; clear hS; go_simp; rfl
      · simp only [List.setIfInBounds_toArray, List.set_cons_succ, List.set_cons_zero]; rfl
      refine wpAnyK_takeL (i := 4) (d := 15) (v := ?_) (T' := ?_) (listed' := #[true, true, true, true, true, false, false, false, false, false, false]) rfl rfl (by kernel_rfl) (fun _ _ _ h => h) rfl (Or.inl ⟨by rfl, ?_⟩) ?_ HS0.out ?_
      rotate_left 2
      · intro w hS; clear hS; go_simp; rfl
      · simp only [List.setIfInBounds_toArray, List.set_cons_succ, List.set_cons_zero]; rfl
      refine wpAnyK_takeL (i := 5) (d := 16) (v := ?_) (T' := ?_) (listed' := #[true, true, true, true, true, true, false, false, false, false, false]) rfl rfl (by kernel_rfl) (fun _ _ _ h => h) rfl (Or.inl ⟨by rfl, ?_⟩) ?_ HS0.out ?_
      rotate_left 2
      · intro w hS; clear hS; go_simp; rfl
      · simp only [List.setIfInBounds_toArray, List.set_cons_succ, List.set_cons_zero]; rfl
      refine wpAnyK_takeL (i := 9) (d := 20) (v := ?_) (T' := ?_) (listed' := #[true, true, true, true, true, true, false, false, false, true, false]) rfl rfl (by kernel_rfl) (fun _ _ _ h => h) rfl (Or.inl ⟨by rfl, ?_⟩) ?_ HS0.out ?_
      rotate_left 2
      · intro w hS; clear hS; go_simp; rfl
      · simp only [List.setIfInBounds_toArray, List.set_cons_succ, List.set_cons_zero]; rfl
      refine wpAnyK_oneL (i := 6) (listed' := #[true, true, true, true, true, true, true, false, false, true, false]) (by kernel_rfl) rfl (by rfl) rfl ?_
      intro K hK
      go_simp
      refine HPL.out.mono ?_
      rintro e w3 ⟨rfl, hg3⟩
      have HG3 := Lib.hid (gb_same (gb_drew wr none) hg3)
      have HS3 := Lib.hid (HC.out _ HG3.out)
      have HGW := Lib.hid (gb_same HG.out HG3.out)
      clear hg3
      refine hK _ _ (fun _ => HS3.out) ?_
      clear hK K
      refine wpAnyK_takeL (i := 7) (d := 18) (v := ?_) (T' := ?_) (listed' := #[true, true, true, true, true, true, true, true, false, true, false]) rfl rfl (by kernel_rfl) (fun _ _ _ h => h) rfl (Or.inl ⟨by rfl, ?_⟩) ?_ HS3.out ?_
      rotate_left 2
      · intro w hS; clear hS; go_simp; rfl
      · simp only [List.setIfInBounds_toArray, List.set_cons_succ, List.set_cons_zero]; rfl
      refine wpAnyK_takeL (i := 8) (d := 19) (v := ?_) (T' := ?_) (listed' := #[true, true, true, true, true, true, true, true, true, true, false]) rfl rfl (by kernel_rfl) (fun _ _ _ h => h) rfl (Or.inl ⟨by rfl, ?_⟩) ?_ HS3.out ?_
      rotate_left 2
      · intro w hS; have t0 := hS.2; clear hS; go_simp; rfl
      · simp only [List.setIfInBounds_toArray, List.set_cons_succ, List.set_cons_zero]; rfl
      refine wpAnyK_oneL (i := 10) (listed' := #[true, true, true, true, true, true, true, true, true, true, true]) (by kernel_rfl) rfl (by rfl) rfl ?_
      intro K hK
      go_simp
      refine hK _ _ (fun h => Bool.noConfusion (show true = false from h)) ?_
      clear hK K
      refine wpAnyK_done (by kernel_rfl) ?_ _
      by_cases hxc : x = c
      · subst hxc
        have HR : Hid (idxI l x = (k : Int)) := Lib.hid (by
          unfold idxI
          rw [idxK_some (k := k + 1) (i := k) (by rw [idxK, HI.out]; simp [HX.out]) l.length (by omega)])
        go_wp2
        go_ret
        exact ⟨by rw [HR.out]; rfl, HGW.out⟩
      · have hne : ((x.toNat : Int) == (c.toNat : Int)) = false := by
          rw [beq_eq_false_iff_ne]
          intro e
          exact hxc (UInt8.toNat_inj.1 (by omega))
        have HI2 : Hid (idxK l c (k + 1) = none) := Lib.hid (by rw [idxK, HI.out]; simp [HX.out, hxc])
        clear hxc
        go_wp2
        go_roundw
        case rel => exact ⟨k + 1, by omega, by go_num, HI2, HGW⟩
        case measure => simp [intOf]; omega
    · obtain rfl : k = l.length := by omega
      clear hlt
      have HR : Hid (idxI l c = -1) := Lib.hid (by unfold idxI; rw [HI.out])
      go_wp2
      go_ret
      exact ⟨by rw [HR.out]; rfl, HG.out⟩
end Go.Proofs.Ytjidkaeglhfajaa
