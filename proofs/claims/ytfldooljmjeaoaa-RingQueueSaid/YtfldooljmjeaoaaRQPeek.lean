/-
  Peek of a byte queue: the walk.
-/
import Derived.Test.YtfldooljmjeaoaaRQPut
namespace Go.Proofs.Ytfldooljmjeaoaa
open Go.RowKit Go.Shelf

def PeekP (w : World) (l : List UInt8) (z : Int) (e : Ending) (w' : World) : Prop := ∃ v', e = .returned v' ∧ Own w' w.heap.size v' (l.take z.toNat) ∧ w.grownBy w' none
theorem fill_set {l : List UInt8} {k M : Nat} {x : UInt8} (hx : l[k]? = some x) (hk : k < M) (hM : M ≤ l.length) :
    (l.take k ++ List.replicate (M - k) 0).set k x = l.take (k + 1) ++ List.replicate (M - (k + 1)) 0 := by
  have h1 : (l.take k).length = k := by rw [List.length_take]; omega
  rw [List.set_append_right _ _ (by omega), h1, Nat.sub_self, take_snoc hx]
  obtain ⟨d, hd⟩ : ∃ d, M - k = d + 1 := ⟨M - k - 1, by omega⟩
  rw [hd, show M - (k + 1) = d by omega, List.replicate_succ, List.set_cons_zero]
  simp
theorem Own.store {w : World} {B h M : Nat} {l : List UInt8} (ho : Own w B (.slice (some ⟨h, 0, none⟩) M M) l) (hl : l.length = M) (j : Nat) (x : UInt8) : Own (w.setCell ⟨h, j, none⟩ (.int .u8 (x.toNat : Int))) B (.slice (some ⟨h, 0, none⟩) M M) (l.set j x) := ho.set hl j x
set_option maxRecDepth 100000 in
set_option maxHeartbeats 4000000 in
theorem peek_any {w : World} {g s n f : Nat} {cs l : List UInt8} (h : IsB w g s n f cs l) (z : Int) (hz : OkI z) :
    Calls Try.prog 26 #[.pointer (some ⟨g, 0, none⟩), .int .i64 z] w (PeekP w l z) := by
  have HL := Lib.hid (lenB_any h)
  have hle : l.length ≤ 4096 := by have := h.le; have := h.cnt; omega
  have HN := Lib.hid h.le
  have HCN := Lib.hid h.cnt
  have HFS := Lib.hid h.fst
  have H := Lib.hid h
  have hz' := hz
  unfold OkI at hz'
  clear h hz
  by_cases h1 : (l.length : Int) < z
  · by_cases h2 : l.length = 0
    · obtain rfl : l = [] := List.eq_nil_of_length_eq_zero h2
      clear h2
      simp only [List.length_nil] at h1 hle HL HCN
      unfold PeekP
      rw [List.take_nil]
      go_enter Try.func26, Try.ntmps26
      go_wp2_with fail
      refine HL.out.mono ?_
      rintro e w1 ⟨rfl, rfl⟩
      go_wp2
      go_ret
      exact ⟨_, rfl, Own.nil _ _, gb_refl _ _⟩
    · have h3 : ¬ (l.length : Int) ≤ 0 := by omega
      have e0 : l.take z.toNat = l.take l.length := by rw [List.take_of_length_le (l := l) (show l.length ≤ z.toNat by omega), List.take_length]
      unfold PeekP
      rw [e0]
      clear e0 h2
      have HM : Hid (l.length ≤ l.length) := Lib.hid (Nat.le_refl _)
      have HLE : Hid (∀ i : Nat, i < l.length → ∃ x, l[i]? = some x) := Lib.hid (fun i hi => ⟨l[i]'hi, by simp⟩)
      generalize hMM : l.length = m at h1 h3 hle HL HM HCN HLE ⊢
      have HLM := Lib.hid hMM
      clear hMM
      go_enter Try.func26, Try.ntmps26
      go_wp2_with fail
      refine HL.out.mono ?_
      rintro e w1 ⟨rfl, rfl⟩
      go_wp2_with ((with_reducible refine mk_step rfl _ _ rfl m rfl rfl (by have := HM.out; omega) ?_); go_must (intro w2 ho2 hg2; have HO2 := Lib.hid ho2; have HG2 := Lib.hid hg2; clear ho2 hg2))
      go_loopw [17] (fun i wr => ∃ k : Nat, k ≤ m ∧ i = .int .i64 k ∧ Hid (Own wr w.heap.size (.slice (some ⟨w.heap.size, 0, none⟩) m m) (l.take k ++ List.replicate (m - k) 0)) ∧ Hid (w.grownBy wr none)) (fun i _ => m - (intOf i).toNat)
      case atStart => exact ⟨0, Nat.zero_le _, rfl, Lib.hid (by simpa using HO2.out), HG2⟩
      case round =>
        obtain ⟨k, hk, rfl, HO, HG⟩ := hrel
        by_cases hlt : k < m
        · have hq := H.out.grown HG.out
          have hml := HM.out
          obtain ⟨x, hx⟩ : ∃ x, l[k]? = some x := HLE.out k (by omega)
          have HPL := Lib.hid (place_any (hq.grown (gb_drew _ none)) (i := k) (by have := HCN.out; omega))
          have hat := hq.at hx
          have hrn : (f + k) % n < n := Nat.mod_lt _ (by have := HFS.out; omega)
          have HLN : Hid ((l.take k ++ List.replicate (m - k) 0).length = m) := Lib.hid (by have := (Nat.le_of_eq HLM.out.symm); rw [List.length_append, List.length_take, List.length_replicate]; omega)
          have HFL := Lib.hid (fill_set hx hlt (Nat.le_of_eq HLM.out.symm))
          have HC : Hid (∀ X, wr.grownBy X none → X.cell? ⟨g, 0, none⟩ = some (.slice (some ⟨s, 0, none⟩) n n) ∧ X.cell? ⟨s, (f + k) % n, none⟩ = some (.int .u8 (x.toNat : Int))) := Lib.hid (fun X hX => ⟨(hq.grown hX).c0, (hq.grown hX).at hx⟩)
          clear hq hx hml hat
          generalize hr : (f + k) % n = r at *
          clear hr
          have HS0 := Lib.hid (HC.out _ (gb_drew wr none))
          go_wp2_with fail
          refine region_KL (fuel := 13) (listed := #[false, false, false, false, false, false, false, false, false, false, false, false, false]) (fun X => X.cell? ⟨g, 0, none⟩ = some (.slice (some ⟨s, 0, none⟩) n n) ∧ X.cell? ⟨s, r, none⟩ = some (.int .u8 (x.toNat : Int))) 12 (by kernel_rfl) rfl (by kernel_rfl) ?_
          refine wpAnyK_takeL (i := 0) (d := 20) (v := ?_) (T' := ?_) (listed' := #[true, false, false, false, false, false, false, false, false, false, false, false, false]) rfl rfl (by kernel_rfl) (fun _ _ _ h => h) rfl (Or.inl ⟨by rfl, ?_⟩) ?_ HS0.out ?_
          rotate_left 2
          · intro w hS; clear hS; go_simp; rfl
          · simp only [List.setIfInBounds_toArray, List.set_cons_succ, List.set_cons_zero]; rfl
          refine wpAnyK_takeL (i := 1) (d := 21) (v := ?_) (T' := ?_) (listed' := #[true, true, false, false, false, false, false, false, false, false, false, false, false]) rfl rfl (by kernel_rfl) (fun _ _ _ h => h) rfl (Or.inl ⟨by rfl, ?_⟩) ?_ HS0.out ?_
          rotate_left 2
          · intro w hS; clear hS; go_simp; rfl
          · simp only [List.setIfInBounds_toArray, List.set_cons_succ, List.set_cons_zero]; rfl
          refine wpAnyK_takeL (i := 2) (d := 22) (v := ?_) (T' := ?_) (listed' := #[true, true, true, false, false, false, false, false, false, false, false, false, false]) rfl rfl (by kernel_rfl) (fun _ _ _ h => h) rfl (Or.inl ⟨by rfl, ?_⟩) ?_ HS0.out ?_
          rotate_left 2
          · intro w hS; clear hS; go_simp; rfl
          · simp only [List.setIfInBounds_toArray, List.set_cons_succ, List.set_cons_zero]; rfl
          refine wpAnyK_takeL (i := 3) (d := 23) (v := ?_) (T' := ?_) (listed' := #[true, true, true, true, false, false, false, false, false, false, false, false, false]) rfl rfl (by kernel_rfl) (fun _ _ _ h => h) rfl (Or.inl ⟨by rfl, ?_⟩) ?_ HS0.out ?_
          rotate_left 2
          · intro w hS; clear hS; go_simp; rfl
          · simp only [List.setIfInBounds_toArray, List.set_cons_succ, List.set_cons_zero]; rfl
          refine wpAnyK_takeL (i := 4) (d := 24) (v := ?_) (T' := ?_) (listed' := #[true, true, true, true, true, false, false, false, false, false, false, false, false]) rfl rfl (by kernel_rfl) (fun _ _ _ h => h) rfl (Or.inl ⟨by rfl, ?_⟩) ?_ HS0.out ?_
          rotate_left 2
          · intro w hS; clear hS; go_simp; rfl
          · simp only [List.setIfInBounds_toArray, List.set_cons_succ, List.set_cons_zero]; rfl
          refine wpAnyK_takeL (i := 5) (d := 25) (v := ?_) (T' := ?_) (listed' := #[true, true, true, true, true, true, false, false, false, false, false, false, false]) rfl rfl (by kernel_rfl) (fun _ _ _ h => h) rfl (Or.inl ⟨by rfl, ?_⟩) ?_ HS0.out ?_
          rotate_left 2
          · intro w hS; have t0 := hS.1; clear hS; go_simp; rfl
          · simp only [List.setIfInBounds_toArray, List.set_cons_succ, List.set_cons_zero]; rfl
          refine wpAnyK_takeL (i := 6) (d := 26) (v := ?_) (T' := ?_) (listed' := #[true, true, true, true, true, true, true, false, false, false, false, false, false]) rfl rfl (by kernel_rfl) (fun _ _ _ h => h) rfl (Or.inl ⟨by rfl, ?_⟩) ?_ HS0.out ?_
          rotate_left 2
          · intro w hS; clear hS; go_simp; rfl
          · simp only [List.setIfInBounds_toArray, List.set_cons_succ, List.set_cons_zero]; rfl
          refine wpAnyK_takeL (i := 7) (d := 27) (v := ?_) (T' := ?_) (listed' := #[true, true, true, true, true, true, true, true, false, false, false, false, false]) rfl rfl (by kernel_rfl) (fun _ _ _ h => h) rfl (Or.inl ⟨by rfl, ?_⟩) ?_ HS0.out ?_
          rotate_left 2
          · intro w hS; clear hS; go_simp; rfl
          · simp only [List.setIfInBounds_toArray, List.set_cons_succ, List.set_cons_zero]; rfl
          refine wpAnyK_oneL (i := 8) (listed' := #[true, true, true, true, true, true, true, true, true, false, false, false, false]) (by kernel_rfl) rfl (by rfl) rfl ?_
          intro K hK
          go_simp
          refine HPL.out.mono ?_
          rintro e w3 ⟨rfl, hg3⟩
          have HG3 := Lib.hid (gb_same (gb_drew wr none) hg3)
          have HS3 := Lib.hid (HC.out _ HG3.out)
          have ho3 := HO.out.grown HG3.out
          have hfz := ho3.frozenAt HLN.out k
          obtain ⟨y, hy⟩ : ∃ y, (l.take k ++ List.replicate (m - k) 0)[k]? = some y := ⟨_, List.getElem?_eq_getElem (by rw [HLN.out]; omega)⟩
          have hold := ho3.cellAt HLN.out k y hy
          have hst := ho3.store HLN.out k x
          rw [HFL.out] at hst
          have HST := Lib.hid hst
          have HGS : Hid (w.grownBy (w3.setCell ⟨w.heap.size, k, none⟩ (.int .u8 (x.toNat : Int))) none) := Lib.hid (gb_new (gb_same HG.out HG3.out) (gb_setCell _ _ _) (Nat.le_refl _))
          clear hg3 ho3 hy hst
          refine hK _ _ (fun _ => HS3.out) ?_
          clear hK K
          refine wpAnyK_takeL (i := 9) (d := 29) (v := ?_) (T' := ?_) (listed' := #[true, true, true, true, true, true, true, true, true, true, false, false, false]) rfl rfl (by kernel_rfl) (fun _ _ _ h => h) rfl (Or.inl ⟨by rfl, ?_⟩) ?_ HS3.out ?_
          rotate_left 2
          · intro w hS; clear hS; go_simp; rfl
          · simp only [List.setIfInBounds_toArray, List.set_cons_succ, List.set_cons_zero]; rfl
          refine wpAnyK_takeL (i := 10) (d := 30) (v := ?_) (T' := ?_) (listed' := #[true, true, true, true, true, true, true, true, true, true, true, false, false]) rfl rfl (by kernel_rfl) (fun _ _ _ h => h) rfl (Or.inl ⟨by rfl, ?_⟩) ?_ HS3.out ?_
          rotate_left 2
          · intro w hS; have t0 := hS.2; clear hS; go_simp; rfl
          · simp only [List.setIfInBounds_toArray, List.set_cons_succ, List.set_cons_zero]; rfl
          refine wpAnyK_takeL (i := 11) (d := 31) (v := ?_) (T' := ?_) (listed' := #[true, true, true, true, true, true, true, true, true, true, true, true, false]) rfl rfl (by kernel_rfl) (fun _ _ _ h => h) rfl (Or.inl ⟨by rfl, ?_⟩) ?_ HS3.out ?_
          rotate_left 2
          · intro w hS; clear hS; go_simp; rfl
          · simp only [List.setIfInBounds_toArray, List.set_cons_succ, List.set_cons_zero]; rfl
          refine wpAnyK_oneL (i := 12) (listed' := #[true, true, true, true, true, true, true, true, true, true, true, true, true]) (by kernel_rfl) rfl (by rfl) rfl ?_
          intro K hK
          go_simp
          refine hK _ _ (fun h => Bool.noConfusion (show true = false from h)) ?_
          clear hK K
          refine wpAnyK_done (by kernel_rfl) ?_ _
          go_wp2
          go_roundw
          case rel => exact ⟨k + 1, by omega, by go_num, HST, HGS⟩
          case measure => simp [intOf]; omega
        · have hkm : m = k := by omega
          subst hkm
          clear hlt
          have HE : Hid (Own wr w.heap.size (.slice (some ⟨w.heap.size, 0, none⟩) m m) (l.take m)) := Lib.hid (by simpa using HO.out)
          go_wp2
          go_ret
          exact ⟨_, rfl, HE.out, HG.out⟩
  · by_cases h2 : z ≤ 0
    · have e0 : z.toNat = 0 := by omega
      unfold PeekP
      rw [e0, List.take_zero]
      clear e0
      go_enter Try.func26, Try.ntmps26
      go_wp2_with fail
      refine HL.out.mono ?_
      rintro e w1 ⟨rfl, rfl⟩
      go_wp2
      go_ret
      exact ⟨_, rfl, Own.nil _ _, gb_refl _ _⟩
    · obtain ⟨m, hm⟩ : ∃ m : Nat, z = (m : Int) := ⟨z.toNat, by omega⟩
      subst hm
      have HM : Hid (m ≤ l.length) := Lib.hid (by omega)
      have HLE : Hid (∀ i : Nat, i < l.length → ∃ x, l[i]? = some x) := Lib.hid (fun i hi => ⟨l[i]'hi, by simp⟩)
      unfold PeekP
      rw [Int.toNat_natCast]
      have hz1 : (m : Int) ≤ 9223372036854775807 := by omega
      go_enter Try.func26, Try.ntmps26
      go_wp2_with fail
      refine HL.out.mono ?_
      rintro e w1 ⟨rfl, rfl⟩
      go_wp2_with ((with_reducible refine mk_step rfl _ _ rfl m rfl rfl (by have := HM.out; omega) ?_); go_must (intro w2 ho2 hg2; have HO2 := Lib.hid ho2; have HG2 := Lib.hid hg2; clear ho2 hg2))
      go_loopw [17] (fun i wr => ∃ k : Nat, k ≤ m ∧ i = .int .i64 k ∧ Hid (Own wr w.heap.size (.slice (some ⟨w.heap.size, 0, none⟩) m m) (l.take k ++ List.replicate (m - k) 0)) ∧ Hid (w.grownBy wr none)) (fun i _ => m - (intOf i).toNat)
      case atStart => exact ⟨0, Nat.zero_le _, rfl, Lib.hid (by simpa using HO2.out), HG2⟩
      case round =>
        obtain ⟨k, hk, rfl, HO, HG⟩ := hrel
        by_cases hlt : k < m
        · have hq := H.out.grown HG.out
          have hml := HM.out
          obtain ⟨x, hx⟩ : ∃ x, l[k]? = some x := HLE.out k (by omega)
          have HPL := Lib.hid (place_any (hq.grown (gb_drew _ none)) (i := k) (by have := HCN.out; omega))
          have hat := hq.at hx
          have hrn : (f + k) % n < n := Nat.mod_lt _ (by have := HFS.out; omega)
          have HLN : Hid ((l.take k ++ List.replicate (m - k) 0).length = m) := Lib.hid (by have := HM.out; rw [List.length_append, List.length_take, List.length_replicate]; omega)
          have HFL := Lib.hid (fill_set hx hlt HM.out)
          have HC : Hid (∀ X, wr.grownBy X none → X.cell? ⟨g, 0, none⟩ = some (.slice (some ⟨s, 0, none⟩) n n) ∧ X.cell? ⟨s, (f + k) % n, none⟩ = some (.int .u8 (x.toNat : Int))) := Lib.hid (fun X hX => ⟨(hq.grown hX).c0, (hq.grown hX).at hx⟩)
          clear hq hx hml hat
          generalize hr : (f + k) % n = r at *
          clear hr
          have HS0 := Lib.hid (HC.out _ (gb_drew wr none))
          go_wp2_with fail
          refine region_KL (fuel := 13) (listed := #[false, false, false, false, false, false, false, false, false, false, false, false, false]) (fun X => X.cell? ⟨g, 0, none⟩ = some (.slice (some ⟨s, 0, none⟩) n n) ∧ X.cell? ⟨s, r, none⟩ = some (.int .u8 (x.toNat : Int))) 12 (by kernel_rfl) rfl (by kernel_rfl) ?_
          refine wpAnyK_takeL (i := 0) (d := 20) (v := ?_) (T' := ?_) (listed' := #[true, false, false, false, false, false, false, false, false, false, false, false, false]) rfl rfl (by kernel_rfl) (fun _ _ _ h => h) rfl (Or.inl ⟨by rfl, ?_⟩) ?_ HS0.out ?_
          rotate_left 2
          · intro w hS; clear hS; go_simp; rfl
          · simp only [List.setIfInBounds_toArray, List.set_cons_succ, List.set_cons_zero]; rfl
          refine wpAnyK_takeL (i := 1) (d := 21) (v := ?_) (T' := ?_) (listed' := #[true, true, false, false, false, false, false, false, false, false, false, false, false]) rfl rfl (by kernel_rfl) (fun _ _ _ h => h) rfl (Or.inl ⟨by rfl, ?_⟩) ?_ HS0.out ?_
          rotate_left 2
          · intro w hS; clear hS; go_simp; rfl
          · simp only [List.setIfInBounds_toArray, List.set_cons_succ, List.set_cons_zero]; rfl
          refine wpAnyK_takeL (i := 2) (d := 22) (v := ?_) (T' := ?_) (listed' := #[true, true, true, false, false, false, false, false, false, false, false, false, false]) rfl rfl (by kernel_rfl) (fun _ _ _ h => h) rfl (Or.inl ⟨by rfl, ?_⟩) ?_ HS0.out ?_
          rotate_left 2
          · intro w hS; clear hS; go_simp; rfl
          · simp only [List.setIfInBounds_toArray, List.set_cons_succ, List.set_cons_zero]; rfl
          refine wpAnyK_takeL (i := 3) (d := 23) (v := ?_) (T' := ?_) (listed' := #[true, true, true, true, false, false, false, false, false, false, false, false, false]) rfl rfl (by kernel_rfl) (fun _ _ _ h => h) rfl (Or.inl ⟨by rfl, ?_⟩) ?_ HS0.out ?_
          rotate_left 2
          · intro w hS; clear hS; go_simp; rfl
          · simp only [List.setIfInBounds_toArray, List.set_cons_succ, List.set_cons_zero]; rfl
          refine wpAnyK_takeL (i := 4) (d := 24) (v := ?_) (T' := ?_) (listed' := #[true, true, true, true, true, false, false, false, false, false, false, false, false]) rfl rfl (by kernel_rfl) (fun _ _ _ h => h) rfl (Or.inl ⟨by rfl, ?_⟩) ?_ HS0.out ?_
          rotate_left 2
          · intro w hS; clear hS; go_simp; rfl
          · simp only [List.setIfInBounds_toArray, List.set_cons_succ, List.set_cons_zero]; rfl
          refine wpAnyK_takeL (i := 5) (d := 25) (v := ?_) (T' := ?_) (listed' := #[true, true, true, true, true, true, false, false, false, false, false, false, false]) rfl rfl (by kernel_rfl) (fun _ _ _ h => h) rfl (Or.inl ⟨by rfl, ?_⟩) ?_ HS0.out ?_
          rotate_left 2
          · intro w hS; have t0 := hS.1; clear hS; go_simp; rfl
          · simp only [List.setIfInBounds_toArray, List.set_cons_succ, List.set_cons_zero]; rfl
          refine wpAnyK_takeL (i := 6) (d := 26) (v := ?_) (T' := ?_) (listed' := #[true, true, true, true, true, true, true, false, false, false, false, false, false]) rfl rfl (by kernel_rfl) (fun _ _ _ h => h) rfl (Or.inl ⟨by rfl, ?_⟩) ?_ HS0.out ?_
          rotate_left 2
          · intro w hS; clear hS; go_simp; rfl
          · simp only [List.setIfInBounds_toArray, List.set_cons_succ, List.set_cons_zero]; rfl
          refine wpAnyK_takeL (i := 7) (d := 27) (v := ?_) (T' := ?_) (listed' := #[true, true, true, true, true, true, true, true, false, false, false, false, false]) rfl rfl (by kernel_rfl) (fun _ _ _ h => h) rfl (Or.inl ⟨by rfl, ?_⟩) ?_ HS0.out ?_
          rotate_left 2
          · intro w hS; clear hS; go_simp; rfl
          · simp only [List.setIfInBounds_toArray, List.set_cons_succ, List.set_cons_zero]; rfl
          refine wpAnyK_oneL (i := 8) (listed' := #[true, true, true, true, true, true, true, true, true, false, false, false, false]) (by kernel_rfl) rfl (by rfl) rfl ?_
          intro K hK
          go_simp
          refine HPL.out.mono ?_
          rintro e w3 ⟨rfl, hg3⟩
          have HG3 := Lib.hid (gb_same (gb_drew wr none) hg3)
          have HS3 := Lib.hid (HC.out _ HG3.out)
          have ho3 := HO.out.grown HG3.out
          have hfz := ho3.frozenAt HLN.out k
          obtain ⟨y, hy⟩ : ∃ y, (l.take k ++ List.replicate (m - k) 0)[k]? = some y := ⟨_, List.getElem?_eq_getElem (by rw [HLN.out]; omega)⟩
          have hold := ho3.cellAt HLN.out k y hy
          have hst := ho3.store HLN.out k x
          rw [HFL.out] at hst
          have HST := Lib.hid hst
          have HGS : Hid (w.grownBy (w3.setCell ⟨w.heap.size, k, none⟩ (.int .u8 (x.toNat : Int))) none) := Lib.hid (gb_new (gb_same HG.out HG3.out) (gb_setCell _ _ _) (Nat.le_refl _))
          clear hg3 ho3 hy hst
          refine hK _ _ (fun _ => HS3.out) ?_
          clear hK K
          refine wpAnyK_takeL (i := 9) (d := 29) (v := ?_) (T' := ?_) (listed' := #[true, true, true, true, true, true, true, true, true, true, false, false, false]) rfl rfl (by kernel_rfl) (fun _ _ _ h => h) rfl (Or.inl ⟨by rfl, ?_⟩) ?_ HS3.out ?_
          rotate_left 2
          · intro w hS; clear hS; go_simp; rfl
          · simp only [List.setIfInBounds_toArray, List.set_cons_succ, List.set_cons_zero]; rfl
          refine wpAnyK_takeL (i := 10) (d := 30) (v := ?_) (T' := ?_) (listed' := #[true, true, true, true, true, true, true, true, true, true, true, false, false]) rfl rfl (by kernel_rfl) (fun _ _ _ h => h) rfl (Or.inl ⟨by rfl, ?_⟩) ?_ HS3.out ?_
          rotate_left 2
          · intro w hS; have t0 := hS.2; clear hS; go_simp; rfl
          · simp only [List.setIfInBounds_toArray, List.set_cons_succ, List.set_cons_zero]; rfl
          refine wpAnyK_takeL (i := 11) (d := 31) (v := ?_) (T' := ?_) (listed' := #[true, true, true, true, true, true, true, true, true, true, true, true, false]) rfl rfl (by kernel_rfl) (fun _ _ _ h => h) rfl (Or.inl ⟨by rfl, ?_⟩) ?_ HS3.out ?_
          rotate_left 2
          · intro w hS; clear hS; go_simp; rfl
          · simp only [List.setIfInBounds_toArray, List.set_cons_succ, List.set_cons_zero]; rfl
          refine wpAnyK_oneL (i := 12) (listed' := #[true, true, true, true, true, true, true, true, true, true, true, true, true]) (by kernel_rfl) rfl (by rfl) rfl ?_
          intro K hK
          go_simp
          refine hK _ _ (fun h => Bool.noConfusion (show true = false from h)) ?_
          clear hK K
          refine wpAnyK_done (by kernel_rfl) ?_ _
          go_wp2
          go_roundw
          case rel => exact ⟨k + 1, by omega, by go_num, HST, HGS⟩
          case measure => simp [intOf]; omega
        · have hkm : m = k := by omega
          subst hkm
          clear hlt
          have HE : Hid (Own wr w.heap.size (.slice (some ⟨w.heap.size, 0, none⟩) m m) (l.take m)) := Lib.hid (by simpa using HO.out)
          go_wp2
          go_ret
          exact ⟨_, rfl, HE.out, HG.out⟩
end Go.Proofs.Ytfldooljmjeaoaa
