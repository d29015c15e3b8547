/-
  A bit is set or cleared: put and Set of the reference, Set of extent.
-/
import Derived.Test.YtpfeaeklenopdaaEPut
namespace Go.Proofs.Ytpfeaeklenopdaa
open Go.RowKit

set_option maxRecDepth 100000 in
set_option maxHeartbeats 2000000 in
theorem rput_any (v : Value) (l : List UInt8) (k : Nat) (on : Bool) (w : World) (hv : Rd w v l) (hl : l.length ≤ 1000000) (hk : k < 8 * l.length) :
    Calls Try.prog 41 #[v, .int .i64 (k : Int), .bool on] w (OwnP w (setB l k on)) := by
  have HV := Lib.hid hv
  have hne : l ≠ [] := by rintro rfl; simp at hk
  have hkd : k / 8 < l.length := by omega
  have hk63 : (k : Int) ≤ 9223372036854775807 := by omega
  obtain ⟨x, hx⟩ : ∃ x, l[k / 8]? = some x := ⟨l[k / 8], by simp [hkd]⟩
  have HX := Lib.hid hx
  have HWR : Hid (IntKind.i64.wrap ((k : Int) / 8) = ((k / 8 : Nat) : Int)) := Lib.hid (by rw [IntKind.wrap_i64] <;> omega)
  have HMK : Hid (IntKind.u8.wrap (2 ^ ((k : Int) % 8).toNat) = ((2 ^ (k % 8) : Nat) : Int)) := Lib.hid (by rw [show ((k : Int) % 8).toNat = k % 8 by omega, IntKind.wrap_u8]; exact pow_mod8 k)
  have HRM : Hid ((k : Int).tmod 8 = ((k % 8 : Nat) : Int)) := Lib.hid (by rw [Int.tmod_eq_emod_of_nonneg (by omega)]; omega)
  have HO := Lib.hid (Own.lit w #[] [] 0 w.heap.size rfl rfl (Nat.le_refl _) (Nat.zero_le _))
  obtain ⟨a, c, rfl⟩ := hv.len
  have HLL : Hid (([] : List UInt8).length + l.length ≤ 140737488355328) := Lib.hid (by simp; omega)
  have HNE := Lib.hid hne
  have HL := Lib.hid hl
  have HK := Lib.hid hk
  clear hv hx hne hl hk
  go_enter Try.func41, Try.ntmps41
  go_wp2_with (at_builtin; refine app_bytes rfl _ _ rfl w.heap.size _ _ [] l rfl rfl HO.out (HV.out.grown (gb_alloc _ _ _)) (by simp) HLL.out ?_; go_must (intro v2 w2 ho2 hg2 hf2; rw [List.nil_append] at ho2; have HO2 := Lib.hid ho2; have HG2 : Hid (w.grownBy w2 none) := Lib.hid (gb_trans (gb_alloc _ _ none) hg2 (fun k hk => .inr (HO.out.lt k hk).1)); clear hg2 hf2; obtain ⟨g, cap, rfl, hgB, hgs⟩ := ho2.at HNE.out; clear ho2))
  have hv2 := HO2.out.grown (gb_drew w2 none)
  have hcd := hv2.cellAt rfl (k / 8) x HX.out
  have hfz := hv2.frozenAt rfl (k / 8)
  have HS : Hid (∀ W, Own W w.heap.size (.slice (some ⟨g, 0, none⟩) l.length cap) l → ∀ on, Own (W.setCell ⟨g, k / 8, none⟩ (.int .u8 (setN x.toNat (k % 8) on : Int))) w.heap.size (.slice (some ⟨g, 0, none⟩) l.length cap) (setB l k on)) := Lib.hid (fun W hW on => by
    have h1 := hW.set rfl (k / 8) (UInt8.ofNat (setN x.toNat (k % 8) on))
    rw [← setB_at HX.out] at h1
    unfold bv at h1
    rw [ofNat_lt (setN_lt (UInt8.toNat_lt _) _)] at h1
    exact h1)
  have HB1 := Lib.hid (setN_not (x := x.toNat) (k := k) x.toNat_lt)
  have HSF := Lib.hid (HS.out _ hv2 false)
  rw [← HB1.out] at HSF
  have HB2 : Hid (bits BinOp.or IntKind.u8 (bits BinOp.andNot IntKind.u8 (x.toNat : Int) ((2 ^ (k % 8) : Nat) : Int)) ((2 ^ (k % 8) : Nat) : Int) = ((setN x.toNat (k % 8) true : Nat) : Int)) := Lib.hid (by
    rw [HB1.out, setN_or (setN_lt (UInt8.toNat_lt _) _), setN_two (UInt8.toNat_lt _)])
  have HG : Hid (∀ W u, w.grownBy W none → w.grownBy (W.setCell ⟨g, k / 8, none⟩ u) none) := Lib.hid (fun W u h => gb_trans h (gb_setCell _ _ _) (fun j hj => .inr (by cases hj; exact hgB)))
  have HGD : Hid (w.grownBy w2.drew none) := Lib.hid (gb_same HG2.out (gb_drew _ _))
  have HBT : Hid (∀ W, Own W w.heap.size (.slice (some ⟨g, 0, none⟩) l.length cap) (setB l k false) → Own ((W.setCell ⟨g, k / 8, none⟩ (.int .u8 ((setN x.toNat (k % 8) true : Nat) : Int)))) w.heap.size (.slice (some ⟨g, 0, none⟩) l.length cap) (setB l k true)) := Lib.hid (fun W hW => by
    have hl2 : (setB l k false).length = l.length := setB_len l k false
    have h1 := hW.set hl2 (k / 8) (UInt8.ofNat (setN x.toNat (k % 8) true))
    unfold bv at h1
    rw [ofNat_lt (setN_lt (UInt8.toNat_lt _) _)] at h1
    rw [setB_at HX.out, List.set_set, ← setB_at HX.out] at h1
    exact h1)
  have HCC : Hid (∀ W, Own W w.heap.size (.slice (some ⟨g, 0, none⟩) l.length cap) (setB l k false) → W.cell? ⟨g, k / 8, none⟩ = some (.int .u8 (setN x.toNat (k % 8) false : Int)) ∧ W.frozen? ⟨g, k / 8, none⟩ = false) := Lib.hid (fun W hW => by
    have hl2 : (setB l k false).length = l.length := setB_len l k false
    have h1 := hW.cellAt hl2 (k / 8) (UInt8.ofNat (setN x.toNat (k % 8) false)) (by rw [setB_at HX.out, List.getElem?_set_self (by omega)])
    rw [ofNat_lt (setN_lt (UInt8.toNat_lt _) _)] at h1
    exact ⟨h1, hW.frozenAt hl2 _⟩)
  rw [← HB1.out] at HCC
  rw [← HB2.out] at HBT
  clear hv2 HS HB1 HB2 HO2 HG2
  generalize x.toNat = xn at *
  generalize (2 ^ (k % 8) : Nat) = mk at *
  generalize hkk : k / 8 = kd at *
  clear hkk
  refine region_KL (fuel := 14) (listed := #[false, false, false, false, false, false, false, false, false, false, false, false, false, false]) (fun X => X = w2.drew) 13 (by kernel_rfl) rfl (by kernel_rfl) ?_
  generalize w2.drew = wd at *
  refine wpAnyK_takeL (i := 0) (d := 11) (v := ?_) (T' := ?_) (listed' := #[true, false, false, false, false, false, false, false, false, false, false, false, false, false]) rfl rfl (by kernel_rfl) (fun _ _ _ h => h) rfl (Or.inl ⟨by rfl, ?_⟩) ?_ rfl ?_
  rotate_left 2
  · intro w hS; clear hS; go_simp; rfl
  · simp only [List.setIfInBounds_toArray, List.set_cons_succ, List.set_cons_zero]; rfl
  refine wpAnyK_takeL (i := 1) (d := 12) (v := ?_) (T' := ?_) (listed' := #[true, true, false, false, false, false, false, false, false, false, false, false, false, false]) rfl rfl (by kernel_rfl) (fun _ _ _ h => h) rfl (Or.inl ⟨by rfl, ?_⟩) ?_ rfl ?_
  rotate_left 2
  · intro w hS; clear hS; go_simp; rfl
  · simp only [List.setIfInBounds_toArray, List.set_cons_succ, List.set_cons_zero]; rfl
  refine wpAnyK_takeL (i := 2) (d := 13) (v := ?_) (T' := ?_) (listed' := #[true, true, true, false, false, false, false, false, false, false, false, false, false, false]) rfl rfl (by kernel_rfl) (fun _ _ _ h => h) rfl (Or.inl ⟨by rfl, ?_⟩) ?_ rfl ?_
  rotate_left 2
  · intro w hS; clear hS; go_simp; rw [HWR.out]
  · simp only [List.setIfInBounds_toArray, List.set_cons_succ, List.set_cons_zero]; rfl
  refine wpAnyK_takeL (i := 3) (d := 14) (v := ?_) (T' := ?_) (listed' := #[true, true, true, true, false, false, false, false, false, false, false, false, false, false]) rfl rfl (by kernel_rfl) (fun _ _ _ h => h) rfl (Or.inl ⟨by rfl, ?_⟩) ?_ rfl ?_
  rotate_left 2
  · intro w hS; clear hS; go_simp; rfl
  · simp only [List.setIfInBounds_toArray, List.set_cons_succ, List.set_cons_zero]; rfl
  refine wpAnyK_takeL (i := 4) (d := 15) (v := ?_) (T' := ?_) (listed' := #[true, true, true, true, true, false, false, false, false, false, false, false, false, false]) rfl rfl (by kernel_rfl) (fun _ _ _ h => h) rfl (Or.inl ⟨by rfl, ?_⟩) ?_ rfl ?_
  rotate_left 2
  · intro w hS; clear hS; go_simp; rfl
  · simp only [List.setIfInBounds_toArray, List.set_cons_succ, List.set_cons_zero]; rfl
  refine wpAnyK_takeL (i := 5) (d := 16) (v := ?_) (T' := ?_) (listed' := #[true, true, true, true, true, true, false, false, false, false, false, false, false, false]) rfl rfl (by kernel_rfl) (fun _ _ _ h => h) rfl (Or.inl ⟨by rfl, ?_⟩) ?_ rfl ?_
  rotate_left 2
  · intro w hS; clear hS; go_simp; rw [HWR.out]
  · simp only [List.setIfInBounds_toArray, List.set_cons_succ, List.set_cons_zero]; rfl
  refine wpAnyK_takeL (i := 6) (d := 17) (v := ?_) (T' := ?_) (listed' := #[true, true, true, true, true, true, true, false, false, false, false, false, false, false]) rfl rfl (by kernel_rfl) (fun _ _ _ h => h) rfl (Or.inl ⟨by rfl, ?_⟩) ?_ rfl ?_
  rotate_left 2
  · intro w hS; clear hS; go_simp; rfl
  · simp only [List.setIfInBounds_toArray, List.set_cons_succ, List.set_cons_zero]; rfl
  refine wpAnyK_takeL (i := 7) (d := 18) (v := ?_) (T' := ?_) (listed' := #[true, true, true, true, true, true, true, true, false, false, false, false, false, false]) rfl rfl (by kernel_rfl) (fun _ _ _ h => h) rfl (Or.inl ⟨by rfl, ?_⟩) ?_ rfl ?_
  rotate_left 2
  · intro w hS; subst hS; go_simp; rfl
  · simp only [List.setIfInBounds_toArray, List.set_cons_succ, List.set_cons_zero]; rfl
  refine wpAnyK_takeL (i := 8) (d := 19) (v := ?_) (T' := ?_) (listed' := #[true, true, true, true, true, true, true, true, true, false, false, false, false, false]) rfl rfl (by kernel_rfl) (fun _ _ _ h => h) rfl (Or.inl ⟨by rfl, ?_⟩) ?_ rfl ?_
  rotate_left 2
  · intro w hS; clear hS; go_simp; rfl
  · simp only [List.setIfInBounds_toArray, List.set_cons_succ, List.set_cons_zero]; rfl
  refine wpAnyK_takeL (i := 9) (d := 20) (v := ?_) (T' := ?_) (listed' := #[true, true, true, true, true, true, true, true, true, true, false, false, false, false]) rfl rfl (by kernel_rfl) (fun _ _ _ h => h) rfl (Or.inl ⟨by rfl, ?_⟩) ?_ rfl ?_
  rotate_left 2
  · intro w hS; clear hS; go_simp; rw [HRM.out]
  · simp only [List.setIfInBounds_toArray, List.set_cons_succ, List.set_cons_zero]; rfl
  refine wpAnyK_takeL (i := 10) (d := 21) (v := ?_) (T' := ?_) (listed' := #[true, true, true, true, true, true, true, true, true, true, true, false, false, false]) rfl rfl (by kernel_rfl) (fun _ _ _ h => h) rfl (Or.inl ⟨by rfl, ?_⟩) ?_ rfl ?_
  rotate_left 2
  · intro w hS; clear hS; go_simp; rw [HMK.out]
  · simp only [List.setIfInBounds_toArray, List.set_cons_succ, List.set_cons_zero]; rfl
  refine wpAnyK_takeL (i := 11) (d := 22) (v := ?_) (T' := ?_) (listed' := #[true, true, true, true, true, true, true, true, true, true, true, true, false, false]) rfl rfl (by kernel_rfl) (fun _ _ _ h => h) rfl (Or.inl ⟨by rfl, ?_⟩) ?_ rfl ?_
  rotate_left 2
  · intro w hS; clear hS; go_simp; rfl
  · simp only [List.setIfInBounds_toArray, List.set_cons_succ, List.set_cons_zero]; rfl
  refine wpAnyK_takeL (i := 12) (d := 23) (v := ?_) (T' := ?_) (listed' := #[true, true, true, true, true, true, true, true, true, true, true, true, true, false]) rfl rfl (by kernel_rfl) (fun _ _ _ h => h) rfl (Or.inl ⟨by rfl, ?_⟩) ?_ rfl ?_
  rotate_left 2
  · intro w hS; clear hS; go_simp; rfl
  · simp only [List.setIfInBounds_toArray, List.set_cons_succ, List.set_cons_zero]; rfl
  refine wpAnyK_oneL (i := 13) (listed' := #[true, true, true, true, true, true, true, true, true, true, true, true, true, true]) (by kernel_rfl) rfl (by rfl) rfl ?_
  intro K hK
  go_simp
  refine hK _ _ (fun h => Bool.noConfusion (show true = false from h)) ?_
  clear hK K
  refine wpAnyK_done (by kernel_rfl) ?_ _
  generalize hX1 : wd.setCell ⟨g, kd, none⟩ (Value.int IntKind.u8 (bits BinOp.andNot IntKind.u8 (xn : Int) (mk : Int))) = X1 at *
  have HX2 : Hid (Own X1.drew w.heap.size (.slice (some ⟨g, 0, none⟩) l.length cap) (setB l k false)) := Lib.hid (HSF.out.grown (gb_drew _ none))
  have HG1 : Hid (w.grownBy X1 none) := Lib.hid (by rw [← hX1]; exact HG.out _ _ HGD.out)
  have hc2 := (HCC.out _ HX2.out).1
  have hf2 := (HCC.out _ HX2.out).2
  have HB3 := Lib.hid (HBT.out _ HX2.out)
  have HG3 : Hid (∀ u, w.grownBy (X1.drew.setCell ⟨g, kd, none⟩ u) none) := Lib.hid (fun u => HG.out _ _ (gb_same HG1.out (gb_drew _ none)))
  have HX1 : Hid (Own X1 w.heap.size (.slice (some ⟨g, 0, none⟩) l.length cap) (setB l k false)) := Lib.hid HSF.out
  clear hX1 HBT HCC HG HGD HSF hcd hfz
  cases on
  · go_wp2
    go_ret
    exact ⟨_, rfl, HX1.out, HG1.out⟩
  · go_wp2
    refine region_KL (fuel := 14) (listed := #[false, false, false, false, false, false, false, false, false, false, false, false, false, false]) (fun X => X = X1.drew) 13 (by kernel_rfl) rfl (by kernel_rfl) ?_
    generalize X1.drew = xd at *
    refine wpAnyK_takeL (i := 0) (d := 25) (v := ?_) (T' := ?_) (listed' := #[true, false, false, false, false, false, false, false, false, false, false, false, false, false]) rfl rfl (by kernel_rfl) (fun _ _ _ h => h) rfl (Or.inl ⟨by rfl, ?_⟩) ?_ rfl ?_
    rotate_left 2
    · intro w hS; clear hS; go_simp; rfl
    · simp only [List.setIfInBounds_toArray, List.set_cons_succ, List.set_cons_zero]; rfl
    refine wpAnyK_takeL (i := 1) (d := 26) (v := ?_) (T' := ?_) (listed' := #[true, true, false, false, false, false, false, false, false, false, false, false, false, false]) rfl rfl (by kernel_rfl) (fun _ _ _ h => h) rfl (Or.inl ⟨by rfl, ?_⟩) ?_ rfl ?_
    rotate_left 2
    · intro w hS; clear hS; go_simp; rfl
    · simp only [List.setIfInBounds_toArray, List.set_cons_succ, List.set_cons_zero]; rfl
    refine wpAnyK_takeL (i := 2) (d := 27) (v := ?_) (T' := ?_) (listed' := #[true, true, true, false, false, false, false, false, false, false, false, false, false, false]) rfl rfl (by kernel_rfl) (fun _ _ _ h => h) rfl (Or.inl ⟨by rfl, ?_⟩) ?_ rfl ?_
    rotate_left 2
    · intro w hS; clear hS; go_simp; rw [HWR.out]
    · simp only [List.setIfInBounds_toArray, List.set_cons_succ, List.set_cons_zero]; rfl
    refine wpAnyK_takeL (i := 3) (d := 28) (v := ?_) (T' := ?_) (listed' := #[true, true, true, true, false, false, false, false, false, false, false, false, false, false]) rfl rfl (by kernel_rfl) (fun _ _ _ h => h) rfl (Or.inl ⟨by rfl, ?_⟩) ?_ rfl ?_
    rotate_left 2
    · intro w hS; clear hS; go_simp; rfl
    · simp only [List.setIfInBounds_toArray, List.set_cons_succ, List.set_cons_zero]; rfl
    refine wpAnyK_takeL (i := 4) (d := 29) (v := ?_) (T' := ?_) (listed' := #[true, true, true, true, true, false, false, false, false, false, false, false, false, false]) rfl rfl (by kernel_rfl) (fun _ _ _ h => h) rfl (Or.inl ⟨by rfl, ?_⟩) ?_ rfl ?_
    rotate_left 2
    · intro w hS; clear hS; go_simp; rfl
    · simp only [List.setIfInBounds_toArray, List.set_cons_succ, List.set_cons_zero]; rfl
    refine wpAnyK_takeL (i := 5) (d := 30) (v := ?_) (T' := ?_) (listed' := #[true, true, true, true, true, true, false, false, false, false, false, false, false, false]) rfl rfl (by kernel_rfl) (fun _ _ _ h => h) rfl (Or.inl ⟨by rfl, ?_⟩) ?_ rfl ?_
    rotate_left 2
    · intro w hS; clear hS; go_simp; rw [HWR.out]
    · simp only [List.setIfInBounds_toArray, List.set_cons_succ, List.set_cons_zero]; rfl
    refine wpAnyK_takeL (i := 6) (d := 31) (v := ?_) (T' := ?_) (listed' := #[true, true, true, true, true, true, true, false, false, false, false, false, false, false]) rfl rfl (by kernel_rfl) (fun _ _ _ h => h) rfl (Or.inl ⟨by rfl, ?_⟩) ?_ rfl ?_
    rotate_left 2
    · intro w hS; clear hS; go_simp; rfl
    · simp only [List.setIfInBounds_toArray, List.set_cons_succ, List.set_cons_zero]; rfl
    refine wpAnyK_takeL (i := 7) (d := 32) (v := ?_) (T' := ?_) (listed' := #[true, true, true, true, true, true, true, true, false, false, false, false, false, false]) rfl rfl (by kernel_rfl) (fun _ _ _ h => h) rfl (Or.inl ⟨by rfl, ?_⟩) ?_ rfl ?_
    rotate_left 2
    · intro w hS; subst hS; go_simp; rfl
    · simp only [List.setIfInBounds_toArray, List.set_cons_succ, List.set_cons_zero]; rfl
    refine wpAnyK_takeL (i := 8) (d := 33) (v := ?_) (T' := ?_) (listed' := #[true, true, true, true, true, true, true, true, true, false, false, false, false, false]) rfl rfl (by kernel_rfl) (fun _ _ _ h => h) rfl (Or.inl ⟨by rfl, ?_⟩) ?_ rfl ?_
    rotate_left 2
    · intro w hS; clear hS; go_simp; rfl
    · simp only [List.setIfInBounds_toArray, List.set_cons_succ, List.set_cons_zero]; rfl
    refine wpAnyK_takeL (i := 9) (d := 34) (v := ?_) (T' := ?_) (listed' := #[true, true, true, true, true, true, true, true, true, true, false, false, false, false]) rfl rfl (by kernel_rfl) (fun _ _ _ h => h) rfl (Or.inl ⟨by rfl, ?_⟩) ?_ rfl ?_
    rotate_left 2
    · intro w hS; clear hS; go_simp; rw [HRM.out]
    · simp only [List.setIfInBounds_toArray, List.set_cons_succ, List.set_cons_zero]; rfl
    refine wpAnyK_takeL (i := 10) (d := 35) (v := ?_) (T' := ?_) (listed' := #[true, true, true, true, true, true, true, true, true, true, true, false, false, false]) rfl rfl (by kernel_rfl) (fun _ _ _ h => h) rfl (Or.inl ⟨by rfl, ?_⟩) ?_ rfl ?_
    rotate_left 2
    · intro w hS; clear hS; go_simp; rw [HMK.out]
    · simp only [List.setIfInBounds_toArray, List.set_cons_succ, List.set_cons_zero]; rfl
    refine wpAnyK_takeL (i := 11) (d := 36) (v := ?_) (T' := ?_) (listed' := #[true, true, true, true, true, true, true, true, true, true, true, true, false, false]) rfl rfl (by kernel_rfl) (fun _ _ _ h => h) rfl (Or.inl ⟨by rfl, ?_⟩) ?_ rfl ?_
    rotate_left 2
    · intro w hS; clear hS; go_simp; rfl
    · simp only [List.setIfInBounds_toArray, List.set_cons_succ, List.set_cons_zero]; rfl
    refine wpAnyK_takeL (i := 12) (d := 37) (v := ?_) (T' := ?_) (listed' := #[true, true, true, true, true, true, true, true, true, true, true, true, true, false]) rfl rfl (by kernel_rfl) (fun _ _ _ h => h) rfl (Or.inl ⟨by rfl, ?_⟩) ?_ rfl ?_
    rotate_left 2
    · intro w hS; clear hS; go_simp; rfl
    · simp only [List.setIfInBounds_toArray, List.set_cons_succ, List.set_cons_zero]; rfl
    refine wpAnyK_oneL (i := 13) (listed' := #[true, true, true, true, true, true, true, true, true, true, true, true, true, true]) (by kernel_rfl) rfl (by rfl) rfl ?_
    intro K hK
    go_simp
    refine hK _ _ (fun h => Bool.noConfusion (show true = false from h)) ?_
    clear hK K
    refine wpAnyK_done (by kernel_rfl) ?_ _
    go_wp2
    go_ret
    exact ⟨_, rfl, HB3.out, HG3.out _⟩
def setS (l : List UInt8) (i : Int) (on : Bool) : Option (List UInt8) := if hasB l i then some (setB l i.toNat on) else none
/-- bytes and a code: nil and the code, or bytes of the call's own and 0 -/
def BytesP (w : World) (c : Int) (o : Option (List UInt8)) (e : Ending) (w' : World) : Prop :=
  match o with
  | none => e = .returned (.tuple #[.slice none 0 0, .int .i64 c]) ∧ w.grownBy w' none
  | some l => ∃ v', e = .returned (.tuple #[v', .int .i64 0]) ∧ Own w' w.heap.size v' l ∧ w.grownBy w' none
set_option maxRecDepth 100000 in
theorem set_any (v : Value) (l : List UInt8) (i : Int) (on : Bool) (w : World) (hv : Rd w v l) (hl : l.length ≤ 1000000) :
    Calls Try.prog 15 #[v, .int .i64 i, .bool on] w (BytesP w 2 (setS l i on)) := by
  have HH := Lib.hid (has_any v l i w hv hl)
  have HC := Lib.hid (clone_any v l w hv (by omega))
  unfold setS
  by_cases h0 : hasB l i = true
  · have h1 := h0
    unfold hasB at h1
    simp only [Bool.and_eq_true, decide_eq_true_eq] at h1
    obtain ⟨k, rfl⟩ := Int.eq_ofNat_of_zero_le h1.1
    rw [if_pos h0, Int.toNat_natCast]
    rw [h0] at HH
    have HP := Lib.hid (fun W v' (h : Own W w.heap.size v' l) => put_any v' l k w.heap.size on W h hl (by omega))
    obtain ⟨a, c, rfl⟩ := hv.len
    clear hv h0 h1
    go_enter Try.func15, Try.ntmps15
    go_wp2_with (first | (go_at_call 38; refine HH.out.mono ?_; rintro e w' ⟨rfl, rfl⟩) | (go_at_call 39; refine HC.out.mono ?_; go_must (rintro e w1 ⟨v1, rfl, ho1, hg1⟩; have HO1 := Lib.hid ho1; have HG1 := Lib.hid hg1; clear ho1 hg1)) | (go_at_call 40; refine (HP.out _ _ HO1.out).mono ?_; go_must (rintro e w2 ⟨⟨u, rfl⟩, ho2, hg2⟩; have HO2 := Lib.hid ho2; have HG2 : Hid (w.grownBy w2 none) := Lib.hid (gb_trans HG1.out hg2 (fun j hj => .inr (HO1.out.lt j hj).1)); clear ho2 hg2)))
    go_ret2
    exact ⟨_, rfl, HO2.out, HG2.out⟩
  · have h1 : hasB l i = false := by simpa using h0
    rw [if_neg h0]
    rw [h1] at HH
    obtain ⟨a, c, rfl⟩ := hv.len
    clear hv h0 h1 HC
    go_enter Try.func15, Try.ntmps15
    go_wp2_with (go_at_call 38; refine HH.out.mono ?_; rintro e w' ⟨rfl, rfl⟩)
    go_ret2
    exact ⟨rfl, gb_refl _ _⟩
set_option maxRecDepth 100000 in
theorem rset_any (v : Value) (l : List UInt8) (i : Int) (on : Bool) (w : World) (hv : Rd w v l) (hl : l.length ≤ 1000000) (hi : -9223372036854775808 ≤ i) (hi2 : i ≤ 9223372036854775807) :
    Calls Try.prog 16 #[v, .int .i64 i, .bool on] w (BytesP w 2 (setS l i on)) := by
  unfold setS
  by_cases h0 : hasB l i = true
  · have h1 := h0
    unfold hasB at h1
    simp only [Bool.and_eq_true, decide_eq_true_eq] at h1
    obtain ⟨k, rfl⟩ := Int.eq_ofNat_of_zero_le h1.1
    rw [if_pos h0, Int.toNat_natCast]
    have HP := Lib.hid (rput_any v l k on w hv hl (by omega))
    obtain ⟨a, c, rfl⟩ := hv.len
    have h2 : (k : Int) / 8 < (l.length : Int) := by omega
    clear hv h0 h1
    go_enter Try.func16, Try.ntmps16
    go_wp2_with (go_at_call 41; refine HP.out.mono ?_; go_must (rintro e w1 ⟨v1, rfl, ho1, hg1⟩; have HO1 := Lib.hid ho1; have HG1 := Lib.hid hg1; clear ho1 hg1))
    go_ret2
    exact ⟨_, rfl, HO1.out, HG1.out⟩
  · have h1 : hasB l i = false := by simpa using h0
    rw [if_neg h0]
    obtain ⟨a, c, rfl⟩ := hv.len
    unfold hasB at h1
    by_cases h2 : 0 ≤ i
    · have h3 : ¬ (i / 8 < (l.length : Int)) := by simp only [h2, decide_true, Bool.true_and, decide_eq_false_iff_not] at h1; omega
      obtain ⟨k, rfl⟩ := Int.eq_ofNat_of_zero_le h2
      clear hv h0 h1
      go_enter Try.func16, Try.ntmps16
      go_wp2
      go_ret2
      exact ⟨rfl, gb_refl _ _⟩
    · have h3 : i < 0 := by omega
      clear hv h0 h1
      go_enter Try.func16, Try.ntmps16
      go_wp2
      go_ret2
      exact ⟨rfl, gb_refl _ _⟩
end Go.Proofs.Ytpfeaeklenopdaa
