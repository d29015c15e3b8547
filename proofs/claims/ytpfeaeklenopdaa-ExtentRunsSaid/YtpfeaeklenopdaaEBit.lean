/-
  Bits of a bitmap: the notions, and the small functions of package extent and of its reference.
-/
import Derived.Test.YtpfeaeklenopdaaRow
import Derived.Deep.QuietTactic
import Derived.BigQuiet
import Derived.Deep.RegionWith
import Derived.Test.YtpfeaeklenopdaaHeld
namespace Go.Proofs.Ytpfeaeklenopdaa
open Go.RowKit

/-- a bit of a bitmap; there is none behind its end -/
def bitN (l : List UInt8) (k : Nat) : Bool := (l.getD (k / 8) 0).toNat.testBit (k % 8)
def bitI (l : List UInt8) (i : Int) : Bool := decide (0 ≤ i) && bitN l i.toNat
theorem bitN_out {l : List UInt8} {k : Nat} (h : 8 * l.length ≤ k) : bitN l k = false := by
  unfold bitN
  rw [List.getD_eq_getElem?_getD, List.getElem?_eq_none (by omega)]
  simp

set_option maxRecDepth 100000 in
theorem size_any (v : Value) (l : List UInt8) (w : World) (hv : Rd w v l) (hl : l.length ≤ 1000000) :
    Calls Try.prog 43 #[v] w fun e w' => e = .returned (.int .i64 (8 * (l.length : Int))) ∧ w = w' := by
  obtain ⟨a, c, rfl⟩ := hv.len
  clear hv
  go_enter Try.func43, Try.ntmps43
  go_wp2
  go_ret
  exact ⟨rfl, rfl⟩
def hasB (l : List UInt8) (i : Int) : Bool := decide (0 ≤ i) && decide (i < 8 * (l.length : Int))
set_option maxRecDepth 100000 in
theorem has_any (v : Value) (l : List UInt8) (i : Int) (w : World) (hv : Rd w v l) (hl : l.length ≤ 1000000) :
    Calls Try.prog 38 #[v, .int .i64 i] w fun e w' => e = .returned (.bool (hasB l i)) ∧ w = w' := by
  have HS := Lib.hid (size_any v l w hv hl)
  obtain ⟨a, c, rfl⟩ := hv.len
  clear hv
  by_cases h0 : 0 ≤ i
  · have e : hasB l i = decide (i < 8 * (l.length : Int)) := by unfold hasB; simp [h0]
    rw [e]
    clear e
    go_enter Try.func38, Try.ntmps38
    go_wp2_with (go_at_call 43; refine HS.out.mono ?_; rintro e w' ⟨rfl, rfl⟩)
    go_ret
    exact ⟨rfl, rfl⟩
  · have e : hasB l i = false := by unfold hasB; simp [h0]
    rw [e]
    clear e
    go_enter Try.func38, Try.ntmps38
    go_wp2
    go_ret
    exact ⟨rfl, rfl⟩
def validB (l : List UInt8) (x y : Int) : Bool := decide (0 ≤ x) && (decide (x ≤ y) && decide (y ≤ 8 * (l.length : Int)))
set_option maxRecDepth 100000 in
theorem valid_any (v : Value) (l : List UInt8) (x y : Int) (w : World) (hv : Rd w v l) (hl : l.length ≤ 1000000) :
    Calls Try.prog 35 #[v, .int .i64 x, .int .i64 y] w fun e w' => e = .returned (.bool (validB l x y)) ∧ w = w' := by
  have HS := Lib.hid (size_any v l w hv hl)
  obtain ⟨a, c, rfl⟩ := hv.len
  clear hv
  by_cases h0 : 0 ≤ x
  · by_cases h1 : x ≤ y
    · have e : validB l x y = decide (y ≤ 8 * (l.length : Int)) := by unfold validB; simp [h0, h1]
      rw [e]
      clear e
      go_enter Try.func35, Try.ntmps35
      go_wp2_with (go_at_call 43; refine HS.out.mono ?_; rintro e w' ⟨rfl, rfl⟩)
      go_ret
      exact ⟨rfl, rfl⟩
    · have e : validB l x y = false := by unfold validB; simp [h0, h1]
      rw [e]
      clear e
      go_enter Try.func35, Try.ntmps35
      go_wp2
      go_ret
      exact ⟨rfl, rfl⟩
  · have e : validB l x y = false := by unfold validB; simp [h0]
    rw [e]
    clear e
    go_enter Try.func35, Try.ntmps35
    go_wp2
    go_ret
    exact ⟨rfl, rfl⟩
set_option maxRecDepth 100000 in
theorem rvalid_any (v : Value) (l : List UInt8) (x y : Int) (w : World) (hv : Rd w v l) (hl : l.length ≤ 1000000) :
    Calls Try.prog 37 #[v, .int .i64 x, .int .i64 y] w fun e w' => e = .returned (.bool (validB l x y)) ∧ w = w' := by
  obtain ⟨a, c, rfl⟩ := hv.len
  clear hv
  by_cases h0 : 0 ≤ x
  · by_cases h1 : x ≤ y
    · have e : validB l x y = decide (y ≤ 8 * (l.length : Int)) := by unfold validB; simp [h0, h1]
      rw [e]
      clear e
      go_enter Try.func37, Try.ntmps37
      go_wp2
      go_ret
      exact ⟨rfl, rfl⟩
    · have e : validB l x y = false := by unfold validB; simp [h0, h1]
      rw [e]
      clear e
      go_enter Try.func37, Try.ntmps37
      go_wp2
      go_ret
      exact ⟨rfl, rfl⟩
  · have e : validB l x y = false := by unfold validB; simp [h0]
    rw [e]
    clear e
    go_enter Try.func37, Try.ntmps37
    go_wp2
    go_ret
    exact ⟨rfl, rfl⟩
set_option maxRecDepth 100000 in
theorem few_any (v : Value) (l : List UInt8) (w : World) (hv : Rd w v l) :
    Calls Try.prog 12 #[v] w fun e w' => e = .returned (.bool (decide ((l.length : Int) ≤ 40))) ∧ w = w' := by
  obtain ⟨a, c, rfl⟩ := hv.len
  clear hv
  go_enter Try.func12, Try.ntmps12
  go_wp2
  go_ret
  exact ⟨rfl, rfl⟩
theorem pow_mod8 (k : Nat) : (2 ^ (k % 8) : Int) % 256 = ((2 ^ (k % 8) : Nat) : Int) := by
  have h : k % 8 < 8 := Nat.mod_lt _ (by omega)
  generalize k % 8 = m at *
  match m, h with
  | 0, _ => rfl | 1, _ => rfl | 2, _ => rfl | 3, _ => rfl | 4, _ => rfl | 5, _ => rfl | 6, _ => rfl | 7, _ => rfl
theorem mask_any (k : Nat) (w : World) (hk : k ≤ 9223372036854775807) :
    Calls Try.prog 42 #[.int .i64 (k : Int)] w fun e w' => e = .returned (.int .u8 ((2 ^ (k % 8) : Nat) : Int)) ∧ w = w' := by
  have HM := Lib.hid (pow_mod8 k)
  go_enter Try.func42, Try.ntmps42
  go_wp2
  go_ret
  exact ⟨congrArg (fun z => Ending.returned (.int .u8 z)) HM.out, rfl⟩
theorem bitN_at {l : List UInt8} {k : Nat} {x : UInt8} (h : l[k / 8]? = some x) : bitN l k = x.toNat.testBit (k % 8) := by
  unfold bitN
  rw [List.getD_eq_getElem?_getD, h]
  rfl
theorem and_mask : ∀ (x : Fin 256) (m : Fin 8), (bits BinOp.and IntKind.u8 (x.val : Int) ((2 ^ m.val : Nat) : Int) != 0) = x.val.testBit m.val := by decide +kernel
theorem and_one : ∀ (x : Fin 256) (m : Fin 8), (bits BinOp.and IntKind.u8 ((x.val : Int) / 2 ^ m.val) 1 == 1) = x.val.testBit m.val := by decide +kernel
theorem xn_mask {x k : Nat} (hx : x < 256) : (bits BinOp.and IntKind.u8 (x : Int) ((2 ^ (k % 8) : Nat) : Int) != 0) = x.testBit (k % 8) := and_mask ⟨x, hx⟩ ⟨k % 8, Nat.mod_lt _ (by omega)⟩
theorem xn_one {x k : Nat} (hx : x < 256) : (bits BinOp.and IntKind.u8 ((x : Int) / 2 ^ (k % 8)) 1 == 1) = x.testBit (k % 8) := and_one ⟨x, hx⟩ ⟨k % 8, Nat.mod_lt _ (by omega)⟩
set_option maxRecDepth 100000 in
set_option maxHeartbeats 1000000 in
theorem get_any (v : Value) (l : List UInt8) (i : Int) (w : World) (hv : Rd w v l) (hl : l.length ≤ 1000000) :
    Calls Try.prog 18 #[v, .int .i64 i] w fun e w' => e = .returned (.bool (bitI l i)) ∧ w' = w.drew := by
  have HH := Lib.hid (has_any v l i w.drew (hv.grown (gb_drew _ _)) hl)
  obtain ⟨a, c, rfl⟩ := hv.len
  by_cases h0 : hasB l i = true
  · have h1 := h0
    unfold hasB at h1
    simp only [Bool.and_eq_true, decide_eq_true_eq] at h1
    obtain ⟨k, rfl⟩ := Int.eq_ofNat_of_zero_le h1.1
    have hk : k / 8 < l.length := by omega
    have hk3 : (k : Int) / 8 < (l.length : Int) := by omega
    obtain ⟨x, hx⟩ : ∃ x, l[k / 8]? = some x := ⟨l[k / 8], by simp [hk]⟩
    obtain ⟨b, off, rfl, hc⟩ := hv.at hx
    have e : bitI l (k : Int) = x.toNat.testBit (k % 8) := by unfold bitI; rw [Int.toNat_natCast, bitN_at hx]; simp
    rw [e]
    rw [h0] at HH
    have HM := Lib.hid (mask_any k w.drew (by omega))
    clear hv h0 h1 e hx
    have hx2 := x.toNat_lt
    generalize x.toNat = xn at *
    have HE := Lib.hid (xn_mask (x := xn) (k := k) (by omega))
    generalize hmk : 2 ^ (k % 8) = mk at *
    have hcd : w.drew.cell? ⟨b, off + k / 8, none⟩ = some (.int .u8 (xn : Int)) := hc
    have HWR : Hid (IntKind.i64.wrap ((k : Int) / 8) = ((k / 8 : Nat) : Int)) := Lib.hid (by rw [IntKind.wrap_i64] <;> omega)
    have HIN : Hid (0 ≤ ((k / 8 : Nat) : Int) ∧ ((k / 8 : Nat) : Int) < (l.length : Int)) := Lib.hid ⟨by omega, by omega⟩
    clear hc hmk hk3
    generalize k / 8 = kd at *
    go_enter Try.func18, Try.ntmps18
    go_wp2
    refine region_KL (fuel := 15) (listed := #[false, false, false, false, false, false, false, false, false, false, false, false, false, false, false]) (fun X => X = w.drew) 14 (by kernel_rfl) rfl (by kernel_rfl) ?_
    refine wpAnyK_takeL (i := 0) (d := 5) (v := ?_) (T' := ?_) (listed' := #[true, false, false, false, false, false, false, false, false, false, false, false, false, false, false]) rfl rfl (by kernel_rfl) (fun _ _ _ h => h) rfl (Or.inl ⟨by rfl, ?_⟩) ?_ rfl ?_
    rotate_left 2
    · intro w hS; clear hS; go_simp; rfl
    · simp only [List.setIfInBounds_toArray, List.set_cons_succ, List.set_cons_zero]; rfl
    refine wpAnyK_takeL (i := 1) (d := 6) (v := ?_) (T' := ?_) (listed' := #[true, true, false, false, false, false, false, false, false, false, false, false, false, false, false]) rfl rfl (by kernel_rfl) (fun _ _ _ h => h) rfl (Or.inl ⟨by rfl, ?_⟩) ?_ rfl ?_
    rotate_left 2
    · intro w hS; clear hS; go_simp; rfl
    · simp only [List.setIfInBounds_toArray, List.set_cons_succ, List.set_cons_zero]; rfl
    refine wpAnyK_oneL (i := 2) (listed' := #[true, true, true, false, false, false, false, false, false, false, false, false, false, false, false]) (by kernel_rfl) rfl (by rfl) rfl ?_
    intro K hK
    go_simp
    refine HH.out.mono ?_
    rintro e w1 ⟨rfl, rfl⟩
    refine hK _ _ (fun _ => rfl) ?_
    clear hK K
    refine wpAnyK_takeL (i := 3) (d := 8) (v := ?_) (T' := ?_) (listed' := #[true, true, true, true, false, false, false, false, false, false, false, false, false, false, false]) rfl rfl (by kernel_rfl) (fun _ _ _ h => h) rfl (Or.inl ⟨by rfl, ?_⟩) ?_ rfl ?_
    rotate_left 2
    · intro w hS; clear hS; go_simp; rfl
    · simp only [List.setIfInBounds_toArray, List.set_cons_succ, List.set_cons_zero]; rfl
    refine wpAnyK_takeL (i := 4) (d := 9) (v := ?_) (T' := ?_) (listed' := #[true, true, true, true, true, false, false, false, false, false, false, false, false, false, false]) rfl rfl (by kernel_rfl) (fun _ _ _ h => h) rfl (Or.inl ⟨by rfl, ?_⟩) ?_ rfl ?_
    rotate_left 2
    · intro w hS; clear hS; go_simp; rfl
    · simp only [List.setIfInBounds_toArray, List.set_cons_succ, List.set_cons_zero]; rfl
    refine wpAnyK_takeL (i := 5) (d := 10) (v := ?_) (T' := ?_) (listed' := #[true, true, true, true, true, true, false, false, false, false, false, false, false, false, false]) rfl rfl (by kernel_rfl) (fun _ _ _ h => h) rfl (Or.inl ⟨by rfl, ?_⟩) ?_ rfl ?_
    rotate_left 2
    · intro w hS; clear hS; go_simp; rfl
    · simp only [List.setIfInBounds_toArray, List.set_cons_succ, List.set_cons_zero]; rfl
    refine wpAnyK_takeL (i := 6) (d := 11) (v := ?_) (T' := ?_) (listed' := #[true, true, true, true, true, true, true, false, false, false, false, false, false, false, false]) rfl rfl (by kernel_rfl) (fun _ _ _ h => h) rfl (Or.inl ⟨by rfl, ?_⟩) ?_ rfl ?_
    rotate_left 2
    · intro w hS; clear hS; go_simp; rw [HWR.out]
    · simp only [List.setIfInBounds_toArray, List.set_cons_succ, List.set_cons_zero]; rfl
    refine wpAnyK_takeL (i := 7) (d := 12) (v := ?_) (T' := ?_) (listed' := #[true, true, true, true, true, true, true, true, false, false, false, false, false, false, false]) rfl rfl (by kernel_rfl) (fun _ _ _ h => h) rfl (Or.inl ⟨by rfl, ?_⟩) ?_ rfl ?_
    rotate_left 2
    · intro w hS; clear hS; go_simp; rfl
    · simp only [List.setIfInBounds_toArray, List.set_cons_succ, List.set_cons_zero]; rfl
    refine wpAnyK_takeL (i := 8) (d := 13) (v := ?_) (T' := ?_) (listed' := #[true, true, true, true, true, true, true, true, true, false, false, false, false, false, false]) rfl rfl (by kernel_rfl) (fun _ _ _ h => h) rfl (Or.inl ⟨by rfl, ?_⟩) ?_ rfl ?_
    rotate_left 2
    · intro w hS; subst hS; go_simp; rfl
    · simp only [List.setIfInBounds_toArray, List.set_cons_succ, List.set_cons_zero]; rfl
    refine wpAnyK_takeL (i := 9) (d := 14) (v := ?_) (T' := ?_) (listed' := #[true, true, true, true, true, true, true, true, true, true, false, false, false, false, false]) rfl rfl (by kernel_rfl) (fun _ _ _ h => h) rfl (Or.inl ⟨by rfl, ?_⟩) ?_ rfl ?_
    rotate_left 2
    · intro w hS; clear hS; go_simp; rfl
    · simp only [List.setIfInBounds_toArray, List.set_cons_succ, List.set_cons_zero]; rfl
    refine wpAnyK_oneL (i := 10) (listed' := #[true, true, true, true, true, true, true, true, true, true, true, false, false, false, false]) (by kernel_rfl) rfl (by rfl) rfl ?_
    intro K hK
    go_simp
    refine HM.out.mono ?_
    rintro e w1 ⟨rfl, rfl⟩
    refine hK _ _ (fun _ => rfl) ?_
    clear hK K
    refine wpAnyK_takeL (i := 11) (d := 16) (v := ?_) (T' := ?_) (listed' := #[true, true, true, true, true, true, true, true, true, true, true, true, false, false, false]) rfl rfl (by kernel_rfl) (fun _ _ _ h => h) rfl (Or.inl ⟨by rfl, ?_⟩) ?_ rfl ?_
    rotate_left 2
    · intro w hS; clear hS; go_simp; rfl
    · simp only [List.setIfInBounds_toArray, List.set_cons_succ, List.set_cons_zero]; rfl
    refine wpAnyK_takeL (i := 12) (d := 17) (v := ?_) (T' := ?_) (listed' := #[true, true, true, true, true, true, true, true, true, true, true, true, true, false, false]) rfl rfl (by kernel_rfl) (fun _ _ _ h => h) rfl (Or.inl ⟨by rfl, ?_⟩) ?_ rfl ?_
    rotate_left 2
    · intro w hS; clear hS; go_simp; rfl
    · simp only [List.setIfInBounds_toArray, List.set_cons_succ, List.set_cons_zero]; rfl
    refine wpAnyK_takeL (i := 13) (d := 18) (v := ?_) (T' := ?_) (listed' := #[true, true, true, true, true, true, true, true, true, true, true, true, true, true, false]) rfl rfl (by kernel_rfl) (fun _ _ _ h => h) rfl (Or.inl ⟨by rfl, ?_⟩) ?_ rfl ?_
    rotate_left 2
    · intro w hS; clear hS; go_simp; rfl
    · simp only [List.setIfInBounds_toArray, List.set_cons_succ, List.set_cons_zero]; rfl
    refine wpAnyK_oneL (i := 14) (listed' := #[true, true, true, true, true, true, true, true, true, true, true, true, true, true, true]) (by kernel_rfl) rfl (by rfl) rfl ?_
    intro K hK
    go_simp
    refine hK _ _ (fun h => Bool.noConfusion (show true = false from h)) ?_
    clear hK K
    refine wpAnyK_done (by kernel_rfl) ?_ _
    go_wp2
    go_ret
    exact ⟨congrArg (fun z => Ending.returned (.bool z)) HE.out, rfl⟩
  · have h1 : hasB l i = false := by simpa using h0
    have e : bitI l i = false := by
      unfold hasB at h1
      unfold bitI
      by_cases h2 : 0 ≤ i
      · simp only [h2, decide_true, Bool.true_and, decide_eq_false_iff_not] at h1 ⊢
        exact bitN_out (by omega)
      · simp [h2]
    rw [e]
    rw [h1] at HH
    clear hv h0 h1 e
    go_enter Try.func18, Try.ntmps18
    go_wp2
    refine region_KL (fuel := 15) (listed := #[false, false, false, false, false, false, false, false, false, false, false, false, false, false, false]) (fun X => X = w.drew) 14 (by kernel_rfl) rfl (by kernel_rfl) ?_
    refine wpAnyK_takeL (i := 0) (d := 5) (v := ?_) (T' := ?_) (listed' := #[true, false, false, false, false, false, false, false, false, false, false, false, false, false, false]) rfl rfl (by kernel_rfl) (fun _ _ _ h => h) rfl (Or.inl ⟨by rfl, ?_⟩) ?_ rfl ?_
    rotate_left 2
    · intro w hS; clear hS; go_simp; rfl
    · simp only [List.setIfInBounds_toArray, List.set_cons_succ, List.set_cons_zero]; rfl
    refine wpAnyK_takeL (i := 1) (d := 6) (v := ?_) (T' := ?_) (listed' := #[true, true, false, false, false, false, false, false, false, false, false, false, false, false, false]) rfl rfl (by kernel_rfl) (fun _ _ _ h => h) rfl (Or.inl ⟨by rfl, ?_⟩) ?_ rfl ?_
    rotate_left 2
    · intro w hS; clear hS; go_simp; rfl
    · simp only [List.setIfInBounds_toArray, List.set_cons_succ, List.set_cons_zero]; rfl
    refine wpAnyK_oneL (i := 2) (listed' := #[true, true, true, false, false, false, false, false, false, false, false, false, false, false, false]) (by kernel_rfl) rfl (by rfl) rfl ?_
    intro K hK
    go_simp
    refine HH.out.mono ?_
    rintro e w1 ⟨rfl, rfl⟩
    refine hK _ _ (fun _ => rfl) ?_
    clear hK K
    refine wpAnyK_takeL (i := 3) (d := 8) (v := ?_) (T' := ?_) (listed' := #[true, true, true, true, false, false, false, false, false, false, false, false, false, false, false]) rfl rfl (by kernel_rfl) (fun _ _ _ h => h) rfl (Or.inl ⟨by rfl, ?_⟩) ?_ rfl ?_
    rotate_left 2
    · intro w hS; clear hS; go_simp; rfl
    · simp only [List.setIfInBounds_toArray, List.set_cons_succ, List.set_cons_zero]; rfl
    refine wpAnyK_takeL (i := 4) (d := 9) (v := undef) (T' := ?_) (listed' := #[true, true, true, true, true, false, false, false, false, false, false, false, false, false, false]) rfl rfl (by kernel_rfl) (fun _ _ _ h => h) rfl (Or.inr ⟨by rfl, rfl⟩) ?_ rfl ?_
    rotate_left 1
    · simp only [List.setIfInBounds_toArray, List.set_cons_succ, List.set_cons_zero]; rfl
    refine wpAnyK_takeL (i := 5) (d := 10) (v := undef) (T' := ?_) (listed' := #[true, true, true, true, true, true, false, false, false, false, false, false, false, false, false]) rfl rfl (by kernel_rfl) (fun _ _ _ h => h) rfl (Or.inr ⟨by rfl, rfl⟩) ?_ rfl ?_
    rotate_left 1
    · simp only [List.setIfInBounds_toArray, List.set_cons_succ, List.set_cons_zero]; rfl
    refine wpAnyK_takeL (i := 6) (d := 11) (v := undef) (T' := ?_) (listed' := #[true, true, true, true, true, true, true, false, false, false, false, false, false, false, false]) rfl rfl (by kernel_rfl) (fun _ _ _ h => h) rfl (Or.inr ⟨by rfl, rfl⟩) ?_ rfl ?_
    rotate_left 1
    · simp only [List.setIfInBounds_toArray, List.set_cons_succ, List.set_cons_zero]; rfl
    refine wpAnyK_takeL (i := 7) (d := 12) (v := undef) (T' := ?_) (listed' := #[true, true, true, true, true, true, true, true, false, false, false, false, false, false, false]) rfl rfl (by kernel_rfl) (fun _ _ _ h => h) rfl (Or.inr ⟨by rfl, rfl⟩) ?_ rfl ?_
    rotate_left 1
    · simp only [List.setIfInBounds_toArray, List.set_cons_succ, List.set_cons_zero]; rfl
    refine wpAnyK_takeL (i := 8) (d := 13) (v := undef) (T' := ?_) (listed' := #[true, true, true, true, true, true, true, true, true, false, false, false, false, false, false]) rfl rfl (by kernel_rfl) (fun _ _ _ h => h) rfl (Or.inr ⟨by rfl, rfl⟩) ?_ rfl ?_
    rotate_left 1
    · simp only [List.setIfInBounds_toArray, List.set_cons_succ, List.set_cons_zero]; rfl
    refine wpAnyK_takeL (i := 9) (d := 14) (v := undef) (T' := ?_) (listed' := #[true, true, true, true, true, true, true, true, true, true, false, false, false, false, false]) rfl rfl (by kernel_rfl) (fun _ _ _ h => h) rfl (Or.inr ⟨by rfl, rfl⟩) ?_ rfl ?_
    rotate_left 1
    · simp only [List.setIfInBounds_toArray, List.set_cons_succ, List.set_cons_zero]; rfl
    refine wpAnyK_takeL (i := 10) (d := 15) (v := undef) (T' := ?_) (listed' := #[true, true, true, true, true, true, true, true, true, true, true, false, false, false, false]) rfl rfl (by kernel_rfl) (fun _ _ _ h => h) rfl (Or.inr ⟨by rfl, rfl⟩) ?_ rfl ?_
    rotate_left 1
    · simp only [List.setIfInBounds_toArray, List.set_cons_succ, List.set_cons_zero]; rfl
    refine wpAnyK_takeL (i := 11) (d := 16) (v := undef) (T' := ?_) (listed' := #[true, true, true, true, true, true, true, true, true, true, true, true, false, false, false]) rfl rfl (by kernel_rfl) (fun _ _ _ h => h) rfl (Or.inr ⟨by rfl, rfl⟩) ?_ rfl ?_
    rotate_left 1
    · simp only [List.setIfInBounds_toArray, List.set_cons_succ, List.set_cons_zero]; rfl
    refine wpAnyK_takeL (i := 12) (d := 17) (v := undef) (T' := ?_) (listed' := #[true, true, true, true, true, true, true, true, true, true, true, true, true, false, false]) rfl rfl (by kernel_rfl) (fun _ _ _ h => h) rfl (Or.inr ⟨by rfl, rfl⟩) ?_ rfl ?_
    rotate_left 1
    · simp only [List.setIfInBounds_toArray, List.set_cons_succ, List.set_cons_zero]; rfl
    refine wpAnyK_takeL (i := 13) (d := 18) (v := ?_) (T' := ?_) (listed' := #[true, true, true, true, true, true, true, true, true, true, true, true, true, true, false]) rfl rfl (by kernel_rfl) (fun _ _ _ h => h) rfl (Or.inl ⟨by rfl, ?_⟩) ?_ rfl ?_
    rotate_left 2
    · intro w hS; clear hS; go_simp; rfl
    · simp only [List.setIfInBounds_toArray, List.set_cons_succ, List.set_cons_zero]; rfl
    refine wpAnyK_oneL (i := 14) (listed' := #[true, true, true, true, true, true, true, true, true, true, true, true, true, true, true]) (by kernel_rfl) rfl (by rfl) rfl ?_
    intro K hK
    go_simp
    refine hK _ _ (fun h => Bool.noConfusion (show true = false from h)) ?_
    clear hK K
    refine wpAnyK_done (by kernel_rfl) ?_ _
    go_wp2
    go_ret
    exact ⟨rfl, rfl⟩
set_option maxRecDepth 100000 in
theorem rget_any (v : Value) (l : List UInt8) (i : Int) (w : World) (hv : Rd w v l) (hl : l.length ≤ 1000000) (hi : -9223372036854775808 ≤ i) (hi2 : i ≤ 9223372036854775807) :
    Calls Try.prog 19 #[v, .int .i64 i] w fun e w' => e = .returned (.bool (bitI l i)) ∧ w = w' := by
  obtain ⟨a, c, rfl⟩ := hv.len
  by_cases h0 : 0 ≤ i
  · obtain ⟨k, rfl⟩ := Int.eq_ofNat_of_zero_le h0
    by_cases hk : k / 8 < l.length
    · have hk3 : (k : Int) / 8 < (l.length : Int) := by omega
      obtain ⟨x, hx⟩ : ∃ x, l[k / 8]? = some x := ⟨l[k / 8], by simp [hk]⟩
      obtain ⟨b, off, rfl, hc⟩ := hv.at hx
      have e : bitI l (k : Int) = x.toNat.testBit (k % 8) := by unfold bitI; rw [Int.toNat_natCast, bitN_at hx]; simp
      rw [e]
      clear hv h0 e hx
      have hx2 := x.toNat_lt
      generalize x.toNat = xn at *
      have HE := Lib.hid (xn_one (x := xn) (k := k) (by omega))
      go_enter Try.func19, Try.ntmps19
      go_wp2
      go_ret
      exact ⟨congrArg (fun z => Ending.returned (.bool z)) HE.out, rfl⟩
    · have e : bitI l (k : Int) = false := by unfold bitI; rw [Int.toNat_natCast, bitN_out (by omega)]; simp
      rw [e]
      have hk2 : ¬ ((k : Int) / 8 < (l.length : Int)) := by omega
      clear hv e hk
      go_enter Try.func19, Try.ntmps19
      go_wp2
      go_ret
      exact ⟨rfl, rfl⟩
  · have e : bitI l i = false := by unfold bitI; simp [h0]
    rw [e]
    clear hv e
    go_enter Try.func19, Try.ntmps19
    go_wp2
    go_ret
    exact ⟨rfl, rfl⟩
end Go.Proofs.Ytpfeaeklenopdaa
