/-
  A bit is set or cleared: put and Set of extent and of its reference; bytes.Clone.
-/
import Derived.Test.YtpfeaeklenopdaaEBit
namespace Go.Proofs.Ytpfeaeklenopdaa
open Go.RowKit

def OwnP (w : World) (l : List UInt8) (e : Ending) (w' : World) : Prop := ∃ v', e = .returned v' ∧ Own w' w.heap.size v' l ∧ w.grownBy w' none
set_option maxRecDepth 100000 in
theorem clone_any (v : Value) (l : List UInt8) (w : World) (hv : Rd w v l) (hl : l.length ≤ 140737488355328) :
    Calls Try.prog 39 #[v] w (OwnP w l) := by
  have HV := Lib.hid hv
  have q22 : ∀ (w : World) (a : Option Addr) (n c n' c' : Nat), (binOp .eql 22 (.slice a n c) (.slice none n' c')).run Try.prog w = .ok (.bool a.isNone) w := fun w a n c n' c' => Lib.run_eql_slice_nil w _ _ a n c n' c' Try.underlying22
  rcases hv with ⟨rfl, rfl⟩ | ⟨b, off, cap, rfl, h1, h2, _⟩
  · go_enter Try.func39, Try.ntmps39
    go_wp2
    go_ret
    exact ⟨_, rfl, Own.nil _ _, gb_refl _ _⟩
  · have HO := Lib.hid (Own.lit w #[] [] 0 w.heap.size rfl rfl (Nat.le_refl _) (Nat.zero_le _))
    go_enter Try.func39, Try.ntmps39
    go_wp2_with (at_builtin; refine app_bytes rfl _ _ rfl w.heap.size _ _ [] l rfl rfl HO.out (HV.out.grown (gb_alloc _ _ _)) (by simp) (by simp; omega) ?_; go_must (intro v2 w2 ho2 hg2 hf2; rw [List.nil_append] at ho2))
    go_ret
    exact ⟨_, rfl, ho2, gb_trans (gb_alloc _ _ none) hg2 (fun k hk => .inr (HO.out.lt k hk).1)⟩

/-- a byte with one bit set or clear -/
def setN (x m : Nat) (on : Bool) : Nat := if on then x ||| 2 ^ m else x &&& (255 - 2 ^ m)
theorem setN_facts : ∀ (x : Fin 256) (m : Fin 8), bits BinOp.or IntKind.u8 (x.val : Int) ((2 ^ m.val : Nat) : Int) = (setN x.val m.val true : Int) ∧ bits BinOp.andNot IntKind.u8 (x.val : Int) ((2 ^ m.val : Nat) : Int) = (setN x.val m.val false : Int) ∧
    setN x.val m.val true < 256 ∧ setN x.val m.val false < 256 ∧ setN (setN x.val m.val false) m.val true = setN x.val m.val true := by decide +kernel
theorem setN_bit : ∀ (x : Fin 256) (m j : Fin 8), (setN x.val m.val true).testBit j.val = (if j.val = m.val then true else x.val.testBit j.val) ∧ (setN x.val m.val false).testBit j.val = (if j.val = m.val then false else x.val.testBit j.val) := by decide +kernel
theorem setN_or {x k : Nat} (h : x < 256) : bits BinOp.or IntKind.u8 (x : Int) ((2 ^ (k % 8) : Nat) : Int) = (setN x (k % 8) true : Int) := (setN_facts ⟨x, h⟩ ⟨k % 8, Nat.mod_lt _ (by omega)⟩).1
theorem setN_not {x k : Nat} (h : x < 256) : bits BinOp.andNot IntKind.u8 (x : Int) ((2 ^ (k % 8) : Nat) : Int) = (setN x (k % 8) false : Int) := (setN_facts ⟨x, h⟩ ⟨k % 8, Nat.mod_lt _ (by omega)⟩).2.1
theorem setN_lt {x k : Nat} (h : x < 256) (on : Bool) : setN x (k % 8) on < 256 := by
  have h1 := setN_facts ⟨x, h⟩ ⟨k % 8, Nat.mod_lt _ (by omega)⟩
  cases on
  · exact h1.2.2.2.1
  · exact h1.2.2.1
theorem setN_two {x k : Nat} (h : x < 256) : setN (setN x (k % 8) false) (k % 8) true = setN x (k % 8) true := (setN_facts ⟨x, h⟩ ⟨k % 8, Nat.mod_lt _ (by omega)⟩).2.2.2.2
theorem setN_test {x k j : Nat} (h : x < 256) (hj : j < 8) (on : Bool) : (setN x (k % 8) on).testBit j = if j = k % 8 then on else x.testBit j := by
  have h1 := setN_bit ⟨x, h⟩ ⟨k % 8, Nat.mod_lt _ (by omega)⟩ ⟨j, hj⟩
  cases on
  · exact h1.2
  · exact h1.1
/-- a bitmap with one bit set or clear -/
def setB (l : List UInt8) (k : Nat) (on : Bool) : List UInt8 := l.set (k / 8) (UInt8.ofNat (setN (l.getD (k / 8) 0).toNat (k % 8) on))
theorem setB_len (l : List UInt8) (k : Nat) (on : Bool) : (setB l k on).length = l.length := by unfold setB; rw [List.length_set]
theorem ofNat_lt {n : Nat} (h : n < 256) : (UInt8.ofNat n).toNat = n := by rw [UInt8.toNat_ofNat']; omega
theorem setB_at {l : List UInt8} {k : Nat} {x : UInt8} (h : l[k / 8]? = some x) (on : Bool) : setB l k on = l.set (k / 8) (UInt8.ofNat (setN x.toNat (k % 8) on)) := by
  unfold setB
  rw [List.getD_eq_getElem?_getD, h]
  rfl
theorem bitN_set {l : List UInt8} {k : Nat} (hk : k < 8 * l.length) (on : Bool) (j : Nat) : bitN (setB l k on) j = if j = k then on else bitN l j := by
  have h8 : k / 8 < l.length := by omega
  unfold bitN setB
  by_cases h : j / 8 = k / 8
  · rw [h, List.getD_eq_getElem?_getD, List.getElem?_set_self (by omega), Option.getD_some, ofNat_lt (setN_lt (UInt8.toNat_lt _) _), setN_test (UInt8.toNat_lt _) (Nat.mod_lt _ (by omega))]
    by_cases hj : j = k
    · subst hj; simp
    · rw [if_neg (by omega), if_neg hj, List.getD_eq_getElem?_getD]
  · rw [List.getD_eq_getElem?_getD, List.getElem?_set_ne (Ne.symm h), if_neg (by rintro rfl; exact h rfl), List.getD_eq_getElem?_getD]
theorem setB_two {l : List UInt8} {k : Nat} (hk : k < 8 * l.length) : setB (setB l k false) k true = setB l k true := by
  obtain ⟨x, hx⟩ : ∃ x, l[k / 8]? = some x := ⟨l[k / 8]'(by omega), by simp⟩
  have h1 : (setB l k false)[k / 8]? = some (UInt8.ofNat (setN x.toNat (k % 8) false)) := by rw [setB_at hx, List.getElem?_set_self (by omega)]
  rw [setB_at h1, setB_at hx, setB_at hx, List.set_set, ofNat_lt (setN_lt (UInt8.toNat_lt _) _), setN_two (UInt8.toNat_lt _)]

set_option maxRecDepth 100000 in
set_option maxHeartbeats 1000000 in
theorem put_any (v : Value) (l : List UInt8) (k B : Nat) (on : Bool) (w : World) (hv : Own w B v l) (hl : l.length ≤ 1000000) (hk : k < 8 * l.length) :
    Calls Try.prog 40 #[v, .int .i64 (k : Int), .bool on] w fun e w' => (∃ u, e = .returned u) ∧ Own w' B v (setB l k on) ∧ w.grownBy w' v.ownBlock := by
  have hne : l ≠ [] := by rintro rfl; simp at hk
  obtain ⟨g, cap, rfl, hgB, hgs⟩ := hv.at hne
  have hkd : k / 8 < l.length := by omega
  obtain ⟨x, hx⟩ : ∃ x, l[k / 8]? = some x := ⟨l[k / 8], by simp [hkd]⟩
  have hv2 := hv.grown (gb_drew w none)
  have hcd := hv2.cellAt rfl (k / 8) x hx
  have hfz := hv2.frozenAt rfl (k / 8)
  have HM := Lib.hid (mask_any k w.drew (by omega))
  have HS : Hid (∀ on, Own (w.drew.setCell ⟨g, k / 8, none⟩ (.int .u8 (setN x.toNat (k % 8) on : Int))) B (.slice (some ⟨g, 0, none⟩) l.length cap) (setB l k on)) := Lib.hid (fun on => by
    have h1 := hv2.set rfl (k / 8) (UInt8.ofNat (setN x.toNat (k % 8) on))
    rw [← setB_at hx] at h1
    unfold bv at h1
    rw [ofNat_lt (setN_lt (UInt8.toNat_lt _) _)] at h1
    exact h1)
  have HG : Hid (∀ u, w.grownBy (w.drew.setCell ⟨g, k / 8, none⟩ u) (Value.slice (some ⟨g, 0, none⟩) l.length cap).ownBlock) := Lib.hid (fun u => gb_same (gb_drew w _) (gb_setCell _ _ _))
  have HB1 := Lib.hid (setN_or (x := x.toNat) (k := k) x.toNat_lt)
  have HB2 := Lib.hid (setN_not (x := x.toNat) (k := k) x.toNat_lt)
  have HWR : Hid (IntKind.i64.wrap ((k : Int) / 8) = ((k / 8 : Nat) : Int)) := Lib.hid (by rw [IntKind.wrap_i64] <;> omega)
  clear hv hv2 hx hk
  generalize x.toNat = xn at *
  have HSF := Lib.hid (HS.out false)
  have HST := Lib.hid (HS.out true)
  rw [← HB1.out] at HST
  rw [← HB2.out] at HSF
  clear HS HB1 HB2
  generalize 2 ^ (k % 8) = mk at *
  generalize k / 8 = kd at *
  cases on
  · go_enter Try.func40, Try.ntmps40
    go_wp2
    refine region_KL (fuel := 10) (listed := #[false, false, false, false, false, false, false, false, false, false]) (fun X => X = w.drew) 9 (by kernel_rfl) rfl (by kernel_rfl) ?_
    generalize w.drew = wd at *
    refine wpAnyK_takeL (i := 0) (d := 16) (v := ?_) (T' := ?_) (listed' := #[true, false, false, false, false, false, false, false, false, false]) rfl rfl (by kernel_rfl) (fun _ _ _ h => h) rfl (Or.inl ⟨by rfl, ?_⟩) ?_ rfl ?_
    rotate_left 2
    · intro w hS; clear hS; go_simp; rfl
    · simp only [List.setIfInBounds_toArray, List.set_cons_succ, List.set_cons_zero]; rfl
    refine wpAnyK_takeL (i := 1) (d := 17) (v := ?_) (T' := ?_) (listed' := #[true, true, false, false, false, false, false, false, false, false]) rfl rfl (by kernel_rfl) (fun _ _ _ h => h) rfl (Or.inl ⟨by rfl, ?_⟩) ?_ rfl ?_
    rotate_left 2
    · intro w hS; clear hS; go_simp; rfl
    · simp only [List.setIfInBounds_toArray, List.set_cons_succ, List.set_cons_zero]; rfl
    refine wpAnyK_takeL (i := 2) (d := 18) (v := ?_) (T' := ?_) (listed' := #[true, true, true, false, false, false, false, false, false, false]) rfl rfl (by kernel_rfl) (fun _ _ _ h => h) rfl (Or.inl ⟨by rfl, ?_⟩) ?_ rfl ?_
    rotate_left 2
    · intro w hS; clear hS; go_simp; rw [HWR.out]
    · simp only [List.setIfInBounds_toArray, List.set_cons_succ, List.set_cons_zero]; rfl
    refine wpAnyK_takeL (i := 3) (d := 19) (v := ?_) (T' := ?_) (listed' := #[true, true, true, true, false, false, false, false, false, false]) rfl rfl (by kernel_rfl) (fun _ _ _ h => h) rfl (Or.inl ⟨by rfl, ?_⟩) ?_ rfl ?_
    rotate_left 2
    · intro w hS; clear hS; go_simp; rfl
    · simp only [List.setIfInBounds_toArray, List.set_cons_succ, List.set_cons_zero]; rfl
    refine wpAnyK_takeL (i := 4) (d := 20) (v := ?_) (T' := ?_) (listed' := #[true, true, true, true, true, false, false, false, false, false]) rfl rfl (by kernel_rfl) (fun _ _ _ h => h) rfl (Or.inl ⟨by rfl, ?_⟩) ?_ rfl ?_
    rotate_left 2
    · intro w hS; subst hS; go_simp; rfl
    · simp only [List.setIfInBounds_toArray, List.set_cons_succ, List.set_cons_zero]; rfl
    refine wpAnyK_takeL (i := 5) (d := 21) (v := ?_) (T' := ?_) (listed' := #[true, true, true, true, true, true, false, false, false, false]) rfl rfl (by kernel_rfl) (fun _ _ _ h => h) rfl (Or.inl ⟨by rfl, ?_⟩) ?_ rfl ?_
    rotate_left 2
    · intro w hS; clear hS; go_simp; rfl
    · simp only [List.setIfInBounds_toArray, List.set_cons_succ, List.set_cons_zero]; rfl
    refine wpAnyK_oneL (i := 6) (listed' := #[true, true, true, true, true, true, true, false, false, false]) (by kernel_rfl) rfl (by rfl) rfl ?_
    intro K hK
    go_simp
    refine HM.out.mono ?_
    rintro e w1 ⟨rfl, rfl⟩
    refine hK _ _ (fun _ => rfl) ?_
    clear hK K
    refine wpAnyK_takeL (i := 7) (d := 23) (v := ?_) (T' := ?_) (listed' := #[true, true, true, true, true, true, true, true, false, false]) rfl rfl (by kernel_rfl) (fun _ _ _ h => h) rfl (Or.inl ⟨by rfl, ?_⟩) ?_ rfl ?_
    rotate_left 2
    · intro w hS; clear hS; go_simp; rfl
    · simp only [List.setIfInBounds_toArray, List.set_cons_succ, List.set_cons_zero]; rfl
    refine wpAnyK_takeL (i := 8) (d := 24) (v := ?_) (T' := ?_) (listed' := #[true, true, true, true, true, true, true, true, true, false]) rfl rfl (by kernel_rfl) (fun _ _ _ h => h) rfl (Or.inl ⟨by rfl, ?_⟩) ?_ rfl ?_
    rotate_left 2
    · intro w hS; clear hS; go_simp; rfl
    · simp only [List.setIfInBounds_toArray, List.set_cons_succ, List.set_cons_zero]; rfl
    refine wpAnyK_oneL (i := 9) (listed' := #[true, true, true, true, true, true, true, true, true, true]) (by kernel_rfl) rfl (by rfl) rfl ?_
    intro K hK
    go_simp
    refine hK _ _ (fun h => Bool.noConfusion (show true = false from h)) ?_
    clear hK K
    refine wpAnyK_done (by kernel_rfl) ?_ _
    go_wp2
    go_end0
    exact ⟨⟨_, rfl⟩, HSF.out, HG.out _⟩
  · go_enter Try.func40, Try.ntmps40
    go_wp2
    refine region_KL (fuel := 10) (listed := #[false, false, false, false, false, false, false, false, false, false]) (fun X => X = w.drew) 9 (by kernel_rfl) rfl (by kernel_rfl) ?_
    generalize w.drew = wd at *
    refine wpAnyK_takeL (i := 0) (d := 7) (v := ?_) (T' := ?_) (listed' := #[true, false, false, false, false, false, false, false, false, false]) rfl rfl (by kernel_rfl) (fun _ _ _ h => h) rfl (Or.inl ⟨by rfl, ?_⟩) ?_ rfl ?_
    rotate_left 2
    · intro w hS; clear hS; go_simp; rfl
    · simp only [List.setIfInBounds_toArray, List.set_cons_succ, List.set_cons_zero]; rfl
    refine wpAnyK_takeL (i := 1) (d := 8) (v := ?_) (T' := ?_) (listed' := #[true, true, false, false, false, false, false, false, false, false]) rfl rfl (by kernel_rfl) (fun _ _ _ h => h) rfl (Or.inl ⟨by rfl, ?_⟩) ?_ rfl ?_
    rotate_left 2
    · intro w hS; clear hS; go_simp; rfl
    · simp only [List.setIfInBounds_toArray, List.set_cons_succ, List.set_cons_zero]; rfl
    refine wpAnyK_takeL (i := 2) (d := 9) (v := ?_) (T' := ?_) (listed' := #[true, true, true, false, false, false, false, false, false, false]) rfl rfl (by kernel_rfl) (fun _ _ _ h => h) rfl (Or.inl ⟨by rfl, ?_⟩) ?_ rfl ?_
    rotate_left 2
    · intro w hS; clear hS; go_simp; rw [HWR.out]
    · simp only [List.setIfInBounds_toArray, List.set_cons_succ, List.set_cons_zero]; rfl
    refine wpAnyK_takeL (i := 3) (d := 10) (v := ?_) (T' := ?_) (listed' := #[true, true, true, true, false, false, false, false, false, false]) rfl rfl (by kernel_rfl) (fun _ _ _ h => h) rfl (Or.inl ⟨by rfl, ?_⟩) ?_ rfl ?_
    rotate_left 2
    · intro w hS; clear hS; go_simp; rfl
    · simp only [List.setIfInBounds_toArray, List.set_cons_succ, List.set_cons_zero]; rfl
    refine wpAnyK_takeL (i := 4) (d := 11) (v := ?_) (T' := ?_) (listed' := #[true, true, true, true, true, false, false, false, false, false]) rfl rfl (by kernel_rfl) (fun _ _ _ h => h) rfl (Or.inl ⟨by rfl, ?_⟩) ?_ rfl ?_
    rotate_left 2
    · intro w hS; subst hS; go_simp; rfl
    · simp only [List.setIfInBounds_toArray, List.set_cons_succ, List.set_cons_zero]; rfl
    refine wpAnyK_takeL (i := 5) (d := 12) (v := ?_) (T' := ?_) (listed' := #[true, true, true, true, true, true, false, false, false, false]) rfl rfl (by kernel_rfl) (fun _ _ _ h => h) rfl (Or.inl ⟨by rfl, ?_⟩) ?_ rfl ?_
    rotate_left 2
    · intro w hS; clear hS; go_simp; rfl
    · simp only [List.setIfInBounds_toArray, List.set_cons_succ, List.set_cons_zero]; rfl
    refine wpAnyK_oneL (i := 6) (listed' := #[true, true, true, true, true, true, true, false, false, false]) (by kernel_rfl) rfl (by rfl) rfl ?_
    intro K hK
    go_simp
    refine HM.out.mono ?_
    rintro e w1 ⟨rfl, rfl⟩
    refine hK _ _ (fun _ => rfl) ?_
    clear hK K
    refine wpAnyK_takeL (i := 7) (d := 14) (v := ?_) (T' := ?_) (listed' := #[true, true, true, true, true, true, true, true, false, false]) rfl rfl (by kernel_rfl) (fun _ _ _ h => h) rfl (Or.inl ⟨by rfl, ?_⟩) ?_ rfl ?_
    rotate_left 2
    · intro w hS; clear hS; go_simp; rfl
    · simp only [List.setIfInBounds_toArray, List.set_cons_succ, List.set_cons_zero]; rfl
    refine wpAnyK_takeL (i := 8) (d := 15) (v := ?_) (T' := ?_) (listed' := #[true, true, true, true, true, true, true, true, true, false]) rfl rfl (by kernel_rfl) (fun _ _ _ h => h) rfl (Or.inl ⟨by rfl, ?_⟩) ?_ rfl ?_
    rotate_left 2
    · intro w hS; clear hS; go_simp; rfl
    · simp only [List.setIfInBounds_toArray, List.set_cons_succ, List.set_cons_zero]; rfl
    refine wpAnyK_oneL (i := 9) (listed' := #[true, true, true, true, true, true, true, true, true, true]) (by kernel_rfl) rfl (by rfl) rfl ?_
    intro K hK
    go_simp
    refine hK _ _ (fun h => Bool.noConfusion (show true = false from h)) ?_
    clear hK K
    refine wpAnyK_done (by kernel_rfl) ?_ _
    go_wp2
    go_end0
    exact ⟨⟨_, rfl⟩, HST.out, HG.out _⟩
end Go.Proofs.Ytpfeaeklenopdaa
