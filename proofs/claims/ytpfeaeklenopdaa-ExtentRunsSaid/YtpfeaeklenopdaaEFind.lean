/-
  extent.find: the iterator over the set, or the clear, bits of a range.
-/
import Derived.Test.YtpfeaeklenopdaaEPut
namespace Go.Proofs.Ytpfeaeklenopdaa
open Go.RowKit Go.Shelf

attribute [local go_sem] Oper.semAt_some

section
variable {F : Fence} {n : Nat} {P : Program} {md : Region.Mode} {ops : Array Oper} {Q : Exit → Act → World → Prop}
theorem wpAnyIn_takeL {i d : Nat} {oi : Oper} {v : Value} {fuel : Nat} {listed listed' : Array Bool} {T T' : Array Value} {D : List Deferred} {w : World} (hro : F.round = none) (hi : (ops.toList.drop i).head? = some oi) (hdst : oi.dst = some d)
    (hc : (Region.noSelect ops && Region.free md ops listed i && (Region.ready md ops listed).contains i) = true)
    (hQ : ∀ c a w, Q (.panic c) (a.put oi.dst v) w → Q (.panic c) a w) (hl : listed.setIfInBounds i true = listed') (hy : YieldsFenced P ops oi v { tmps := T, defers := D }) (hT : T.setIfInBounds d v = T')
    (h : wpAnyIn F n P md ops Q fuel listed' { tmps := T', defers := D } w) : wpAnyIn F n P md ops Q (fuel + 1) listed { tmps := T, defers := D } w := by
  simp only [Bool.and_eq_true] at hc
  obtain ⟨⟨h1, h2⟩, h3⟩ := hc
  refine wpAnyIn_take hro (hd_get hi) h1 h2 h3 hQ hy ?_
  rw [hl, hdst]
  simpa only [Act.put, hT] using h
theorem wpAnyIn_oneL {i : Nat} {oi : Oper} {fuel : Nat} {listed listed' : Array Bool} {a : Act} {w : World} (hr : Region.ready md ops listed = [i]) (hi : (ops.toList.drop i).head? = some oi) (hw : Region.wanted oi (yielded ops a.tmps) = true) (hl : listed.setIfInBounds i true = listed')
    (h : ∀ K : Act → World → Prop, (∀ a' w', wpAnyIn F n P md ops Q fuel listed' a' w' → K a' w') → Oper.wpIn F n P oi a w K Q) : wpAnyIn F n P md ops Q (fuel + 1) listed a w := by
  subst hl
  refine wpAnyIn_ready hr (by simp) (AllReadyIn.cons (hd_get hi) (fun K hK => ?_) AllReadyIn.nil)
  rw [if_pos hw]
  exact h K hK
theorem wpAnyIn_twoL {i j : Nat} {oi oj : Oper} {fuel : Nat} {listed listed' listed2 : Array Bool} {a : Act} {w : World} (hr : Region.ready md ops listed = [i, j])
    (hi : (ops.toList.drop i).head? = some oi) (hw : Region.wanted oi (yielded ops a.tmps) = true) (hl : listed.setIfInBounds i true = listed')
    (h : ∀ K : Act → World → Prop, (∀ a' w', wpAnyIn F n P md ops Q fuel listed' a' w' → K a' w') → Oper.wpIn F n P oi a w K Q)
    (hj : (ops.toList.drop j).head? = some oj) (hwj : Region.wanted oj (yielded ops a.tmps) = true) (hlj : listed.setIfInBounds j true = listed2)
    (h2 : ∀ K : Act → World → Prop, (∀ a' w', wpAnyIn F n P md ops Q fuel listed2 a' w' → K a' w') → Oper.wpIn F n P oj a w K Q) : wpAnyIn F n P md ops Q (fuel + 1) listed a w := by
  subst hl hlj
  refine wpAnyIn_ready hr (by simp) (AllReadyIn.cons (hd_get hi) (fun K hK => ?_) (AllReadyIn.cons (hd_get hj) (fun K hK => ?_) AllReadyIn.nil))
  · rw [if_pos hw]
    exact h K hK
  · rw [if_pos hwj]
    exact h2 K hK
theorem wpIn_region_L {id fuel : Nat} {a : Act} {w : World} {listed : Array Bool} (hm : P.follows .mixedOrders = true) (hs : ops.size = fuel) (hl : Array.replicate ops.size false = listed)
    (h : wpAnyIn F n P .any ops Q fuel listed a w.drew) : (Code.region id ops true).wpIn F n P Q a w := by
  subst hs hl
  exact wpIn_region_any hm h
end
/-- the set (on), or clear, bits from f to t -/
def findL (l : List UInt8) (f t : Nat) (on : Bool) : List Nat := (List.range' f (t - f)).filter (fun k => bitN l k == on)
theorem findL_nil (l : List UInt8) (f : Nat) (on : Bool) : findL l f f on = [] := by unfold findL; simp
theorem findL_snoc {l : List UInt8} {f k : Nat} {on : Bool} (h : f ≤ k) : findL l f (k + 1) on = if bitN l k = on then findL l f k on ++ [k] else findL l f k on := by
  unfold findL
  rw [show k + 1 - f = (k - f) + 1 by omega, List.range'_concat, List.filter_append, show f + 1 * (k - f) = k by omega]
  by_cases hb : bitN l k = on
  · rw [if_pos hb]; simp [hb]
  · rw [if_neg hb]; simp [hb]
theorem findL_len (l : List UInt8) (f t : Nat) (on : Bool) : (findL l f t on).length ≤ t - f := by
  unfold findL
  exact Nat.le_trans (List.length_filter_le _ _) (by simp)

set_option maxRecDepth 100000 in
set_option maxHeartbeats 4000000 in
theorem find1_in (n : Nat) (hn : 2 ≤ n) (lp Bf Bt Bb Bo : Nat) (v : Value) (l : List UInt8) (f t : Nat) (on : Bool) (hft : f ≤ t) (ht : t ≤ 8 * l.length) (hl : l.length ≤ 1000000)
    (Kp : World → World → Prop) (hKr : ∀ W, Kp W W) (hKt : ∀ {A B C : World}, Kp A B → Kp B C → Kp A C) (hKd : ∀ W, Kp W W.drew) (J Jx : List Nat → World → Prop) (hJd : ∀ pre W, J pre W → J pre W.drew)
    (hY : ∀ (x : Nat) W, f ≤ x → x < t → bitN l x = on → J (findL l f x on) W → YieldAt Fence.wide (n - 1) Try.prog lp #[.int .i64 (x : Int)] W fun e W' =>
      (e = .returned (.bool true) ∧ J (findL l f x on ++ [x]) W' ∧ Kp W W') ∨ (e = .returned (.bool false) ∧ Jx (findL l f x on ++ [x]) W'))
    (W : World) (hR : ∀ W', Kp W W' → W'.cell? ⟨Bf, 0, none⟩ = some (.int .i64 (f : Int)) ∧ W'.cell? ⟨Bt, 0, none⟩ = some (.int .i64 (t : Int)) ∧ W'.cell? ⟨Bb, 0, none⟩ = some v ∧ W'.cell? ⟨Bo, 0, none⟩ = some (.bool on) ∧ Rd W' v l) (h0 : J [] W) :
    CallsIn Fence.wide n Try.prog 46 #[.func (.yield lp) #[] #[], .pointer (some ⟨Bf, 0, none⟩), .pointer (some ⟨Bt, 0, none⟩), .pointer (some ⟨Bb, 0, none⟩), .pointer (some ⟨Bo, 0, none⟩)] W fun e W' => (∃ v, e = .returned v) ∧
      (J (findL l f t on) W' ∨ (∃ x, f ≤ x ∧ x < t ∧ bitN l x = on ∧ Jx (findL l f x on ++ [x]) W')) := by
  obtain ⟨a, c, rfl⟩ := (hR W (hKr _)).2.2.2.2.len
  have hc0 := (hR W (hKr _)).1
  have HR := Lib.hid hR
  have HL := Lib.hid hl
  have HT := Lib.hid ht
  have h1 : 1 ≤ n - 1 := by omega
  have ht63 : (t : Int) ≤ 8000000 := by omega
  clear hR hl ht
  refine callsIn_of_wp Try.func46 rfl trivial ?_ rfl
  simp only [Try.ntmps46, List.size_toArray, List.length_cons, List.length_nil, Nat.reduceAdd, Nat.reduceSub, Array.replicate_succ, Array.replicate_zero, List.push_toArray, List.append_toArray, List.nil_append, List.cons_append]
  gi_wp2_with fail
  clear hc0
  gi_loopw [6] (fun i wr => ∃ k : Nat, f ≤ k ∧ k ≤ t ∧ i = .int .i64 (k : Int) ∧ J (findL l f k on) wr ∧ Hid (Kp W wr))
    (fun i _ => t - (intOf i).toNat)
  case atStart => exact ⟨f, Nat.le_refl _, hft, rfl, by rw [findL_nil]; exact h0, Lib.hid (hKr _)⟩
  case round =>
    obtain ⟨k, hk1, hk2, rfl, hJs, HNX⟩ := hrel
    obtain ⟨_, ct, _, _, _⟩ := HR.out wr HNX.out
    by_cases hlt : k < t
    · obtain ⟨_, _, cb, _, hr1⟩ := HR.out wr.drew (hKt HNX.out (hKd _))
      have co1 := (HR.out wr.drew (hKt HNX.out (hKd _))).2.2.2.1
      have co2 := (HR.out wr.drew.drew (hKt (hKt HNX.out (hKd _)) (hKd _))).2.2.2.1
      have HJ2 := Lib.hid (hJd _ _ (hJd _ _ hJs))
      have hgt := get_any _ l k wr.drew hr1 HL.out
      unfold bitI at hgt
      simp only [Int.toNat_natCast, show decide (0 ≤ (k : Int)) = true by simp, Bool.true_and] at hgt
      have HGT := Lib.hid hgt
      have hltI : (k : Int) < (t : Int) := by omega
      clear hJs hr1 hgt
      by_cases hgo : bitN l k = on
      · have HQ := Lib.hid hgo
        rw [hgo] at HGT
        obtain ⟨fn, tmps, assign, body, hy, hR⟩ := hY k wr.drew.drew hk1 hlt hgo HJ2.out
        clear hgo
        gi_wp2
        refine wpIn_region_L (fuel := 11) (listed := #[false, false, false, false, false, false, false, false, false, false, false]) (by kernel_rfl) rfl (by kernel_rfl) ?_
        refine wpAnyIn_takeL (i := 1) (d := 14) (v := ?_) (T' := ?_) (listed' := #[false, true, false, false, false, false, false, false, false, false, false]) rfl rfl rfl (by kernel_rfl) (fun _ _ _ h => h) rfl ⟨Or.inl ⟨by rfl, ?_⟩, fun _ => rfl⟩ ?_ ?_
        rotate_left 2
        · intro w; go_simp; rfl
        · simp only [List.setIfInBounds_toArray, List.set_cons_succ, List.set_cons_zero]; rfl
        refine wpAnyIn_twoL (i := 0) (j := 3) (listed' := #[true, true, false, false, false, false, false, false, false, false, false]) (listed2 := #[false, true, false, true, false, false, false, false, false, false, false]) (by kernel_rfl) rfl (by rfl) rfl ?_ rfl (by rfl) rfl ?_
        · intro K hK
          go_simp
          refine hK _ _ ?_; clear hK K
          refine wpAnyIn_twoL (i := 2) (j := 3) (listed' := #[true, true, true, false, false, false, false, false, false, false, false]) (listed2 := #[true, true, false, true, false, false, false, false, false, false, false]) (by kernel_rfl) rfl (by rfl) rfl ?_ rfl (by rfl) rfl ?_
          · intro K hK
            go_simp
            refine ⟨trivial, (fun h => (by cases h)), ?_⟩
            refine (callsIn_wide.2 HGT.out).mono ?_
            rintro e w' ⟨rfl, rfl⟩
            refine hK _ _ ?_; clear hK K
            refine wpAnyIn_oneL (i := 3) (listed' := #[true, true, true, true, false, false, false, false, false, false, false]) (by kernel_rfl) rfl (by rfl) rfl ?_
            intro K hK
            go_simp
            refine hK _ _ ?_; clear hK K
            refine wpAnyIn_takeL (i := 4) (d := 17) (v := ?_) (T' := ?_) (listed' := #[true, true, true, true, true, false, false, false, false, false, false]) rfl rfl rfl (by kernel_rfl) (fun _ _ _ h => h) rfl ⟨Or.inl ⟨by rfl, ?_⟩, fun _ => rfl⟩ ?_ ?_
            rotate_left 2
            · intro w; go_simp; rfl
            · simp only [List.setIfInBounds_toArray, List.set_cons_succ, List.set_cons_zero]; rfl
            refine wpAnyIn_takeL (i := 5) (d := 18) (v := ?_) (T' := ?_) (listed' := #[true, true, true, true, true, true, false, false, false, false, false]) rfl rfl rfl (by kernel_rfl) (fun _ _ _ h => h) rfl ⟨Or.inl ⟨by rfl, ?_⟩, fun _ => rfl⟩ ?_ ?_
            rotate_left 2
            · intro w; go_simp; rfl
            · simp only [List.setIfInBounds_toArray, List.set_cons_succ, List.set_cons_zero]; rfl
            refine wpAnyIn_takeL (i := 6) (d := 19) (v := ?_) (T' := ?_) (listed' := #[true, true, true, true, true, true, true, false, false, false, false]) rfl rfl rfl (by kernel_rfl) (fun _ _ _ h => h) rfl ⟨Or.inl ⟨by rfl, ?_⟩, fun _ => rfl⟩ ?_ ?_
            rotate_left 2
            · intro w; go_simp; rfl
            · simp only [List.setIfInBounds_toArray, List.set_cons_succ, List.set_cons_zero]; rfl
            refine wpAnyIn_takeL (i := 7) (d := 20) (v := ?_) (T' := ?_) (listed' := #[true, true, true, true, true, true, true, true, false, false, false]) rfl rfl rfl (by kernel_rfl) (fun _ _ _ h => h) rfl ⟨Or.inl ⟨by rfl, ?_⟩, fun _ => rfl⟩ ?_ ?_
            rotate_left 2
            · intro w; go_simp; rfl
            · simp only [List.setIfInBounds_toArray, List.set_cons_succ, List.set_cons_zero]; rfl
            refine wpAnyIn_oneL (i := 8) (listed' := #[true, true, true, true, true, true, true, true, true, false, false]) (by kernel_rfl) rfl (by rfl) rfl ?_
            intro K hK
            go_simp
            refine ⟨(fun h => (by cases h)), hR.mono ?_⟩
            rintro e W3 (⟨rfl, hJ3, hk3⟩ | ⟨rfl, hJx3⟩)
            · refine hK _ _ ?_; clear hK K
              refine wpAnyIn_takeL (i := 9) (d := 22) (v := ?_) (T' := ?_) (listed' := #[true, true, true, true, true, true, true, true, true, true, false]) rfl rfl rfl (by kernel_rfl) (fun _ _ _ h => h) rfl ⟨Or.inl ⟨by rfl, ?_⟩, fun _ => rfl⟩ ?_ ?_
              rotate_left 2
              · intro w; go_simp; rfl
              · simp only [List.setIfInBounds_toArray, List.set_cons_succ, List.set_cons_zero]; rfl
              refine wpAnyIn_takeL (i := 10) (d := 23) (v := ?_) (T' := ?_) (listed' := #[true, true, true, true, true, true, true, true, true, true, true]) rfl rfl rfl (by kernel_rfl) (fun _ _ _ h => h) rfl ⟨Or.inl ⟨by rfl, ?_⟩, fun _ => rfl⟩ ?_ ?_
              rotate_left 2
              · intro w; go_simp; rfl
              · simp only [List.setIfInBounds_toArray, List.set_cons_succ, List.set_cons_zero]; rfl
              refine wpAnyIn_done (by kernel_rfl) ?_ _
              gi_wp2
              go_roundw
              case rel => exact ⟨k + 1, by omega, by omega, by go_num, by rw [findL_snoc hk1, if_pos HQ.out]; exact hJ3, Lib.hid (hKt (hKt (hKt HNX.out (hKd _)) (hKd _)) hk3)⟩
              case measure => simp [intOf]; omega
            · refine hK _ _ ?_; clear hK K
              refine wpAnyIn_takeL (i := 9) (d := 22) (v := ?_) (T' := ?_) (listed' := #[true, true, true, true, true, true, true, true, true, true, false]) rfl rfl rfl (by kernel_rfl) (fun _ _ _ h => h) rfl ⟨Or.inl ⟨by rfl, ?_⟩, fun _ => rfl⟩ ?_ ?_
              rotate_left 2
              · intro w; go_simp; rfl
              · simp only [List.setIfInBounds_toArray, List.set_cons_succ, List.set_cons_zero]; rfl
              refine wpAnyIn_takeL (i := 10) (d := 23) (v := ?_) (T' := ?_) (listed' := #[true, true, true, true, true, true, true, true, true, true, true]) rfl rfl rfl (by kernel_rfl) (fun _ _ _ h => h) rfl ⟨Or.inl ⟨by rfl, ?_⟩, fun _ => rfl⟩ ?_ ?_
              rotate_left 2
              · intro w; go_simp; rfl
              · simp only [List.setIfInBounds_toArray, List.set_cons_succ, List.set_cons_zero]; rfl
              refine wpAnyIn_done (by kernel_rfl) ?_ _
              gi_wp2
              refine bodyPost_ret (results_none rfl _ _ _) rfl ?_
              exact ⟨⟨_, rfl⟩, .inr ⟨k, hk1, hlt, HQ.out, hJx3⟩⟩
          · intro K hK
            go_simp
            refine hK _ _ ?_; clear hK K
            refine wpAnyIn_oneL (i := 2) (listed' := #[true, true, true, true, false, false, false, false, false, false, false]) (by kernel_rfl) rfl (by rfl) rfl ?_
            intro K hK
            go_simp
            refine ⟨trivial, (fun h => (by cases h)), ?_⟩
            refine (callsIn_wide.2 HGT.out).mono ?_
            rintro e w' ⟨rfl, rfl⟩
            refine hK _ _ ?_; clear hK K
            refine wpAnyIn_takeL (i := 4) (d := 17) (v := ?_) (T' := ?_) (listed' := #[true, true, true, true, true, false, false, false, false, false, false]) rfl rfl rfl (by kernel_rfl) (fun _ _ _ h => h) rfl ⟨Or.inl ⟨by rfl, ?_⟩, fun _ => rfl⟩ ?_ ?_
            rotate_left 2
            · intro w; go_simp; rfl
            · simp only [List.setIfInBounds_toArray, List.set_cons_succ, List.set_cons_zero]; rfl
            refine wpAnyIn_takeL (i := 5) (d := 18) (v := ?_) (T' := ?_) (listed' := #[true, true, true, true, true, true, false, false, false, false, false]) rfl rfl rfl (by kernel_rfl) (fun _ _ _ h => h) rfl ⟨Or.inl ⟨by rfl, ?_⟩, fun _ => rfl⟩ ?_ ?_
            rotate_left 2
            · intro w; go_simp; rfl
            · simp only [List.setIfInBounds_toArray, List.set_cons_succ, List.set_cons_zero]; rfl
            refine wpAnyIn_takeL (i := 6) (d := 19) (v := ?_) (T' := ?_) (listed' := #[true, true, true, true, true, true, true, false, false, false, false]) rfl rfl rfl (by kernel_rfl) (fun _ _ _ h => h) rfl ⟨Or.inl ⟨by rfl, ?_⟩, fun _ => rfl⟩ ?_ ?_
            rotate_left 2
            · intro w; go_simp; rfl
            · simp only [List.setIfInBounds_toArray, List.set_cons_succ, List.set_cons_zero]; rfl
            refine wpAnyIn_takeL (i := 7) (d := 20) (v := ?_) (T' := ?_) (listed' := #[true, true, true, true, true, true, true, true, false, false, false]) rfl rfl rfl (by kernel_rfl) (fun _ _ _ h => h) rfl ⟨Or.inl ⟨by rfl, ?_⟩, fun _ => rfl⟩ ?_ ?_
            rotate_left 2
            · intro w; go_simp; rfl
            · simp only [List.setIfInBounds_toArray, List.set_cons_succ, List.set_cons_zero]; rfl
            refine wpAnyIn_oneL (i := 8) (listed' := #[true, true, true, true, true, true, true, true, true, false, false]) (by kernel_rfl) rfl (by rfl) rfl ?_
            intro K hK
            go_simp
            refine ⟨(fun h => (by cases h)), hR.mono ?_⟩
            rintro e W3 (⟨rfl, hJ3, hk3⟩ | ⟨rfl, hJx3⟩)
            · refine hK _ _ ?_; clear hK K
              refine wpAnyIn_takeL (i := 9) (d := 22) (v := ?_) (T' := ?_) (listed' := #[true, true, true, true, true, true, true, true, true, true, false]) rfl rfl rfl (by kernel_rfl) (fun _ _ _ h => h) rfl ⟨Or.inl ⟨by rfl, ?_⟩, fun _ => rfl⟩ ?_ ?_
              rotate_left 2
              · intro w; go_simp; rfl
              · simp only [List.setIfInBounds_toArray, List.set_cons_succ, List.set_cons_zero]; rfl
              refine wpAnyIn_takeL (i := 10) (d := 23) (v := ?_) (T' := ?_) (listed' := #[true, true, true, true, true, true, true, true, true, true, true]) rfl rfl rfl (by kernel_rfl) (fun _ _ _ h => h) rfl ⟨Or.inl ⟨by rfl, ?_⟩, fun _ => rfl⟩ ?_ ?_
              rotate_left 2
              · intro w; go_simp; rfl
              · simp only [List.setIfInBounds_toArray, List.set_cons_succ, List.set_cons_zero]; rfl
              refine wpAnyIn_done (by kernel_rfl) ?_ _
              gi_wp2
              go_roundw
              case rel => exact ⟨k + 1, by omega, by omega, by go_num, by rw [findL_snoc hk1, if_pos HQ.out]; exact hJ3, Lib.hid (hKt (hKt (hKt HNX.out (hKd _)) (hKd _)) hk3)⟩
              case measure => simp [intOf]; omega
            · refine hK _ _ ?_; clear hK K
              refine wpAnyIn_takeL (i := 9) (d := 22) (v := ?_) (T' := ?_) (listed' := #[true, true, true, true, true, true, true, true, true, true, false]) rfl rfl rfl (by kernel_rfl) (fun _ _ _ h => h) rfl ⟨Or.inl ⟨by rfl, ?_⟩, fun _ => rfl⟩ ?_ ?_
              rotate_left 2
              · intro w; go_simp; rfl
              · simp only [List.setIfInBounds_toArray, List.set_cons_succ, List.set_cons_zero]; rfl
              refine wpAnyIn_takeL (i := 10) (d := 23) (v := ?_) (T' := ?_) (listed' := #[true, true, true, true, true, true, true, true, true, true, true]) rfl rfl rfl (by kernel_rfl) (fun _ _ _ h => h) rfl ⟨Or.inl ⟨by rfl, ?_⟩, fun _ => rfl⟩ ?_ ?_
              rotate_left 2
              · intro w; go_simp; rfl
              · simp only [List.setIfInBounds_toArray, List.set_cons_succ, List.set_cons_zero]; rfl
              refine wpAnyIn_done (by kernel_rfl) ?_ _
              gi_wp2
              refine bodyPost_ret (results_none rfl _ _ _) rfl ?_
              exact ⟨⟨_, rfl⟩, .inr ⟨k, hk1, hlt, HQ.out, hJx3⟩⟩
        · intro K hK
          go_simp
          refine hK _ _ ?_; clear hK K
          refine wpAnyIn_oneL (i := 0) (listed' := #[true, true, false, true, false, false, false, false, false, false, false]) (by kernel_rfl) rfl (by rfl) rfl ?_
          intro K hK
          go_simp
          refine hK _ _ ?_; clear hK K
          refine wpAnyIn_oneL (i := 2) (listed' := #[true, true, true, true, false, false, false, false, false, false, false]) (by kernel_rfl) rfl (by rfl) rfl ?_
          intro K hK
          go_simp
          refine ⟨trivial, (fun h => (by cases h)), ?_⟩
          refine (callsIn_wide.2 HGT.out).mono ?_
          rintro e w' ⟨rfl, rfl⟩
          refine hK _ _ ?_; clear hK K
          refine wpAnyIn_takeL (i := 4) (d := 17) (v := ?_) (T' := ?_) (listed' := #[true, true, true, true, true, false, false, false, false, false, false]) rfl rfl rfl (by kernel_rfl) (fun _ _ _ h => h) rfl ⟨Or.inl ⟨by rfl, ?_⟩, fun _ => rfl⟩ ?_ ?_
          rotate_left 2
          · intro w; go_simp; rfl
          · simp only [List.setIfInBounds_toArray, List.set_cons_succ, List.set_cons_zero]; rfl
          refine wpAnyIn_takeL (i := 5) (d := 18) (v := ?_) (T' := ?_) (listed' := #[true, true, true, true, true, true, false, false, false, false, false]) rfl rfl rfl (by kernel_rfl) (fun _ _ _ h => h) rfl ⟨Or.inl ⟨by rfl, ?_⟩, fun _ => rfl⟩ ?_ ?_
          rotate_left 2
          · intro w; go_simp; rfl
          · simp only [List.setIfInBounds_toArray, List.set_cons_succ, List.set_cons_zero]; rfl
          refine wpAnyIn_takeL (i := 6) (d := 19) (v := ?_) (T' := ?_) (listed' := #[true, true, true, true, true, true, true, false, false, false, false]) rfl rfl rfl (by kernel_rfl) (fun _ _ _ h => h) rfl ⟨Or.inl ⟨by rfl, ?_⟩, fun _ => rfl⟩ ?_ ?_
          rotate_left 2
          · intro w; go_simp; rfl
          · simp only [List.setIfInBounds_toArray, List.set_cons_succ, List.set_cons_zero]; rfl
          refine wpAnyIn_takeL (i := 7) (d := 20) (v := ?_) (T' := ?_) (listed' := #[true, true, true, true, true, true, true, true, false, false, false]) rfl rfl rfl (by kernel_rfl) (fun _ _ _ h => h) rfl ⟨Or.inl ⟨by rfl, ?_⟩, fun _ => rfl⟩ ?_ ?_
          rotate_left 2
          · intro w; go_simp; rfl
          · simp only [List.setIfInBounds_toArray, List.set_cons_succ, List.set_cons_zero]; rfl
          refine wpAnyIn_oneL (i := 8) (listed' := #[true, true, true, true, true, true, true, true, true, false, false]) (by kernel_rfl) rfl (by rfl) rfl ?_
          intro K hK
          go_simp
          refine ⟨(fun h => (by cases h)), hR.mono ?_⟩
          rintro e W3 (⟨rfl, hJ3, hk3⟩ | ⟨rfl, hJx3⟩)
          · refine hK _ _ ?_; clear hK K
            refine wpAnyIn_takeL (i := 9) (d := 22) (v := ?_) (T' := ?_) (listed' := #[true, true, true, true, true, true, true, true, true, true, false]) rfl rfl rfl (by kernel_rfl) (fun _ _ _ h => h) rfl ⟨Or.inl ⟨by rfl, ?_⟩, fun _ => rfl⟩ ?_ ?_
            rotate_left 2
            · intro w; go_simp; rfl
            · simp only [List.setIfInBounds_toArray, List.set_cons_succ, List.set_cons_zero]; rfl
            refine wpAnyIn_takeL (i := 10) (d := 23) (v := ?_) (T' := ?_) (listed' := #[true, true, true, true, true, true, true, true, true, true, true]) rfl rfl rfl (by kernel_rfl) (fun _ _ _ h => h) rfl ⟨Or.inl ⟨by rfl, ?_⟩, fun _ => rfl⟩ ?_ ?_
            rotate_left 2
            · intro w; go_simp; rfl
            · simp only [List.setIfInBounds_toArray, List.set_cons_succ, List.set_cons_zero]; rfl
            refine wpAnyIn_done (by kernel_rfl) ?_ _
            gi_wp2
            go_roundw
            case rel => exact ⟨k + 1, by omega, by omega, by go_num, by rw [findL_snoc hk1, if_pos HQ.out]; exact hJ3, Lib.hid (hKt (hKt (hKt HNX.out (hKd _)) (hKd _)) hk3)⟩
            case measure => simp [intOf]; omega
          · refine hK _ _ ?_; clear hK K
            refine wpAnyIn_takeL (i := 9) (d := 22) (v := ?_) (T' := ?_) (listed' := #[true, true, true, true, true, true, true, true, true, true, false]) rfl rfl rfl (by kernel_rfl) (fun _ _ _ h => h) rfl ⟨Or.inl ⟨by rfl, ?_⟩, fun _ => rfl⟩ ?_ ?_
            rotate_left 2
            · intro w; go_simp; rfl
            · simp only [List.setIfInBounds_toArray, List.set_cons_succ, List.set_cons_zero]; rfl
            refine wpAnyIn_takeL (i := 10) (d := 23) (v := ?_) (T' := ?_) (listed' := #[true, true, true, true, true, true, true, true, true, true, true]) rfl rfl rfl (by kernel_rfl) (fun _ _ _ h => h) rfl ⟨Or.inl ⟨by rfl, ?_⟩, fun _ => rfl⟩ ?_ ?_
            rotate_left 2
            · intro w; go_simp; rfl
            · simp only [List.setIfInBounds_toArray, List.set_cons_succ, List.set_cons_zero]; rfl
            refine wpAnyIn_done (by kernel_rfl) ?_ _
            gi_wp2
            refine bodyPost_ret (results_none rfl _ _ _) rfl ?_
            exact ⟨⟨_, rfl⟩, .inr ⟨k, hk1, hlt, HQ.out, hJx3⟩⟩
      · have HQ := Lib.hid hgo
        have hg2 : bitN l k = !on := by cases hb : bitN l k <;> cases on <;> simp_all
        rw [hg2] at HGT
        clear hgo hg2
        gi_wp2
        refine wpIn_region_L (fuel := 11) (listed := #[false, false, false, false, false, false, false, false, false, false, false]) (by kernel_rfl) rfl (by kernel_rfl) ?_
        refine wpAnyIn_takeL (i := 1) (d := 14) (v := ?_) (T' := ?_) (listed' := #[false, true, false, false, false, false, false, false, false, false, false]) rfl rfl rfl (by kernel_rfl) (fun _ _ _ h => h) rfl ⟨Or.inl ⟨by rfl, ?_⟩, fun _ => rfl⟩ ?_ ?_
        rotate_left 2
        · intro w; go_simp; rfl
        · simp only [List.setIfInBounds_toArray, List.set_cons_succ, List.set_cons_zero]; rfl
        refine wpAnyIn_twoL (i := 0) (j := 3) (listed' := #[true, true, false, false, false, false, false, false, false, false, false]) (listed2 := #[false, true, false, true, false, false, false, false, false, false, false]) (by kernel_rfl) rfl (by rfl) rfl ?_ rfl (by rfl) rfl ?_
        · intro K hK
          go_simp
          refine hK _ _ ?_; clear hK K
          refine wpAnyIn_twoL (i := 2) (j := 3) (listed' := #[true, true, true, false, false, false, false, false, false, false, false]) (listed2 := #[true, true, false, true, false, false, false, false, false, false, false]) (by kernel_rfl) rfl (by rfl) rfl ?_ rfl (by rfl) rfl ?_
          · intro K hK
            go_simp
            refine ⟨trivial, (fun h => (by cases h)), ?_⟩
            refine (callsIn_wide.2 HGT.out).mono ?_
            rintro e w' ⟨rfl, rfl⟩
            refine hK _ _ ?_; clear hK K
            refine wpAnyIn_oneL (i := 3) (listed' := #[true, true, true, true, false, false, false, false, false, false, false]) (by kernel_rfl) rfl (by rfl) rfl ?_
            intro K hK
            go_simp
            refine hK _ _ ?_; clear hK K
            refine wpAnyIn_takeL (i := 4) (d := 17) (v := ?_) (T' := ?_) (listed' := #[true, true, true, true, true, false, false, false, false, false, false]) rfl rfl rfl (by kernel_rfl) (fun _ _ _ h => h) rfl ⟨Or.inl ⟨by rfl, ?_⟩, fun _ => rfl⟩ ?_ ?_
            rotate_left 2
            · intro w; go_simp; rfl
            · simp only [List.setIfInBounds_toArray, List.set_cons_succ, List.set_cons_zero]; rfl
            refine wpAnyIn_takeL (i := 5) (d := 18) (v := ?_) (T' := ?_) (listed' := #[true, true, true, true, true, true, false, false, false, false, false]) rfl rfl rfl (by kernel_rfl) (fun _ _ _ h => h) rfl ⟨Or.inl ⟨by rfl, ?_⟩, fun _ => rfl⟩ ?_ ?_
            rotate_left 2
            · intro w; go_simp; rfl
            · simp only [List.setIfInBounds_toArray, List.set_cons_succ, List.set_cons_zero]; rfl
            refine wpAnyIn_takeL (i := 6) (d := 19) (v := undef) (T' := ?_) (listed' := #[true, true, true, true, true, true, true, false, false, false, false]) rfl rfl rfl (by kernel_rfl) (fun _ _ _ h => h) rfl ⟨Or.inr ⟨by rfl, rfl⟩, fun _ => rfl⟩ ?_ ?_
            rotate_left 1
            · simp only [List.setIfInBounds_toArray, List.set_cons_succ, List.set_cons_zero]; rfl
            refine wpAnyIn_takeL (i := 7) (d := 20) (v := undef) (T' := ?_) (listed' := #[true, true, true, true, true, true, true, true, false, false, false]) rfl rfl rfl (by kernel_rfl) (fun _ _ _ h => h) rfl ⟨Or.inr ⟨by rfl, rfl⟩, fun _ => rfl⟩ ?_ ?_
            rotate_left 1
            · simp only [List.setIfInBounds_toArray, List.set_cons_succ, List.set_cons_zero]; rfl
            refine wpAnyIn_takeL (i := 8) (d := 21) (v := undef) (T' := ?_) (listed' := #[true, true, true, true, true, true, true, true, true, false, false]) rfl rfl rfl (by kernel_rfl) (fun _ _ _ h => h) rfl ⟨Or.inr ⟨by rfl, rfl⟩, fun _ => rfl⟩ ?_ ?_
            rotate_left 1
            · simp only [List.setIfInBounds_toArray, List.set_cons_succ, List.set_cons_zero]; rfl
            refine wpAnyIn_takeL (i := 9) (d := 22) (v := undef) (T' := ?_) (listed' := #[true, true, true, true, true, true, true, true, true, true, false]) rfl rfl rfl (by kernel_rfl) (fun _ _ _ h => h) rfl ⟨Or.inr ⟨by rfl, rfl⟩, fun _ => rfl⟩ ?_ ?_
            rotate_left 1
            · simp only [List.setIfInBounds_toArray, List.set_cons_succ, List.set_cons_zero]; rfl
            refine wpAnyIn_takeL (i := 10) (d := 23) (v := ?_) (T' := ?_) (listed' := #[true, true, true, true, true, true, true, true, true, true, true]) rfl rfl rfl (by kernel_rfl) (fun _ _ _ h => h) rfl ⟨Or.inl ⟨by rfl, ?_⟩, fun _ => rfl⟩ ?_ ?_
            rotate_left 2
            · intro w; go_simp; rfl
            · simp only [List.setIfInBounds_toArray, List.set_cons_succ, List.set_cons_zero]; rfl
            refine wpAnyIn_done (by kernel_rfl) ?_ _
            gi_wp2
            go_roundw
            case rel => exact ⟨k + 1, by omega, by omega, by go_num, by rw [findL_snoc hk1, if_neg HQ.out]; exact HJ2.out, Lib.hid (hKt (hKt HNX.out (hKd _)) (hKd _))⟩
            case measure => simp [intOf]; omega
          · intro K hK
            go_simp
            refine hK _ _ ?_; clear hK K
            refine wpAnyIn_oneL (i := 2) (listed' := #[true, true, true, true, false, false, false, false, false, false, false]) (by kernel_rfl) rfl (by rfl) rfl ?_
            intro K hK
            go_simp
            refine ⟨trivial, (fun h => (by cases h)), ?_⟩
            refine (callsIn_wide.2 HGT.out).mono ?_
            rintro e w' ⟨rfl, rfl⟩
            refine hK _ _ ?_; clear hK K
            refine wpAnyIn_takeL (i := 4) (d := 17) (v := ?_) (T' := ?_) (listed' := #[true, true, true, true, true, false, false, false, false, false, false]) rfl rfl rfl (by kernel_rfl) (fun _ _ _ h => h) rfl ⟨Or.inl ⟨by rfl, ?_⟩, fun _ => rfl⟩ ?_ ?_
            rotate_left 2
            · intro w; go_simp; rfl
            · simp only [List.setIfInBounds_toArray, List.set_cons_succ, List.set_cons_zero]; rfl
            refine wpAnyIn_takeL (i := 5) (d := 18) (v := ?_) (T' := ?_) (listed' := #[true, true, true, true, true, true, false, false, false, false, false]) rfl rfl rfl (by kernel_rfl) (fun _ _ _ h => h) rfl ⟨Or.inl ⟨by rfl, ?_⟩, fun _ => rfl⟩ ?_ ?_
            rotate_left 2
            · intro w; go_simp; rfl
            · simp only [List.setIfInBounds_toArray, List.set_cons_succ, List.set_cons_zero]; rfl
            refine wpAnyIn_takeL (i := 6) (d := 19) (v := undef) (T' := ?_) (listed' := #[true, true, true, true, true, true, true, false, false, false, false]) rfl rfl rfl (by kernel_rfl) (fun _ _ _ h => h) rfl ⟨Or.inr ⟨by rfl, rfl⟩, fun _ => rfl⟩ ?_ ?_
            rotate_left 1
            · simp only [List.setIfInBounds_toArray, List.set_cons_succ, List.set_cons_zero]; rfl
            refine wpAnyIn_takeL (i := 7) (d := 20) (v := undef) (T' := ?_) (listed' := #[true, true, true, true, true, true, true, true, false, false, false]) rfl rfl rfl (by kernel_rfl) (fun _ _ _ h => h) rfl ⟨Or.inr ⟨by rfl, rfl⟩, fun _ => rfl⟩ ?_ ?_
            rotate_left 1
            · simp only [List.setIfInBounds_toArray, List.set_cons_succ, List.set_cons_zero]; rfl
            refine wpAnyIn_takeL (i := 8) (d := 21) (v := undef) (T' := ?_) (listed' := #[true, true, true, true, true, true, true, true, true, false, false]) rfl rfl rfl (by kernel_rfl) (fun _ _ _ h => h) rfl ⟨Or.inr ⟨by rfl, rfl⟩, fun _ => rfl⟩ ?_ ?_
            rotate_left 1
            · simp only [List.setIfInBounds_toArray, List.set_cons_succ, List.set_cons_zero]; rfl
            refine wpAnyIn_takeL (i := 9) (d := 22) (v := undef) (T' := ?_) (listed' := #[true, true, true, true, true, true, true, true, true, true, false]) rfl rfl rfl (by kernel_rfl) (fun _ _ _ h => h) rfl ⟨Or.inr ⟨by rfl, rfl⟩, fun _ => rfl⟩ ?_ ?_
            rotate_left 1
            · simp only [List.setIfInBounds_toArray, List.set_cons_succ, List.set_cons_zero]; rfl
            refine wpAnyIn_takeL (i := 10) (d := 23) (v := ?_) (T' := ?_) (listed' := #[true, true, true, true, true, true, true, true, true, true, true]) rfl rfl rfl (by kernel_rfl) (fun _ _ _ h => h) rfl ⟨Or.inl ⟨by rfl, ?_⟩, fun _ => rfl⟩ ?_ ?_
            rotate_left 2
            · intro w; go_simp; rfl
            · simp only [List.setIfInBounds_toArray, List.set_cons_succ, List.set_cons_zero]; rfl
            refine wpAnyIn_done (by kernel_rfl) ?_ _
            gi_wp2
            go_roundw
            case rel => exact ⟨k + 1, by omega, by omega, by go_num, by rw [findL_snoc hk1, if_neg HQ.out]; exact HJ2.out, Lib.hid (hKt (hKt HNX.out (hKd _)) (hKd _))⟩
            case measure => simp [intOf]; omega
        · intro K hK
          go_simp
          refine hK _ _ ?_; clear hK K
          refine wpAnyIn_oneL (i := 0) (listed' := #[true, true, false, true, false, false, false, false, false, false, false]) (by kernel_rfl) rfl (by rfl) rfl ?_
          intro K hK
          go_simp
          refine hK _ _ ?_; clear hK K
          refine wpAnyIn_oneL (i := 2) (listed' := #[true, true, true, true, false, false, false, false, false, false, false]) (by kernel_rfl) rfl (by rfl) rfl ?_
          intro K hK
          go_simp
          refine ⟨trivial, (fun h => (by cases h)), ?_⟩
          refine (callsIn_wide.2 HGT.out).mono ?_
          rintro e w' ⟨rfl, rfl⟩
          refine hK _ _ ?_; clear hK K
          refine wpAnyIn_takeL (i := 4) (d := 17) (v := ?_) (T' := ?_) (listed' := #[true, true, true, true, true, false, false, false, false, false, false]) rfl rfl rfl (by kernel_rfl) (fun _ _ _ h => h) rfl ⟨Or.inl ⟨by rfl, ?_⟩, fun _ => rfl⟩ ?_ ?_
          rotate_left 2
          · intro w; go_simp; rfl
          · simp only [List.setIfInBounds_toArray, List.set_cons_succ, List.set_cons_zero]; rfl
          refine wpAnyIn_takeL (i := 5) (d := 18) (v := ?_) (T' := ?_) (listed' := #[true, true, true, true, true, true, false, false, false, false, false]) rfl rfl rfl (by kernel_rfl) (fun _ _ _ h => h) rfl ⟨Or.inl ⟨by rfl, ?_⟩, fun _ => rfl⟩ ?_ ?_
          rotate_left 2
          · intro w; go_simp; rfl
          · simp only [List.setIfInBounds_toArray, List.set_cons_succ, List.set_cons_zero]; rfl
          refine wpAnyIn_takeL (i := 6) (d := 19) (v := undef) (T' := ?_) (listed' := #[true, true, true, true, true, true, true, false, false, false, false]) rfl rfl rfl (by kernel_rfl) (fun _ _ _ h => h) rfl ⟨Or.inr ⟨by rfl, rfl⟩, fun _ => rfl⟩ ?_ ?_
          rotate_left 1
          · simp only [List.setIfInBounds_toArray, List.set_cons_succ, List.set_cons_zero]; rfl
          refine wpAnyIn_takeL (i := 7) (d := 20) (v := undef) (T' := ?_) (listed' := #[true, true, true, true, true, true, true, true, false, false, false]) rfl rfl rfl (by kernel_rfl) (fun _ _ _ h => h) rfl ⟨Or.inr ⟨by rfl, rfl⟩, fun _ => rfl⟩ ?_ ?_
          rotate_left 1
          · simp only [List.setIfInBounds_toArray, List.set_cons_succ, List.set_cons_zero]; rfl
          refine wpAnyIn_takeL (i := 8) (d := 21) (v := undef) (T' := ?_) (listed' := #[true, true, true, true, true, true, true, true, true, false, false]) rfl rfl rfl (by kernel_rfl) (fun _ _ _ h => h) rfl ⟨Or.inr ⟨by rfl, rfl⟩, fun _ => rfl⟩ ?_ ?_
          rotate_left 1
          · simp only [List.setIfInBounds_toArray, List.set_cons_succ, List.set_cons_zero]; rfl
          refine wpAnyIn_takeL (i := 9) (d := 22) (v := undef) (T' := ?_) (listed' := #[true, true, true, true, true, true, true, true, true, true, false]) rfl rfl rfl (by kernel_rfl) (fun _ _ _ h => h) rfl ⟨Or.inr ⟨by rfl, rfl⟩, fun _ => rfl⟩ ?_ ?_
          rotate_left 1
          · simp only [List.setIfInBounds_toArray, List.set_cons_succ, List.set_cons_zero]; rfl
          refine wpAnyIn_takeL (i := 10) (d := 23) (v := ?_) (T' := ?_) (listed' := #[true, true, true, true, true, true, true, true, true, true, true]) rfl rfl rfl (by kernel_rfl) (fun _ _ _ h => h) rfl ⟨Or.inl ⟨by rfl, ?_⟩, fun _ => rfl⟩ ?_ ?_
          rotate_left 2
          · intro w; go_simp; rfl
          · simp only [List.setIfInBounds_toArray, List.set_cons_succ, List.set_cons_zero]; rfl
          refine wpAnyIn_done (by kernel_rfl) ?_ _
          gi_wp2
          go_roundw
          case rel => exact ⟨k + 1, by omega, by omega, by go_num, by rw [findL_snoc hk1, if_neg HQ.out]; exact HJ2.out, Lib.hid (hKt (hKt HNX.out (hKd _)) (hKd _))⟩
          case measure => simp [intOf]; omega
    · obtain rfl : k = t := by omega
      gi_wp2
      go_end0
      exact ⟨⟨_, rfl⟩, .inl hJs⟩
end Go.Proofs.Ytpfeaeklenopdaa
