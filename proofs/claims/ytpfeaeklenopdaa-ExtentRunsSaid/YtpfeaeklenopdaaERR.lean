/-
  ratoonref07.Runs: the walk.
-/
import Derived.Test.YtpfeaeklenopdaaERuns
namespace Go.Proofs.Ytpfeaeklenopdaa
open Go.RowKit

set_option maxRecDepth 100000 in
set_option maxHeartbeats 8000000 in
theorem rruns_any (zv : Value) (zs : List Int) (w : World) (hz : RdL w zv (ivs zs)) (hzl : zs.length ≤ 5000) :
    Calls Try.prog 30 #[zv] w (RunsP 50 w (runsS zs)) := by
  obtain ⟨az, cz, rfl⟩ := hz.len
  rw [ivs_len] at hz ⊢
  have HZ := Lib.hid hz
  have hzI : (zs.length : Int) ≤ 5000 := by omega
  clear hz
  by_cases hbig : 4096 < zs.length
  · have hb : (4096 : Int) < (zs.length : Int) := by omega
    unfold runsS
    rw [if_pos hbig]
    clear hbig
    go_enter Try.func30, Try.ntmps30
    go_wp2
    go_ret2
    exact ⟨rfl, gb_refl _ _⟩
  · have hb : ¬ (4096 : Int) < (zs.length : Int) := by omega
    have hoo : runsS zs = runsGo [] 0 zs := by unfold runsS; rw [if_neg hbig]
    generalize runsS zs = oo at *
    have HOO := Lib.hid hoo
    clear hbig hoo
    go_enter Try.func30, Try.ntmps30
    go_wp2
    go_loopw [4, 5] (fun rv u wr => ∃ (i : Nat) (rs : List ST) (least : Int), i ≤ zs.length ∧ u = .int .i64 (i : Int) ∧ 0 ≤ least ∧ least ≤ 1073741825 ∧ Hid (i = 0 → rs = [] ∧ least = 0) ∧ Hid (∀ k, i = k + 1 → ∃ rs' f n, rs = rs' ++ [(f, n)] ∧ f + n = least ∧ 0 ≤ f ∧ 0 ≤ n ∧ n ≤ (i : Int) ∧ zs[k]? = some (least - 1)) ∧ Hid (rs.length ≤ i) ∧ Hid (oo = runsGo rs least (zs.drop i)) ∧ Hid (OwnR 50 wr w.heap.size rv rs) ∧ Hid (w.grownBy wr none)) (fun _ u _ => zs.length - (intOf u).toNat)
    case atStart => exact ⟨0, [], 0, Nat.zero_le _, rfl, by omega, by omega, Lib.hid (fun _ => ⟨rfl, rfl⟩), Lib.hid (fun k h => absurd h (by omega)), Lib.hid (Nat.le_refl _), HOO, Lib.hid (OwnR.nil _ _ _), Lib.hid (gb_refl _ _)⟩
    case round =>
      obtain ⟨i, rs, least, hi, rfl, hl0, hl1, H0, HK, HLE, HF, HO, HG⟩ := hrel
      by_cases hlt : i < zs.length
      · obtain ⟨z, hzz⟩ : ∃ z, zs[i]? = some z := ⟨zs[i], by simp [hlt]⟩
        have HGD := Lib.hid (gb_same HG.out (gb_drew wr none))
        have HGD2 := Lib.hid (gb_same HGD.out (gb_drew _ none))
        have HOD := Lib.hid ((HO.out.grown (gb_drew wr none)).grown (gb_drew _ none))
        have hiI : (i : Int) < (zs.length : Int) := by omega
        have hF := HF.out
        rw [dropZ hzz, runsGo] at hF
        obtain ⟨ar, nr, cr, hrv⟩ : ∃ a n c, u4 = .slice a n c := by obtain ⟨a, c, e⟩ := HO.out.rd.len; exact ⟨_, _, _, e⟩
        by_cases hA : z < 0
        · rw [if_pos (.inl (by omega))] at hF
          subst hF
          obtain ⟨zg, off, rfl, hcell⟩ := (HZ.out.grown HGD.out).at (j := i) (x := .int .i64 z) (by simp [ivs, hzz])
          clear hzz HF HOO
          subst hrv
          go_wp2
          refine region_KL (fuel := 28) (listed := #[false, false, false, false, false, false, false, false, false, false, false, false, false, false, false, false, false, false, false, false, false, false, false, false, false, false, false, false]) (fun X => X = wr.drew) 27 (by kernel_rfl) rfl (by kernel_rfl) ?_
          refine wpAnyK_takeL (i := 0) (d := 16) (v := ?_) (T' := ?_) (listed' := #[true, false, false, false, false, false, false, false, false, false, false, false, false, false, false, false, false, false, false, false, false, false, false, false, false, false, false, false]) rfl rfl (by kernel_rfl) (fun _ _ _ h => h) rfl (Or.inl ⟨by rfl, ?_⟩) ?_ rfl ?_
          rotate_left 2
          · intro w hS; clear hS; go_simp; rfl
          · simp only [List.setIfInBounds_toArray, List.set_cons_succ, List.set_cons_zero]; rfl
          refine wpAnyK_takeL (i := 1) (d := 17) (v := ?_) (T' := ?_) (listed' := #[true, true, false, false, false, false, false, false, false, false, false, false, false, false, false, false, false, false, false, false, false, false, false, false, false, false, false, false]) rfl rfl (by kernel_rfl) (fun _ _ _ h => h) rfl (Or.inl ⟨by rfl, ?_⟩) ?_ rfl ?_
          rotate_left 2
          · intro w hS; clear hS; go_simp; rfl
          · simp only [List.setIfInBounds_toArray, List.set_cons_succ, List.set_cons_zero]; rfl
          refine wpAnyK_takeL (i := 2) (d := 18) (v := ?_) (T' := ?_) (listed' := #[true, true, true, false, false, false, false, false, false, false, false, false, false, false, false, false, false, false, false, false, false, false, false, false, false, false, false, false]) rfl rfl (by kernel_rfl) (fun _ _ _ h => h) rfl (Or.inl ⟨by rfl, ?_⟩) ?_ rfl ?_
          rotate_left 2
          · intro w hS; clear hS; go_simp; rfl
          · simp only [List.setIfInBounds_toArray, List.set_cons_succ, List.set_cons_zero]; rfl
          refine wpAnyK_takeL (i := 3) (d := 19) (v := ?_) (T' := ?_) (listed' := #[true, true, true, true, false, false, false, false, false, false, false, false, false, false, false, false, false, false, false, false, false, false, false, false, false, false, false, false]) rfl rfl (by kernel_rfl) (fun _ _ _ h => h) rfl (Or.inl ⟨by rfl, ?_⟩) ?_ rfl ?_
          rotate_left 2
          · intro w hS; subst hS; go_simp; rfl
          · simp only [List.setIfInBounds_toArray, List.set_cons_succ, List.set_cons_zero]; rfl
          refine wpAnyK_takeL (i := 4) (d := 20) (v := ?_) (T' := ?_) (listed' := #[true, true, true, true, true, false, false, false, false, false, false, false, false, false, false, false, false, false, false, false, false, false, false, false, false, false, false, false]) rfl rfl (by kernel_rfl) (fun _ _ _ h => h) rfl (Or.inl ⟨by rfl, ?_⟩) ?_ rfl ?_
          rotate_left 2
          · intro w hS; clear hS; go_simp; rfl
          · simp only [List.setIfInBounds_toArray, List.set_cons_succ, List.set_cons_zero]; rfl
          refine wpAnyK_takeL (i := 5) (d := 21) (v := ?_) (T' := ?_) (listed' := #[true, true, true, true, true, true, false, false, false, false, false, false, false, false, false, false, false, false, false, false, false, false, false, false, false, false, false, false]) rfl rfl (by kernel_rfl) (fun _ _ _ h => h) rfl (Or.inl ⟨by rfl, ?_⟩) ?_ rfl ?_
          rotate_left 2
          · intro w hS; clear hS; go_simp; rfl
          · simp only [List.setIfInBounds_toArray, List.set_cons_succ, List.set_cons_zero]; rfl
          refine wpAnyK_takeL (i := 6) (d := 22) (v := undef) (T' := ?_) (listed' := #[true, true, true, true, true, true, true, false, false, false, false, false, false, false, false, false, false, false, false, false, false, false, false, false, false, false, false, false]) rfl rfl (by kernel_rfl) (fun _ _ _ h => h) rfl (Or.inr ⟨by rfl, rfl⟩) ?_ rfl ?_
          rotate_left 1
          · simp only [List.setIfInBounds_toArray, List.set_cons_succ, List.set_cons_zero]; rfl
          refine wpAnyK_takeL (i := 7) (d := 23) (v := undef) (T' := ?_) (listed' := #[true, true, true, true, true, true, true, true, false, false, false, false, false, false, false, false, false, false, false, false, false, false, false, false, false, false, false, false]) rfl rfl (by kernel_rfl) (fun _ _ _ h => h) rfl (Or.inr ⟨by rfl, rfl⟩) ?_ rfl ?_
          rotate_left 1
          · simp only [List.setIfInBounds_toArray, List.set_cons_succ, List.set_cons_zero]; rfl
          refine wpAnyK_takeL (i := 8) (d := 24) (v := undef) (T' := ?_) (listed' := #[true, true, true, true, true, true, true, true, true, false, false, false, false, false, false, false, false, false, false, false, false, false, false, false, false, false, false, false]) rfl rfl (by kernel_rfl) (fun _ _ _ h => h) rfl (Or.inr ⟨by rfl, rfl⟩) ?_ rfl ?_
          rotate_left 1
          · simp only [List.setIfInBounds_toArray, List.set_cons_succ, List.set_cons_zero]; rfl
          refine wpAnyK_takeL (i := 9) (d := 25) (v := undef) (T' := ?_) (listed' := #[true, true, true, true, true, true, true, true, true, true, false, false, false, false, false, false, false, false, false, false, false, false, false, false, false, false, false, false]) rfl rfl (by kernel_rfl) (fun _ _ _ h => h) rfl (Or.inr ⟨by rfl, rfl⟩) ?_ rfl ?_
          rotate_left 1
          · simp only [List.setIfInBounds_toArray, List.set_cons_succ, List.set_cons_zero]; rfl
          refine wpAnyK_takeL (i := 10) (d := 26) (v := undef) (T' := ?_) (listed' := #[true, true, true, true, true, true, true, true, true, true, true, false, false, false, false, false, false, false, false, false, false, false, false, false, false, false, false, false]) rfl rfl (by kernel_rfl) (fun _ _ _ h => h) rfl (Or.inr ⟨by rfl, rfl⟩) ?_ rfl ?_
          rotate_left 1
          · simp only [List.setIfInBounds_toArray, List.set_cons_succ, List.set_cons_zero]; rfl
          refine wpAnyK_takeL (i := 11) (d := 27) (v := ?_) (T' := ?_) (listed' := #[true, true, true, true, true, true, true, true, true, true, true, true, false, false, false, false, false, false, false, false, false, false, false, false, false, false, false, false]) rfl rfl (by kernel_rfl) (fun _ _ _ h => h) rfl (Or.inl ⟨by rfl, ?_⟩) ?_ rfl ?_
          rotate_left 2
          · intro w hS; clear hS; go_simp; rfl
          · simp only [List.setIfInBounds_toArray, List.set_cons_succ, List.set_cons_zero]; rfl
          refine wpAnyK_takeL (i := 12) (d := 28) (v := ?_) (T' := ?_) (listed' := #[true, true, true, true, true, true, true, true, true, true, true, true, true, false, false, false, false, false, false, false, false, false, false, false, false, false, false, false]) rfl rfl (by kernel_rfl) (fun _ _ _ h => h) rfl (Or.inl ⟨by rfl, ?_⟩) ?_ rfl ?_
          rotate_left 2
          · intro w hS; clear hS; go_simp; rfl
          · simp only [List.setIfInBounds_toArray, List.set_cons_succ, List.set_cons_zero]; rfl
          refine wpAnyK_takeL (i := 13) (d := 29) (v := undef) (T' := ?_) (listed' := #[true, true, true, true, true, true, true, true, true, true, true, true, true, true, false, false, false, false, false, false, false, false, false, false, false, false, false, false]) rfl rfl (by kernel_rfl) (fun _ _ _ h => h) rfl (Or.inr ⟨by rfl, rfl⟩) ?_ rfl ?_
          rotate_left 1
          · simp only [List.setIfInBounds_toArray, List.set_cons_succ, List.set_cons_zero]; rfl
          refine wpAnyK_takeL (i := 14) (d := 30) (v := undef) (T' := ?_) (listed' := #[true, true, true, true, true, true, true, true, true, true, true, true, true, true, true, false, false, false, false, false, false, false, false, false, false, false, false, false]) rfl rfl (by kernel_rfl) (fun _ _ _ h => h) rfl (Or.inr ⟨by rfl, rfl⟩) ?_ rfl ?_
          rotate_left 1
          · simp only [List.setIfInBounds_toArray, List.set_cons_succ, List.set_cons_zero]; rfl
          refine wpAnyK_takeL (i := 15) (d := 31) (v := undef) (T' := ?_) (listed' := #[true, true, true, true, true, true, true, true, true, true, true, true, true, true, true, true, false, false, false, false, false, false, false, false, false, false, false, false]) rfl rfl (by kernel_rfl) (fun _ _ _ h => h) rfl (Or.inr ⟨by rfl, rfl⟩) ?_ rfl ?_
          rotate_left 1
          · simp only [List.setIfInBounds_toArray, List.set_cons_succ, List.set_cons_zero]; rfl
          refine wpAnyK_takeL (i := 16) (d := 32) (v := undef) (T' := ?_) (listed' := #[true, true, true, true, true, true, true, true, true, true, true, true, true, true, true, true, true, false, false, false, false, false, false, false, false, false, false, false]) rfl rfl (by kernel_rfl) (fun _ _ _ h => h) rfl (Or.inr ⟨by rfl, rfl⟩) ?_ rfl ?_
          rotate_left 1
          · simp only [List.setIfInBounds_toArray, List.set_cons_succ, List.set_cons_zero]; rfl
          refine wpAnyK_takeL (i := 17) (d := 33) (v := undef) (T' := ?_) (listed' := #[true, true, true, true, true, true, true, true, true, true, true, true, true, true, true, true, true, true, false, false, false, false, false, false, false, false, false, false]) rfl rfl (by kernel_rfl) (fun _ _ _ h => h) rfl (Or.inr ⟨by rfl, rfl⟩) ?_ rfl ?_
          rotate_left 1
          · simp only [List.setIfInBounds_toArray, List.set_cons_succ, List.set_cons_zero]; rfl
          refine wpAnyK_takeL (i := 18) (d := 34) (v := undef) (T' := ?_) (listed' := #[true, true, true, true, true, true, true, true, true, true, true, true, true, true, true, true, true, true, true, false, false, false, false, false, false, false, false, false]) rfl rfl (by kernel_rfl) (fun _ _ _ h => h) rfl (Or.inr ⟨by rfl, rfl⟩) ?_ rfl ?_
          rotate_left 1
          · simp only [List.setIfInBounds_toArray, List.set_cons_succ, List.set_cons_zero]; rfl
          refine wpAnyK_takeL (i := 19) (d := 35) (v := undef) (T' := ?_) (listed' := #[true, true, true, true, true, true, true, true, true, true, true, true, true, true, true, true, true, true, true, true, false, false, false, false, false, false, false, false]) rfl rfl (by kernel_rfl) (fun _ _ _ h => h) rfl (Or.inr ⟨by rfl, rfl⟩) ?_ rfl ?_
          rotate_left 1
          · simp only [List.setIfInBounds_toArray, List.set_cons_succ, List.set_cons_zero]; rfl
          refine wpAnyK_takeL (i := 20) (d := 36) (v := undef) (T' := ?_) (listed' := #[true, true, true, true, true, true, true, true, true, true, true, true, true, true, true, true, true, true, true, true, true, false, false, false, false, false, false, false]) rfl rfl (by kernel_rfl) (fun _ _ _ h => h) rfl (Or.inr ⟨by rfl, rfl⟩) ?_ rfl ?_
          rotate_left 1
          · simp only [List.setIfInBounds_toArray, List.set_cons_succ, List.set_cons_zero]; rfl
          refine wpAnyK_takeL (i := 21) (d := 37) (v := undef) (T' := ?_) (listed' := #[true, true, true, true, true, true, true, true, true, true, true, true, true, true, true, true, true, true, true, true, true, true, false, false, false, false, false, false]) rfl rfl (by kernel_rfl) (fun _ _ _ h => h) rfl (Or.inr ⟨by rfl, rfl⟩) ?_ rfl ?_
          rotate_left 1
          · simp only [List.setIfInBounds_toArray, List.set_cons_succ, List.set_cons_zero]; rfl
          refine wpAnyK_takeL (i := 22) (d := 38) (v := undef) (T' := ?_) (listed' := #[true, true, true, true, true, true, true, true, true, true, true, true, true, true, true, true, true, true, true, true, true, true, true, false, false, false, false, false]) rfl rfl (by kernel_rfl) (fun _ _ _ h => h) rfl (Or.inr ⟨by rfl, rfl⟩) ?_ rfl ?_
          rotate_left 1
          · simp only [List.setIfInBounds_toArray, List.set_cons_succ, List.set_cons_zero]; rfl
          refine wpAnyK_takeL (i := 23) (d := 39) (v := undef) (T' := ?_) (listed' := #[true, true, true, true, true, true, true, true, true, true, true, true, true, true, true, true, true, true, true, true, true, true, true, true, false, false, false, false]) rfl rfl (by kernel_rfl) (fun _ _ _ h => h) rfl (Or.inr ⟨by rfl, rfl⟩) ?_ rfl ?_
          rotate_left 1
          · simp only [List.setIfInBounds_toArray, List.set_cons_succ, List.set_cons_zero]; rfl
          refine wpAnyK_takeL (i := 24) (d := 40) (v := undef) (T' := ?_) (listed' := #[true, true, true, true, true, true, true, true, true, true, true, true, true, true, true, true, true, true, true, true, true, true, true, true, true, false, false, false]) rfl rfl (by kernel_rfl) (fun _ _ _ h => h) rfl (Or.inr ⟨by rfl, rfl⟩) ?_ rfl ?_
          rotate_left 1
          · simp only [List.setIfInBounds_toArray, List.set_cons_succ, List.set_cons_zero]; rfl
          refine wpAnyK_takeL (i := 25) (d := 41) (v := undef) (T' := ?_) (listed' := #[true, true, true, true, true, true, true, true, true, true, true, true, true, true, true, true, true, true, true, true, true, true, true, true, true, true, false, false]) rfl rfl (by kernel_rfl) (fun _ _ _ h => h) rfl (Or.inr ⟨by rfl, rfl⟩) ?_ rfl ?_
          rotate_left 1
          · simp only [List.setIfInBounds_toArray, List.set_cons_succ, List.set_cons_zero]; rfl
          refine wpAnyK_takeL (i := 26) (d := 42) (v := undef) (T' := ?_) (listed' := #[true, true, true, true, true, true, true, true, true, true, true, true, true, true, true, true, true, true, true, true, true, true, true, true, true, true, true, false]) rfl rfl (by kernel_rfl) (fun _ _ _ h => h) rfl (Or.inr ⟨by rfl, rfl⟩) ?_ rfl ?_
          rotate_left 1
          · simp only [List.setIfInBounds_toArray, List.set_cons_succ, List.set_cons_zero]; rfl
          refine wpAnyK_oneL (i := 27) (listed' := #[true, true, true, true, true, true, true, true, true, true, true, true, true, true, true, true, true, true, true, true, true, true, true, true, true, true, true, true]) (by kernel_rfl) rfl (by rfl) rfl ?_
          intro K hK
          go_simp
          refine hK _ _ (fun h => Bool.noConfusion (show true = false from h)) ?_
          clear hK K
          refine wpAnyK_done (by kernel_rfl) ?_ _
          go_wp2
          go_ret2
          exact ⟨rfl, HGD.out⟩
        have HZ0 : Hid (decide (z < 0) = false) := Lib.hid (by simpa using hA)
        by_cases hB : 1073741824 < z
        · rw [if_pos (.inr hB)] at hF
          subst hF
          obtain ⟨zg, off, rfl, hcell⟩ := (HZ.out.grown HGD.out).at (j := i) (x := .int .i64 z) (by simp [ivs, hzz])
          clear hzz HF HOO
          subst hrv
          go_wp2
          refine region_KL (fuel := 28) (listed := #[false, false, false, false, false, false, false, false, false, false, false, false, false, false, false, false, false, false, false, false, false, false, false, false, false, false, false, false]) (fun X => X = wr.drew) 27 (by kernel_rfl) rfl (by kernel_rfl) ?_
          refine wpAnyK_takeL (i := 0) (d := 16) (v := ?_) (T' := ?_) (listed' := #[true, false, false, false, false, false, false, false, false, false, false, false, false, false, false, false, false, false, false, false, false, false, false, false, false, false, false, false]) rfl rfl (by kernel_rfl) (fun _ _ _ h => h) rfl (Or.inl ⟨by rfl, ?_⟩) ?_ rfl ?_
          rotate_left 2
          · intro w hS; clear hS; go_simp; rfl
          · simp only [List.setIfInBounds_toArray, List.set_cons_succ, List.set_cons_zero]; rfl
          refine wpAnyK_takeL (i := 1) (d := 17) (v := ?_) (T' := ?_) (listed' := #[true, true, false, false, false, false, false, false, false, false, false, false, false, false, false, false, false, false, false, false, false, false, false, false, false, false, false, false]) rfl rfl (by kernel_rfl) (fun _ _ _ h => h) rfl (Or.inl ⟨by rfl, ?_⟩) ?_ rfl ?_
          rotate_left 2
          · intro w hS; clear hS; go_simp; rfl
          · simp only [List.setIfInBounds_toArray, List.set_cons_succ, List.set_cons_zero]; rfl
          refine wpAnyK_takeL (i := 2) (d := 18) (v := ?_) (T' := ?_) (listed' := #[true, true, true, false, false, false, false, false, false, false, false, false, false, false, false, false, false, false, false, false, false, false, false, false, false, false, false, false]) rfl rfl (by kernel_rfl) (fun _ _ _ h => h) rfl (Or.inl ⟨by rfl, ?_⟩) ?_ rfl ?_
          rotate_left 2
          · intro w hS; clear hS; go_simp; rfl
          · simp only [List.setIfInBounds_toArray, List.set_cons_succ, List.set_cons_zero]; rfl
          refine wpAnyK_takeL (i := 3) (d := 19) (v := ?_) (T' := ?_) (listed' := #[true, true, true, true, false, false, false, false, false, false, false, false, false, false, false, false, false, false, false, false, false, false, false, false, false, false, false, false]) rfl rfl (by kernel_rfl) (fun _ _ _ h => h) rfl (Or.inl ⟨by rfl, ?_⟩) ?_ rfl ?_
          rotate_left 2
          · intro w hS; subst hS; go_simp; rfl
          · simp only [List.setIfInBounds_toArray, List.set_cons_succ, List.set_cons_zero]; rfl
          refine wpAnyK_takeL (i := 4) (d := 20) (v := ?_) (T' := ?_) (listed' := #[true, true, true, true, true, false, false, false, false, false, false, false, false, false, false, false, false, false, false, false, false, false, false, false, false, false, false, false]) rfl rfl (by kernel_rfl) (fun _ _ _ h => h) rfl (Or.inl ⟨by rfl, ?_⟩) ?_ rfl ?_
          rotate_left 2
          · intro w hS; clear hS; go_simp; rw [HZ0.out]
          · simp only [List.setIfInBounds_toArray, List.set_cons_succ, List.set_cons_zero]; rfl
          refine wpAnyK_takeL (i := 5) (d := 21) (v := ?_) (T' := ?_) (listed' := #[true, true, true, true, true, true, false, false, false, false, false, false, false, false, false, false, false, false, false, false, false, false, false, false, false, false, false, false]) rfl rfl (by kernel_rfl) (fun _ _ _ h => h) rfl (Or.inl ⟨by rfl, ?_⟩) ?_ rfl ?_
          rotate_left 2
          · intro w hS; clear hS; go_simp; rfl
          · simp only [List.setIfInBounds_toArray, List.set_cons_succ, List.set_cons_zero]; rfl
          refine wpAnyK_takeL (i := 6) (d := 22) (v := ?_) (T' := ?_) (listed' := #[true, true, true, true, true, true, true, false, false, false, false, false, false, false, false, false, false, false, false, false, false, false, false, false, false, false, false, false]) rfl rfl (by kernel_rfl) (fun _ _ _ h => h) rfl (Or.inl ⟨by rfl, ?_⟩) ?_ rfl ?_
          rotate_left 2
          · intro w hS; clear hS; go_simp; rfl
          · simp only [List.setIfInBounds_toArray, List.set_cons_succ, List.set_cons_zero]; rfl
          refine wpAnyK_takeL (i := 7) (d := 23) (v := ?_) (T' := ?_) (listed' := #[true, true, true, true, true, true, true, true, false, false, false, false, false, false, false, false, false, false, false, false, false, false, false, false, false, false, false, false]) rfl rfl (by kernel_rfl) (fun _ _ _ h => h) rfl (Or.inl ⟨by rfl, ?_⟩) ?_ rfl ?_
          rotate_left 2
          · intro w hS; clear hS; go_simp; rfl
          · simp only [List.setIfInBounds_toArray, List.set_cons_succ, List.set_cons_zero]; rfl
          refine wpAnyK_takeL (i := 8) (d := 24) (v := ?_) (T' := ?_) (listed' := #[true, true, true, true, true, true, true, true, true, false, false, false, false, false, false, false, false, false, false, false, false, false, false, false, false, false, false, false]) rfl rfl (by kernel_rfl) (fun _ _ _ h => h) rfl (Or.inl ⟨by rfl, ?_⟩) ?_ rfl ?_
          rotate_left 2
          · intro w hS; clear hS; go_simp; rfl
          · simp only [List.setIfInBounds_toArray, List.set_cons_succ, List.set_cons_zero]; rfl
          refine wpAnyK_takeL (i := 9) (d := 25) (v := ?_) (T' := ?_) (listed' := #[true, true, true, true, true, true, true, true, true, true, false, false, false, false, false, false, false, false, false, false, false, false, false, false, false, false, false, false]) rfl rfl (by kernel_rfl) (fun _ _ _ h => h) rfl (Or.inl ⟨by rfl, ?_⟩) ?_ rfl ?_
          rotate_left 2
          · intro w hS; subst hS; go_simp; rfl
          · simp only [List.setIfInBounds_toArray, List.set_cons_succ, List.set_cons_zero]; rfl
          refine wpAnyK_takeL (i := 10) (d := 26) (v := ?_) (T' := ?_) (listed' := #[true, true, true, true, true, true, true, true, true, true, true, false, false, false, false, false, false, false, false, false, false, false, false, false, false, false, false, false]) rfl rfl (by kernel_rfl) (fun _ _ _ h => h) rfl (Or.inl ⟨by rfl, ?_⟩) ?_ rfl ?_
          rotate_left 2
          · intro w hS; clear hS; go_simp; rfl
          · simp only [List.setIfInBounds_toArray, List.set_cons_succ, List.set_cons_zero]; rfl
          refine wpAnyK_takeL (i := 11) (d := 27) (v := ?_) (T' := ?_) (listed' := #[true, true, true, true, true, true, true, true, true, true, true, true, false, false, false, false, false, false, false, false, false, false, false, false, false, false, false, false]) rfl rfl (by kernel_rfl) (fun _ _ _ h => h) rfl (Or.inl ⟨by rfl, ?_⟩) ?_ rfl ?_
          rotate_left 2
          · intro w hS; clear hS; go_simp; rfl
          · simp only [List.setIfInBounds_toArray, List.set_cons_succ, List.set_cons_zero]; rfl
          refine wpAnyK_takeL (i := 12) (d := 28) (v := ?_) (T' := ?_) (listed' := #[true, true, true, true, true, true, true, true, true, true, true, true, true, false, false, false, false, false, false, false, false, false, false, false, false, false, false, false]) rfl rfl (by kernel_rfl) (fun _ _ _ h => h) rfl (Or.inl ⟨by rfl, ?_⟩) ?_ rfl ?_
          rotate_left 2
          · intro w hS; clear hS; go_simp; rfl
          · simp only [List.setIfInBounds_toArray, List.set_cons_succ, List.set_cons_zero]; rfl
          refine wpAnyK_takeL (i := 13) (d := 29) (v := undef) (T' := ?_) (listed' := #[true, true, true, true, true, true, true, true, true, true, true, true, true, true, false, false, false, false, false, false, false, false, false, false, false, false, false, false]) rfl rfl (by kernel_rfl) (fun _ _ _ h => h) rfl (Or.inr ⟨by rfl, rfl⟩) ?_ rfl ?_
          rotate_left 1
          · simp only [List.setIfInBounds_toArray, List.set_cons_succ, List.set_cons_zero]; rfl
          refine wpAnyK_takeL (i := 14) (d := 30) (v := undef) (T' := ?_) (listed' := #[true, true, true, true, true, true, true, true, true, true, true, true, true, true, true, false, false, false, false, false, false, false, false, false, false, false, false, false]) rfl rfl (by kernel_rfl) (fun _ _ _ h => h) rfl (Or.inr ⟨by rfl, rfl⟩) ?_ rfl ?_
          rotate_left 1
          · simp only [List.setIfInBounds_toArray, List.set_cons_succ, List.set_cons_zero]; rfl
          refine wpAnyK_takeL (i := 15) (d := 31) (v := undef) (T' := ?_) (listed' := #[true, true, true, true, true, true, true, true, true, true, true, true, true, true, true, true, false, false, false, false, false, false, false, false, false, false, false, false]) rfl rfl (by kernel_rfl) (fun _ _ _ h => h) rfl (Or.inr ⟨by rfl, rfl⟩) ?_ rfl ?_
          rotate_left 1
          · simp only [List.setIfInBounds_toArray, List.set_cons_succ, List.set_cons_zero]; rfl
          refine wpAnyK_takeL (i := 16) (d := 32) (v := undef) (T' := ?_) (listed' := #[true, true, true, true, true, true, true, true, true, true, true, true, true, true, true, true, true, false, false, false, false, false, false, false, false, false, false, false]) rfl rfl (by kernel_rfl) (fun _ _ _ h => h) rfl (Or.inr ⟨by rfl, rfl⟩) ?_ rfl ?_
          rotate_left 1
          · simp only [List.setIfInBounds_toArray, List.set_cons_succ, List.set_cons_zero]; rfl
          refine wpAnyK_takeL (i := 17) (d := 33) (v := undef) (T' := ?_) (listed' := #[true, true, true, true, true, true, true, true, true, true, true, true, true, true, true, true, true, true, false, false, false, false, false, false, false, false, false, false]) rfl rfl (by kernel_rfl) (fun _ _ _ h => h) rfl (Or.inr ⟨by rfl, rfl⟩) ?_ rfl ?_
          rotate_left 1
          · simp only [List.setIfInBounds_toArray, List.set_cons_succ, List.set_cons_zero]; rfl
          refine wpAnyK_takeL (i := 18) (d := 34) (v := undef) (T' := ?_) (listed' := #[true, true, true, true, true, true, true, true, true, true, true, true, true, true, true, true, true, true, true, false, false, false, false, false, false, false, false, false]) rfl rfl (by kernel_rfl) (fun _ _ _ h => h) rfl (Or.inr ⟨by rfl, rfl⟩) ?_ rfl ?_
          rotate_left 1
          · simp only [List.setIfInBounds_toArray, List.set_cons_succ, List.set_cons_zero]; rfl
          refine wpAnyK_takeL (i := 19) (d := 35) (v := undef) (T' := ?_) (listed' := #[true, true, true, true, true, true, true, true, true, true, true, true, true, true, true, true, true, true, true, true, false, false, false, false, false, false, false, false]) rfl rfl (by kernel_rfl) (fun _ _ _ h => h) rfl (Or.inr ⟨by rfl, rfl⟩) ?_ rfl ?_
          rotate_left 1
          · simp only [List.setIfInBounds_toArray, List.set_cons_succ, List.set_cons_zero]; rfl
          refine wpAnyK_takeL (i := 20) (d := 36) (v := undef) (T' := ?_) (listed' := #[true, true, true, true, true, true, true, true, true, true, true, true, true, true, true, true, true, true, true, true, true, false, false, false, false, false, false, false]) rfl rfl (by kernel_rfl) (fun _ _ _ h => h) rfl (Or.inr ⟨by rfl, rfl⟩) ?_ rfl ?_
          rotate_left 1
          · simp only [List.setIfInBounds_toArray, List.set_cons_succ, List.set_cons_zero]; rfl
          refine wpAnyK_takeL (i := 21) (d := 37) (v := undef) (T' := ?_) (listed' := #[true, true, true, true, true, true, true, true, true, true, true, true, true, true, true, true, true, true, true, true, true, true, false, false, false, false, false, false]) rfl rfl (by kernel_rfl) (fun _ _ _ h => h) rfl (Or.inr ⟨by rfl, rfl⟩) ?_ rfl ?_
          rotate_left 1
          · simp only [List.setIfInBounds_toArray, List.set_cons_succ, List.set_cons_zero]; rfl
          refine wpAnyK_takeL (i := 22) (d := 38) (v := undef) (T' := ?_) (listed' := #[true, true, true, true, true, true, true, true, true, true, true, true, true, true, true, true, true, true, true, true, true, true, true, false, false, false, false, false]) rfl rfl (by kernel_rfl) (fun _ _ _ h => h) rfl (Or.inr ⟨by rfl, rfl⟩) ?_ rfl ?_
          rotate_left 1
          · simp only [List.setIfInBounds_toArray, List.set_cons_succ, List.set_cons_zero]; rfl
          refine wpAnyK_takeL (i := 23) (d := 39) (v := undef) (T' := ?_) (listed' := #[true, true, true, true, true, true, true, true, true, true, true, true, true, true, true, true, true, true, true, true, true, true, true, true, false, false, false, false]) rfl rfl (by kernel_rfl) (fun _ _ _ h => h) rfl (Or.inr ⟨by rfl, rfl⟩) ?_ rfl ?_
          rotate_left 1
          · simp only [List.setIfInBounds_toArray, List.set_cons_succ, List.set_cons_zero]; rfl
          refine wpAnyK_takeL (i := 24) (d := 40) (v := undef) (T' := ?_) (listed' := #[true, true, true, true, true, true, true, true, true, true, true, true, true, true, true, true, true, true, true, true, true, true, true, true, true, false, false, false]) rfl rfl (by kernel_rfl) (fun _ _ _ h => h) rfl (Or.inr ⟨by rfl, rfl⟩) ?_ rfl ?_
          rotate_left 1
          · simp only [List.setIfInBounds_toArray, List.set_cons_succ, List.set_cons_zero]; rfl
          refine wpAnyK_takeL (i := 25) (d := 41) (v := undef) (T' := ?_) (listed' := #[true, true, true, true, true, true, true, true, true, true, true, true, true, true, true, true, true, true, true, true, true, true, true, true, true, true, false, false]) rfl rfl (by kernel_rfl) (fun _ _ _ h => h) rfl (Or.inr ⟨by rfl, rfl⟩) ?_ rfl ?_
          rotate_left 1
          · simp only [List.setIfInBounds_toArray, List.set_cons_succ, List.set_cons_zero]; rfl
          refine wpAnyK_takeL (i := 26) (d := 42) (v := undef) (T' := ?_) (listed' := #[true, true, true, true, true, true, true, true, true, true, true, true, true, true, true, true, true, true, true, true, true, true, true, true, true, true, true, false]) rfl rfl (by kernel_rfl) (fun _ _ _ h => h) rfl (Or.inr ⟨by rfl, rfl⟩) ?_ rfl ?_
          rotate_left 1
          · simp only [List.setIfInBounds_toArray, List.set_cons_succ, List.set_cons_zero]; rfl
          refine wpAnyK_oneL (i := 27) (listed' := #[true, true, true, true, true, true, true, true, true, true, true, true, true, true, true, true, true, true, true, true, true, true, true, true, true, true, true, true]) (by kernel_rfl) rfl (by rfl) rfl ?_
          intro K hK
          go_simp
          refine hK _ _ (fun h => Bool.noConfusion (show true = false from h)) ?_
          clear hK K
          refine wpAnyK_done (by kernel_rfl) ?_ _
          go_wp2
          go_ret2
          exact ⟨rfl, HGD.out⟩
        have HZ1 : Hid (decide (1073741824 < z) = false) := Lib.hid (by simpa using hB)
        clear hrv
        rcases i with _ | k
        · obtain ⟨rfl, rfl⟩ := H0.out rfl
          rw [if_neg (by omega), stepR_nil] at hF
          obtain ⟨ar, cr, hrv⟩ : ∃ a c, u4 = .slice a 0 c := by obtain ⟨a, c, e⟩ := HO.out.rd.len; exact ⟨a, c, e⟩
          subst hrv
          have HF2 := Lib.hid hF
          have HKN : Hid (∀ k, 0 + 1 = k + 1 → ∃ rs' f n, [(z, (1 : Int))] = rs' ++ [(f, n)] ∧ f + n = z + 1 ∧ 0 ≤ f ∧ 0 ≤ n ∧ n ≤ ((0 + 1 : Nat) : Int) ∧ zs[k]? = some (z + 1 - 1)) := Lib.hid (fun k hk => ⟨[], z, 1, rfl, rfl, by omega, by omega, by omega, by rw [show k = 0 by omega, hzz, show z + 1 - 1 = z by omega]⟩)
          obtain ⟨zg, off, rfl, hcell⟩ := (HZ.out.grown HGD.out).at (j := 0) (x := .int .i64 z) (by simp [ivs, hzz])
          have hcell2 : wr.drew.drew.cell? ⟨zg, off + 0, none⟩ = some (.int .i64 z) := hcell
          have hcell3 : wr.drew.drew.cell? ⟨zg, off, none⟩ = some (.int .i64 z) := hcell
          have hcell4 : wr.drew.cell? ⟨zg, off, none⟩ = some (.int .i64 z) := hcell
          clear hzz HF HOO hF H0 HK
          go_wp2
          refine region_KL (fuel := 28) (listed := #[false, false, false, false, false, false, false, false, false, false, false, false, false, false, false, false, false, false, false, false, false, false, false, false, false, false, false, false]) (fun X => X = wr.drew) 27 (by kernel_rfl) rfl (by kernel_rfl) ?_
          refine wpAnyK_takeL (i := 0) (d := 16) (v := ?_) (T' := ?_) (listed' := #[true, false, false, false, false, false, false, false, false, false, false, false, false, false, false, false, false, false, false, false, false, false, false, false, false, false, false, false]) rfl rfl (by kernel_rfl) (fun _ _ _ h => h) rfl (Or.inl ⟨by rfl, ?_⟩) ?_ rfl ?_
          rotate_left 2
          · intro w hS; clear hS; go_simp; rfl
          · simp only [List.setIfInBounds_toArray, List.set_cons_succ, List.set_cons_zero]; rfl
          refine wpAnyK_takeL (i := 1) (d := 17) (v := ?_) (T' := ?_) (listed' := #[true, true, false, false, false, false, false, false, false, false, false, false, false, false, false, false, false, false, false, false, false, false, false, false, false, false, false, false]) rfl rfl (by kernel_rfl) (fun _ _ _ h => h) rfl (Or.inl ⟨by rfl, ?_⟩) ?_ rfl ?_
          rotate_left 2
          · intro w hS; clear hS; go_simp; rfl
          · simp only [List.setIfInBounds_toArray, List.set_cons_succ, List.set_cons_zero]; rfl
          refine wpAnyK_takeL (i := 2) (d := 18) (v := ?_) (T' := ?_) (listed' := #[true, true, true, false, false, false, false, false, false, false, false, false, false, false, false, false, false, false, false, false, false, false, false, false, false, false, false, false]) rfl rfl (by kernel_rfl) (fun _ _ _ h => h) rfl (Or.inl ⟨by rfl, ?_⟩) ?_ rfl ?_
          rotate_left 2
          · intro w hS; clear hS; go_simp; rfl
          · simp only [List.setIfInBounds_toArray, List.set_cons_succ, List.set_cons_zero]; rfl
          refine wpAnyK_takeL (i := 3) (d := 19) (v := ?_) (T' := ?_) (listed' := #[true, true, true, true, false, false, false, false, false, false, false, false, false, false, false, false, false, false, false, false, false, false, false, false, false, false, false, false]) rfl rfl (by kernel_rfl) (fun _ _ _ h => h) rfl (Or.inl ⟨by rfl, ?_⟩) ?_ rfl ?_
          rotate_left 2
          · intro w hS; subst hS; go_simp; rfl
          · simp only [List.setIfInBounds_toArray, List.set_cons_succ, List.set_cons_zero]; rfl
          refine wpAnyK_takeL (i := 4) (d := 20) (v := ?_) (T' := ?_) (listed' := #[true, true, true, true, true, false, false, false, false, false, false, false, false, false, false, false, false, false, false, false, false, false, false, false, false, false, false, false]) rfl rfl (by kernel_rfl) (fun _ _ _ h => h) rfl (Or.inl ⟨by rfl, ?_⟩) ?_ rfl ?_
          rotate_left 2
          · intro w hS; clear hS; go_simp; rw [HZ0.out]
          · simp only [List.setIfInBounds_toArray, List.set_cons_succ, List.set_cons_zero]; rfl
          refine wpAnyK_takeL (i := 5) (d := 21) (v := ?_) (T' := ?_) (listed' := #[true, true, true, true, true, true, false, false, false, false, false, false, false, false, false, false, false, false, false, false, false, false, false, false, false, false, false, false]) rfl rfl (by kernel_rfl) (fun _ _ _ h => h) rfl (Or.inl ⟨by rfl, ?_⟩) ?_ rfl ?_
          rotate_left 2
          · intro w hS; clear hS; go_simp; rfl
          · simp only [List.setIfInBounds_toArray, List.set_cons_succ, List.set_cons_zero]; rfl
          refine wpAnyK_takeL (i := 6) (d := 22) (v := ?_) (T' := ?_) (listed' := #[true, true, true, true, true, true, true, false, false, false, false, false, false, false, false, false, false, false, false, false, false, false, false, false, false, false, false, false]) rfl rfl (by kernel_rfl) (fun _ _ _ h => h) rfl (Or.inl ⟨by rfl, ?_⟩) ?_ rfl ?_
          rotate_left 2
          · intro w hS; clear hS; go_simp; rfl
          · simp only [List.setIfInBounds_toArray, List.set_cons_succ, List.set_cons_zero]; rfl
          refine wpAnyK_takeL (i := 7) (d := 23) (v := ?_) (T' := ?_) (listed' := #[true, true, true, true, true, true, true, true, false, false, false, false, false, false, false, false, false, false, false, false, false, false, false, false, false, false, false, false]) rfl rfl (by kernel_rfl) (fun _ _ _ h => h) rfl (Or.inl ⟨by rfl, ?_⟩) ?_ rfl ?_
          rotate_left 2
          · intro w hS; clear hS; go_simp; rfl
          · simp only [List.setIfInBounds_toArray, List.set_cons_succ, List.set_cons_zero]; rfl
          refine wpAnyK_takeL (i := 8) (d := 24) (v := ?_) (T' := ?_) (listed' := #[true, true, true, true, true, true, true, true, true, false, false, false, false, false, false, false, false, false, false, false, false, false, false, false, false, false, false, false]) rfl rfl (by kernel_rfl) (fun _ _ _ h => h) rfl (Or.inl ⟨by rfl, ?_⟩) ?_ rfl ?_
          rotate_left 2
          · intro w hS; clear hS; go_simp; rfl
          · simp only [List.setIfInBounds_toArray, List.set_cons_succ, List.set_cons_zero]; rfl
          refine wpAnyK_takeL (i := 9) (d := 25) (v := ?_) (T' := ?_) (listed' := #[true, true, true, true, true, true, true, true, true, true, false, false, false, false, false, false, false, false, false, false, false, false, false, false, false, false, false, false]) rfl rfl (by kernel_rfl) (fun _ _ _ h => h) rfl (Or.inl ⟨by rfl, ?_⟩) ?_ rfl ?_
          rotate_left 2
          · intro w hS; subst hS; go_simp; rfl
          · simp only [List.setIfInBounds_toArray, List.set_cons_succ, List.set_cons_zero]; rfl
          refine wpAnyK_takeL (i := 10) (d := 26) (v := ?_) (T' := ?_) (listed' := #[true, true, true, true, true, true, true, true, true, true, true, false, false, false, false, false, false, false, false, false, false, false, false, false, false, false, false, false]) rfl rfl (by kernel_rfl) (fun _ _ _ h => h) rfl (Or.inl ⟨by rfl, ?_⟩) ?_ rfl ?_
          rotate_left 2
          · intro w hS; clear hS; go_simp; rw [HZ1.out]
          · simp only [List.setIfInBounds_toArray, List.set_cons_succ, List.set_cons_zero]; rfl
          refine wpAnyK_takeL (i := 11) (d := 27) (v := ?_) (T' := ?_) (listed' := #[true, true, true, true, true, true, true, true, true, true, true, true, false, false, false, false, false, false, false, false, false, false, false, false, false, false, false, false]) rfl rfl (by kernel_rfl) (fun _ _ _ h => h) rfl (Or.inl ⟨by rfl, ?_⟩) ?_ rfl ?_
          rotate_left 2
          · intro w hS; clear hS; go_simp; rfl
          · simp only [List.setIfInBounds_toArray, List.set_cons_succ, List.set_cons_zero]; rfl
          refine wpAnyK_takeL (i := 12) (d := 28) (v := ?_) (T' := ?_) (listed' := #[true, true, true, true, true, true, true, true, true, true, true, true, true, false, false, false, false, false, false, false, false, false, false, false, false, false, false, false]) rfl rfl (by kernel_rfl) (fun _ _ _ h => h) rfl (Or.inl ⟨by rfl, ?_⟩) ?_ rfl ?_
          rotate_left 2
          · intro w hS; clear hS; go_simp; rfl
          · simp only [List.setIfInBounds_toArray, List.set_cons_succ, List.set_cons_zero]; rfl
          refine wpAnyK_takeL (i := 13) (d := 29) (v := ?_) (T' := ?_) (listed' := #[true, true, true, true, true, true, true, true, true, true, true, true, true, true, false, false, false, false, false, false, false, false, false, false, false, false, false, false]) rfl rfl (by kernel_rfl) (fun _ _ _ h => h) rfl (Or.inl ⟨by rfl, ?_⟩) ?_ rfl ?_
          rotate_left 2
          · intro w hS; clear hS; go_simp; rfl
          · simp only [List.setIfInBounds_toArray, List.set_cons_succ, List.set_cons_zero]; rfl
          refine wpAnyK_takeL (i := 14) (d := 30) (v := ?_) (T' := ?_) (listed' := #[true, true, true, true, true, true, true, true, true, true, true, true, true, true, true, false, false, false, false, false, false, false, false, false, false, false, false, false]) rfl rfl (by kernel_rfl) (fun _ _ _ h => h) rfl (Or.inl ⟨by rfl, ?_⟩) ?_ rfl ?_
          rotate_left 2
          · intro w hS; clear hS; go_simp; rfl
          · simp only [List.setIfInBounds_toArray, List.set_cons_succ, List.set_cons_zero]; rfl
          refine wpAnyK_takeL (i := 15) (d := 31) (v := ?_) (T' := ?_) (listed' := #[true, true, true, true, true, true, true, true, true, true, true, true, true, true, true, true, false, false, false, false, false, false, false, false, false, false, false, false]) rfl rfl (by kernel_rfl) (fun _ _ _ h => h) rfl (Or.inl ⟨by rfl, ?_⟩) ?_ rfl ?_
          rotate_left 2
          · intro w hS; clear hS; go_simp; rfl
          · simp only [List.setIfInBounds_toArray, List.set_cons_succ, List.set_cons_zero]; rfl
          refine wpAnyK_takeL (i := 16) (d := 32) (v := undef) (T' := ?_) (listed' := #[true, true, true, true, true, true, true, true, true, true, true, true, true, true, true, true, true, false, false, false, false, false, false, false, false, false, false, false]) rfl rfl (by kernel_rfl) (fun _ _ _ h => h) rfl (Or.inr ⟨by rfl, rfl⟩) ?_ rfl ?_
          rotate_left 1
          · simp only [List.setIfInBounds_toArray, List.set_cons_succ, List.set_cons_zero]; rfl
          refine wpAnyK_takeL (i := 17) (d := 33) (v := undef) (T' := ?_) (listed' := #[true, true, true, true, true, true, true, true, true, true, true, true, true, true, true, true, true, true, false, false, false, false, false, false, false, false, false, false]) rfl rfl (by kernel_rfl) (fun _ _ _ h => h) rfl (Or.inr ⟨by rfl, rfl⟩) ?_ rfl ?_
          rotate_left 1
          · simp only [List.setIfInBounds_toArray, List.set_cons_succ, List.set_cons_zero]; rfl
          refine wpAnyK_takeL (i := 18) (d := 34) (v := undef) (T' := ?_) (listed' := #[true, true, true, true, true, true, true, true, true, true, true, true, true, true, true, true, true, true, true, false, false, false, false, false, false, false, false, false]) rfl rfl (by kernel_rfl) (fun _ _ _ h => h) rfl (Or.inr ⟨by rfl, rfl⟩) ?_ rfl ?_
          rotate_left 1
          · simp only [List.setIfInBounds_toArray, List.set_cons_succ, List.set_cons_zero]; rfl
          refine wpAnyK_takeL (i := 19) (d := 35) (v := undef) (T' := ?_) (listed' := #[true, true, true, true, true, true, true, true, true, true, true, true, true, true, true, true, true, true, true, true, false, false, false, false, false, false, false, false]) rfl rfl (by kernel_rfl) (fun _ _ _ h => h) rfl (Or.inr ⟨by rfl, rfl⟩) ?_ rfl ?_
          rotate_left 1
          · simp only [List.setIfInBounds_toArray, List.set_cons_succ, List.set_cons_zero]; rfl
          refine wpAnyK_takeL (i := 20) (d := 36) (v := undef) (T' := ?_) (listed' := #[true, true, true, true, true, true, true, true, true, true, true, true, true, true, true, true, true, true, true, true, true, false, false, false, false, false, false, false]) rfl rfl (by kernel_rfl) (fun _ _ _ h => h) rfl (Or.inr ⟨by rfl, rfl⟩) ?_ rfl ?_
          rotate_left 1
          · simp only [List.setIfInBounds_toArray, List.set_cons_succ, List.set_cons_zero]; rfl
          refine wpAnyK_takeL (i := 21) (d := 37) (v := undef) (T' := ?_) (listed' := #[true, true, true, true, true, true, true, true, true, true, true, true, true, true, true, true, true, true, true, true, true, true, false, false, false, false, false, false]) rfl rfl (by kernel_rfl) (fun _ _ _ h => h) rfl (Or.inr ⟨by rfl, rfl⟩) ?_ rfl ?_
          rotate_left 1
          · simp only [List.setIfInBounds_toArray, List.set_cons_succ, List.set_cons_zero]; rfl
          refine wpAnyK_takeL (i := 22) (d := 38) (v := undef) (T' := ?_) (listed' := #[true, true, true, true, true, true, true, true, true, true, true, true, true, true, true, true, true, true, true, true, true, true, true, false, false, false, false, false]) rfl rfl (by kernel_rfl) (fun _ _ _ h => h) rfl (Or.inr ⟨by rfl, rfl⟩) ?_ rfl ?_
          rotate_left 1
          · simp only [List.setIfInBounds_toArray, List.set_cons_succ, List.set_cons_zero]; rfl
          refine wpAnyK_takeL (i := 23) (d := 39) (v := undef) (T' := ?_) (listed' := #[true, true, true, true, true, true, true, true, true, true, true, true, true, true, true, true, true, true, true, true, true, true, true, true, false, false, false, false]) rfl rfl (by kernel_rfl) (fun _ _ _ h => h) rfl (Or.inr ⟨by rfl, rfl⟩) ?_ rfl ?_
          rotate_left 1
          · simp only [List.setIfInBounds_toArray, List.set_cons_succ, List.set_cons_zero]; rfl
          refine wpAnyK_takeL (i := 24) (d := 40) (v := undef) (T' := ?_) (listed' := #[true, true, true, true, true, true, true, true, true, true, true, true, true, true, true, true, true, true, true, true, true, true, true, true, true, false, false, false]) rfl rfl (by kernel_rfl) (fun _ _ _ h => h) rfl (Or.inr ⟨by rfl, rfl⟩) ?_ rfl ?_
          rotate_left 1
          · simp only [List.setIfInBounds_toArray, List.set_cons_succ, List.set_cons_zero]; rfl
          refine wpAnyK_takeL (i := 25) (d := 41) (v := undef) (T' := ?_) (listed' := #[true, true, true, true, true, true, true, true, true, true, true, true, true, true, true, true, true, true, true, true, true, true, true, true, true, true, false, false]) rfl rfl (by kernel_rfl) (fun _ _ _ h => h) rfl (Or.inr ⟨by rfl, rfl⟩) ?_ rfl ?_
          rotate_left 1
          · simp only [List.setIfInBounds_toArray, List.set_cons_succ, List.set_cons_zero]; rfl
          refine wpAnyK_takeL (i := 26) (d := 42) (v := ?_) (T' := ?_) (listed' := #[true, true, true, true, true, true, true, true, true, true, true, true, true, true, true, true, true, true, true, true, true, true, true, true, true, true, true, false]) rfl rfl (by kernel_rfl) (fun _ _ _ h => h) rfl (Or.inl ⟨by rfl, ?_⟩) ?_ rfl ?_
          rotate_left 2
          · intro w hS; clear hS; go_simp; rfl
          · simp only [List.setIfInBounds_toArray, List.set_cons_succ, List.set_cons_zero]; rfl
          refine wpAnyK_oneL (i := 27) (listed' := #[true, true, true, true, true, true, true, true, true, true, true, true, true, true, true, true, true, true, true, true, true, true, true, true, true, true, true, true]) (by kernel_rfl) rfl (by rfl) rfl ?_
          intro K hK
          go_simp
          refine hK _ _ (fun h => Bool.noConfusion (show true = false from h)) ?_
          clear hK K
          refine wpAnyK_done (by kernel_rfl) ?_ _
          go_wp2
          refine region_KL (fuel := 22) (listed := #[false, false, false, false, false, false, false, false, false, false, false, false, false, false, false, false, false, false, false, false, false, false]) (fun X => X = wr.drew.drew) 21 (by kernel_rfl) rfl (by kernel_rfl) ?_
          refine wpAnyK_takeL (i := 0) (d := 46) (v := ?_) (T' := ?_) (listed' := #[true, false, false, false, false, false, false, false, false, false, false, false, false, false, false, false, false, false, false, false, false, false]) rfl rfl (by kernel_rfl) (fun _ _ _ h => h) rfl (Or.inl ⟨by rfl, ?_⟩) ?_ rfl ?_
          rotate_left 2
          · intro w hS; clear hS; go_simp; rfl
          · simp only [List.setIfInBounds_toArray, List.set_cons_succ, List.set_cons_zero]; rfl
          refine wpAnyK_takeL (i := 1) (d := 47) (v := ?_) (T' := ?_) (listed' := #[true, true, false, false, false, false, false, false, false, false, false, false, false, false, false, false, false, false, false, false, false, false]) rfl rfl (by kernel_rfl) (fun _ _ _ h => h) rfl (Or.inl ⟨by rfl, ?_⟩) ?_ rfl ?_
          rotate_left 2
          · intro w hS; clear hS; go_simp; rfl
          · simp only [List.setIfInBounds_toArray, List.set_cons_succ, List.set_cons_zero]; rfl
          refine wpAnyK_takeL (i := 2) (d := 48) (v := ?_) (T' := ?_) (listed' := #[true, true, true, false, false, false, false, false, false, false, false, false, false, false, false, false, false, false, false, false, false, false]) rfl rfl (by kernel_rfl) (fun _ _ _ h => h) rfl (Or.inl ⟨by rfl, ?_⟩) ?_ rfl ?_
          rotate_left 2
          · intro w hS; clear hS; go_simp; rfl
          · simp only [List.setIfInBounds_toArray, List.set_cons_succ, List.set_cons_zero]; rfl
          refine wpAnyK_takeL (i := 3) (d := 49) (v := undef) (T' := ?_) (listed' := #[true, true, true, true, false, false, false, false, false, false, false, false, false, false, false, false, false, false, false, false, false, false]) rfl rfl (by kernel_rfl) (fun _ _ _ h => h) rfl (Or.inr ⟨by rfl, rfl⟩) ?_ rfl ?_
          rotate_left 1
          · simp only [List.setIfInBounds_toArray, List.set_cons_succ, List.set_cons_zero]; rfl
          refine wpAnyK_takeL (i := 4) (d := 50) (v := undef) (T' := ?_) (listed' := #[true, true, true, true, true, false, false, false, false, false, false, false, false, false, false, false, false, false, false, false, false, false]) rfl rfl (by kernel_rfl) (fun _ _ _ h => h) rfl (Or.inr ⟨by rfl, rfl⟩) ?_ rfl ?_
          rotate_left 1
          · simp only [List.setIfInBounds_toArray, List.set_cons_succ, List.set_cons_zero]; rfl
          refine wpAnyK_takeL (i := 5) (d := 51) (v := undef) (T' := ?_) (listed' := #[true, true, true, true, true, true, false, false, false, false, false, false, false, false, false, false, false, false, false, false, false, false]) rfl rfl (by kernel_rfl) (fun _ _ _ h => h) rfl (Or.inr ⟨by rfl, rfl⟩) ?_ rfl ?_
          rotate_left 1
          · simp only [List.setIfInBounds_toArray, List.set_cons_succ, List.set_cons_zero]; rfl
          refine wpAnyK_takeL (i := 6) (d := 52) (v := undef) (T' := ?_) (listed' := #[true, true, true, true, true, true, true, false, false, false, false, false, false, false, false, false, false, false, false, false, false, false]) rfl rfl (by kernel_rfl) (fun _ _ _ h => h) rfl (Or.inr ⟨by rfl, rfl⟩) ?_ rfl ?_
          rotate_left 1
          · simp only [List.setIfInBounds_toArray, List.set_cons_succ, List.set_cons_zero]; rfl
          refine wpAnyK_takeL (i := 7) (d := 53) (v := undef) (T' := ?_) (listed' := #[true, true, true, true, true, true, true, true, false, false, false, false, false, false, false, false, false, false, false, false, false, false]) rfl rfl (by kernel_rfl) (fun _ _ _ h => h) rfl (Or.inr ⟨by rfl, rfl⟩) ?_ rfl ?_
          rotate_left 1
          · simp only [List.setIfInBounds_toArray, List.set_cons_succ, List.set_cons_zero]; rfl
          refine wpAnyK_takeL (i := 8) (d := 54) (v := undef) (T' := ?_) (listed' := #[true, true, true, true, true, true, true, true, true, false, false, false, false, false, false, false, false, false, false, false, false, false]) rfl rfl (by kernel_rfl) (fun _ _ _ h => h) rfl (Or.inr ⟨by rfl, rfl⟩) ?_ rfl ?_
          rotate_left 1
          · simp only [List.setIfInBounds_toArray, List.set_cons_succ, List.set_cons_zero]; rfl
          refine wpAnyK_takeL (i := 9) (d := 55) (v := undef) (T' := ?_) (listed' := #[true, true, true, true, true, true, true, true, true, true, false, false, false, false, false, false, false, false, false, false, false, false]) rfl rfl (by kernel_rfl) (fun _ _ _ h => h) rfl (Or.inr ⟨by rfl, rfl⟩) ?_ rfl ?_
          rotate_left 1
          · simp only [List.setIfInBounds_toArray, List.set_cons_succ, List.set_cons_zero]; rfl
          refine wpAnyK_takeL (i := 10) (d := 56) (v := undef) (T' := ?_) (listed' := #[true, true, true, true, true, true, true, true, true, true, true, false, false, false, false, false, false, false, false, false, false, false]) rfl rfl (by kernel_rfl) (fun _ _ _ h => h) rfl (Or.inr ⟨by rfl, rfl⟩) ?_ rfl ?_
          rotate_left 1
          · simp only [List.setIfInBounds_toArray, List.set_cons_succ, List.set_cons_zero]; rfl
          refine wpAnyK_takeL (i := 11) (d := 57) (v := undef) (T' := ?_) (listed' := #[true, true, true, true, true, true, true, true, true, true, true, true, false, false, false, false, false, false, false, false, false, false]) rfl rfl (by kernel_rfl) (fun _ _ _ h => h) rfl (Or.inr ⟨by rfl, rfl⟩) ?_ rfl ?_
          rotate_left 1
          · simp only [List.setIfInBounds_toArray, List.set_cons_succ, List.set_cons_zero]; rfl
          refine wpAnyK_takeL (i := 12) (d := 58) (v := undef) (T' := ?_) (listed' := #[true, true, true, true, true, true, true, true, true, true, true, true, true, false, false, false, false, false, false, false, false, false]) rfl rfl (by kernel_rfl) (fun _ _ _ h => h) rfl (Or.inr ⟨by rfl, rfl⟩) ?_ rfl ?_
          rotate_left 1
          · simp only [List.setIfInBounds_toArray, List.set_cons_succ, List.set_cons_zero]; rfl
          refine wpAnyK_takeL (i := 13) (d := 59) (v := undef) (T' := ?_) (listed' := #[true, true, true, true, true, true, true, true, true, true, true, true, true, true, false, false, false, false, false, false, false, false]) rfl rfl (by kernel_rfl) (fun _ _ _ h => h) rfl (Or.inr ⟨by rfl, rfl⟩) ?_ rfl ?_
          rotate_left 1
          · simp only [List.setIfInBounds_toArray, List.set_cons_succ, List.set_cons_zero]; rfl
          refine wpAnyK_takeL (i := 14) (d := 60) (v := undef) (T' := ?_) (listed' := #[true, true, true, true, true, true, true, true, true, true, true, true, true, true, true, false, false, false, false, false, false, false]) rfl rfl (by kernel_rfl) (fun _ _ _ h => h) rfl (Or.inr ⟨by rfl, rfl⟩) ?_ rfl ?_
          rotate_left 1
          · simp only [List.setIfInBounds_toArray, List.set_cons_succ, List.set_cons_zero]; rfl
          refine wpAnyK_takeL (i := 15) (d := 61) (v := undef) (T' := ?_) (listed' := #[true, true, true, true, true, true, true, true, true, true, true, true, true, true, true, true, false, false, false, false, false, false]) rfl rfl (by kernel_rfl) (fun _ _ _ h => h) rfl (Or.inr ⟨by rfl, rfl⟩) ?_ rfl ?_
          rotate_left 1
          · simp only [List.setIfInBounds_toArray, List.set_cons_succ, List.set_cons_zero]; rfl
          refine wpAnyK_takeL (i := 16) (d := 62) (v := undef) (T' := ?_) (listed' := #[true, true, true, true, true, true, true, true, true, true, true, true, true, true, true, true, true, false, false, false, false, false]) rfl rfl (by kernel_rfl) (fun _ _ _ h => h) rfl (Or.inr ⟨by rfl, rfl⟩) ?_ rfl ?_
          rotate_left 1
          · simp only [List.setIfInBounds_toArray, List.set_cons_succ, List.set_cons_zero]; rfl
          refine wpAnyK_takeL (i := 17) (d := 63) (v := undef) (T' := ?_) (listed' := #[true, true, true, true, true, true, true, true, true, true, true, true, true, true, true, true, true, true, false, false, false, false]) rfl rfl (by kernel_rfl) (fun _ _ _ h => h) rfl (Or.inr ⟨by rfl, rfl⟩) ?_ rfl ?_
          rotate_left 1
          · simp only [List.setIfInBounds_toArray, List.set_cons_succ, List.set_cons_zero]; rfl
          refine wpAnyK_takeL (i := 18) (d := 64) (v := undef) (T' := ?_) (listed' := #[true, true, true, true, true, true, true, true, true, true, true, true, true, true, true, true, true, true, true, false, false, false]) rfl rfl (by kernel_rfl) (fun _ _ _ h => h) rfl (Or.inr ⟨by rfl, rfl⟩) ?_ rfl ?_
          rotate_left 1
          · simp only [List.setIfInBounds_toArray, List.set_cons_succ, List.set_cons_zero]; rfl
          refine wpAnyK_takeL (i := 19) (d := 65) (v := undef) (T' := ?_) (listed' := #[true, true, true, true, true, true, true, true, true, true, true, true, true, true, true, true, true, true, true, true, false, false]) rfl rfl (by kernel_rfl) (fun _ _ _ h => h) rfl (Or.inr ⟨by rfl, rfl⟩) ?_ rfl ?_
          rotate_left 1
          · simp only [List.setIfInBounds_toArray, List.set_cons_succ, List.set_cons_zero]; rfl
          refine wpAnyK_takeL (i := 20) (d := 66) (v := undef) (T' := ?_) (listed' := #[true, true, true, true, true, true, true, true, true, true, true, true, true, true, true, true, true, true, true, true, true, false]) rfl rfl (by kernel_rfl) (fun _ _ _ h => h) rfl (Or.inr ⟨by rfl, rfl⟩) ?_ rfl ?_
          rotate_left 1
          · simp only [List.setIfInBounds_toArray, List.set_cons_succ, List.set_cons_zero]; rfl
          refine wpAnyK_oneL (i := 21) (listed' := #[true, true, true, true, true, true, true, true, true, true, true, true, true, true, true, true, true, true, true, true, true, true]) (by kernel_rfl) rfl (by rfl) rfl ?_
          intro K hK
          go_simp
          refine hK _ _ (fun h => Bool.noConfusion (show true = false from h)) ?_
          clear hK K
          refine wpAnyK_done (by kernel_rfl) ?_ _
          go_wp2_with (at_builtin; refine app_runR Try.underlying46 info_rr rfl _ _ rfl w.heap.size _ [] (z, 1) wr.drew.drew.heap.size _ rfl rfl (HOD.out.grown (gb_alloc _ _ none)) (heap_at_alloc wr.drew.drew _) (Nat.le_trans HGD2.out.size (by simp)) (by simp) ?_; go_must (intro v5 w5 ho5 hg5 hf5; have HO5 := Lib.hid ho5; have HG5 : Hid (w.grownBy w5 none) := Lib.hid (gb_trans (gb_same HGD2.out (gb_alloc wr.drew.drew _ none)) hg5 (fun j hj => .inr (HO.out.lt j hj).1)); clear ho5 hg5 hf5))
          go_roundw
          case rel => exact ⟨0 + 1, [(z, 1)], z + 1, by omega, by go_num, by omega, by omega, Lib.hid (fun h => absurd h (by omega)), HKN, Lib.hid (by simp), HF2, HO5, HG5⟩
          case measure => simp [intOf]; omega
        · obtain ⟨rs', f, n, rfl, hfn, hf0, hn0, hni, hzk⟩ := HK.out k rfl
          obtain ⟨p, hp⟩ : ∃ p, least - 1 = p := ⟨_, rfl⟩
          rw [hp] at hzk
          obtain rfl : least = p + 1 := by omega
          obtain ⟨g, cap, hrv, hgB, hgs⟩ := HO.out.at0 (by simp)
          have hlen : (rs' ++ [(f, n)]).length = rs'.length + 1 := by simp
          rw [hlen] at hrv
          subst hrv
          obtain ⟨zg, off, rfl, hcell⟩ := (HZ.out.grown HGD.out).at (j := k + 1) (x := .int .i64 z) (by simp [ivs, hzz])
          obtain ⟨zg2, off2, e2, hcellk⟩ := (HZ.out.grown HGD.out).at (j := k) (x := .int .i64 p) (by simp [ivs, hzk])
          cases e2
          have hcell2 : wr.drew.drew.cell? ⟨zg, off + (k + 1), none⟩ = some (.int .i64 z) := hcell
          have hkI : (k : Int) < (zs.length : Int) := by omega
          have HWR : Hid (IntKind.i64.wrap (((k + 1 : Nat) : Int) - 1) = (k : Int)) := Lib.hid (by rw [IntKind.wrap_i64] <;> omega)
          have hi0 : 0 < ((k + 1 : Nat) : Int) := by omega
          have HLE2 : Hid (rs'.length ≤ k) := Lib.hid (by have := HLE.out; rw [hlen] at this; omega)
          have HFN : Hid (IntKind.i64.wrap (p + 1) = p + 1) := Lib.hid (by rw [IntKind.wrap_i64] <;> omega)
          have HZZ := Lib.hid hzz
          have HLL := Lib.hid hlen
          have HNI := Lib.hid hni
          clear HK H0 HLE hzk hlen hp hzz hni HOO
          generalize hik : k + 1 = i at *
          have HIK := Lib.hid hik
          have hi1 : 0 < i := by omega
          clear hik
          by_cases hD : z ≤ p
          · rw [if_pos (.inl (by omega))] at hF
            subst hF
            clear HF
            go_wp2
            refine region_KL (fuel := 28) (listed := #[false, false, false, false, false, false, false, false, false, false, false, false, false, false, false, false, false, false, false, false, false, false, false, false, false, false, false, false]) (fun X => X = wr.drew) 27 (by kernel_rfl) rfl (by kernel_rfl) ?_
            refine wpAnyK_takeL (i := 0) (d := 16) (v := ?_) (T' := ?_) (listed' := #[true, false, false, false, false, false, false, false, false, false, false, false, false, false, false, false, false, false, false, false, false, false, false, false, false, false, false, false]) rfl rfl (by kernel_rfl) (fun _ _ _ h => h) rfl (Or.inl ⟨by rfl, ?_⟩) ?_ rfl ?_
            rotate_left 2
            · intro w hS; clear hS; go_simp; rfl
            · simp only [List.setIfInBounds_toArray, List.set_cons_succ, List.set_cons_zero]; rfl
            refine wpAnyK_takeL (i := 1) (d := 17) (v := ?_) (T' := ?_) (listed' := #[true, true, false, false, false, false, false, false, false, false, false, false, false, false, false, false, false, false, false, false, false, false, false, false, false, false, false, false]) rfl rfl (by kernel_rfl) (fun _ _ _ h => h) rfl (Or.inl ⟨by rfl, ?_⟩) ?_ rfl ?_
            rotate_left 2
            · intro w hS; clear hS; go_simp; rfl
            · simp only [List.setIfInBounds_toArray, List.set_cons_succ, List.set_cons_zero]; rfl
            refine wpAnyK_takeL (i := 2) (d := 18) (v := ?_) (T' := ?_) (listed' := #[true, true, true, false, false, false, false, false, false, false, false, false, false, false, false, false, false, false, false, false, false, false, false, false, false, false, false, false]) rfl rfl (by kernel_rfl) (fun _ _ _ h => h) rfl (Or.inl ⟨by rfl, ?_⟩) ?_ rfl ?_
            rotate_left 2
            · intro w hS; clear hS; go_simp; rfl
            · simp only [List.setIfInBounds_toArray, List.set_cons_succ, List.set_cons_zero]; rfl
            refine wpAnyK_takeL (i := 3) (d := 19) (v := ?_) (T' := ?_) (listed' := #[true, true, true, true, false, false, false, false, false, false, false, false, false, false, false, false, false, false, false, false, false, false, false, false, false, false, false, false]) rfl rfl (by kernel_rfl) (fun _ _ _ h => h) rfl (Or.inl ⟨by rfl, ?_⟩) ?_ rfl ?_
            rotate_left 2
            · intro w hS; subst hS; go_simp; rfl
            · simp only [List.setIfInBounds_toArray, List.set_cons_succ, List.set_cons_zero]; rfl
            refine wpAnyK_takeL (i := 4) (d := 20) (v := ?_) (T' := ?_) (listed' := #[true, true, true, true, true, false, false, false, false, false, false, false, false, false, false, false, false, false, false, false, false, false, false, false, false, false, false, false]) rfl rfl (by kernel_rfl) (fun _ _ _ h => h) rfl (Or.inl ⟨by rfl, ?_⟩) ?_ rfl ?_
            rotate_left 2
            · intro w hS; clear hS; go_simp; rw [HZ0.out]
            · simp only [List.setIfInBounds_toArray, List.set_cons_succ, List.set_cons_zero]; rfl
            refine wpAnyK_takeL (i := 5) (d := 21) (v := ?_) (T' := ?_) (listed' := #[true, true, true, true, true, true, false, false, false, false, false, false, false, false, false, false, false, false, false, false, false, false, false, false, false, false, false, false]) rfl rfl (by kernel_rfl) (fun _ _ _ h => h) rfl (Or.inl ⟨by rfl, ?_⟩) ?_ rfl ?_
            rotate_left 2
            · intro w hS; clear hS; go_simp; rfl
            · simp only [List.setIfInBounds_toArray, List.set_cons_succ, List.set_cons_zero]; rfl
            refine wpAnyK_takeL (i := 6) (d := 22) (v := ?_) (T' := ?_) (listed' := #[true, true, true, true, true, true, true, false, false, false, false, false, false, false, false, false, false, false, false, false, false, false, false, false, false, false, false, false]) rfl rfl (by kernel_rfl) (fun _ _ _ h => h) rfl (Or.inl ⟨by rfl, ?_⟩) ?_ rfl ?_
            rotate_left 2
            · intro w hS; clear hS; go_simp; rfl
            · simp only [List.setIfInBounds_toArray, List.set_cons_succ, List.set_cons_zero]; rfl
            refine wpAnyK_takeL (i := 7) (d := 23) (v := ?_) (T' := ?_) (listed' := #[true, true, true, true, true, true, true, true, false, false, false, false, false, false, false, false, false, false, false, false, false, false, false, false, false, false, false, false]) rfl rfl (by kernel_rfl) (fun _ _ _ h => h) rfl (Or.inl ⟨by rfl, ?_⟩) ?_ rfl ?_
            rotate_left 2
            · intro w hS; clear hS; go_simp; rfl
            · simp only [List.setIfInBounds_toArray, List.set_cons_succ, List.set_cons_zero]; rfl
            refine wpAnyK_takeL (i := 8) (d := 24) (v := ?_) (T' := ?_) (listed' := #[true, true, true, true, true, true, true, true, true, false, false, false, false, false, false, false, false, false, false, false, false, false, false, false, false, false, false, false]) rfl rfl (by kernel_rfl) (fun _ _ _ h => h) rfl (Or.inl ⟨by rfl, ?_⟩) ?_ rfl ?_
            rotate_left 2
            · intro w hS; clear hS; go_simp; rfl
            · simp only [List.setIfInBounds_toArray, List.set_cons_succ, List.set_cons_zero]; rfl
            refine wpAnyK_takeL (i := 9) (d := 25) (v := ?_) (T' := ?_) (listed' := #[true, true, true, true, true, true, true, true, true, true, false, false, false, false, false, false, false, false, false, false, false, false, false, false, false, false, false, false]) rfl rfl (by kernel_rfl) (fun _ _ _ h => h) rfl (Or.inl ⟨by rfl, ?_⟩) ?_ rfl ?_
            rotate_left 2
            · intro w hS; subst hS; go_simp; rfl
            · simp only [List.setIfInBounds_toArray, List.set_cons_succ, List.set_cons_zero]; rfl
            refine wpAnyK_takeL (i := 10) (d := 26) (v := ?_) (T' := ?_) (listed' := #[true, true, true, true, true, true, true, true, true, true, true, false, false, false, false, false, false, false, false, false, false, false, false, false, false, false, false, false]) rfl rfl (by kernel_rfl) (fun _ _ _ h => h) rfl (Or.inl ⟨by rfl, ?_⟩) ?_ rfl ?_
            rotate_left 2
            · intro w hS; clear hS; go_simp; rw [HZ1.out]
            · simp only [List.setIfInBounds_toArray, List.set_cons_succ, List.set_cons_zero]; rfl
            refine wpAnyK_takeL (i := 11) (d := 27) (v := ?_) (T' := ?_) (listed' := #[true, true, true, true, true, true, true, true, true, true, true, true, false, false, false, false, false, false, false, false, false, false, false, false, false, false, false, false]) rfl rfl (by kernel_rfl) (fun _ _ _ h => h) rfl (Or.inl ⟨by rfl, ?_⟩) ?_ rfl ?_
            rotate_left 2
            · intro w hS; clear hS; go_simp; rfl
            · simp only [List.setIfInBounds_toArray, List.set_cons_succ, List.set_cons_zero]; rfl
            refine wpAnyK_takeL (i := 12) (d := 28) (v := ?_) (T' := ?_) (listed' := #[true, true, true, true, true, true, true, true, true, true, true, true, true, false, false, false, false, false, false, false, false, false, false, false, false, false, false, false]) rfl rfl (by kernel_rfl) (fun _ _ _ h => h) rfl (Or.inl ⟨by rfl, ?_⟩) ?_ rfl ?_
            rotate_left 2
            · intro w hS; clear hS; go_simp; rfl
            · simp only [List.setIfInBounds_toArray, List.set_cons_succ, List.set_cons_zero]; rfl
            refine wpAnyK_takeL (i := 13) (d := 29) (v := ?_) (T' := ?_) (listed' := #[true, true, true, true, true, true, true, true, true, true, true, true, true, true, false, false, false, false, false, false, false, false, false, false, false, false, false, false]) rfl rfl (by kernel_rfl) (fun _ _ _ h => h) rfl (Or.inl ⟨by rfl, ?_⟩) ?_ rfl ?_
            rotate_left 2
            · intro w hS; clear hS; go_simp; rfl
            · simp only [List.setIfInBounds_toArray, List.set_cons_succ, List.set_cons_zero]; rfl
            refine wpAnyK_takeL (i := 14) (d := 30) (v := ?_) (T' := ?_) (listed' := #[true, true, true, true, true, true, true, true, true, true, true, true, true, true, true, false, false, false, false, false, false, false, false, false, false, false, false, false]) rfl rfl (by kernel_rfl) (fun _ _ _ h => h) rfl (Or.inl ⟨by rfl, ?_⟩) ?_ rfl ?_
            rotate_left 2
            · intro w hS; clear hS; go_simp; rfl
            · simp only [List.setIfInBounds_toArray, List.set_cons_succ, List.set_cons_zero]; rfl
            refine wpAnyK_takeL (i := 15) (d := 31) (v := ?_) (T' := ?_) (listed' := #[true, true, true, true, true, true, true, true, true, true, true, true, true, true, true, true, false, false, false, false, false, false, false, false, false, false, false, false]) rfl rfl (by kernel_rfl) (fun _ _ _ h => h) rfl (Or.inl ⟨by rfl, ?_⟩) ?_ rfl ?_
            rotate_left 2
            · intro w hS; clear hS; go_simp; rfl
            · simp only [List.setIfInBounds_toArray, List.set_cons_succ, List.set_cons_zero]; rfl
            refine wpAnyK_takeL (i := 16) (d := 32) (v := ?_) (T' := ?_) (listed' := #[true, true, true, true, true, true, true, true, true, true, true, true, true, true, true, true, true, false, false, false, false, false, false, false, false, false, false, false]) rfl rfl (by kernel_rfl) (fun _ _ _ h => h) rfl (Or.inl ⟨by rfl, ?_⟩) ?_ rfl ?_
            rotate_left 2
            · intro w hS; clear hS; go_simp; rfl
            · simp only [List.setIfInBounds_toArray, List.set_cons_succ, List.set_cons_zero]; rfl
            refine wpAnyK_takeL (i := 17) (d := 33) (v := ?_) (T' := ?_) (listed' := #[true, true, true, true, true, true, true, true, true, true, true, true, true, true, true, true, true, true, false, false, false, false, false, false, false, false, false, false]) rfl rfl (by kernel_rfl) (fun _ _ _ h => h) rfl (Or.inl ⟨by rfl, ?_⟩) ?_ rfl ?_
            rotate_left 2
            · intro w hS; clear hS; go_simp; rfl
            · simp only [List.setIfInBounds_toArray, List.set_cons_succ, List.set_cons_zero]; rfl
            refine wpAnyK_takeL (i := 18) (d := 34) (v := ?_) (T' := ?_) (listed' := #[true, true, true, true, true, true, true, true, true, true, true, true, true, true, true, true, true, true, true, false, false, false, false, false, false, false, false, false]) rfl rfl (by kernel_rfl) (fun _ _ _ h => h) rfl (Or.inl ⟨by rfl, ?_⟩) ?_ rfl ?_
            rotate_left 2
            · intro w hS; clear hS; go_simp; rfl
            · simp only [List.setIfInBounds_toArray, List.set_cons_succ, List.set_cons_zero]; rfl
            refine wpAnyK_takeL (i := 19) (d := 35) (v := ?_) (T' := ?_) (listed' := #[true, true, true, true, true, true, true, true, true, true, true, true, true, true, true, true, true, true, true, true, false, false, false, false, false, false, false, false]) rfl rfl (by kernel_rfl) (fun _ _ _ h => h) rfl (Or.inl ⟨by rfl, ?_⟩) ?_ rfl ?_
            rotate_left 2
            · intro w hS; subst hS; go_simp; rfl
            · simp only [List.setIfInBounds_toArray, List.set_cons_succ, List.set_cons_zero]; rfl
            refine wpAnyK_takeL (i := 20) (d := 36) (v := ?_) (T' := ?_) (listed' := #[true, true, true, true, true, true, true, true, true, true, true, true, true, true, true, true, true, true, true, true, true, false, false, false, false, false, false, false]) rfl rfl (by kernel_rfl) (fun _ _ _ h => h) rfl (Or.inl ⟨by rfl, ?_⟩) ?_ rfl ?_
            rotate_left 2
            · intro w hS; clear hS; go_simp; rfl
            · simp only [List.setIfInBounds_toArray, List.set_cons_succ, List.set_cons_zero]; rfl
            refine wpAnyK_takeL (i := 21) (d := 37) (v := ?_) (T' := ?_) (listed' := #[true, true, true, true, true, true, true, true, true, true, true, true, true, true, true, true, true, true, true, true, true, true, false, false, false, false, false, false]) rfl rfl (by kernel_rfl) (fun _ _ _ h => h) rfl (Or.inl ⟨by rfl, ?_⟩) ?_ rfl ?_
            rotate_left 2
            · intro w hS; clear hS; go_simp; rfl
            · simp only [List.setIfInBounds_toArray, List.set_cons_succ, List.set_cons_zero]; rfl
            refine wpAnyK_takeL (i := 22) (d := 38) (v := ?_) (T' := ?_) (listed' := #[true, true, true, true, true, true, true, true, true, true, true, true, true, true, true, true, true, true, true, true, true, true, true, false, false, false, false, false]) rfl rfl (by kernel_rfl) (fun _ _ _ h => h) rfl (Or.inl ⟨by rfl, ?_⟩) ?_ rfl ?_
            rotate_left 2
            · intro w hS; clear hS; go_simp; rw [HWR.out]
            · simp only [List.setIfInBounds_toArray, List.set_cons_succ, List.set_cons_zero]; rfl
            refine wpAnyK_takeL (i := 23) (d := 39) (v := ?_) (T' := ?_) (listed' := #[true, true, true, true, true, true, true, true, true, true, true, true, true, true, true, true, true, true, true, true, true, true, true, true, false, false, false, false]) rfl rfl (by kernel_rfl) (fun _ _ _ h => h) rfl (Or.inl ⟨by rfl, ?_⟩) ?_ rfl ?_
            rotate_left 2
            · intro w hS; clear hS; go_simp; rfl
            · simp only [List.setIfInBounds_toArray, List.set_cons_succ, List.set_cons_zero]; rfl
            refine wpAnyK_takeL (i := 24) (d := 40) (v := ?_) (T' := ?_) (listed' := #[true, true, true, true, true, true, true, true, true, true, true, true, true, true, true, true, true, true, true, true, true, true, true, true, true, false, false, false]) rfl rfl (by kernel_rfl) (fun _ _ _ h => h) rfl (Or.inl ⟨by rfl, ?_⟩) ?_ rfl ?_
            rotate_left 2
            · intro w hS; subst hS; go_simp; rfl
            · simp only [List.setIfInBounds_toArray, List.set_cons_succ, List.set_cons_zero]; rfl
            refine wpAnyK_takeL (i := 25) (d := 41) (v := ?_) (T' := ?_) (listed' := #[true, true, true, true, true, true, true, true, true, true, true, true, true, true, true, true, true, true, true, true, true, true, true, true, true, true, false, false]) rfl rfl (by kernel_rfl) (fun _ _ _ h => h) rfl (Or.inl ⟨by rfl, ?_⟩) ?_ rfl ?_
            rotate_left 2
            · intro w hS; clear hS; go_simp; rfl
            · simp only [List.setIfInBounds_toArray, List.set_cons_succ, List.set_cons_zero]; rfl
            refine wpAnyK_takeL (i := 26) (d := 42) (v := ?_) (T' := ?_) (listed' := #[true, true, true, true, true, true, true, true, true, true, true, true, true, true, true, true, true, true, true, true, true, true, true, true, true, true, true, false]) rfl rfl (by kernel_rfl) (fun _ _ _ h => h) rfl (Or.inl ⟨by rfl, ?_⟩) ?_ rfl ?_
            rotate_left 2
            · intro w hS; clear hS; go_simp; rfl
            · simp only [List.setIfInBounds_toArray, List.set_cons_succ, List.set_cons_zero]; rfl
            refine wpAnyK_oneL (i := 27) (listed' := #[true, true, true, true, true, true, true, true, true, true, true, true, true, true, true, true, true, true, true, true, true, true, true, true, true, true, true, true]) (by kernel_rfl) rfl (by rfl) rfl ?_
            intro K hK
            go_simp
            refine hK _ _ (fun h => Bool.noConfusion (show true = false from h)) ?_
            clear hK K
            refine wpAnyK_done (by kernel_rfl) ?_ _
            go_wp2
            go_ret2
            exact ⟨rfl, HGD.out⟩
          have HZ2 : Hid (decide (z ≤ p) = false) := Lib.hid (by simpa using hD)
          rw [if_neg (by omega)] at hF
          have HQR : Hid (IntKind.i64.wrap (rs'.length : Int) = (rs'.length : Int)) := Lib.hid (by have := HLE2.out; have := HIK.out; rw [IntKind.wrap_i64] <;> omega)
          have hqI : (rs'.length : Int) + 1 ≤ 5000 := by have := HLE2.out; have := HIK.out; omega
          by_cases hzl2 : z = p + 1
          · subst hzl2
            rw [stepR_eq] at hF
            obtain ⟨h1, h2, h3, h4⟩ := HOD.out.last (n + 1)
            have HF2 := Lib.hid hF
            have HO5 := Lib.hid h4
            have hnI : n ≤ 5000 := by have := HNI.out; omega
            have HG5 : Hid (w.grownBy (wr.drew.drew.setCell ⟨g, rs'.length * 2 + 1, none⟩ (.int .i64 (n + 1))) none) := Lib.hid (gb_trans HGD2.out (gb_setCell _ _ _) (fun j hj => .inr (by cases hj; exact hgB)))
            have HKN : Hid (∀ j, i + 1 = j + 1 → ∃ rs'' f' n', rs' ++ [(f, n + 1)] = rs'' ++ [(f', n')] ∧ f' + n' = p + 1 + 1 ∧ 0 ≤ f' ∧ 0 ≤ n' ∧ n' ≤ ((i + 1 : Nat) : Int) ∧ zs[j]? = some (p + 1 + 1 - 1)) := Lib.hid (fun j hj => ⟨rs', f, n + 1, rfl, by omega, hf0, by omega, by have := HNI.out; omega, by rw [show j = i by omega, HZZ.out, show p + 1 + 1 - 1 = p + 1 by omega]⟩)
            have HLN : Hid ((rs' ++ [(f, n + 1)]).length ≤ i + 1) := Lib.hid (by have := HLE2.out; have := HIK.out; simp; omega)
            clear HF hF h4 HO HOD HLL HZZ hD
            generalize rs'.length = q at *
            go_wp2
            refine region_KL (fuel := 28) (listed := #[false, false, false, false, false, false, false, false, false, false, false, false, false, false, false, false, false, false, false, false, false, false, false, false, false, false, false, false]) (fun X => X = wr.drew) 27 (by kernel_rfl) rfl (by kernel_rfl) ?_
            refine wpAnyK_takeL (i := 0) (d := 16) (v := ?_) (T' := ?_) (listed' := #[true, false, false, false, false, false, false, false, false, false, false, false, false, false, false, false, false, false, false, false, false, false, false, false, false, false, false, false]) rfl rfl (by kernel_rfl) (fun _ _ _ h => h) rfl (Or.inl ⟨by rfl, ?_⟩) ?_ rfl ?_
            rotate_left 2
            · intro w hS; clear hS; go_simp; rfl
            · simp only [List.setIfInBounds_toArray, List.set_cons_succ, List.set_cons_zero]; rfl
            refine wpAnyK_takeL (i := 1) (d := 17) (v := ?_) (T' := ?_) (listed' := #[true, true, false, false, false, false, false, false, false, false, false, false, false, false, false, false, false, false, false, false, false, false, false, false, false, false, false, false]) rfl rfl (by kernel_rfl) (fun _ _ _ h => h) rfl (Or.inl ⟨by rfl, ?_⟩) ?_ rfl ?_
            rotate_left 2
            · intro w hS; clear hS; go_simp; rfl
            · simp only [List.setIfInBounds_toArray, List.set_cons_succ, List.set_cons_zero]; rfl
            refine wpAnyK_takeL (i := 2) (d := 18) (v := ?_) (T' := ?_) (listed' := #[true, true, true, false, false, false, false, false, false, false, false, false, false, false, false, false, false, false, false, false, false, false, false, false, false, false, false, false]) rfl rfl (by kernel_rfl) (fun _ _ _ h => h) rfl (Or.inl ⟨by rfl, ?_⟩) ?_ rfl ?_
            rotate_left 2
            · intro w hS; clear hS; go_simp; rfl
            · simp only [List.setIfInBounds_toArray, List.set_cons_succ, List.set_cons_zero]; rfl
            refine wpAnyK_takeL (i := 3) (d := 19) (v := ?_) (T' := ?_) (listed' := #[true, true, true, true, false, false, false, false, false, false, false, false, false, false, false, false, false, false, false, false, false, false, false, false, false, false, false, false]) rfl rfl (by kernel_rfl) (fun _ _ _ h => h) rfl (Or.inl ⟨by rfl, ?_⟩) ?_ rfl ?_
            rotate_left 2
            · intro w hS; subst hS; go_simp; rfl
            · simp only [List.setIfInBounds_toArray, List.set_cons_succ, List.set_cons_zero]; rfl
            refine wpAnyK_takeL (i := 4) (d := 20) (v := ?_) (T' := ?_) (listed' := #[true, true, true, true, true, false, false, false, false, false, false, false, false, false, false, false, false, false, false, false, false, false, false, false, false, false, false, false]) rfl rfl (by kernel_rfl) (fun _ _ _ h => h) rfl (Or.inl ⟨by rfl, ?_⟩) ?_ rfl ?_
            rotate_left 2
            · intro w hS; clear hS; go_simp; rw [HZ0.out]
            · simp only [List.setIfInBounds_toArray, List.set_cons_succ, List.set_cons_zero]; rfl
            refine wpAnyK_takeL (i := 5) (d := 21) (v := ?_) (T' := ?_) (listed' := #[true, true, true, true, true, true, false, false, false, false, false, false, false, false, false, false, false, false, false, false, false, false, false, false, false, false, false, false]) rfl rfl (by kernel_rfl) (fun _ _ _ h => h) rfl (Or.inl ⟨by rfl, ?_⟩) ?_ rfl ?_
            rotate_left 2
            · intro w hS; clear hS; go_simp; rfl
            · simp only [List.setIfInBounds_toArray, List.set_cons_succ, List.set_cons_zero]; rfl
            refine wpAnyK_takeL (i := 6) (d := 22) (v := ?_) (T' := ?_) (listed' := #[true, true, true, true, true, true, true, false, false, false, false, false, false, false, false, false, false, false, false, false, false, false, false, false, false, false, false, false]) rfl rfl (by kernel_rfl) (fun _ _ _ h => h) rfl (Or.inl ⟨by rfl, ?_⟩) ?_ rfl ?_
            rotate_left 2
            · intro w hS; clear hS; go_simp; rfl
            · simp only [List.setIfInBounds_toArray, List.set_cons_succ, List.set_cons_zero]; rfl
            refine wpAnyK_takeL (i := 7) (d := 23) (v := ?_) (T' := ?_) (listed' := #[true, true, true, true, true, true, true, true, false, false, false, false, false, false, false, false, false, false, false, false, false, false, false, false, false, false, false, false]) rfl rfl (by kernel_rfl) (fun _ _ _ h => h) rfl (Or.inl ⟨by rfl, ?_⟩) ?_ rfl ?_
            rotate_left 2
            · intro w hS; clear hS; go_simp; rfl
            · simp only [List.setIfInBounds_toArray, List.set_cons_succ, List.set_cons_zero]; rfl
            refine wpAnyK_takeL (i := 8) (d := 24) (v := ?_) (T' := ?_) (listed' := #[true, true, true, true, true, true, true, true, true, false, false, false, false, false, false, false, false, false, false, false, false, false, false, false, false, false, false, false]) rfl rfl (by kernel_rfl) (fun _ _ _ h => h) rfl (Or.inl ⟨by rfl, ?_⟩) ?_ rfl ?_
            rotate_left 2
            · intro w hS; clear hS; go_simp; rfl
            · simp only [List.setIfInBounds_toArray, List.set_cons_succ, List.set_cons_zero]; rfl
            refine wpAnyK_takeL (i := 9) (d := 25) (v := ?_) (T' := ?_) (listed' := #[true, true, true, true, true, true, true, true, true, true, false, false, false, false, false, false, false, false, false, false, false, false, false, false, false, false, false, false]) rfl rfl (by kernel_rfl) (fun _ _ _ h => h) rfl (Or.inl ⟨by rfl, ?_⟩) ?_ rfl ?_
            rotate_left 2
            · intro w hS; subst hS; go_simp; rfl
            · simp only [List.setIfInBounds_toArray, List.set_cons_succ, List.set_cons_zero]; rfl
            refine wpAnyK_takeL (i := 10) (d := 26) (v := ?_) (T' := ?_) (listed' := #[true, true, true, true, true, true, true, true, true, true, true, false, false, false, false, false, false, false, false, false, false, false, false, false, false, false, false, false]) rfl rfl (by kernel_rfl) (fun _ _ _ h => h) rfl (Or.inl ⟨by rfl, ?_⟩) ?_ rfl ?_
            rotate_left 2
            · intro w hS; clear hS; go_simp; rw [HZ1.out]
            · simp only [List.setIfInBounds_toArray, List.set_cons_succ, List.set_cons_zero]; rfl
            refine wpAnyK_takeL (i := 11) (d := 27) (v := ?_) (T' := ?_) (listed' := #[true, true, true, true, true, true, true, true, true, true, true, true, false, false, false, false, false, false, false, false, false, false, false, false, false, false, false, false]) rfl rfl (by kernel_rfl) (fun _ _ _ h => h) rfl (Or.inl ⟨by rfl, ?_⟩) ?_ rfl ?_
            rotate_left 2
            · intro w hS; clear hS; go_simp; rfl
            · simp only [List.setIfInBounds_toArray, List.set_cons_succ, List.set_cons_zero]; rfl
            refine wpAnyK_takeL (i := 12) (d := 28) (v := ?_) (T' := ?_) (listed' := #[true, true, true, true, true, true, true, true, true, true, true, true, true, false, false, false, false, false, false, false, false, false, false, false, false, false, false, false]) rfl rfl (by kernel_rfl) (fun _ _ _ h => h) rfl (Or.inl ⟨by rfl, ?_⟩) ?_ rfl ?_
            rotate_left 2
            · intro w hS; clear hS; go_simp; rfl
            · simp only [List.setIfInBounds_toArray, List.set_cons_succ, List.set_cons_zero]; rfl
            refine wpAnyK_takeL (i := 13) (d := 29) (v := ?_) (T' := ?_) (listed' := #[true, true, true, true, true, true, true, true, true, true, true, true, true, true, false, false, false, false, false, false, false, false, false, false, false, false, false, false]) rfl rfl (by kernel_rfl) (fun _ _ _ h => h) rfl (Or.inl ⟨by rfl, ?_⟩) ?_ rfl ?_
            rotate_left 2
            · intro w hS; clear hS; go_simp; rfl
            · simp only [List.setIfInBounds_toArray, List.set_cons_succ, List.set_cons_zero]; rfl
            refine wpAnyK_takeL (i := 14) (d := 30) (v := ?_) (T' := ?_) (listed' := #[true, true, true, true, true, true, true, true, true, true, true, true, true, true, true, false, false, false, false, false, false, false, false, false, false, false, false, false]) rfl rfl (by kernel_rfl) (fun _ _ _ h => h) rfl (Or.inl ⟨by rfl, ?_⟩) ?_ rfl ?_
            rotate_left 2
            · intro w hS; clear hS; go_simp; rfl
            · simp only [List.setIfInBounds_toArray, List.set_cons_succ, List.set_cons_zero]; rfl
            refine wpAnyK_takeL (i := 15) (d := 31) (v := ?_) (T' := ?_) (listed' := #[true, true, true, true, true, true, true, true, true, true, true, true, true, true, true, true, false, false, false, false, false, false, false, false, false, false, false, false]) rfl rfl (by kernel_rfl) (fun _ _ _ h => h) rfl (Or.inl ⟨by rfl, ?_⟩) ?_ rfl ?_
            rotate_left 2
            · intro w hS; clear hS; go_simp; rfl
            · simp only [List.setIfInBounds_toArray, List.set_cons_succ, List.set_cons_zero]; rfl
            refine wpAnyK_takeL (i := 16) (d := 32) (v := ?_) (T' := ?_) (listed' := #[true, true, true, true, true, true, true, true, true, true, true, true, true, true, true, true, true, false, false, false, false, false, false, false, false, false, false, false]) rfl rfl (by kernel_rfl) (fun _ _ _ h => h) rfl (Or.inl ⟨by rfl, ?_⟩) ?_ rfl ?_
            rotate_left 2
            · intro w hS; clear hS; go_simp; rfl
            · simp only [List.setIfInBounds_toArray, List.set_cons_succ, List.set_cons_zero]; rfl
            refine wpAnyK_takeL (i := 17) (d := 33) (v := ?_) (T' := ?_) (listed' := #[true, true, true, true, true, true, true, true, true, true, true, true, true, true, true, true, true, true, false, false, false, false, false, false, false, false, false, false]) rfl rfl (by kernel_rfl) (fun _ _ _ h => h) rfl (Or.inl ⟨by rfl, ?_⟩) ?_ rfl ?_
            rotate_left 2
            · intro w hS; clear hS; go_simp; rfl
            · simp only [List.setIfInBounds_toArray, List.set_cons_succ, List.set_cons_zero]; rfl
            refine wpAnyK_takeL (i := 18) (d := 34) (v := ?_) (T' := ?_) (listed' := #[true, true, true, true, true, true, true, true, true, true, true, true, true, true, true, true, true, true, true, false, false, false, false, false, false, false, false, false]) rfl rfl (by kernel_rfl) (fun _ _ _ h => h) rfl (Or.inl ⟨by rfl, ?_⟩) ?_ rfl ?_
            rotate_left 2
            · intro w hS; clear hS; go_simp; rfl
            · simp only [List.setIfInBounds_toArray, List.set_cons_succ, List.set_cons_zero]; rfl
            refine wpAnyK_takeL (i := 19) (d := 35) (v := ?_) (T' := ?_) (listed' := #[true, true, true, true, true, true, true, true, true, true, true, true, true, true, true, true, true, true, true, true, false, false, false, false, false, false, false, false]) rfl rfl (by kernel_rfl) (fun _ _ _ h => h) rfl (Or.inl ⟨by rfl, ?_⟩) ?_ rfl ?_
            rotate_left 2
            · intro w hS; subst hS; go_simp; rfl
            · simp only [List.setIfInBounds_toArray, List.set_cons_succ, List.set_cons_zero]; rfl
            refine wpAnyK_takeL (i := 20) (d := 36) (v := ?_) (T' := ?_) (listed' := #[true, true, true, true, true, true, true, true, true, true, true, true, true, true, true, true, true, true, true, true, true, false, false, false, false, false, false, false]) rfl rfl (by kernel_rfl) (fun _ _ _ h => h) rfl (Or.inl ⟨by rfl, ?_⟩) ?_ rfl ?_
            rotate_left 2
            · intro w hS; clear hS; go_simp; rfl
            · simp only [List.setIfInBounds_toArray, List.set_cons_succ, List.set_cons_zero]; rfl
            refine wpAnyK_takeL (i := 21) (d := 37) (v := ?_) (T' := ?_) (listed' := #[true, true, true, true, true, true, true, true, true, true, true, true, true, true, true, true, true, true, true, true, true, true, false, false, false, false, false, false]) rfl rfl (by kernel_rfl) (fun _ _ _ h => h) rfl (Or.inl ⟨by rfl, ?_⟩) ?_ rfl ?_
            rotate_left 2
            · intro w hS; clear hS; go_simp; rfl
            · simp only [List.setIfInBounds_toArray, List.set_cons_succ, List.set_cons_zero]; rfl
            refine wpAnyK_takeL (i := 22) (d := 38) (v := ?_) (T' := ?_) (listed' := #[true, true, true, true, true, true, true, true, true, true, true, true, true, true, true, true, true, true, true, true, true, true, true, false, false, false, false, false]) rfl rfl (by kernel_rfl) (fun _ _ _ h => h) rfl (Or.inl ⟨by rfl, ?_⟩) ?_ rfl ?_
            rotate_left 2
            · intro w hS; clear hS; go_simp; rw [HWR.out]
            · simp only [List.setIfInBounds_toArray, List.set_cons_succ, List.set_cons_zero]; rfl
            refine wpAnyK_takeL (i := 23) (d := 39) (v := ?_) (T' := ?_) (listed' := #[true, true, true, true, true, true, true, true, true, true, true, true, true, true, true, true, true, true, true, true, true, true, true, true, false, false, false, false]) rfl rfl (by kernel_rfl) (fun _ _ _ h => h) rfl (Or.inl ⟨by rfl, ?_⟩) ?_ rfl ?_
            rotate_left 2
            · intro w hS; clear hS; go_simp; rfl
            · simp only [List.setIfInBounds_toArray, List.set_cons_succ, List.set_cons_zero]; rfl
            refine wpAnyK_takeL (i := 24) (d := 40) (v := ?_) (T' := ?_) (listed' := #[true, true, true, true, true, true, true, true, true, true, true, true, true, true, true, true, true, true, true, true, true, true, true, true, true, false, false, false]) rfl rfl (by kernel_rfl) (fun _ _ _ h => h) rfl (Or.inl ⟨by rfl, ?_⟩) ?_ rfl ?_
            rotate_left 2
            · intro w hS; subst hS; go_simp; rfl
            · simp only [List.setIfInBounds_toArray, List.set_cons_succ, List.set_cons_zero]; rfl
            refine wpAnyK_takeL (i := 25) (d := 41) (v := ?_) (T' := ?_) (listed' := #[true, true, true, true, true, true, true, true, true, true, true, true, true, true, true, true, true, true, true, true, true, true, true, true, true, true, false, false]) rfl rfl (by kernel_rfl) (fun _ _ _ h => h) rfl (Or.inl ⟨by rfl, ?_⟩) ?_ rfl ?_
            rotate_left 2
            · intro w hS; clear hS; go_simp; rw [HZ2.out]
            · simp only [List.setIfInBounds_toArray, List.set_cons_succ, List.set_cons_zero]; rfl
            refine wpAnyK_takeL (i := 26) (d := 42) (v := ?_) (T' := ?_) (listed' := #[true, true, true, true, true, true, true, true, true, true, true, true, true, true, true, true, true, true, true, true, true, true, true, true, true, true, true, false]) rfl rfl (by kernel_rfl) (fun _ _ _ h => h) rfl (Or.inl ⟨by rfl, ?_⟩) ?_ rfl ?_
            rotate_left 2
            · intro w hS; clear hS; go_simp; rfl
            · simp only [List.setIfInBounds_toArray, List.set_cons_succ, List.set_cons_zero]; rfl
            refine wpAnyK_oneL (i := 27) (listed' := #[true, true, true, true, true, true, true, true, true, true, true, true, true, true, true, true, true, true, true, true, true, true, true, true, true, true, true, true]) (by kernel_rfl) rfl (by rfl) rfl ?_
            intro K hK
            go_simp
            refine hK _ _ (fun h => Bool.noConfusion (show true = false from h)) ?_
            clear hK K
            refine wpAnyK_done (by kernel_rfl) ?_ _
            go_wp2
            refine region_KL (fuel := 22) (listed := #[false, false, false, false, false, false, false, false, false, false, false, false, false, false, false, false, false, false, false, false, false, false]) (fun X => X = wr.drew.drew) 21 (by kernel_rfl) rfl (by kernel_rfl) ?_
            refine wpAnyK_takeL (i := 0) (d := 46) (v := ?_) (T' := ?_) (listed' := #[true, false, false, false, false, false, false, false, false, false, false, false, false, false, false, false, false, false, false, false, false, false]) rfl rfl (by kernel_rfl) (fun _ _ _ h => h) rfl (Or.inl ⟨by rfl, ?_⟩) ?_ rfl ?_
            rotate_left 2
            · intro w hS; clear hS; go_simp; rfl
            · simp only [List.setIfInBounds_toArray, List.set_cons_succ, List.set_cons_zero]; rfl
            refine wpAnyK_takeL (i := 1) (d := 47) (v := ?_) (T' := ?_) (listed' := #[true, true, false, false, false, false, false, false, false, false, false, false, false, false, false, false, false, false, false, false, false, false]) rfl rfl (by kernel_rfl) (fun _ _ _ h => h) rfl (Or.inl ⟨by rfl, ?_⟩) ?_ rfl ?_
            rotate_left 2
            · intro w hS; clear hS; go_simp; rfl
            · simp only [List.setIfInBounds_toArray, List.set_cons_succ, List.set_cons_zero]; rfl
            refine wpAnyK_takeL (i := 2) (d := 48) (v := ?_) (T' := ?_) (listed' := #[true, true, true, false, false, false, false, false, false, false, false, false, false, false, false, false, false, false, false, false, false, false]) rfl rfl (by kernel_rfl) (fun _ _ _ h => h) rfl (Or.inl ⟨by rfl, ?_⟩) ?_ rfl ?_
            rotate_left 2
            · intro w hS; clear hS; go_simp; rfl
            · simp only [List.setIfInBounds_toArray, List.set_cons_succ, List.set_cons_zero]; rfl
            refine wpAnyK_takeL (i := 3) (d := 49) (v := ?_) (T' := ?_) (listed' := #[true, true, true, true, false, false, false, false, false, false, false, false, false, false, false, false, false, false, false, false, false, false]) rfl rfl (by kernel_rfl) (fun _ _ _ h => h) rfl (Or.inl ⟨by rfl, ?_⟩) ?_ rfl ?_
            rotate_left 2
            · intro w hS; clear hS; go_simp; rfl
            · simp only [List.setIfInBounds_toArray, List.set_cons_succ, List.set_cons_zero]; rfl
            refine wpAnyK_takeL (i := 4) (d := 50) (v := ?_) (T' := ?_) (listed' := #[true, true, true, true, true, false, false, false, false, false, false, false, false, false, false, false, false, false, false, false, false, false]) rfl rfl (by kernel_rfl) (fun _ _ _ h => h) rfl (Or.inl ⟨by rfl, ?_⟩) ?_ rfl ?_
            rotate_left 2
            · intro w hS; clear hS; go_simp; rfl
            · simp only [List.setIfInBounds_toArray, List.set_cons_succ, List.set_cons_zero]; rfl
            refine wpAnyK_takeL (i := 5) (d := 51) (v := ?_) (T' := ?_) (listed' := #[true, true, true, true, true, true, false, false, false, false, false, false, false, false, false, false, false, false, false, false, false, false]) rfl rfl (by kernel_rfl) (fun _ _ _ h => h) rfl (Or.inl ⟨by rfl, ?_⟩) ?_ rfl ?_
            rotate_left 2
            · intro w hS; clear hS; go_simp; rfl
            · simp only [List.setIfInBounds_toArray, List.set_cons_succ, List.set_cons_zero]; rfl
            refine wpAnyK_takeL (i := 6) (d := 52) (v := ?_) (T' := ?_) (listed' := #[true, true, true, true, true, true, true, false, false, false, false, false, false, false, false, false, false, false, false, false, false, false]) rfl rfl (by kernel_rfl) (fun _ _ _ h => h) rfl (Or.inl ⟨by rfl, ?_⟩) ?_ rfl ?_
            rotate_left 2
            · intro w hS; subst hS; go_simp; rfl
            · simp only [List.setIfInBounds_toArray, List.set_cons_succ, List.set_cons_zero]; rfl
            refine wpAnyK_takeL (i := 7) (d := 53) (v := ?_) (T' := ?_) (listed' := #[true, true, true, true, true, true, true, true, false, false, false, false, false, false, false, false, false, false, false, false, false, false]) rfl rfl (by kernel_rfl) (fun _ _ _ h => h) rfl (Or.inl ⟨by rfl, ?_⟩) ?_ rfl ?_
            rotate_left 2
            · intro w hS; clear hS; go_simp; rfl
            · simp only [List.setIfInBounds_toArray, List.set_cons_succ, List.set_cons_zero]; rfl
            refine wpAnyK_takeL (i := 8) (d := 54) (v := ?_) (T' := ?_) (listed' := #[true, true, true, true, true, true, true, true, true, false, false, false, false, false, false, false, false, false, false, false, false, false]) rfl rfl (by kernel_rfl) (fun _ _ _ h => h) rfl (Or.inl ⟨by rfl, ?_⟩) ?_ rfl ?_
            rotate_left 2
            · intro w hS; clear hS; go_simp; rfl
            · simp only [List.setIfInBounds_toArray, List.set_cons_succ, List.set_cons_zero]; rfl
            refine wpAnyK_takeL (i := 9) (d := 55) (v := ?_) (T' := ?_) (listed' := #[true, true, true, true, true, true, true, true, true, true, false, false, false, false, false, false, false, false, false, false, false, false]) rfl rfl (by kernel_rfl) (fun _ _ _ h => h) rfl (Or.inl ⟨by rfl, ?_⟩) ?_ rfl ?_
            rotate_left 2
            · intro w hS; clear hS; go_simp; rw [HQR.out]
            · simp only [List.setIfInBounds_toArray, List.set_cons_succ, List.set_cons_zero]; rfl
            refine wpAnyK_takeL (i := 10) (d := 56) (v := ?_) (T' := ?_) (listed' := #[true, true, true, true, true, true, true, true, true, true, true, false, false, false, false, false, false, false, false, false, false, false]) rfl rfl (by kernel_rfl) (fun _ _ _ h => h) rfl (Or.inl ⟨by rfl, ?_⟩) ?_ rfl ?_
            rotate_left 2
            · intro w hS; clear hS; go_simp; rw [if_pos (by omega)]
            · simp only [List.setIfInBounds_toArray, List.set_cons_succ, List.set_cons_zero]; rfl
            refine wpAnyK_takeL (i := 11) (d := 57) (v := ?_) (T' := ?_) (listed' := #[true, true, true, true, true, true, true, true, true, true, true, true, false, false, false, false, false, false, false, false, false, false]) rfl rfl (by kernel_rfl) (fun _ _ _ h => h) rfl (Or.inl ⟨by rfl, ?_⟩) ?_ rfl ?_
            rotate_left 2
            · intro w hS; clear hS; go_simp; rfl
            · simp only [List.setIfInBounds_toArray, List.set_cons_succ, List.set_cons_zero]; rfl
            refine wpAnyK_takeL (i := 12) (d := 58) (v := ?_) (T' := ?_) (listed' := #[true, true, true, true, true, true, true, true, true, true, true, true, true, false, false, false, false, false, false, false, false, false]) rfl rfl (by kernel_rfl) (fun _ _ _ h => h) rfl (Or.inl ⟨by rfl, ?_⟩) ?_ rfl ?_
            rotate_left 2
            · intro w hS; subst hS; go_simp; rfl
            · simp only [List.setIfInBounds_toArray, List.set_cons_succ, List.set_cons_zero]; rfl
            refine wpAnyK_takeL (i := 13) (d := 59) (v := ?_) (T' := ?_) (listed' := #[true, true, true, true, true, true, true, true, true, true, true, true, true, true, false, false, false, false, false, false, false, false]) rfl rfl (by kernel_rfl) (fun _ _ _ h => h) rfl (Or.inl ⟨by rfl, ?_⟩) ?_ rfl ?_
            rotate_left 2
            · intro w hS; clear hS; go_simp; rfl
            · simp only [List.setIfInBounds_toArray, List.set_cons_succ, List.set_cons_zero]; rfl
            refine wpAnyK_takeL (i := 14) (d := 60) (v := ?_) (T' := ?_) (listed' := #[true, true, true, true, true, true, true, true, true, true, true, true, true, true, true, false, false, false, false, false, false, false]) rfl rfl (by kernel_rfl) (fun _ _ _ h => h) rfl (Or.inl ⟨by rfl, ?_⟩) ?_ rfl ?_
            rotate_left 2
            · intro w hS; clear hS; go_simp; rfl
            · simp only [List.setIfInBounds_toArray, List.set_cons_succ, List.set_cons_zero]; rfl
            refine wpAnyK_takeL (i := 15) (d := 61) (v := ?_) (T' := ?_) (listed' := #[true, true, true, true, true, true, true, true, true, true, true, true, true, true, true, true, false, false, false, false, false, false]) rfl rfl (by kernel_rfl) (fun _ _ _ h => h) rfl (Or.inl ⟨by rfl, ?_⟩) ?_ rfl ?_
            rotate_left 2
            · intro w hS; clear hS; go_simp; rw [HQR.out]
            · simp only [List.setIfInBounds_toArray, List.set_cons_succ, List.set_cons_zero]; rfl
            refine wpAnyK_takeL (i := 16) (d := 62) (v := ?_) (T' := ?_) (listed' := #[true, true, true, true, true, true, true, true, true, true, true, true, true, true, true, true, true, false, false, false, false, false]) rfl rfl (by kernel_rfl) (fun _ _ _ h => h) rfl (Or.inl ⟨by rfl, ?_⟩) ?_ rfl ?_
            rotate_left 2
            · intro w hS; clear hS; go_simp; rw [if_pos (by omega)]
            · simp only [List.setIfInBounds_toArray, List.set_cons_succ, List.set_cons_zero]; rfl
            refine wpAnyK_takeL (i := 17) (d := 63) (v := ?_) (T' := ?_) (listed' := #[true, true, true, true, true, true, true, true, true, true, true, true, true, true, true, true, true, true, false, false, false, false]) rfl rfl (by kernel_rfl) (fun _ _ _ h => h) rfl (Or.inl ⟨by rfl, ?_⟩) ?_ rfl ?_
            rotate_left 2
            · intro w hS; clear hS; go_simp; rfl
            · simp only [List.setIfInBounds_toArray, List.set_cons_succ, List.set_cons_zero]; rfl
            refine wpAnyK_takeL (i := 18) (d := 64) (v := ?_) (T' := ?_) (listed' := #[true, true, true, true, true, true, true, true, true, true, true, true, true, true, true, true, true, true, true, false, false, false]) rfl rfl (by kernel_rfl) (fun _ _ _ h => h) rfl (Or.inl ⟨by rfl, ?_⟩) ?_ rfl ?_
            rotate_left 2
            · intro w hS; subst hS; go_simp; rfl
            · simp only [List.setIfInBounds_toArray, List.set_cons_succ, List.set_cons_zero]; rfl
            refine wpAnyK_takeL (i := 19) (d := 65) (v := ?_) (T' := ?_) (listed' := #[true, true, true, true, true, true, true, true, true, true, true, true, true, true, true, true, true, true, true, true, false, false]) rfl rfl (by kernel_rfl) (fun _ _ _ h => h) rfl (Or.inl ⟨by rfl, ?_⟩) ?_ rfl ?_
            rotate_left 2
            · intro w hS; clear hS; go_simp; rw [HFN.out]
            · simp only [List.setIfInBounds_toArray, List.set_cons_succ, List.set_cons_zero]; rfl
            refine wpAnyK_takeL (i := 20) (d := 66) (v := ?_) (T' := ?_) (listed' := #[true, true, true, true, true, true, true, true, true, true, true, true, true, true, true, true, true, true, true, true, true, false]) rfl rfl (by kernel_rfl) (fun _ _ _ h => h) rfl (Or.inl ⟨by rfl, ?_⟩) ?_ rfl ?_
            rotate_left 2
            · intro w hS; clear hS; go_simp; rfl
            · simp only [List.setIfInBounds_toArray, List.set_cons_succ, List.set_cons_zero]; rfl
            refine wpAnyK_oneL (i := 21) (listed' := #[true, true, true, true, true, true, true, true, true, true, true, true, true, true, true, true, true, true, true, true, true, true]) (by kernel_rfl) rfl (by rfl) rfl ?_
            intro K hK
            go_simp
            refine hK _ _ (fun h => Bool.noConfusion (show true = false from h)) ?_
            clear hK K
            refine wpAnyK_done (by kernel_rfl) ?_ _
            go_wp2
            go_roundw
            case rel => exact ⟨i + 1, rs' ++ [(f, n + 1)], p + 1 + 1, by omega, by go_num, by omega, by omega, Lib.hid (fun h => absurd h (by omega)), HKN, HLN, HF2, HO5, HG5⟩
            case measure => simp [intOf]; omega
          · rw [stepR_ne _ _ _ hzl2] at hF
            obtain ⟨h1, h2, h3, h4⟩ := HOD.out.last (n + 1)
            have HNE : Hid ((z == p + 1) = false) := Lib.hid (by simpa using hzl2)
            have HF2 := Lib.hid hF
            have HKN : Hid (∀ j, i + 1 = j + 1 → ∃ rs'' f' n', rs' ++ [(f, n)] ++ [(z, 1)] = rs'' ++ [(f', n')] ∧ f' + n' = z + 1 ∧ 0 ≤ f' ∧ 0 ≤ n' ∧ n' ≤ ((i + 1 : Nat) : Int) ∧ zs[j]? = some (z + 1 - 1)) := Lib.hid (fun j hj => ⟨rs' ++ [(f, n)], z, 1, rfl, rfl, by omega, by omega, by omega, by rw [show j = i by omega, HZZ.out, show z + 1 - 1 = z by omega]⟩)
            have HLN : Hid ((rs' ++ [(f, n)] ++ [(z, 1)]).length ≤ i + 1) := Lib.hid (by have := HLE2.out; have := HIK.out; simp; omega)
            have HRL : Hid ((rs' ++ [(f, n)]).length ≤ 1000000) := Lib.hid (by rw [HLL.out]; omega)
            have HZI : Hid (0 ≤ z ∧ z ≤ 1073741824) := Lib.hid (by omega)
            clear HF hF h4 HLL HZZ hD hzl2 HO hA hB
            generalize rs'.length = q at *
            go_wp2
            refine region_KL (fuel := 28) (listed := #[false, false, false, false, false, false, false, false, false, false, false, false, false, false, false, false, false, false, false, false, false, false, false, false, false, false, false, false]) (fun X => X = wr.drew) 27 (by kernel_rfl) rfl (by kernel_rfl) ?_
            refine wpAnyK_takeL (i := 0) (d := 16) (v := ?_) (T' := ?_) (listed' := #[true, false, false, false, false, false, false, false, false, false, false, false, false, false, false, false, false, false, false, false, false, false, false, false, false, false, false, false]) rfl rfl (by kernel_rfl) (fun _ _ _ h => h) rfl (Or.inl ⟨by rfl, ?_⟩) ?_ rfl ?_
            rotate_left 2
            · intro w hS; clear hS; go_simp; rfl
            · simp only [List.setIfInBounds_toArray, List.set_cons_succ, List.set_cons_zero]; rfl
            refine wpAnyK_takeL (i := 1) (d := 17) (v := ?_) (T' := ?_) (listed' := #[true, true, false, false, false, false, false, false, false, false, false, false, false, false, false, false, false, false, false, false, false, false, false, false, false, false, false, false]) rfl rfl (by kernel_rfl) (fun _ _ _ h => h) rfl (Or.inl ⟨by rfl, ?_⟩) ?_ rfl ?_
            rotate_left 2
            · intro w hS; clear hS; go_simp; rfl
            · simp only [List.setIfInBounds_toArray, List.set_cons_succ, List.set_cons_zero]; rfl
            refine wpAnyK_takeL (i := 2) (d := 18) (v := ?_) (T' := ?_) (listed' := #[true, true, true, false, false, false, false, false, false, false, false, false, false, false, false, false, false, false, false, false, false, false, false, false, false, false, false, false]) rfl rfl (by kernel_rfl) (fun _ _ _ h => h) rfl (Or.inl ⟨by rfl, ?_⟩) ?_ rfl ?_
            rotate_left 2
            · intro w hS; clear hS; go_simp; rfl
            · simp only [List.setIfInBounds_toArray, List.set_cons_succ, List.set_cons_zero]; rfl
            refine wpAnyK_takeL (i := 3) (d := 19) (v := ?_) (T' := ?_) (listed' := #[true, true, true, true, false, false, false, false, false, false, false, false, false, false, false, false, false, false, false, false, false, false, false, false, false, false, false, false]) rfl rfl (by kernel_rfl) (fun _ _ _ h => h) rfl (Or.inl ⟨by rfl, ?_⟩) ?_ rfl ?_
            rotate_left 2
            · intro w hS; subst hS; go_simp; rfl
            · simp only [List.setIfInBounds_toArray, List.set_cons_succ, List.set_cons_zero]; rfl
            refine wpAnyK_takeL (i := 4) (d := 20) (v := ?_) (T' := ?_) (listed' := #[true, true, true, true, true, false, false, false, false, false, false, false, false, false, false, false, false, false, false, false, false, false, false, false, false, false, false, false]) rfl rfl (by kernel_rfl) (fun _ _ _ h => h) rfl (Or.inl ⟨by rfl, ?_⟩) ?_ rfl ?_
            rotate_left 2
            · intro w hS; clear hS; go_simp; rw [HZ0.out]
            · simp only [List.setIfInBounds_toArray, List.set_cons_succ, List.set_cons_zero]; rfl
            refine wpAnyK_takeL (i := 5) (d := 21) (v := ?_) (T' := ?_) (listed' := #[true, true, true, true, true, true, false, false, false, false, false, false, false, false, false, false, false, false, false, false, false, false, false, false, false, false, false, false]) rfl rfl (by kernel_rfl) (fun _ _ _ h => h) rfl (Or.inl ⟨by rfl, ?_⟩) ?_ rfl ?_
            rotate_left 2
            · intro w hS; clear hS; go_simp; rfl
            · simp only [List.setIfInBounds_toArray, List.set_cons_succ, List.set_cons_zero]; rfl
            refine wpAnyK_takeL (i := 6) (d := 22) (v := ?_) (T' := ?_) (listed' := #[true, true, true, true, true, true, true, false, false, false, false, false, false, false, false, false, false, false, false, false, false, false, false, false, false, false, false, false]) rfl rfl (by kernel_rfl) (fun _ _ _ h => h) rfl (Or.inl ⟨by rfl, ?_⟩) ?_ rfl ?_
            rotate_left 2
            · intro w hS; clear hS; go_simp; rfl
            · simp only [List.setIfInBounds_toArray, List.set_cons_succ, List.set_cons_zero]; rfl
            refine wpAnyK_takeL (i := 7) (d := 23) (v := ?_) (T' := ?_) (listed' := #[true, true, true, true, true, true, true, true, false, false, false, false, false, false, false, false, false, false, false, false, false, false, false, false, false, false, false, false]) rfl rfl (by kernel_rfl) (fun _ _ _ h => h) rfl (Or.inl ⟨by rfl, ?_⟩) ?_ rfl ?_
            rotate_left 2
            · intro w hS; clear hS; go_simp; rfl
            · simp only [List.setIfInBounds_toArray, List.set_cons_succ, List.set_cons_zero]; rfl
            refine wpAnyK_takeL (i := 8) (d := 24) (v := ?_) (T' := ?_) (listed' := #[true, true, true, true, true, true, true, true, true, false, false, false, false, false, false, false, false, false, false, false, false, false, false, false, false, false, false, false]) rfl rfl (by kernel_rfl) (fun _ _ _ h => h) rfl (Or.inl ⟨by rfl, ?_⟩) ?_ rfl ?_
            rotate_left 2
            · intro w hS; clear hS; go_simp; rfl
            · simp only [List.setIfInBounds_toArray, List.set_cons_succ, List.set_cons_zero]; rfl
            refine wpAnyK_takeL (i := 9) (d := 25) (v := ?_) (T' := ?_) (listed' := #[true, true, true, true, true, true, true, true, true, true, false, false, false, false, false, false, false, false, false, false, false, false, false, false, false, false, false, false]) rfl rfl (by kernel_rfl) (fun _ _ _ h => h) rfl (Or.inl ⟨by rfl, ?_⟩) ?_ rfl ?_
            rotate_left 2
            · intro w hS; subst hS; go_simp; rfl
            · simp only [List.setIfInBounds_toArray, List.set_cons_succ, List.set_cons_zero]; rfl
            refine wpAnyK_takeL (i := 10) (d := 26) (v := ?_) (T' := ?_) (listed' := #[true, true, true, true, true, true, true, true, true, true, true, false, false, false, false, false, false, false, false, false, false, false, false, false, false, false, false, false]) rfl rfl (by kernel_rfl) (fun _ _ _ h => h) rfl (Or.inl ⟨by rfl, ?_⟩) ?_ rfl ?_
            rotate_left 2
            · intro w hS; clear hS; go_simp; rw [HZ1.out]
            · simp only [List.setIfInBounds_toArray, List.set_cons_succ, List.set_cons_zero]; rfl
            refine wpAnyK_takeL (i := 11) (d := 27) (v := ?_) (T' := ?_) (listed' := #[true, true, true, true, true, true, true, true, true, true, true, true, false, false, false, false, false, false, false, false, false, false, false, false, false, false, false, false]) rfl rfl (by kernel_rfl) (fun _ _ _ h => h) rfl (Or.inl ⟨by rfl, ?_⟩) ?_ rfl ?_
            rotate_left 2
            · intro w hS; clear hS; go_simp; rfl
            · simp only [List.setIfInBounds_toArray, List.set_cons_succ, List.set_cons_zero]; rfl
            refine wpAnyK_takeL (i := 12) (d := 28) (v := ?_) (T' := ?_) (listed' := #[true, true, true, true, true, true, true, true, true, true, true, true, true, false, false, false, false, false, false, false, false, false, false, false, false, false, false, false]) rfl rfl (by kernel_rfl) (fun _ _ _ h => h) rfl (Or.inl ⟨by rfl, ?_⟩) ?_ rfl ?_
            rotate_left 2
            · intro w hS; clear hS; go_simp; rfl
            · simp only [List.setIfInBounds_toArray, List.set_cons_succ, List.set_cons_zero]; rfl
            refine wpAnyK_takeL (i := 13) (d := 29) (v := ?_) (T' := ?_) (listed' := #[true, true, true, true, true, true, true, true, true, true, true, true, true, true, false, false, false, false, false, false, false, false, false, false, false, false, false, false]) rfl rfl (by kernel_rfl) (fun _ _ _ h => h) rfl (Or.inl ⟨by rfl, ?_⟩) ?_ rfl ?_
            rotate_left 2
            · intro w hS; clear hS; go_simp; rfl
            · simp only [List.setIfInBounds_toArray, List.set_cons_succ, List.set_cons_zero]; rfl
            refine wpAnyK_takeL (i := 14) (d := 30) (v := ?_) (T' := ?_) (listed' := #[true, true, true, true, true, true, true, true, true, true, true, true, true, true, true, false, false, false, false, false, false, false, false, false, false, false, false, false]) rfl rfl (by kernel_rfl) (fun _ _ _ h => h) rfl (Or.inl ⟨by rfl, ?_⟩) ?_ rfl ?_
            rotate_left 2
            · intro w hS; clear hS; go_simp; rfl
            · simp only [List.setIfInBounds_toArray, List.set_cons_succ, List.set_cons_zero]; rfl
            refine wpAnyK_takeL (i := 15) (d := 31) (v := ?_) (T' := ?_) (listed' := #[true, true, true, true, true, true, true, true, true, true, true, true, true, true, true, true, false, false, false, false, false, false, false, false, false, false, false, false]) rfl rfl (by kernel_rfl) (fun _ _ _ h => h) rfl (Or.inl ⟨by rfl, ?_⟩) ?_ rfl ?_
            rotate_left 2
            · intro w hS; clear hS; go_simp; rfl
            · simp only [List.setIfInBounds_toArray, List.set_cons_succ, List.set_cons_zero]; rfl
            refine wpAnyK_takeL (i := 16) (d := 32) (v := ?_) (T' := ?_) (listed' := #[true, true, true, true, true, true, true, true, true, true, true, true, true, true, true, true, true, false, false, false, false, false, false, false, false, false, false, false]) rfl rfl (by kernel_rfl) (fun _ _ _ h => h) rfl (Or.inl ⟨by rfl, ?_⟩) ?_ rfl ?_
            rotate_left 2
            · intro w hS; clear hS; go_simp; rfl
            · simp only [List.setIfInBounds_toArray, List.set_cons_succ, List.set_cons_zero]; rfl
            refine wpAnyK_takeL (i := 17) (d := 33) (v := ?_) (T' := ?_) (listed' := #[true, true, true, true, true, true, true, true, true, true, true, true, true, true, true, true, true, true, false, false, false, false, false, false, false, false, false, false]) rfl rfl (by kernel_rfl) (fun _ _ _ h => h) rfl (Or.inl ⟨by rfl, ?_⟩) ?_ rfl ?_
            rotate_left 2
            · intro w hS; clear hS; go_simp; rfl
            · simp only [List.setIfInBounds_toArray, List.set_cons_succ, List.set_cons_zero]; rfl
            refine wpAnyK_takeL (i := 18) (d := 34) (v := ?_) (T' := ?_) (listed' := #[true, true, true, true, true, true, true, true, true, true, true, true, true, true, true, true, true, true, true, false, false, false, false, false, false, false, false, false]) rfl rfl (by kernel_rfl) (fun _ _ _ h => h) rfl (Or.inl ⟨by rfl, ?_⟩) ?_ rfl ?_
            rotate_left 2
            · intro w hS; clear hS; go_simp; rfl
            · simp only [List.setIfInBounds_toArray, List.set_cons_succ, List.set_cons_zero]; rfl
            refine wpAnyK_takeL (i := 19) (d := 35) (v := ?_) (T' := ?_) (listed' := #[true, true, true, true, true, true, true, true, true, true, true, true, true, true, true, true, true, true, true, true, false, false, false, false, false, false, false, false]) rfl rfl (by kernel_rfl) (fun _ _ _ h => h) rfl (Or.inl ⟨by rfl, ?_⟩) ?_ rfl ?_
            rotate_left 2
            · intro w hS; subst hS; go_simp; rfl
            · simp only [List.setIfInBounds_toArray, List.set_cons_succ, List.set_cons_zero]; rfl
            refine wpAnyK_takeL (i := 20) (d := 36) (v := ?_) (T' := ?_) (listed' := #[true, true, true, true, true, true, true, true, true, true, true, true, true, true, true, true, true, true, true, true, true, false, false, false, false, false, false, false]) rfl rfl (by kernel_rfl) (fun _ _ _ h => h) rfl (Or.inl ⟨by rfl, ?_⟩) ?_ rfl ?_
            rotate_left 2
            · intro w hS; clear hS; go_simp; rfl
            · simp only [List.setIfInBounds_toArray, List.set_cons_succ, List.set_cons_zero]; rfl
            refine wpAnyK_takeL (i := 21) (d := 37) (v := ?_) (T' := ?_) (listed' := #[true, true, true, true, true, true, true, true, true, true, true, true, true, true, true, true, true, true, true, true, true, true, false, false, false, false, false, false]) rfl rfl (by kernel_rfl) (fun _ _ _ h => h) rfl (Or.inl ⟨by rfl, ?_⟩) ?_ rfl ?_
            rotate_left 2
            · intro w hS; clear hS; go_simp; rfl
            · simp only [List.setIfInBounds_toArray, List.set_cons_succ, List.set_cons_zero]; rfl
            refine wpAnyK_takeL (i := 22) (d := 38) (v := ?_) (T' := ?_) (listed' := #[true, true, true, true, true, true, true, true, true, true, true, true, true, true, true, true, true, true, true, true, true, true, true, false, false, false, false, false]) rfl rfl (by kernel_rfl) (fun _ _ _ h => h) rfl (Or.inl ⟨by rfl, ?_⟩) ?_ rfl ?_
            rotate_left 2
            · intro w hS; clear hS; go_simp; rw [HWR.out]
            · simp only [List.setIfInBounds_toArray, List.set_cons_succ, List.set_cons_zero]; rfl
            refine wpAnyK_takeL (i := 23) (d := 39) (v := ?_) (T' := ?_) (listed' := #[true, true, true, true, true, true, true, true, true, true, true, true, true, true, true, true, true, true, true, true, true, true, true, true, false, false, false, false]) rfl rfl (by kernel_rfl) (fun _ _ _ h => h) rfl (Or.inl ⟨by rfl, ?_⟩) ?_ rfl ?_
            rotate_left 2
            · intro w hS; clear hS; go_simp; rfl
            · simp only [List.setIfInBounds_toArray, List.set_cons_succ, List.set_cons_zero]; rfl
            refine wpAnyK_takeL (i := 24) (d := 40) (v := ?_) (T' := ?_) (listed' := #[true, true, true, true, true, true, true, true, true, true, true, true, true, true, true, true, true, true, true, true, true, true, true, true, true, false, false, false]) rfl rfl (by kernel_rfl) (fun _ _ _ h => h) rfl (Or.inl ⟨by rfl, ?_⟩) ?_ rfl ?_
            rotate_left 2
            · intro w hS; subst hS; go_simp; rfl
            · simp only [List.setIfInBounds_toArray, List.set_cons_succ, List.set_cons_zero]; rfl
            refine wpAnyK_takeL (i := 25) (d := 41) (v := ?_) (T' := ?_) (listed' := #[true, true, true, true, true, true, true, true, true, true, true, true, true, true, true, true, true, true, true, true, true, true, true, true, true, true, false, false]) rfl rfl (by kernel_rfl) (fun _ _ _ h => h) rfl (Or.inl ⟨by rfl, ?_⟩) ?_ rfl ?_
            rotate_left 2
            · intro w hS; clear hS; go_simp; rw [HZ2.out]
            · simp only [List.setIfInBounds_toArray, List.set_cons_succ, List.set_cons_zero]; rfl
            refine wpAnyK_takeL (i := 26) (d := 42) (v := ?_) (T' := ?_) (listed' := #[true, true, true, true, true, true, true, true, true, true, true, true, true, true, true, true, true, true, true, true, true, true, true, true, true, true, true, false]) rfl rfl (by kernel_rfl) (fun _ _ _ h => h) rfl (Or.inl ⟨by rfl, ?_⟩) ?_ rfl ?_
            rotate_left 2
            · intro w hS; clear hS; go_simp; rfl
            · simp only [List.setIfInBounds_toArray, List.set_cons_succ, List.set_cons_zero]; rfl
            refine wpAnyK_oneL (i := 27) (listed' := #[true, true, true, true, true, true, true, true, true, true, true, true, true, true, true, true, true, true, true, true, true, true, true, true, true, true, true, true]) (by kernel_rfl) rfl (by rfl) rfl ?_
            intro K hK
            go_simp
            refine hK _ _ (fun h => Bool.noConfusion (show true = false from h)) ?_
            clear hK K
            refine wpAnyK_done (by kernel_rfl) ?_ _
            go_wp2
            refine region_KL (fuel := 22) (listed := #[false, false, false, false, false, false, false, false, false, false, false, false, false, false, false, false, false, false, false, false, false, false]) (fun X => X = wr.drew.drew) 21 (by kernel_rfl) rfl (by kernel_rfl) ?_
            refine wpAnyK_takeL (i := 0) (d := 46) (v := ?_) (T' := ?_) (listed' := #[true, false, false, false, false, false, false, false, false, false, false, false, false, false, false, false, false, false, false, false, false, false]) rfl rfl (by kernel_rfl) (fun _ _ _ h => h) rfl (Or.inl ⟨by rfl, ?_⟩) ?_ rfl ?_
            rotate_left 2
            · intro w hS; clear hS; go_simp; rfl
            · simp only [List.setIfInBounds_toArray, List.set_cons_succ, List.set_cons_zero]; rfl
            refine wpAnyK_takeL (i := 1) (d := 47) (v := ?_) (T' := ?_) (listed' := #[true, true, false, false, false, false, false, false, false, false, false, false, false, false, false, false, false, false, false, false, false, false]) rfl rfl (by kernel_rfl) (fun _ _ _ h => h) rfl (Or.inl ⟨by rfl, ?_⟩) ?_ rfl ?_
            rotate_left 2
            · intro w hS; clear hS; go_simp; rfl
            · simp only [List.setIfInBounds_toArray, List.set_cons_succ, List.set_cons_zero]; rfl
            refine wpAnyK_takeL (i := 2) (d := 48) (v := ?_) (T' := ?_) (listed' := #[true, true, true, false, false, false, false, false, false, false, false, false, false, false, false, false, false, false, false, false, false, false]) rfl rfl (by kernel_rfl) (fun _ _ _ h => h) rfl (Or.inl ⟨by rfl, ?_⟩) ?_ rfl ?_
            rotate_left 2
            · intro w hS; clear hS; go_simp; rfl
            · simp only [List.setIfInBounds_toArray, List.set_cons_succ, List.set_cons_zero]; rfl
            refine wpAnyK_takeL (i := 3) (d := 49) (v := ?_) (T' := ?_) (listed' := #[true, true, true, true, false, false, false, false, false, false, false, false, false, false, false, false, false, false, false, false, false, false]) rfl rfl (by kernel_rfl) (fun _ _ _ h => h) rfl (Or.inl ⟨by rfl, ?_⟩) ?_ rfl ?_
            rotate_left 2
            · intro w hS; clear hS; go_simp; rfl
            · simp only [List.setIfInBounds_toArray, List.set_cons_succ, List.set_cons_zero]; rfl
            refine wpAnyK_takeL (i := 4) (d := 50) (v := ?_) (T' := ?_) (listed' := #[true, true, true, true, true, false, false, false, false, false, false, false, false, false, false, false, false, false, false, false, false, false]) rfl rfl (by kernel_rfl) (fun _ _ _ h => h) rfl (Or.inl ⟨by rfl, ?_⟩) ?_ rfl ?_
            rotate_left 2
            · intro w hS; clear hS; go_simp; rfl
            · simp only [List.setIfInBounds_toArray, List.set_cons_succ, List.set_cons_zero]; rfl
            refine wpAnyK_takeL (i := 5) (d := 51) (v := ?_) (T' := ?_) (listed' := #[true, true, true, true, true, true, false, false, false, false, false, false, false, false, false, false, false, false, false, false, false, false]) rfl rfl (by kernel_rfl) (fun _ _ _ h => h) rfl (Or.inl ⟨by rfl, ?_⟩) ?_ rfl ?_
            rotate_left 2
            · intro w hS; clear hS; go_simp; rfl
            · simp only [List.setIfInBounds_toArray, List.set_cons_succ, List.set_cons_zero]; rfl
            refine wpAnyK_takeL (i := 6) (d := 52) (v := ?_) (T' := ?_) (listed' := #[true, true, true, true, true, true, true, false, false, false, false, false, false, false, false, false, false, false, false, false, false, false]) rfl rfl (by kernel_rfl) (fun _ _ _ h => h) rfl (Or.inl ⟨by rfl, ?_⟩) ?_ rfl ?_
            rotate_left 2
            · intro w hS; subst hS; go_simp; rfl
            · simp only [List.setIfInBounds_toArray, List.set_cons_succ, List.set_cons_zero]; rfl
            refine wpAnyK_takeL (i := 7) (d := 53) (v := ?_) (T' := ?_) (listed' := #[true, true, true, true, true, true, true, true, false, false, false, false, false, false, false, false, false, false, false, false, false, false]) rfl rfl (by kernel_rfl) (fun _ _ _ h => h) rfl (Or.inl ⟨by rfl, ?_⟩) ?_ rfl ?_
            rotate_left 2
            · intro w hS; clear hS; go_simp; rfl
            · simp only [List.setIfInBounds_toArray, List.set_cons_succ, List.set_cons_zero]; rfl
            refine wpAnyK_takeL (i := 8) (d := 54) (v := ?_) (T' := ?_) (listed' := #[true, true, true, true, true, true, true, true, true, false, false, false, false, false, false, false, false, false, false, false, false, false]) rfl rfl (by kernel_rfl) (fun _ _ _ h => h) rfl (Or.inl ⟨by rfl, ?_⟩) ?_ rfl ?_
            rotate_left 2
            · intro w hS; clear hS; go_simp; rfl
            · simp only [List.setIfInBounds_toArray, List.set_cons_succ, List.set_cons_zero]; rfl
            refine wpAnyK_takeL (i := 9) (d := 55) (v := ?_) (T' := ?_) (listed' := #[true, true, true, true, true, true, true, true, true, true, false, false, false, false, false, false, false, false, false, false, false, false]) rfl rfl (by kernel_rfl) (fun _ _ _ h => h) rfl (Or.inl ⟨by rfl, ?_⟩) ?_ rfl ?_
            rotate_left 2
            · intro w hS; clear hS; go_simp; rw [HQR.out]
            · simp only [List.setIfInBounds_toArray, List.set_cons_succ, List.set_cons_zero]; rfl
            refine wpAnyK_takeL (i := 10) (d := 56) (v := ?_) (T' := ?_) (listed' := #[true, true, true, true, true, true, true, true, true, true, true, false, false, false, false, false, false, false, false, false, false, false]) rfl rfl (by kernel_rfl) (fun _ _ _ h => h) rfl (Or.inl ⟨by rfl, ?_⟩) ?_ rfl ?_
            rotate_left 2
            · intro w hS; clear hS; go_simp; rw [if_pos (by omega)]
            · simp only [List.setIfInBounds_toArray, List.set_cons_succ, List.set_cons_zero]; rfl
            refine wpAnyK_takeL (i := 11) (d := 57) (v := ?_) (T' := ?_) (listed' := #[true, true, true, true, true, true, true, true, true, true, true, true, false, false, false, false, false, false, false, false, false, false]) rfl rfl (by kernel_rfl) (fun _ _ _ h => h) rfl (Or.inl ⟨by rfl, ?_⟩) ?_ rfl ?_
            rotate_left 2
            · intro w hS; clear hS; go_simp; rfl
            · simp only [List.setIfInBounds_toArray, List.set_cons_succ, List.set_cons_zero]; rfl
            refine wpAnyK_takeL (i := 12) (d := 58) (v := ?_) (T' := ?_) (listed' := #[true, true, true, true, true, true, true, true, true, true, true, true, true, false, false, false, false, false, false, false, false, false]) rfl rfl (by kernel_rfl) (fun _ _ _ h => h) rfl (Or.inl ⟨by rfl, ?_⟩) ?_ rfl ?_
            rotate_left 2
            · intro w hS; subst hS; go_simp; rfl
            · simp only [List.setIfInBounds_toArray, List.set_cons_succ, List.set_cons_zero]; rfl
            refine wpAnyK_takeL (i := 13) (d := 59) (v := ?_) (T' := ?_) (listed' := #[true, true, true, true, true, true, true, true, true, true, true, true, true, true, false, false, false, false, false, false, false, false]) rfl rfl (by kernel_rfl) (fun _ _ _ h => h) rfl (Or.inl ⟨by rfl, ?_⟩) ?_ rfl ?_
            rotate_left 2
            · intro w hS; clear hS; go_simp; rfl
            · simp only [List.setIfInBounds_toArray, List.set_cons_succ, List.set_cons_zero]; rfl
            refine wpAnyK_takeL (i := 14) (d := 60) (v := ?_) (T' := ?_) (listed' := #[true, true, true, true, true, true, true, true, true, true, true, true, true, true, true, false, false, false, false, false, false, false]) rfl rfl (by kernel_rfl) (fun _ _ _ h => h) rfl (Or.inl ⟨by rfl, ?_⟩) ?_ rfl ?_
            rotate_left 2
            · intro w hS; clear hS; go_simp; rfl
            · simp only [List.setIfInBounds_toArray, List.set_cons_succ, List.set_cons_zero]; rfl
            refine wpAnyK_takeL (i := 15) (d := 61) (v := ?_) (T' := ?_) (listed' := #[true, true, true, true, true, true, true, true, true, true, true, true, true, true, true, true, false, false, false, false, false, false]) rfl rfl (by kernel_rfl) (fun _ _ _ h => h) rfl (Or.inl ⟨by rfl, ?_⟩) ?_ rfl ?_
            rotate_left 2
            · intro w hS; clear hS; go_simp; rw [HQR.out]
            · simp only [List.setIfInBounds_toArray, List.set_cons_succ, List.set_cons_zero]; rfl
            refine wpAnyK_takeL (i := 16) (d := 62) (v := ?_) (T' := ?_) (listed' := #[true, true, true, true, true, true, true, true, true, true, true, true, true, true, true, true, true, false, false, false, false, false]) rfl rfl (by kernel_rfl) (fun _ _ _ h => h) rfl (Or.inl ⟨by rfl, ?_⟩) ?_ rfl ?_
            rotate_left 2
            · intro w hS; clear hS; go_simp; rw [if_pos (by omega)]
            · simp only [List.setIfInBounds_toArray, List.set_cons_succ, List.set_cons_zero]; rfl
            refine wpAnyK_takeL (i := 17) (d := 63) (v := ?_) (T' := ?_) (listed' := #[true, true, true, true, true, true, true, true, true, true, true, true, true, true, true, true, true, true, false, false, false, false]) rfl rfl (by kernel_rfl) (fun _ _ _ h => h) rfl (Or.inl ⟨by rfl, ?_⟩) ?_ rfl ?_
            rotate_left 2
            · intro w hS; clear hS; go_simp; rfl
            · simp only [List.setIfInBounds_toArray, List.set_cons_succ, List.set_cons_zero]; rfl
            refine wpAnyK_takeL (i := 18) (d := 64) (v := ?_) (T' := ?_) (listed' := #[true, true, true, true, true, true, true, true, true, true, true, true, true, true, true, true, true, true, true, false, false, false]) rfl rfl (by kernel_rfl) (fun _ _ _ h => h) rfl (Or.inl ⟨by rfl, ?_⟩) ?_ rfl ?_
            rotate_left 2
            · intro w hS; subst hS; go_simp; rfl
            · simp only [List.setIfInBounds_toArray, List.set_cons_succ, List.set_cons_zero]; rfl
            refine wpAnyK_takeL (i := 19) (d := 65) (v := ?_) (T' := ?_) (listed' := #[true, true, true, true, true, true, true, true, true, true, true, true, true, true, true, true, true, true, true, true, false, false]) rfl rfl (by kernel_rfl) (fun _ _ _ h => h) rfl (Or.inl ⟨by rfl, ?_⟩) ?_ rfl ?_
            rotate_left 2
            · intro w hS; clear hS; go_simp; rw [HFN.out]
            · simp only [List.setIfInBounds_toArray, List.set_cons_succ, List.set_cons_zero]; rfl
            refine wpAnyK_takeL (i := 20) (d := 66) (v := ?_) (T' := ?_) (listed' := #[true, true, true, true, true, true, true, true, true, true, true, true, true, true, true, true, true, true, true, true, true, false]) rfl rfl (by kernel_rfl) (fun _ _ _ h => h) rfl (Or.inl ⟨by rfl, ?_⟩) ?_ rfl ?_
            rotate_left 2
            · intro w hS; clear hS; go_simp; rw [HNE.out]
            · simp only [List.setIfInBounds_toArray, List.set_cons_succ, List.set_cons_zero]; rfl
            refine wpAnyK_oneL (i := 21) (listed' := #[true, true, true, true, true, true, true, true, true, true, true, true, true, true, true, true, true, true, true, true, true, true]) (by kernel_rfl) rfl (by rfl) rfl ?_
            intro K hK
            go_simp
            refine hK _ _ (fun h => Bool.noConfusion (show true = false from h)) ?_
            clear hK K
            refine wpAnyK_done (by kernel_rfl) ?_ _
            go_wp2_with (at_builtin; refine app_runR Try.underlying46 info_rr rfl _ _ rfl w.heap.size _ (rs' ++ [(f, n)]) (z, 1) wr.drew.drew.heap.size _ rfl rfl (HOD.out.grown (gb_alloc _ _ none)) (heap_at_alloc wr.drew.drew _) (Nat.le_trans HGD2.out.size (by simp)) HRL.out ?_; go_must (intro v5 w5 ho5 hg5 hf5; have HO5 := Lib.hid ho5; have HG5 : Hid (w.grownBy w5 none) := Lib.hid (gb_trans (gb_same HGD2.out (gb_alloc wr.drew.drew _ none)) hg5 (fun j hj => .inr (HOD.out.lt j hj).1)); clear ho5 hg5 hf5))
            go_roundw
            case rel => exact ⟨i + 1, rs' ++ [(f, n)] ++ [(z, 1)], z + 1, by omega, by go_num, by have := HZI.out; omega, by have := HZI.out; omega, Lib.hid (fun h => absurd h (by omega)), HKN, HLN, HF2, HO5, HG5⟩
            case measure => simp [intOf]; omega
      · obtain rfl : i = zs.length := by omega
        have hF := HF.out
        rw [List.drop_length, runsGo] at hF
        have HF2 := Lib.hid hF
        clear hF
        go_wp2
        go_ret2
        rw [HF2.out]
        exact ⟨_, rfl, HO.out, HG.out⟩
end Go.Proofs.Ytpfeaeklenopdaa
