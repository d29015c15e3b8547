/-
  law.ExtentSpace: the walk.
-/
import Derived.Test.YtpfeaeklenopdaaEAwake
import Derived.Test.YtpfeaeklenopdaaESpM
import Derived.Test.YtpfeaeklenopdaaEFst
namespace Go.Proofs.Ytpfeaeklenopdaa
open Go.RowKit Go.Shelf

set_option maxRecDepth 100000 in
set_option maxHeartbeats 4000000 in
theorem lspace_any (v : Value) (l : List UInt8) (x y n : Int) (w : World) (hv : Rd w v l) (_hn1 : -9223372036854775808 ≤ n) (hn2 : n ≤ 9223372036854775807) :
    Calls Try.prog 10 #[v, .agg #[.int .i64 x, .int .i64 y], .int .i64 n] w (BoolQ true w) := by
  have HA := Lib.hid (awake_any)
  have HFW := Lib.hid (fun W (hg : w.grownBy W none) => few_any v l W (hv.grown hg))
  have HV := Lib.hid hv
  have hbx := heap_at_alloc w (.cells #[.int .i64 x, .int .i64 y] 24)
  obtain ⟨W0, hW0⟩ : ∃ W0, w.alloc (.cells #[.int .i64 x, .int .i64 y] 24) = W0 := ⟨_, rfl⟩
  have HG0 : Hid (w.grownBy W0 none) := Lib.hid (by rw [← hW0]; exact gb_alloc _ _ _)
  have HC : Hid (∀ W, W0.grownBy W none → W.cell? ⟨w.heap.size, 0, none⟩ = some (.int .i64 x) ∧ W.cell? ⟨w.heap.size, 1, none⟩ = some (.int .i64 y)) := Lib.hid (fun W hg => by
    have h := blk_kept hbx (by rw [hW0]; exact hg)
    exact ⟨cell_row h, cell_row h⟩)
  have HW0 := Lib.hid hW0
  obtain ⟨a, c, rfl⟩ := hv.len
  clear hv hbx hW0
  by_cases hl : l.length ≤ 40
  · have hd : decide ((l.length : Int) ≤ 40) = true := by simp; omega
    rw [hd] at HFW
    have HCl := Lib.hid (fun W (hg : w.grownBy W none) => clear_any _ l x y W (HV.out.grown hg) (by omega))
    have HTk := Lib.hid (fun W (hg : w.grownBy W none) => take_any _ l x y n W (HV.out.grown hg) (by omega) hn2)
    clear hd
    go_enter Try.func10, Try.ntmps10
    go_wp2_with fail
    rw [HW0.out]
    refine (HA.out _).mono ?_
    rintro e w1 ⟨rfl, hg1⟩
    have HG1 := Lib.hid (gb_same HG0.out hg1)
    obtain ⟨k0, k1⟩ := HC.out _ hg1
    have HG01 := Lib.hid hg1
    clear hg1
    by_cases hn : n < 1
    · clear hl
      go_wp2_with (go_at_call 12; refine (HFW.out _ HG1.out).mono ?_; rintro e w' ⟨rfl, rfl⟩)
      go_ret
      exact ⟨rfl, HG1.out⟩
    have hnI : ¬ n < 1 := hn
    by_cases hvb : validB l x y = true
    · obtain ⟨f, t, rfl, rfl, hft, ht⟩ := validB_spec hvb
      obtain ⟨m, rfl⟩ := Int.eq_ofNat_of_zero_le (show 0 ≤ n by omega)
      have hm : 1 ≤ m := by omega
      have hcs : clearS l (f : Int) (t : Int) = some (findL l f t false).length := by unfold clearS; rw [if_pos hvb, Int.toNat_natCast, Int.toNat_natCast]
      rw [takeO_ok hvb hm] at HTk
      rw [hcs] at HCl
      clear hcs
      unfold NumP at HCl
      simp only [codeS, Option.getD_some] at HCl
      by_cases hlen : (findL l f t false).length < m
      · rw [takeG_err hlen] at HTk
        have hlI : ((findL l f t false).length : Int) < (m : Int) := by omega
        generalize (findL l f t false).length = q at *
        clear hl hvb hft ht hm hlen
        go_wp2_with (first | (go_at_call 12; refine (HFW.out _ HG1.out).mono ?_; rintro e w' ⟨rfl, rfl⟩) | (go_at_call 13; refine (HCl.out _ HG1.out).mono ?_; go_must (rintro e w2 ⟨rfl, hg2⟩; have HG2 := Lib.hid (gb_same HG1.out hg2); have HG02 := Lib.hid (gb_same HG01.out hg2); obtain ⟨k2, k3⟩ := HC.out _ HG02.out; clear hg2)) | (go_at_call 24; refine (HTk.out _ HG2.out).mono ?_; go_must (rintro e w3 ⟨rfl, hg3⟩; have HG3 := Lib.hid (gb_same HG2.out hg3); clear hg3)))
        go_ret
        exact ⟨rfl, HG3.out⟩
      · have hlI : ¬ ((findL l f t false).length : Int) < (m : Int) := by omega
        have htg : takeG l f t m = .ok ((findL l f t false).take m, setAll l ((findL l f t false).take m)) := by unfold takeG; rw [if_neg hlen]
        rw [htg] at HTk
        clear htg
        obtain ⟨ls, hls⟩ : ∃ ls, (findL l f t false).take m = ls := ⟨_, rfl⟩
        rw [hls] at HTk
        have hll : ls.length = m := by rw [← hls, List.length_take]; omega
        have hsub : ∀ k ∈ ls, f ≤ k ∧ k < t ∧ bitN l k = false := fun k hk => mem_findL.1 (by rw [← hls] at hk; exact List.mem_of_mem_take hk)
        have hnd : ls.Nodup := by rw [← hls]; exact List.Nodup.sublist (List.take_sublist _ _) (findL_nodup _ _ _ _)
        have hidx : ∀ i z, ls[i]? = some z → (findL l f z false).length = i := fun i z h => by
          rw [← hls, List.getElem?_take] at h
          split at h
          · obtain ⟨d, rfl⟩ : ∃ d, t = f + d := ⟨t - f, by omega⟩
            exact findL_at h
          · cases h
        have hrel : relO (setAll l ls) (ns ls) = .ok l := by
          rw [relO_good (fun z hz => ?_)]
          · exact rel_back hnd (fun k hk => by have := hsub k hk; omega) (fun k hk => (hsub k hk).2.2)
          · unfold ns at hz
            rw [List.mem_map] at hz
            obtain ⟨k, hk, rfl⟩ := hz
            have := hsub k hk
            unfold hasB
            rw [setAll_len]
            simp
            omega
        have hcnt : (findL (setAll l ls) 0 (8 * (setAll l ls).length) true).length = (findL l 0 (8 * l.length) true).length + m := by
          rw [setAll_len, count_all hnd (fun k hk => by have := hsub k hk; omega) (fun k hk => (hsub k hk).2.2), hll]
        have hm320 : m ≤ 320 := by have := findL_len l f t false; omega
        have HREL := Lib.hid hrel
        have HCNT := Lib.hid hcnt
        have HSUB := Lib.hid hsub
        have HIDX := Lib.hid hidx
        have HLL := Lib.hid hll
        have HCO := Lib.hid (fun W (hg : w.grownBy W none) => count_any _ l W (HV.out.grown hg) (by omega))
        have HGE := Lib.hid (fun W (hg : w.grownBy W none) (k : Nat) => get_bit _ l k W (HV.out.grown hg) (by omega))
        have HCZ := Lib.hid (fun W (hg : w.grownBy W none) (z : Nat) => clear_any _ l (f : Int) (z : Int) W (HV.out.grown hg) (by omega))
        have HLT := Lib.hid ht
        have HL := Lib.hid hl
        have hcn : ((findL l 0 (8 * l.length) true).length : Int) ≤ 320 := by have := findL_len l 0 (8 * l.length) true; omega
        generalize (findL l f t false).length = q at *
        generalize (findL l 0 (8 * l.length) true).length = cn at *
        clear hl hvb hft ht hm hlen hls hll hsub hnd hidx hrel hcnt
        go_wp2_with (first | (go_at_call 12; refine (HFW.out _ HG1.out).mono ?_; rintro e w' ⟨rfl, rfl⟩) | (go_at_call 13; refine (HCl.out _ HG1.out).mono ?_; go_must (rintro e w2 ⟨rfl, hg2⟩; have HG2 := Lib.hid (gb_same HG1.out hg2); have HG02 := Lib.hid (gb_same HG01.out hg2); obtain ⟨k2, k3⟩ := HC.out _ HG02.out; clear hg2)) | (go_at_call 24; refine (HTk.out _ HG2.out).mono ?_; go_must (rintro e w3 ⟨lv, nv, rfl, hl3, hn3, hg3, _⟩; obtain ⟨al, cl, rfl⟩ := hl3.len; obtain ⟨an, cn2, rfl⟩ := hn3.rd.len; rw [ns_len, HLL.out] at hl3 ⊢; have HR := Lib.hid (release_any _ _ _ (ns ls) w3 hn3.rd hl3.rd (by rw [setAll_len]; have := HL.out; omega) (by rw [ns_len, HLL.out]; omega)); rw [HREL.out] at HR; have HLV := Lib.hid hl3; have HNV := Lib.hid hn3; have HG3 := Lib.hid (gb_same HG2.out hg3); have HG03 := Lib.hid (gb_same HG02.out hg3); obtain ⟨k4, k5⟩ := HC.out _ HG03.out; clear hg3 hl3 hn3)) | (go_at_call 27; refine HR.out.mono ?_; go_must (rintro e w4 ⟨v4, rfl, ho4, hg4⟩; have HS4 := Lib.hid (same_any v4 _ l l w4 ho4.rd (HV.out.grown (gb_same HG3.out hg4))); rw [beq_refl'] at HS4; have HG4 := Lib.hid (gb_same HG3.out hg4); have HG34 := Lib.hid hg4; have HG04 := Lib.hid (gb_same HG03.out hg4); have HCN := Lib.hid (count_any _ _ w4 (HNV.out.grown hg4).rd (by rw [setAll_len]; have := HL.out; omega)); rw [HCNT.out, Int.natCast_add] at HCN; clear ho4 hg4)) | (go_at_call 17; refine HS4.out.mono ?_; rintro e w' ⟨rfl, rfl⟩) | (go_at_call 20; first | ((with_reducible refine HCN.out.mono ?_); go_must (rintro e w5 ⟨rfl, hg5⟩; have HG5 := Lib.hid (gb_same HG4.out hg5); have HG45 := Lib.hid hg5; have HG05 := Lib.hid (gb_same HG04.out hg5); clear hg5)) | (refine (HCO.out _ HG5.out).mono ?_; go_must (rintro e w6 ⟨rfl, hg6⟩; have HG6 := Lib.hid (gb_same HG5.out hg6); have HG36 := Lib.hid (gb_same HG34.out (gb_same HG45.out hg6)); have HG06 := Lib.hid (gb_same HG05.out hg6); clear hg6))))
        have HCF := Lib.hid (fun W (hg : w6.grownBy W none) => (HC.out W (gb_same HG06.out hg)).1)
        have HL6 := Lib.hid (HLV.out.grown HG36.out)
        generalize decide ((m : Int) < 1) = q1
        generalize (setAll l ls).length = sl
        clear k0 k1 k2 k3 k4 k5 HC HG01 HG02 HG03 HG04 HG05 HG06 HG1 HG2 HG3 HG4 HG5 HG34 HG45 HG36 HTk HCl HR HCN HCO HS4 HREL HCNT HLV HNV HG0
        go_loopw [100] (fun u wr => ∃ i : Nat, i ≤ m ∧ u = .int .i64 (i : Int) ∧ Hid (w6.grownBy wr none)) (fun u _ => m - (intOf u).toNat)
        case atStart => exact ⟨0, Nat.zero_le _, rfl, Lib.hid (gb_refl _ _)⟩
        case round =>
          obtain ⟨i, hi, rfl, HG⟩ := hrel
          by_cases hlt : i < m
          · have hiI : (i : Int) < (m : Int) := by omega
            obtain ⟨z, hz⟩ : ∃ z, ls[i]? = some z := ⟨ls[i]'(by rw [HLL.out]; exact hlt), by simp⟩
            have hz2 := HSUB.out z (List.mem_of_getElem? hz)
            have hidx := HIDX.out i z hz
            obtain ⟨zg, off, rfl, _⟩ := (HL6.out.grown HG.out).rd.at (j := i) (x := .int .i64 (z : Int)) (by simp [ivs, ns, hz])
            have HSC : Hid (∀ W, wr.grownBy W none → W.cell? ⟨w.heap.size, 0, none⟩ = some (.int .i64 (f : Int)) ∧ W.cell? ⟨zg, off + i, none⟩ = some (.int .i64 (z : Int))) := Lib.hid (fun W hg => ⟨HCF.out W (gb_same HG.out hg), by
              obtain ⟨zg', off', he, hcell⟩ := (HL6.out.grown (gb_same HG.out hg)).rd.at (j := i) (x := .int .i64 (z : Int)) (by simp [ivs, ns, hz])
              cases he
              exact hcell⟩)
            have HS0 := Lib.hid (HSC.out _ (gb_drew wr none))
            have hzc := HCZ.out wr.drew (gb_same HG6.out (gb_same HG.out (gb_drew _ _))) z
            have hcz : clearS l (f : Int) (z : Int) = some i := by
              unfold clearS
              rw [if_pos (by unfold validB; have := HLT.out; simp; omega), Int.toNat_natCast, Int.toNat_natCast, hidx]
            rw [hcz] at hzc
            unfold NumP at hzc
            simp only [codeS, Option.getD_some] at hzc
            have HZC := Lib.hid hzc
            have hge := fun W (hg : wr.grownBy W none) => HGE.out W (gb_same HG6.out (gb_same HG.out hg)) z
            rw [hz2.2.2] at hge
            have HGZ := Lib.hid hge
            clear hz hz2 hidx hzc hcz hge
            go_wp2
            refine region_KL (fuel := 13) (listed := #[false, false, false, false, false, false, false, false, false, false, false, false, false]) (fun X => X.cell? ⟨w.heap.size, 0, none⟩ = some (.int .i64 (f : Int)) ∧ X.cell? ⟨zg, off + i, none⟩ = some (.int .i64 (z : Int))) 12 (by kernel_rfl) rfl (by kernel_rfl) ?_
            refine wpAnyK_takeL (i := 0) (d := 104) (v := ?_) (T' := ?_) (listed' := #[true, false, false, false, false, false, false, false, false, false, false, false, false]) rfl rfl (by kernel_rfl) (fun _ _ _ h => h) rfl (Or.inl ⟨by rfl, ?_⟩) ?_ HS0.out ?_
            rotate_left 2
            · intro w hS; clear hS; go_simp; rfl
            · simp only [List.setIfInBounds_toArray, List.set_cons_succ, List.set_cons_zero]; rfl
            refine wpAnyK_takeL (i := 1) (d := 105) (v := ?_) (T' := ?_) (listed' := #[true, true, false, false, false, false, false, false, false, false, false, false, false]) rfl rfl (by kernel_rfl) (fun _ _ _ h => h) rfl (Or.inl ⟨by rfl, ?_⟩) ?_ HS0.out ?_
            rotate_left 2
            · intro w hS; clear hS; go_simp; rfl
            · simp only [List.setIfInBounds_toArray, List.set_cons_succ, List.set_cons_zero]; rfl
            refine wpAnyK_takeL (i := 2) (d := 106) (v := ?_) (T' := ?_) (listed' := #[true, true, true, false, false, false, false, false, false, false, false, false, false]) rfl rfl (by kernel_rfl) (fun _ _ _ h => h) rfl (Or.inl ⟨by rfl, ?_⟩) ?_ HS0.out ?_
            rotate_left 2
            · intro w hS; have t0 := hS.1; clear hS; go_simp; rfl
            · simp only [List.setIfInBounds_toArray, List.set_cons_succ, List.set_cons_zero]; rfl
            refine wpAnyK_takeL (i := 3) (d := 107) (v := ?_) (T' := ?_) (listed' := #[true, true, true, true, false, false, false, false, false, false, false, false, false]) rfl rfl (by kernel_rfl) (fun _ _ _ h => h) rfl (Or.inl ⟨by rfl, ?_⟩) ?_ HS0.out ?_
            rotate_left 2
            · intro w hS; clear hS; go_simp; rfl
            · simp only [List.setIfInBounds_toArray, List.set_cons_succ, List.set_cons_zero]; rfl
            refine wpAnyK_takeL (i := 4) (d := 108) (v := ?_) (T' := ?_) (listed' := #[true, true, true, true, true, false, false, false, false, false, false, false, false]) rfl rfl (by kernel_rfl) (fun _ _ _ h => h) rfl (Or.inl ⟨by rfl, ?_⟩) ?_ HS0.out ?_
            rotate_left 2
            · intro w hS; clear hS; go_simp; rfl
            · simp only [List.setIfInBounds_toArray, List.set_cons_succ, List.set_cons_zero]; rfl
            refine wpAnyK_takeL (i := 5) (d := 109) (v := ?_) (T' := ?_) (listed' := #[true, true, true, true, true, true, false, false, false, false, false, false, false]) rfl rfl (by kernel_rfl) (fun _ _ _ h => h) rfl (Or.inl ⟨by rfl, ?_⟩) ?_ HS0.out ?_
            rotate_left 2
            · intro w hS; clear hS; go_simp; rfl
            · simp only [List.setIfInBounds_toArray, List.set_cons_succ, List.set_cons_zero]; rfl
            refine wpAnyK_takeL (i := 6) (d := 110) (v := ?_) (T' := ?_) (listed' := #[true, true, true, true, true, true, true, false, false, false, false, false, false]) rfl rfl (by kernel_rfl) (fun _ _ _ h => h) rfl (Or.inl ⟨by rfl, ?_⟩) ?_ HS0.out ?_
            rotate_left 2
            · intro w hS; have t0 := hS.2; clear hS; go_simp; rfl
            · simp only [List.setIfInBounds_toArray, List.set_cons_succ, List.set_cons_zero]; rfl
            refine wpAnyK_oneL (i := 7) (listed' := #[true, true, true, true, true, true, true, true, false, false, false, false, false]) (by kernel_rfl) rfl (by rfl) rfl ?_
            intro K hK
            go_simp
            refine HZC.out.mono ?_
            rintro e w5 ⟨rfl, hg5⟩
            have HG5 := Lib.hid (gb_same (gb_drew wr none) hg5)
            have HS5 := Lib.hid (HSC.out _ HG5.out)
            clear hg5
            refine hK _ _ (fun _ => HS5.out) ?_
            clear hK K
            refine wpAnyK_takeL (i := 8) (d := 103) (v := ?_) (T' := ?_) (listed' := #[true, true, true, true, true, true, true, true, true, false, false, false, false]) rfl rfl (by kernel_rfl) (fun _ _ _ h => h) rfl (Or.inl ⟨by rfl, ?_⟩) ?_ HS5.out ?_
            rotate_left 2
            · intro w hS; clear hS; go_simp; rfl
            · simp only [List.setIfInBounds_toArray, List.set_cons_succ, List.set_cons_zero]; rfl
            refine wpAnyK_takeL (i := 9) (d := 112) (v := ?_) (T' := ?_) (listed' := #[true, true, true, true, true, true, true, true, true, true, false, false, false]) rfl rfl (by kernel_rfl) (fun _ _ _ h => h) rfl (Or.inl ⟨by rfl, ?_⟩) ?_ HS5.out ?_
            rotate_left 2
            · intro w hS; clear hS; go_simp; rfl
            · simp only [List.setIfInBounds_toArray, List.set_cons_succ, List.set_cons_zero]; rfl
            refine wpAnyK_takeL (i := 10) (d := 113) (v := ?_) (T' := ?_) (listed' := #[true, true, true, true, true, true, true, true, true, true, true, false, false]) rfl rfl (by kernel_rfl) (fun _ _ _ h => h) rfl (Or.inl ⟨by rfl, ?_⟩) ?_ HS5.out ?_
            rotate_left 2
            · intro w hS; clear hS; go_simp; rfl
            · simp only [List.setIfInBounds_toArray, List.set_cons_succ, List.set_cons_zero]; rfl
            refine wpAnyK_takeL (i := 11) (d := 15) (v := ?_) (T' := ?_) (listed' := #[true, true, true, true, true, true, true, true, true, true, true, true, false]) rfl rfl (by kernel_rfl) (fun _ _ _ h => h) rfl (Or.inl ⟨by rfl, ?_⟩) ?_ HS5.out ?_
            rotate_left 2
            · intro w hS; clear hS; go_simp; rfl
            · simp only [List.setIfInBounds_toArray, List.set_cons_succ, List.set_cons_zero]; rfl
            refine wpAnyK_oneL (i := 12) (listed' := #[true, true, true, true, true, true, true, true, true, true, true, true, true]) (by kernel_rfl) rfl (by rfl) rfl ?_
            intro K hK
            go_simp
            refine hK _ _ (fun h => Bool.noConfusion (show true = false from h)) ?_
            clear hK K
            refine wpAnyK_done (by kernel_rfl) ?_ _
            have hz5 := HS5.out.2
            go_wp2_with (go_at_call 18; refine (HGZ.out _ HG5.out).mono ?_; rintro e w' ⟨rfl, rfl⟩)
            go_roundw
            case rel => exact ⟨i + 1, by omega, by go_num, Lib.hid (gb_same HG.out (gb_same HG5.out (gb_drew _ _)))⟩
            case measure => simp [intOf]; omega
          · obtain rfl : i = m := by omega
            go_wp2
            go_ret
            exact ⟨rfl, gb_same HG6.out HG.out⟩
    · have hvb2 : validB l x y = false := by simpa using hvb
      have hcs : clearS l x y = none := by unfold clearS; rw [if_neg hvb]
      rw [takeO_bad (.inl hvb2)] at HTk
      rw [hcs] at HCl
      unfold NumP at HCl
      simp only [codeS, Option.getD_none] at HCl
      clear hl hvb hvb2 hcs
      go_wp2_with (first | (go_at_call 12; refine (HFW.out _ HG1.out).mono ?_; rintro e w' ⟨rfl, rfl⟩) | (go_at_call 13; refine (HCl.out _ HG1.out).mono ?_; go_must (rintro e w2 ⟨rfl, hg2⟩; have HG2 := Lib.hid (gb_same HG1.out hg2); have HG02 := Lib.hid (gb_same HG01.out hg2); obtain ⟨k2, k3⟩ := HC.out _ HG02.out; clear hg2)) | (go_at_call 24; refine (HTk.out _ HG2.out).mono ?_; go_must (rintro e w3 ⟨rfl, hg3⟩; have HG3 := Lib.hid (gb_same HG2.out hg3); clear hg3)))
      go_ret
      exact ⟨rfl, HG3.out⟩
  · have hd : decide ((l.length : Int) ≤ 40) = false := by simp; omega
    rw [hd] at HFW
    clear hl hd
    go_enter Try.func10, Try.ntmps10
    go_wp2_with fail
    rw [HW0.out]
    refine (HA.out _).mono ?_
    rintro e w1 ⟨rfl, hg1⟩
    have HG1 := Lib.hid (gb_same HG0.out hg1)
    clear hg1
    go_wp2_with (go_at_call 12; refine (HFW.out _ HG1.out).mono ?_; rintro e w' ⟨rfl, rfl⟩)
    go_ret
    exact ⟨rfl, HG1.out⟩
end Go.Proofs.Ytpfeaeklenopdaa
