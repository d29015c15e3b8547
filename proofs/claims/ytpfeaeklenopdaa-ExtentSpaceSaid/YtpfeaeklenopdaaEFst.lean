/-
  law.ExtentFirst: the walk.
-/
import Derived.Test.YtpfeaeklenopdaaEAwake
import Derived.Test.YtpfeaeklenopdaaERAlloc
import Derived.Test.YtpfeaeklenopdaaETk
namespace Go.Proofs.Ytpfeaeklenopdaa
open Go.RowKit Go.Shelf

theorem gapS_least {l : List UInt8} {f t n a : Nat} (h : gapS l f t n = some a) : ∀ b, f ≤ b → b < a → okG l t n b = false := by
  unfold gapS at h
  intro b h1 h2
  rw [List.find?_eq_some_iff_getElem] at h
  obtain ⟨_, i, hi, hia, hall⟩ := h
  rw [List.getElem_range'] at hia
  have := hall (b - f) (by omega)
  rw [List.getElem_range'] at this
  have e : f + 1 * (b - f) = b := by omega
  rw [e] at this
  simpa using this
theorem clear_run {l : List UInt8} {a n : Nat} (h : findL l a (a + n) true = []) : ∀ j, a ≤ j → j < a + n → bitN l j = false := by
  intro j h1 h2
  cases hb : bitN l j
  · rfl
  · have hm : j ∈ findL l a (a + n) true := mem_findL.2 ⟨h1, h2, hb⟩
    rw [h] at hm
    cases hm
theorem run_clear {l : List UInt8} {a b : Nat} (h : ∀ j, a ≤ j → j < b → bitN l j = false) : findL l a b true = [] := by
  cases hf : findL l a b true with
  | nil => rfl
  | cons x xs =>
    have hm : x ∈ findL l a b true := by rw [hf]; exact List.mem_cons_self ..
    obtain ⟨h1, h2, h3⟩ := mem_findL.1 hm
    rw [h x h1 h2] at h3
    cases h3
theorem run_all {l : List UInt8} {a n : Nat} (h : findL l a (a + n) true = []) : (findL l a (a + n) false).length = n := by
  have h1 := clear_run h
  unfold findL
  rw [List.filter_eq_self.2]
  · simp
  · intro j hj
    rw [List.mem_range'_1] at hj
    rw [h1 j hj.1 (by omega)]
    rfl
theorem setRun_bit {l : List UInt8} {a : Nat} : ∀ {n : Nat}, a + n ≤ 8 * l.length → ∀ j, bitN (setRun l a n) j = if a ≤ j ∧ j < a + n then true else bitN l j
  | 0, _, j => by rw [setRun, if_neg (by omega)]
  | n + 1, h, j => by
    rw [setRun, bitN_set (by rw [setRun_len]; omega), setRun_bit (by omega) j]
    by_cases h1 : j = a + n
    · rw [if_pos h1, if_pos (by omega)]
    · rw [if_neg h1]
      by_cases h2 : a ≤ j ∧ j < a + n
      · rw [if_pos h2, if_pos (by omega)]
      · rw [if_neg h2, if_neg (by omega)]
theorem alloc_cases (l : List UInt8) (x y n : Int) : (∃ c, allocO l x y n = .error c ∧ c ≠ 0) ∨ ∃ f t m a : Nat, x = (f : Int) ∧ y = (t : Int) ∧ n = (m : Int) ∧ f ≤ t ∧ t ≤ 8 * l.length ∧ 1 ≤ m ∧ gapS l f t m = some a ∧ allocO l x y n = .ok (a, setRun l a m) ∧ ∃ q, takeO l x y n = .ok q := by
  by_cases hb : validB l x y = true
  · by_cases hn : 1 ≤ n
    · obtain ⟨f, t, rfl, rfl, hft, ht⟩ := validB_spec hb
      obtain ⟨m, rfl⟩ := Int.eq_ofNat_of_zero_le (show 0 ≤ n by omega)
      rw [allocO_ok hb (by omega), takeO_ok hb (by omega)]
      cases hg : gapS l f t m with
      | none => exact .inl ⟨13, allocG_none hg, by omega⟩
      | some a =>
        refine .inr ⟨f, t, m, a, rfl, rfl, rfl, hft, ht, by omega, hg, allocG_some hg, ?_⟩
        obtain ⟨h1, h2, h3⟩ := gapS_spec hg
        unfold takeG
        rw [if_neg]
        · exact ⟨_, rfl⟩
        · rw [findL_split l false h1 (show a ≤ t by omega), findL_split l false (show a ≤ a + m by omega) h2, List.length_append, List.length_append, run_all h3]
          omega
    · exact .inl ⟨1, allocO_bad (.inr (by omega)), by omega⟩
  · exact .inl ⟨1, allocO_bad (.inl (by simpa using hb)), by omega⟩
theorem run_snoc {l : List UInt8} {f k c : Nat} (h : ∀ j, k - c ≤ j → j < k → f ≤ j ∧ bitN l j = false) (hb : bitN l k = false) (hf : f ≤ k) (hck : c ≤ k) : ∀ j, k + 1 - (c + 1) ≤ j → j < k + 1 → f ≤ j ∧ bitN l j = false := fun j h1 h2 => by
  by_cases hj : j = k
  · subst hj; exact ⟨hf, hb⟩
  · exact h j (by omega) (by omega)
theorem get_bit (v : Value) (l : List UInt8) (k : Nat) (w : World) (hv : Rd w v l) (hl : l.length ≤ 1000000) :
    Calls Try.prog 18 #[v, .int .i64 (k : Int)] w fun e w' => e = .returned (.bool (bitN l k)) ∧ w' = w.drew := by
  have h := get_any v l k w hv hl
  unfold bitI at h
  simpa only [Int.toNat_natCast, show decide (0 ≤ (k : Int)) = true by simp, Bool.true_and] using h
theorem first_math {l : List UInt8} {f t m a k c : Nat} (h : gapS l f t m = some a) (hc : ∀ j, k - c ≤ j → j < k → f ≤ j ∧ bitN l j = false) (hck : c ≤ k) (hk : f ≤ k) (hb : bitN l k = false) (hcm : c + 1 = m) (hkt : k + 1 ≤ t) : a + m ≤ k + 1 := by
  rcases Nat.lt_or_ge k (a + m - 1) with hlt | hge
  · exfalso
    have hfa : f ≤ k - c := by
      rcases Nat.eq_zero_or_pos c with h0 | h0
      · omega
      · exact (hc (k - c) (Nat.le_refl _) (by omega)).1
    have h1 := gapS_least h (k - c) hfa (by omega)
    have h2 : okG l t m (k - c) = true := okG_all (by omega) (run_clear (fun j h3 h4 => by
      by_cases hj : j = k
      · rw [hj]; exact hb
      · exact (hc j h3 (by omega)).2))
    rw [h1] at h2
    cases h2
  · omega
set_option maxRecDepth 100000 in
set_option maxHeartbeats 4000000 in
theorem lfirst_any (v : Value) (l : List UInt8) (x y n : Int) (w : World) (hv : Rd w v l) (hn1 : -9223372036854775808 ≤ n) (hn2 : n ≤ 9223372036854775807) :
    Calls Try.prog 9 #[v, .agg #[.int .i64 x, .int .i64 y], .int .i64 n] w (BoolQ true w) := by
  have HA := Lib.hid (awake_any)
  have HFW := Lib.hid (fun W (hg : w.grownBy W none) => few_any v l W (hv.grown hg))
  have HV := Lib.hid hv
  have hbx := heap_at_alloc w (.cells #[.int .i64 x, .int .i64 y] 24)
  obtain ⟨W0, hW0⟩ : ∃ W0, w.alloc (.cells #[.int .i64 x, .int .i64 y] 24) = W0 := ⟨_, rfl⟩
  have HG0 : Hid (w.grownBy W0 none) := Lib.hid (by rw [← hW0]; exact gb_alloc _ _ _)
  have HC : Hid (∀ W, W0.grownBy W none → W.cell? ⟨w.heap.size, 0, none⟩ = some (.int .i64 x) ∧ W.cell? ⟨w.heap.size, 1, none⟩ = some (.int .i64 y)) := Lib.hid (fun W hg => by
    have h := blk_kept hbx (by rw [hW0]; exact hg)
    exact ⟨cell_row h, cell_row h⟩)
  have HW0 := Lib.hid hW0
  obtain ⟨a, c, rfl⟩ := hv.len
  clear hv hbx hW0
  by_cases hl : l.length ≤ 40
  · have hd : decide ((l.length : Int) ≤ 40) = true := by simp; omega
    rw [hd] at HFW
    have HAl := Lib.hid (fun W (hg : w.grownBy W none) => alloc_any _ l x y n W (HV.out.grown hg) (by omega) hn1 hn2)
    have HTk := Lib.hid (fun W (hg : w.grownBy W none) => take_any _ l x y n W (HV.out.grown hg) (by omega) hn2)
    have HAC := Lib.hid (alloc_cases l x y n)
    clear hd
    go_enter Try.func9, Try.ntmps9
    go_wp2_with fail
    rw [HW0.out]
    refine (HA.out _).mono ?_
    rintro e w1 ⟨rfl, hg1⟩
    have HG1 := Lib.hid (gb_same HG0.out hg1)
    obtain ⟨k0, k1⟩ := HC.out _ hg1
    have HG01 := Lib.hid hg1
    clear hg1
    rcases HAC.out with ⟨cc, ho, hne⟩ | ⟨f, t, m, a0, rfl, rfl, rfl, hft, ht, hm, hg, ho, q, hq⟩
    · rw [ho] at HAl
      have hcI : ¬ cc = 0 := hne
      clear ho hne hl
      go_wp2_with (first | (go_at_call 12; refine (HFW.out _ HG1.out).mono ?_; rintro e w' ⟨rfl, rfl⟩) | (go_at_call 22; refine (HAl.out _ HG1.out).mono ?_; go_must (rintro e w2 ⟨rfl, hg2⟩; have HG2 := Lib.hid (gb_same HG1.out hg2); have HG02 := Lib.hid (gb_same HG01.out hg2); obtain ⟨k2, k3⟩ := HC.out _ HG02.out; clear hg2)) | (go_at_call 24; refine (HTk.out _ HG2.out).mono ?_; go_must (intro e w3 hh; obtain ⟨lv3, v3, rfl, hl3, hr3, hg3⟩ := hh.use; have HG3 := Lib.hid (gb_same HG2.out hg3); clear hh hl3 hr3 hg3)))
      go_ret
      exact ⟨rfl, HG3.out⟩
    · rw [ho] at HAl
      rw [hq] at HTk
      obtain ⟨g1, g2, g3⟩ := gapS_spec hg
      have HLT := Lib.hid ht
      have HL := Lib.hid hl
      have hlI : (l.length : Int) ≤ 40 := by omega
      have HGP := Lib.hid hg
      have HSB := Lib.hid (fun j => setRun_bit (l := l) (a := a0) (n := m) (by omega) j)
      have HRC := Lib.hid (clear_run g3)
      have HSL := Lib.hid (setRun_len l a0 m)
      have HGB := Lib.hid (fun W (hg : w.grownBy W none) (k : Nat) => get_any _ l k W (HV.out.grown hg) (by omega))
      have hmI : ¬ (m : Int) < 1 := by omega
      have haf : ¬ (a0 : Int) < (f : Int) := by omega
      have hat : ¬ (m : Int) > (t : Int) - (a0 : Int) := by omega
      have htI : (t : Int) ≤ 320 := by omega
      have haI : (a0 : Int) + (m : Int) ≤ 320 := by omega
      have hfI : (f : Int) ≤ (a0 : Int) := by omega
      have ham : a0 + m ≤ t := g2
      clear ho hq hg hl hft g3
      go_wp2_with (first | (go_at_call 12; refine (HFW.out _ HG1.out).mono ?_; rintro e w' ⟨rfl, rfl⟩) | (go_at_call 22; refine (HAl.out _ HG1.out).mono ?_; go_must (rintro e w2 ⟨v2, rfl, ho2, hg2⟩; obtain ⟨a2, c2, rfl⟩ := ho2.rd.len; have HO2 := Lib.hid ho2; rw [HSL.out]; have HG2 := Lib.hid (gb_same HG1.out hg2); have HG02 := Lib.hid (gb_same HG01.out hg2); obtain ⟨k2, k3⟩ := HC.out _ HG02.out; clear hg2 ho2)) | (go_at_call 24; refine (HTk.out _ HG2.out).mono ?_; go_must (rintro e w3 ⟨lv, nv, rfl, _, _, hg3, _⟩; have HG3 := Lib.hid (gb_same HG2.out hg3); have HG23 := Lib.hid hg3; obtain ⟨k4, k5⟩ := HC.out _ (gb_same HG02.out hg3); have HG03 := Lib.hid (gb_same HG02.out hg3); clear hg3)))
      have HO3 : Hid (Rd w3 (.slice a2 l.length c2) (setRun l a0 m)) := Lib.hid (by have h := (HO2.out.grown HG23.out).rd; rw [HSL.out] at h; exact h)
      have HN := Lib.hid (fun W (hg : w3.grownBy W none) (k : Nat) => get_bit _ (setRun l a0 m) k W (HO3.out.grown hg) (by rw [HSL.out]; have := HL.out; omega))
      have HB0 := Lib.hid (fun W (hg : w3.grownBy W none) (k : Nat) => get_bit _ l k W (HV.out.grown (gb_same HG3.out hg)) (by have := HL.out; omega))
      have HCF := Lib.hid (fun W (hg : w3.grownBy W none) => (HC.out W (gb_same HG03.out hg)).1)
      clear k0 k1 k2 k3 k4 k5 HC HG01 HG02 HG03 HG1 HG2 HO2 HG23 HGB HAl HTk HAC HSL HG0
      generalize hT : 8 * l.length = T at *
      have hTI : 8 * (l.length : Int) = (T : Int) := by omega
      have hTm : (T : Int) ≤ 320 := by omega
      generalize decide ((m : Int) < 1) = q1
      generalize decide (a0 < f) = q2
      generalize decide ((t : Int) - (a0 : Int) < (m : Int)) = q3
      go_loopw [13, 14] (fun cv i wr => ∃ k c : Nat, k ≤ T ∧ i = .int .i64 (k : Int) ∧ cv = .int .i64 (c : Int) ∧ c ≤ k ∧ Hid (∀ j, k - c ≤ j → j < k → f ≤ j ∧ bitN l j = false) ∧ Hid (w3.grownBy wr none)) (fun _ i _ => T - (intOf i).toNat)
      case atStart => exact ⟨0, 0, Nat.zero_le _, rfl, rfl, Nat.le_refl _, Lib.hid (fun j h1 h2 => by omega), Lib.hid (gb_refl _ _)⟩
      case round =>
        obtain ⟨k, c0, hkT, rfl, rfl, hck, HCL, HG⟩ := hrel
        by_cases hlt : k < T
        · have hltI : (k : Int) < 8 * (l.length : Int) := by omega
          have x2 := HCF.out wr.drew.drew (gb_same HG.out (gb_same (gb_drew _ _) (gb_drew _ _)))
          have hn := HSB.out k
          have e0 := HN.out wr HG.out k
          have e1 := HB0.out wr.drew (gb_same HG.out (gb_drew _ _)) k
          have e2 := HB0.out wr.drew.drew (gb_same HG.out (gb_same (gb_drew _ _) (gb_drew _ _))) k
          by_cases hin : a0 ≤ k ∧ k < a0 + m
          · have hb := HRC.out k hin.1 hin.2
            have HB := Lib.hid hb
            have e3 := HB0.out wr HG.out k
            have e4 := HN.out wr.drew (gb_same HG.out (gb_drew _ _)) k
            rw [if_pos hin] at hn
            rw [hb] at e2 e3
            rw [hn] at e4
            have E2 := Lib.hid e2
            have E3 := Lib.hid e3
            have E4 := Lib.hid e4
            have h1 : (a0 : Int) ≤ (k : Int) := by omega
            have h2 : (k : Int) < (a0 : Int) + (m : Int) := by omega
            have h3 : ¬ (k : Int) < (f : Int) := by omega
            by_cases hcm : c0 + 1 = m
            · have h5 : a0 + m ≤ k + 1 := first_math HGP.out HCL.out hck (by omega) HB.out hcm (by omega)
              have h6 : ¬ (k : Int) < (a0 : Int) + (m : Int) - 1 := by omega
              clear e0 e1 e2 e3 e4 hb hn hin h5
              go_wp2_with (go_at_call 18; first | ((with_reducible refine E3.out.mono ?_); rintro e w' ⟨rfl, rfl⟩) | ((with_reducible refine E4.out.mono ?_); rintro e w' ⟨rfl, rfl⟩) | ((with_reducible refine E2.out.mono ?_); rintro e w' ⟨rfl, rfl⟩))
              go_roundw
              case rel => exact ⟨k + 1, c0 + 1, by omega, by go_num, by go_num, by omega, Lib.hid (run_snoc HCL.out HB.out (by omega) hck), Lib.hid (gb_same HG.out (gb_same (gb_same (gb_drew _ _) (gb_drew _ _)) (gb_drew _ _)))⟩
              case measure => simp [intOf]; omega
            · have h6 : ¬ ((c0 : Int) + 1 = (m : Int)) := by omega
              clear e0 e1 e2 e3 e4 hb hn hin
              go_wp2_with (go_at_call 18; first | ((with_reducible refine E3.out.mono ?_); rintro e w' ⟨rfl, rfl⟩) | ((with_reducible refine E4.out.mono ?_); rintro e w' ⟨rfl, rfl⟩) | ((with_reducible refine E2.out.mono ?_); rintro e w' ⟨rfl, rfl⟩))
              go_roundw
              case rel => exact ⟨k + 1, c0 + 1, by omega, by go_num, by go_num, by omega, Lib.hid (run_snoc HCL.out HB.out (by omega) hck), Lib.hid (gb_same HG.out (gb_same (gb_same (gb_drew _ _) (gb_drew _ _)) (gb_drew _ _)))⟩
              case measure => simp [intOf]; omega
          · rw [if_neg hin] at hn
            rw [hn] at e0
            cases hb : bitN l k
            · have HB := Lib.hid hb
              rw [hb] at e0 e1 e2
              have E0 := Lib.hid e0
              have E1 := Lib.hid e1
              have E2 := Lib.hid e2
              by_cases hka : k < a0
              · have h1 : ¬ (a0 : Int) ≤ (k : Int) := by omega
                by_cases hkf : k < f
                · have h3 : (k : Int) < (f : Int) := by omega
                  have h7 : ¬ ((0 : Int) = (m : Int)) := by omega
                  clear e0 e1 e2 hb hn hin
                  go_wp2_with (go_at_call 18; first | ((with_reducible refine E0.out.mono ?_); rintro e w' ⟨rfl, rfl⟩) | ((with_reducible refine E1.out.mono ?_); rintro e w' ⟨rfl, rfl⟩))
                  go_roundw
                  case rel => exact ⟨k + 1, 0, by omega, by go_num, by go_num, by omega, Lib.hid (fun j h1 h2 => by omega), Lib.hid (gb_same HG.out (gb_same (gb_drew _ _) (gb_drew _ _)))⟩
                  case measure => simp [intOf]; omega
                · have h3 : ¬ (k : Int) < (f : Int) := by omega
                  have h6 : ¬ ((c0 : Int) + 1 = (m : Int)) := by
                    intro he
                    have := first_math HGP.out HCL.out hck (by omega) HB.out (by omega) (by omega)
                    omega
                  clear e0 e1 e2 hb hn hin
                  go_wp2_with (go_at_call 18; first | ((with_reducible refine E0.out.mono ?_); rintro e w' ⟨rfl, rfl⟩) | ((with_reducible refine E1.out.mono ?_); rintro e w' ⟨rfl, rfl⟩) | ((with_reducible refine E2.out.mono ?_); rintro e w' ⟨rfl, rfl⟩))
                  go_roundw
                  case rel => exact ⟨k + 1, c0 + 1, by omega, by go_num, by go_num, by omega, Lib.hid (run_snoc HCL.out HB.out (by omega) hck), Lib.hid (gb_same HG.out (gb_same (gb_same (gb_drew _ _) (gb_drew _ _)) (gb_drew _ _)))⟩
                  case measure => simp [intOf]; omega
              · have h1 : (a0 : Int) ≤ (k : Int) := by omega
                have h2 : ¬ (k : Int) < (a0 : Int) + (m : Int) := by omega
                have h3 : ¬ (k : Int) < (f : Int) := by omega
                have h8 : ¬ (k : Int) < (a0 : Int) + (m : Int) - 1 := by omega
                by_cases hcm : c0 + 1 = m
                · have h9 : (c0 : Int) + 1 = (m : Int) := by omega
                  clear e0 e1 e2 hb hn hin
                  go_wp2_with (go_at_call 18; first | ((with_reducible refine E0.out.mono ?_); rintro e w' ⟨rfl, rfl⟩) | ((with_reducible refine E1.out.mono ?_); rintro e w' ⟨rfl, rfl⟩) | ((with_reducible refine E2.out.mono ?_); rintro e w' ⟨rfl, rfl⟩))
                  go_roundw
                  case rel => exact ⟨k + 1, c0 + 1, by omega, by go_num, by go_num, by omega, Lib.hid (run_snoc HCL.out HB.out (by omega) hck), Lib.hid (gb_same HG.out (gb_same (gb_same (gb_drew _ _) (gb_drew _ _)) (gb_drew _ _)))⟩
                  case measure => simp [intOf]; omega
                · have h9 : ¬ (c0 : Int) + 1 = (m : Int) := by omega
                  clear e0 e1 e2 hb hn hin
                  go_wp2_with (go_at_call 18; first | ((with_reducible refine E0.out.mono ?_); rintro e w' ⟨rfl, rfl⟩) | ((with_reducible refine E1.out.mono ?_); rintro e w' ⟨rfl, rfl⟩) | ((with_reducible refine E2.out.mono ?_); rintro e w' ⟨rfl, rfl⟩))
                  go_roundw
                  case rel => exact ⟨k + 1, c0 + 1, by omega, by go_num, by go_num, by omega, Lib.hid (run_snoc HCL.out HB.out (by omega) hck), Lib.hid (gb_same HG.out (gb_same (gb_same (gb_drew _ _) (gb_drew _ _)) (gb_drew _ _)))⟩
                  case measure => simp [intOf]; omega
            · rw [hb] at e0 e1 e2
              have E0 := Lib.hid e0
              have E1 := Lib.hid e1
              have E2 := Lib.hid e2
              have h7 : ¬ ((0 : Int) = (m : Int)) := by omega
              by_cases hka : k < a0
              · have h1 : ¬ (a0 : Int) ≤ (k : Int) := by omega
                by_cases hkf : k < f
                · have h3 : (k : Int) < (f : Int) := by omega
                  clear e0 e1 e2 hb hn hin
                  go_wp2_with (go_at_call 18; first | ((with_reducible refine E0.out.mono ?_); rintro e w' ⟨rfl, rfl⟩) | ((with_reducible refine E1.out.mono ?_); rintro e w' ⟨rfl, rfl⟩))
                  go_roundw
                  case rel => exact ⟨k + 1, 0, by omega, by go_num, by go_num, by omega, Lib.hid (fun j h1 h2 => by omega), Lib.hid (gb_same HG.out (gb_same (gb_drew _ _) (gb_drew _ _)))⟩
                  case measure => simp [intOf]; omega
                · have h3 : ¬ (k : Int) < (f : Int) := by omega
                  clear e0 e1 e2 hb hn hin
                  go_wp2_with (go_at_call 18; first | ((with_reducible refine E0.out.mono ?_); rintro e w' ⟨rfl, rfl⟩) | ((with_reducible refine E1.out.mono ?_); rintro e w' ⟨rfl, rfl⟩) | ((with_reducible refine E2.out.mono ?_); rintro e w' ⟨rfl, rfl⟩))
                  go_roundw
                  case rel => exact ⟨k + 1, 0, by omega, by go_num, by go_num, by omega, Lib.hid (fun j h1 h2 => by omega), Lib.hid (gb_same HG.out (gb_same (gb_same (gb_drew _ _) (gb_drew _ _)) (gb_drew _ _)))⟩
                  case measure => simp [intOf]; omega
              · have h1 : (a0 : Int) ≤ (k : Int) := by omega
                have h2 : ¬ (k : Int) < (a0 : Int) + (m : Int) := by omega
                have h3 : ¬ (k : Int) < (f : Int) := by omega
                clear e0 e1 e2 hb hn hin
                go_wp2_with (go_at_call 18; first | ((with_reducible refine E0.out.mono ?_); rintro e w' ⟨rfl, rfl⟩) | ((with_reducible refine E1.out.mono ?_); rintro e w' ⟨rfl, rfl⟩) | ((with_reducible refine E2.out.mono ?_); rintro e w' ⟨rfl, rfl⟩))
                go_roundw
                case rel => exact ⟨k + 1, 0, by omega, by go_num, by go_num, by omega, Lib.hid (fun j h1 h2 => by omega), Lib.hid (gb_same HG.out (gb_same (gb_same (gb_drew _ _) (gb_drew _ _)) (gb_drew _ _)))⟩
                case measure => simp [intOf]; omega
        · obtain rfl : k = T := by omega
          have hltI : ¬ (k : Int) < 8 * (l.length : Int) := by omega
          go_wp2
          go_ret
          exact ⟨rfl, gb_same HG3.out HG.out⟩
  · have hd : decide ((l.length : Int) ≤ 40) = false := by simp; omega
    rw [hd] at HFW
    clear hl hd
    go_enter Try.func9, Try.ntmps9
    go_wp2_with fail
    rw [HW0.out]
    refine (HA.out _).mono ?_
    rintro e w1 ⟨rfl, hg1⟩
    have HG1 := Lib.hid (gb_same HG0.out hg1)
    clear hg1
    go_wp2_with (go_at_call 12; refine (HFW.out _ HG1.out).mono ?_; rintro e w' ⟨rfl, rfl⟩)
    go_ret
    exact ⟨rfl, HG1.out⟩
end Go.Proofs.Ytpfeaeklenopdaa
