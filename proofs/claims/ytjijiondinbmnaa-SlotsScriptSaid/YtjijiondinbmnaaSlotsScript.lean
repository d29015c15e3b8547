/-
  law.SlotsScript: the walk.
-/
import Derived.Test.YtjijiondinbmnaaTDo
namespace Go.Proofs.Ytjijiondinbmnaa
open Go.RowKit

set_option maxRecDepth 100000 in
set_option maxHeartbeats 8000000 in
theorem slotsScript_any (bv : Value) (bs : List UInt8) (lv : Value) (ps : List ST) (n : Int) (w : World) (hb : Rd w bv bs) (hv : ∀ k, bv.ownBlock = some k → k < w.heap.size) (hl : RdT w lv ps) (hps : ∀ p ∈ ps, OkT p) (hn : OkI n) : Calls Try.prog 3 #[bv, lv, .int .i64 n] w (BoolQ true w) := by
  have hsm := hl.small
  have hsm2 := hb.small
  have HA := Lib.hid (awake_any w)
  obtain ⟨av, cv, rfl⟩ := hb.len
  obtain ⟨al, cl, rfl⟩ := hl.len
  have HB := Lib.hid hb
  have HV := Lib.hid hv
  have HP := Lib.hid hl
  have HPS := Lib.hid hps
  clear hb hv hl hps
  go_enter Try.func3, Try.ntmps3
  go_wp2_with fail
  refine HA.out.mono ?_
  rintro e w1 ⟨rfl, hg1⟩
  have HG1 := Lib.hid hg1
  clear hg1
  by_cases ha : (1000 : Int) < bs.length
  · go_wp2
    go_ret
    exact ⟨rfl, HG1.out⟩
  by_cases hc : (60 : Int) < ps.length
  · go_wp2
    go_ret
    exact ⟨rfl, HG1.out⟩
  by_cases hp0 : (0 : Int) < bs.length
  · by_cases hn1 : n < 1
    · go_wp2_with fail
      refine (new_no n w1 (.inl hn1)).mono ?_
      rintro e w2 ⟨rfl, rfl⟩
      go_wp2_with fail
      refine (rnew_no n w1 (.inl hn1)).mono ?_
      rintro e w3 ⟨rfl, rfl⟩
      have HG3 := HG1
      have hd := decode_any _ bs w1 (HB.out.grown HG3.out) (by omega)
      have hr : ∀ y : World, w1.grownBy y none → Calls Try.prog 14 #[.slice av bs.length cv] y (RDecP bs y) := fun y hg => rdecode_any _ bs y ((HB.out.grown HG3.out).grown hg) (fun k e => Nat.lt_of_lt_of_le (HV.out k e) (gb_same HG3.out hg).size) (by omega)
      unfold DecP at hd
      unfold RDecP at hr
      cases hdec : decT bs with
      | none =>
        rw [hdec] at hd
        simp only [hdec] at hr
        have HD := Lib.hid hd
        have HR := Lib.hid hr
        clear hd hr
        go_wp2_with fail
        refine HD.out.mono ?_
        rintro e y1 ⟨rfl, hgy⟩
        have HR2 := Lib.hid (HR.out y1 hgy)
        have HG4 := Lib.hid (gb_same HG3.out hgy)
        clear hgy
        go_wp2_with fail
        refine HR2.out.mono ?_
        rintro e y2 ⟨rfl, hgy⟩
        have HG5 := Lib.hid (gb_same HG4.out hgy)
        clear hgy
        go_wp2
        go_ret
        exact ⟨rfl, HG5.out⟩
      | some L =>
        rw [hdec] at hd
        simp only [hdec] at hr
        obtain ⟨_, _, hok, _⟩ := decT_enc hdec
        have HOK := Lib.hid hok
        have HD := Lib.hid hd
        have HR := Lib.hid hr
        clear hd hr hok
        go_wp2_with fail
        refine HD.out.mono ?_
        rintro e y1 ⟨g, s, rfl, _, hsl, hgy, hty⟩
        have HR2 := Lib.hid (HR.out y1 hgy)
        have HG4 := Lib.hid (gb_same HG3.out hgy)
        have HT4 := Lib.hid hty
        have HSB := Lib.hid (show w.heap.size ≤ s from Nat.le_trans HG3.out.size hsl)
        clear hgy hty hsl
        go_wp2_with fail
        refine HR2.out.mono ?_
        rintro e y2 ⟨s2, rfl, _, hgy, hvy⟩
        have HT := Lib.hid (HT4.out.grown hgy)
        have HW := Lib.hid (hvy.toW HOK.out)
        have HG := Lib.hid (gb_same HG4.out hgy)
        clear hgy hvy
        go_wp2
        go_loopw [9, 11] (fun u i wr => ∃ (k : Nat) (ls : List SS) (s3 c3 : Nat), k ≤ ps.length ∧ i = .int .i64 k ∧ u = .slice (some ⟨s3, 0, none⟩) ls.length c3 ∧ Hid (IsT wr g s ls) ∧ Hid (IsW wr s3 c3 ls) ∧ Hid (w.grownBy wr none)) (fun _ i _ => ps.length - (intOf i).toNat)
        case atStart => exact ⟨0, L, s2, L.length, Nat.zero_le _, rfl, rfl, HT, HW, HG⟩
        case round =>
          obtain ⟨k, ls, s3, c3, hk, rfl, rfl, HTR, HWR, HGR⟩ := hrel
          by_cases hlt : k < ps.length
          · obtain ⟨p, hp⟩ : ∃ p, ps[k]? = some p := ⟨ps[k], by simp [hlt]⟩
            obtain ⟨gb, off, eal, q0, q1, q2⟩ := (HP.out.grown HGR.out).at hp
            have HDO := Lib.hid (do_any HTR.out HWR.out p (HPS.out p (List.mem_of_getElem? hp)))
            subst eal
            clear hp
            go_wp2_with fail
            refine HDO.out.mono ?_
            rintro e x1 ⟨s4, c4, rfl, hgx, htx, hwx⟩
            generalize callL ls p = L2 at *
            have HT1 := Lib.hid htx
            have HW1 := Lib.hid hwx
            have HG1 := Lib.hid (gb_new HGR.out hgx HSB.out)
            have HHA := Lib.hid (handles_any htx)
            clear hgx htx hwx q0 q1 q2
            go_wp2_with fail
            refine HHA.out.mono ?_
            rintro e x2 ⟨v2, rfl, ho2, hg2⟩
            have HO2 := Lib.hid ho2
            have HT2 := Lib.hid (HT1.out.grown hg2)
            have HW2 := Lib.hid (HW1.out.grown hg2)
            have HG2 := Lib.hid (gb_same HG1.out hg2)
            have HRH := Lib.hid (rhandlesW_any HW2.out)
            clear ho2 hg2
            go_wp2_with fail
            refine HRH.out.mono ?_
            rintro e x3 ⟨v3, rfl, ho3, hg3⟩
            have hle := hsN_len L2 L2.length
            have hll := HT2.out.len
            have HSI := Lib.hid (sameInts_true v2 v3 x3 _ ((HO2.out.grown hg3).rd) ho3.rd (by omega))
            have HT3 := Lib.hid (HT2.out.grown hg3)
            have HW3 := Lib.hid (HW2.out.grown hg3)
            have HG3 := Lib.hid (gb_same HG2.out hg3)
            clear ho3 hg3 hle hll
            go_wp2_with fail
            refine HSI.out.mono ?_
            rintro e x4 ⟨rfl, hg4⟩
            have HT4 := Lib.hid (HT3.out.grown hg4)
            have HW4 := Lib.hid (HW3.out.grown hg4)
            have HG4 := Lib.hid (gb_same HG3.out hg4)
            have HEN := Lib.hid (encode_any HT4.out)
            clear hg4
            go_wp2_with fail
            refine HEN.out.mono ?_
            rintro e x5 ⟨v5, rfl, ho5, hg5⟩
            have HO5 := Lib.hid ho5
            have HT5 := Lib.hid (HT4.out.grown hg5)
            have HW5 := Lib.hid (HW4.out.grown hg5)
            have HG5 := Lib.hid (gb_same HG4.out hg5)
            have HRE := Lib.hid (rencode_any HW5.out)
            clear ho5 hg5
            go_wp2_with fail
            refine HRE.out.mono ?_
            rintro e x6 ⟨v6, rfl, ho6, hg6⟩
            have HSM := Lib.hid (same_true v5 v6 x6 _ ((HO5.out.grown hg6).rd) ho6.rd)
            have HT6 := Lib.hid (HT5.out.grown hg6)
            have HW6 := Lib.hid (HW5.out.grown hg6)
            have HG6 := Lib.hid (gb_same HG5.out hg6)
            clear ho6 hg6
            go_wp2_with fail
            refine HSM.out.mono ?_
            rintro e x7 ⟨rfl, rfl⟩
            go_wp2
            go_roundw
            case rel => exact ⟨k + 1, L2, s4, c4, by omega, by go_num, rfl, HT6, HW6, HG6⟩
            case measure => simp [intOf]; omega
          · obtain rfl : k = ps.length := by omega
            clear hlt
            go_wp2
            go_ret
            exact ⟨rfl, HGR.out⟩
    by_cases hn2 : 200 < n
    · go_wp2_with fail
      refine (new_no n w1 (.inr hn2)).mono ?_
      rintro e w2 ⟨rfl, rfl⟩
      go_wp2_with fail
      refine (rnew_no n w1 (.inr hn2)).mono ?_
      rintro e w3 ⟨rfl, rfl⟩
      have HG3 := HG1
      have hd := decode_any _ bs w1 (HB.out.grown HG3.out) (by omega)
      have hr : ∀ y : World, w1.grownBy y none → Calls Try.prog 14 #[.slice av bs.length cv] y (RDecP bs y) := fun y hg => rdecode_any _ bs y ((HB.out.grown HG3.out).grown hg) (fun k e => Nat.lt_of_lt_of_le (HV.out k e) (gb_same HG3.out hg).size) (by omega)
      unfold DecP at hd
      unfold RDecP at hr
      cases hdec : decT bs with
      | none =>
        rw [hdec] at hd
        simp only [hdec] at hr
        have HD := Lib.hid hd
        have HR := Lib.hid hr
        clear hd hr
        go_wp2_with fail
        refine HD.out.mono ?_
        rintro e y1 ⟨rfl, hgy⟩
        have HR2 := Lib.hid (HR.out y1 hgy)
        have HG4 := Lib.hid (gb_same HG3.out hgy)
        clear hgy
        go_wp2_with fail
        refine HR2.out.mono ?_
        rintro e y2 ⟨rfl, hgy⟩
        have HG5 := Lib.hid (gb_same HG4.out hgy)
        clear hgy
        go_wp2
        go_ret
        exact ⟨rfl, HG5.out⟩
      | some L =>
        rw [hdec] at hd
        simp only [hdec] at hr
        obtain ⟨_, _, hok, _⟩ := decT_enc hdec
        have HOK := Lib.hid hok
        have HD := Lib.hid hd
        have HR := Lib.hid hr
        clear hd hr hok
        go_wp2_with fail
        refine HD.out.mono ?_
        rintro e y1 ⟨g, s, rfl, _, hsl, hgy, hty⟩
        have HR2 := Lib.hid (HR.out y1 hgy)
        have HG4 := Lib.hid (gb_same HG3.out hgy)
        have HT4 := Lib.hid hty
        have HSB := Lib.hid (show w.heap.size ≤ s from Nat.le_trans HG3.out.size hsl)
        clear hgy hty hsl
        go_wp2_with fail
        refine HR2.out.mono ?_
        rintro e y2 ⟨s2, rfl, _, hgy, hvy⟩
        have HT := Lib.hid (HT4.out.grown hgy)
        have HW := Lib.hid (hvy.toW HOK.out)
        have HG := Lib.hid (gb_same HG4.out hgy)
        clear hgy hvy
        go_wp2
        go_loopw [9, 11] (fun u i wr => ∃ (k : Nat) (ls : List SS) (s3 c3 : Nat), k ≤ ps.length ∧ i = .int .i64 k ∧ u = .slice (some ⟨s3, 0, none⟩) ls.length c3 ∧ Hid (IsT wr g s ls) ∧ Hid (IsW wr s3 c3 ls) ∧ Hid (w.grownBy wr none)) (fun _ i _ => ps.length - (intOf i).toNat)
        case atStart => exact ⟨0, L, s2, L.length, Nat.zero_le _, rfl, rfl, HT, HW, HG⟩
        case round =>
          obtain ⟨k, ls, s3, c3, hk, rfl, rfl, HTR, HWR, HGR⟩ := hrel
          by_cases hlt : k < ps.length
          · obtain ⟨p, hp⟩ : ∃ p, ps[k]? = some p := ⟨ps[k], by simp [hlt]⟩
            obtain ⟨gb, off, eal, q0, q1, q2⟩ := (HP.out.grown HGR.out).at hp
            have HDO := Lib.hid (do_any HTR.out HWR.out p (HPS.out p (List.mem_of_getElem? hp)))
            subst eal
            clear hp
            go_wp2_with fail
            refine HDO.out.mono ?_
            rintro e x1 ⟨s4, c4, rfl, hgx, htx, hwx⟩
            generalize callL ls p = L2 at *
            have HT1 := Lib.hid htx
            have HW1 := Lib.hid hwx
            have HG1 := Lib.hid (gb_new HGR.out hgx HSB.out)
            have HHA := Lib.hid (handles_any htx)
            clear hgx htx hwx q0 q1 q2
            go_wp2_with fail
            refine HHA.out.mono ?_
            rintro e x2 ⟨v2, rfl, ho2, hg2⟩
            have HO2 := Lib.hid ho2
            have HT2 := Lib.hid (HT1.out.grown hg2)
            have HW2 := Lib.hid (HW1.out.grown hg2)
            have HG2 := Lib.hid (gb_same HG1.out hg2)
            have HRH := Lib.hid (rhandlesW_any HW2.out)
            clear ho2 hg2
            go_wp2_with fail
            refine HRH.out.mono ?_
            rintro e x3 ⟨v3, rfl, ho3, hg3⟩
            have hle := hsN_len L2 L2.length
            have hll := HT2.out.len
            have HSI := Lib.hid (sameInts_true v2 v3 x3 _ ((HO2.out.grown hg3).rd) ho3.rd (by omega))
            have HT3 := Lib.hid (HT2.out.grown hg3)
            have HW3 := Lib.hid (HW2.out.grown hg3)
            have HG3 := Lib.hid (gb_same HG2.out hg3)
            clear ho3 hg3 hle hll
            go_wp2_with fail
            refine HSI.out.mono ?_
            rintro e x4 ⟨rfl, hg4⟩
            have HT4 := Lib.hid (HT3.out.grown hg4)
            have HW4 := Lib.hid (HW3.out.grown hg4)
            have HG4 := Lib.hid (gb_same HG3.out hg4)
            have HEN := Lib.hid (encode_any HT4.out)
            clear hg4
            go_wp2_with fail
            refine HEN.out.mono ?_
            rintro e x5 ⟨v5, rfl, ho5, hg5⟩
            have HO5 := Lib.hid ho5
            have HT5 := Lib.hid (HT4.out.grown hg5)
            have HW5 := Lib.hid (HW4.out.grown hg5)
            have HG5 := Lib.hid (gb_same HG4.out hg5)
            have HRE := Lib.hid (rencode_any HW5.out)
            clear ho5 hg5
            go_wp2_with fail
            refine HRE.out.mono ?_
            rintro e x6 ⟨v6, rfl, ho6, hg6⟩
            have HSM := Lib.hid (same_true v5 v6 x6 _ ((HO5.out.grown hg6).rd) ho6.rd)
            have HT6 := Lib.hid (HT5.out.grown hg6)
            have HW6 := Lib.hid (HW5.out.grown hg6)
            have HG6 := Lib.hid (gb_same HG5.out hg6)
            clear ho6 hg6
            go_wp2_with fail
            refine HSM.out.mono ?_
            rintro e x7 ⟨rfl, rfl⟩
            go_wp2
            go_roundw
            case rel => exact ⟨k + 1, L2, s4, c4, by omega, by go_num, rfl, HT6, HW6, HG6⟩
            case measure => simp [intOf]; omega
          · obtain rfl : k = ps.length := by omega
            clear hlt
            go_wp2
            go_ret
            exact ⟨rfl, HGR.out⟩
    obtain ⟨N, rfl⟩ : ∃ N : Nat, n = (N : Int) := ⟨n.toNat, by omega⟩
    have HN := Lib.hid (new_any N w1 (by omega) (by omega))
    go_wp2_with fail
    refine HN.out.mono ?_
    rintro e w2 ⟨g0, s0, rfl, hg0, hs0, hg2, ht2⟩
    have HG2 := Lib.hid (gb_same HG1.out hg2)
    have HT2 := Lib.hid ht2
    have HSB0 := Lib.hid (show w.heap.size ≤ s0 from Nat.le_trans HG1.out.size hs0)
    have HRN := Lib.hid (rnew_any N w2 (by omega) (by omega))
    clear hg0 hs0 hg2 ht2
    go_wp2_with fail
    refine HRN.out.mono ?_
    rintro e w3 ⟨s9, rfl, hs9, hg3, hw3⟩
    have HG3 := Lib.hid (gb_same HG2.out hg3)
    have HT3 := Lib.hid (HT2.out.grown hg3)
    have HW3 := Lib.hid hw3
    clear hs9 hg3 hw3
    have hd := decode_any _ bs w3 (HB.out.grown HG3.out) (by omega)
    have hr : ∀ y : World, w3.grownBy y none → Calls Try.prog 14 #[.slice av bs.length cv] y (RDecP bs y) := fun y hg => rdecode_any _ bs y ((HB.out.grown HG3.out).grown hg) (fun k e => Nat.lt_of_lt_of_le (HV.out k e) (gb_same HG3.out hg).size) (by omega)
    unfold DecP at hd
    unfold RDecP at hr
    cases hdec : decT bs with
    | none =>
      rw [hdec] at hd
      simp only [hdec] at hr
      have HD := Lib.hid hd
      have HR := Lib.hid hr
      clear hd hr
      go_wp2_with fail
      refine HD.out.mono ?_
      rintro e y1 ⟨rfl, hgy⟩
      have HR2 := Lib.hid (HR.out y1 hgy)
      have HG4 := Lib.hid (gb_same HG3.out hgy)
      clear hgy
      go_wp2_with fail
      refine HR2.out.mono ?_
      rintro e y2 ⟨rfl, hgy⟩
      have HG5 := Lib.hid (gb_same HG4.out hgy)
      clear hgy
      go_wp2
      go_ret
      exact ⟨rfl, HG5.out⟩
    | some L =>
      rw [hdec] at hd
      simp only [hdec] at hr
      obtain ⟨_, _, hok, _⟩ := decT_enc hdec
      have HOK := Lib.hid hok
      have HD := Lib.hid hd
      have HR := Lib.hid hr
      clear hd hr hok
      go_wp2_with fail
      refine HD.out.mono ?_
      rintro e y1 ⟨g, s, rfl, _, hsl, hgy, hty⟩
      have HR2 := Lib.hid (HR.out y1 hgy)
      have HG4 := Lib.hid (gb_same HG3.out hgy)
      have HT4 := Lib.hid hty
      have HSB := Lib.hid (show w.heap.size ≤ s from Nat.le_trans HG3.out.size hsl)
      clear hgy hty hsl
      go_wp2_with fail
      refine HR2.out.mono ?_
      rintro e y2 ⟨s2, rfl, _, hgy, hvy⟩
      have HT := Lib.hid (HT4.out.grown hgy)
      have HW := Lib.hid (hvy.toW HOK.out)
      have HG := Lib.hid (gb_same HG4.out hgy)
      clear hgy hvy
      go_wp2
      go_loopw [9, 11] (fun u i wr => ∃ (k : Nat) (ls : List SS) (s3 c3 : Nat), k ≤ ps.length ∧ i = .int .i64 k ∧ u = .slice (some ⟨s3, 0, none⟩) ls.length c3 ∧ Hid (IsT wr g s ls) ∧ Hid (IsW wr s3 c3 ls) ∧ Hid (w.grownBy wr none)) (fun _ i _ => ps.length - (intOf i).toNat)
      case atStart => exact ⟨0, L, s2, L.length, Nat.zero_le _, rfl, rfl, HT, HW, HG⟩
      case round =>
        obtain ⟨k, ls, s3, c3, hk, rfl, rfl, HTR, HWR, HGR⟩ := hrel
        by_cases hlt : k < ps.length
        · obtain ⟨p, hp⟩ : ∃ p, ps[k]? = some p := ⟨ps[k], by simp [hlt]⟩
          obtain ⟨gb, off, eal, q0, q1, q2⟩ := (HP.out.grown HGR.out).at hp
          have HDO := Lib.hid (do_any HTR.out HWR.out p (HPS.out p (List.mem_of_getElem? hp)))
          subst eal
          clear hp
          go_wp2_with fail
          refine HDO.out.mono ?_
          rintro e x1 ⟨s4, c4, rfl, hgx, htx, hwx⟩
          generalize callL ls p = L2 at *
          have HT1 := Lib.hid htx
          have HW1 := Lib.hid hwx
          have HG1 := Lib.hid (gb_new HGR.out hgx HSB.out)
          have HHA := Lib.hid (handles_any htx)
          clear hgx htx hwx q0 q1 q2
          go_wp2_with fail
          refine HHA.out.mono ?_
          rintro e x2 ⟨v2, rfl, ho2, hg2⟩
          have HO2 := Lib.hid ho2
          have HT2 := Lib.hid (HT1.out.grown hg2)
          have HW2 := Lib.hid (HW1.out.grown hg2)
          have HG2 := Lib.hid (gb_same HG1.out hg2)
          have HRH := Lib.hid (rhandlesW_any HW2.out)
          clear ho2 hg2
          go_wp2_with fail
          refine HRH.out.mono ?_
          rintro e x3 ⟨v3, rfl, ho3, hg3⟩
          have hle := hsN_len L2 L2.length
          have hll := HT2.out.len
          have HSI := Lib.hid (sameInts_true v2 v3 x3 _ ((HO2.out.grown hg3).rd) ho3.rd (by omega))
          have HT3 := Lib.hid (HT2.out.grown hg3)
          have HW3 := Lib.hid (HW2.out.grown hg3)
          have HG3 := Lib.hid (gb_same HG2.out hg3)
          clear ho3 hg3 hle hll
          go_wp2_with fail
          refine HSI.out.mono ?_
          rintro e x4 ⟨rfl, hg4⟩
          have HT4 := Lib.hid (HT3.out.grown hg4)
          have HW4 := Lib.hid (HW3.out.grown hg4)
          have HG4 := Lib.hid (gb_same HG3.out hg4)
          have HEN := Lib.hid (encode_any HT4.out)
          clear hg4
          go_wp2_with fail
          refine HEN.out.mono ?_
          rintro e x5 ⟨v5, rfl, ho5, hg5⟩
          have HO5 := Lib.hid ho5
          have HT5 := Lib.hid (HT4.out.grown hg5)
          have HW5 := Lib.hid (HW4.out.grown hg5)
          have HG5 := Lib.hid (gb_same HG4.out hg5)
          have HRE := Lib.hid (rencode_any HW5.out)
          clear ho5 hg5
          go_wp2_with fail
          refine HRE.out.mono ?_
          rintro e x6 ⟨v6, rfl, ho6, hg6⟩
          have HSM := Lib.hid (same_true v5 v6 x6 _ ((HO5.out.grown hg6).rd) ho6.rd)
          have HT6 := Lib.hid (HT5.out.grown hg6)
          have HW6 := Lib.hid (HW5.out.grown hg6)
          have HG6 := Lib.hid (gb_same HG5.out hg6)
          clear ho6 hg6
          go_wp2_with fail
          refine HSM.out.mono ?_
          rintro e x7 ⟨rfl, rfl⟩
          go_wp2
          go_roundw
          case rel => exact ⟨k + 1, L2, s4, c4, by omega, by go_num, rfl, HT6, HW6, HG6⟩
          case measure => simp [intOf]; omega
        · obtain rfl : k = ps.length := by omega
          clear hlt
          go_wp2
          go_ret
          exact ⟨rfl, HGR.out⟩
  · obtain rfl : bs = [] := List.eq_nil_of_length_eq_zero (by omega)
    clear hp0 ha hsm2
    simp only [List.length_nil]
    by_cases hn1 : n < 1
    · go_wp2_with fail
      refine (new_no n w1 (.inl hn1)).mono ?_
      rintro e w2 ⟨rfl, rfl⟩
      go_wp2_with fail
      refine (rnew_no n w1 (.inl hn1)).mono ?_
      rintro e w3 ⟨rfl, rfl⟩
      go_wp2
      go_ret
      exact ⟨rfl, HG1.out⟩
    by_cases hn2 : 200 < n
    · go_wp2_with fail
      refine (new_no n w1 (.inr hn2)).mono ?_
      rintro e w2 ⟨rfl, rfl⟩
      go_wp2_with fail
      refine (rnew_no n w1 (.inr hn2)).mono ?_
      rintro e w3 ⟨rfl, rfl⟩
      go_wp2
      go_ret
      exact ⟨rfl, HG1.out⟩
    obtain ⟨N, rfl⟩ : ∃ N : Nat, n = (N : Int) := ⟨n.toNat, by omega⟩
    have HN := Lib.hid (new_any N w1 (by omega) (by omega))
    go_wp2_with fail
    refine HN.out.mono ?_
    rintro e w2 ⟨g0, s0, rfl, hg0, hs0, hg2, ht2⟩
    have HG2 := Lib.hid (gb_same HG1.out hg2)
    have HT2 := Lib.hid ht2
    have HSB0 := Lib.hid (show w.heap.size ≤ s0 from Nat.le_trans HG1.out.size hs0)
    have HRN := Lib.hid (rnew_any N w2 (by omega) (by omega))
    clear hg0 hs0 hg2 ht2
    go_wp2_with fail
    refine HRN.out.mono ?_
    rintro e w3 ⟨s9, rfl, hs9, hg3, hw3⟩
    have HG3 := Lib.hid (gb_same HG2.out hg3)
    have HT3 := Lib.hid (HT2.out.grown hg3)
    have HW3 := Lib.hid hw3
    clear hs9 hg3 hw3
    obtain ⟨g, hgg⟩ : ∃ g, g = g0 := ⟨_, rfl⟩
    obtain ⟨s, hss⟩ : ∃ s, s = s0 := ⟨_, rfl⟩
    subst hgg hss
    have HT := HT3
    have HW := HW3
    have HG := HG3
    have HSB := HSB0
    go_wp2
    go_loopw [9, 11] (fun u i wr => ∃ (k : Nat) (ls : List SS) (s3 c3 : Nat), k ≤ ps.length ∧ i = .int .i64 k ∧ u = .slice (some ⟨s3, 0, none⟩) ls.length c3 ∧ Hid (IsT wr g s ls) ∧ Hid (IsW wr s3 c3 ls) ∧ Hid (w.grownBy wr none)) (fun _ i _ => ps.length - (intOf i).toNat)
    case atStart => exact ⟨0, newS N, s9, N, Nat.zero_le _, rfl, (by rw [newS_len]), HT, HW, HG⟩
    case round =>
      obtain ⟨k, ls, s3, c3, hk, rfl, rfl, HTR, HWR, HGR⟩ := hrel
      by_cases hlt : k < ps.length
      · obtain ⟨p, hp⟩ : ∃ p, ps[k]? = some p := ⟨ps[k], by simp [hlt]⟩
        obtain ⟨gb, off, eal, q0, q1, q2⟩ := (HP.out.grown HGR.out).at hp
        have HDO := Lib.hid (do_any HTR.out HWR.out p (HPS.out p (List.mem_of_getElem? hp)))
        subst eal
        clear hp
        go_wp2_with fail
        refine HDO.out.mono ?_
        rintro e x1 ⟨s4, c4, rfl, hgx, htx, hwx⟩
        generalize callL ls p = L2 at *
        have HT1 := Lib.hid htx
        have HW1 := Lib.hid hwx
        have HG1 := Lib.hid (gb_new HGR.out hgx HSB.out)
        have HHA := Lib.hid (handles_any htx)
        clear hgx htx hwx q0 q1 q2
        go_wp2_with fail
        refine HHA.out.mono ?_
        rintro e x2 ⟨v2, rfl, ho2, hg2⟩
        have HO2 := Lib.hid ho2
        have HT2 := Lib.hid (HT1.out.grown hg2)
        have HW2 := Lib.hid (HW1.out.grown hg2)
        have HG2 := Lib.hid (gb_same HG1.out hg2)
        have HRH := Lib.hid (rhandlesW_any HW2.out)
        clear ho2 hg2
        go_wp2_with fail
        refine HRH.out.mono ?_
        rintro e x3 ⟨v3, rfl, ho3, hg3⟩
        have hle := hsN_len L2 L2.length
        have hll := HT2.out.len
        have HSI := Lib.hid (sameInts_true v2 v3 x3 _ ((HO2.out.grown hg3).rd) ho3.rd (by omega))
        have HT3 := Lib.hid (HT2.out.grown hg3)
        have HW3 := Lib.hid (HW2.out.grown hg3)
        have HG3 := Lib.hid (gb_same HG2.out hg3)
        clear ho3 hg3 hle hll
        go_wp2_with fail
        refine HSI.out.mono ?_
        rintro e x4 ⟨rfl, hg4⟩
        have HT4 := Lib.hid (HT3.out.grown hg4)
        have HW4 := Lib.hid (HW3.out.grown hg4)
        have HG4 := Lib.hid (gb_same HG3.out hg4)
        have HEN := Lib.hid (encode_any HT4.out)
        clear hg4
        go_wp2_with fail
        refine HEN.out.mono ?_
        rintro e x5 ⟨v5, rfl, ho5, hg5⟩
        have HO5 := Lib.hid ho5
        have HT5 := Lib.hid (HT4.out.grown hg5)
        have HW5 := Lib.hid (HW4.out.grown hg5)
        have HG5 := Lib.hid (gb_same HG4.out hg5)
        have HRE := Lib.hid (rencode_any HW5.out)
        clear ho5 hg5
        go_wp2_with fail
        refine HRE.out.mono ?_
        rintro e x6 ⟨v6, rfl, ho6, hg6⟩
        have HSM := Lib.hid (same_true v5 v6 x6 _ ((HO5.out.grown hg6).rd) ho6.rd)
        have HT6 := Lib.hid (HT5.out.grown hg6)
        have HW6 := Lib.hid (HW5.out.grown hg6)
        have HG6 := Lib.hid (gb_same HG5.out hg6)
        clear ho6 hg6
        go_wp2_with fail
        refine HSM.out.mono ?_
        rintro e x7 ⟨rfl, rfl⟩
        go_wp2
        go_roundw
        case rel => exact ⟨k + 1, L2, s4, c4, by omega, by go_num, rfl, HT6, HW6, HG6⟩
        case measure => simp [intOf]; omega
      · obtain rfl : k = ps.length := by omega
        clear hlt
        go_wp2
        go_ret
        exact ⟨rfl, HGR.out⟩
end Go.Proofs.Ytjijiondinbmnaa
