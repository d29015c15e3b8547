/-
  law.ExtentInverse: the walk.
-/
import Derived.Test.YtpfeaeklenopdaaEAwake
import Derived.Test.YtpfeaeklenopdaaEInvM
import Derived.Test.YtpfeaeklenopdaaESRun
namespace Go.Proofs.Ytpfeaeklenopdaa
open Go.RowKit

theorem runsS_err {zs : List Int} {c : Int} (h : runsS zs = .error c) : ¬ c = 0 := by
  have hgo : ∀ (zs : List Int) (rs : List ST) (least : Int), runsGo rs least zs = .error c → c = 1 := by
    intro zs
    induction zs with
    | nil => intro rs least h; rw [runsGo] at h; cases h
    | cons z zs ih =>
      intro rs least h
      rw [runsGo] at h
      split at h
      · cases h; rfl
      · exact ih _ _ h
  unfold runsS at h
  split at h
  · cases h; omega
  · have := hgo _ _ _ h; omega
set_option maxRecDepth 100000 in
set_option maxHeartbeats 8000000 in
theorem linv_any (zv rv : Value) (zs : List Int) (rs : List ST) (w : World) (hz : RdL w zv (ivs zs)) (_hzb : ∀ z ∈ zs, -9223372036854775808 ≤ z ∧ z ≤ 9223372036854775807) (hzl : (zs.length : Int) ≤ 9223372036854775807) (hr : RdT w rv rs) (hok : ∀ p ∈ rs, OkT p) :
    Calls Try.prog 8 #[zv, rv] w (BoolQ true w) := by
  have HA := Lib.hid (awake_any w)
  have hrs := hr.small
  obtain ⟨az, cz, rfl⟩ := hz.len
  obtain ⟨ar, cr, rfl⟩ := hr.len
  rw [ivs_len] at hz ⊢
  have HZ := Lib.hid hz
  have HR := Lib.hid hr
  have HOK := Lib.hid hok
  clear hz hr hok
  by_cases hbig : 200 < zs.length ∨ 100 < rs.length
  · have hbi : (200 : Int) < (zs.length : Int) ∨ (¬ (200 : Int) < (zs.length : Int) ∧ (100 : Int) < (rs.length : Int)) := by omega
    clear hbig
    rcases hbi with hb | ⟨hb, hb2⟩
    · go_enter Try.func8, Try.ntmps8
      go_wp2_with fail
      refine HA.out.mono ?_
      rintro e w1 ⟨rfl, hg1⟩
      have HG1 := Lib.hid hg1
      clear hg1
      go_wp2
      go_ret
      exact ⟨rfl, HG1.out⟩
    · go_enter Try.func8, Try.ntmps8
      go_wp2_with fail
      refine HA.out.mono ?_
      rintro e w1 ⟨rfl, hg1⟩
      have HG1 := Lib.hid hg1
      clear hg1
      go_wp2
      go_ret
      exact ⟨rfl, HG1.out⟩
  · have hb1 : ¬ (200 : Int) < (zs.length : Int) := by omega
    have hb2 : ¬ (100 : Int) < (rs.length : Int) := by omega
    have HRL : Hid (rs.length ≤ 100) := Lib.hid (by omega)
    have hru := fun W (hg : w.grownBy W none) => runs_any _ zs W (HZ.out.grown hg) (by omega)
    have HZL : Hid (zs.length ≤ 200) := Lib.hid (by omega)
    have HSI := Lib.hid (fun W bv (hb : RdL W bv (ivs zs)) (hg : w.grownBy W none) => sameInts_true bv _ W zs hb (HZ.out.grown hg) hzl)
    cases hrz : runsS zs with
    | error cc =>
      rw [hrz] at hru
      have hcc := runsS_err hrz
      have HRU0 := Lib.hid hru
      clear hru hrz hbig hrs hzl
      go_enter Try.func8, Try.ntmps8
      go_wp2_with fail
      refine HA.out.mono ?_
      rintro e w1 ⟨rfl, hg1⟩
      have HG1 := Lib.hid hg1
      clear hg1
      go_wp2_with (go_at_call 29; refine (HRU0.out _ HG1.out).mono ?_; go_must (rintro e w2 ⟨rfl, hg2⟩; have HG2 := Lib.hid (gb_same HG1.out hg2); clear hg2))
      generalize (cc == 0) = q0
      go_loopw [9, 47] (fun ov u wr => ∃ i : Nat, i ≤ rs.length ∧ u = .int .i64 (i : Int) ∧ Hid (OwnR 49 wr w.heap.size ov (rs.take i)) ∧ Hid (w.grownBy wr none)) (fun _ u _ => rs.length - (intOf u).toNat)
      case atStart => exact ⟨0, Nat.zero_le _, rfl, Lib.hid (OwnR.nil _ _ _), HG2⟩
      case round =>
        obtain ⟨i, hi, rfl, HO, HG⟩ := hrel
        by_cases hlt : i < rs.length
        · obtain ⟨p, hp⟩ : ∃ p, rs[i]? = some p := ⟨rs[i], by simp [hlt]⟩
          obtain ⟨b, off, rfl, q0, q1⟩ := (HR.out.grown HG.out).at hp
          have hiI : (i : Int) < (rs.length : Int) := by omega
          have HTK : Hid (rs.take i ++ [p] = rs.take (i + 1)) := Lib.hid (by rw [List.take_add_one, hp]; rfl)
          have HLN : Hid ((rs.take i).length ≤ 1000000) := Lib.hid (by have := HRL.out; rw [List.length_take]; omega)
          obtain ⟨f, n⟩ := p
          simp only at q0 q1
          clear hp
          go_wp2_with (at_builtin; refine app_runR Try.underlying47 info_er rfl _ _ rfl w.heap.size _ (rs.take i) (f, n) wr.heap.size _ rfl rfl (HO.out.grown (gb_alloc _ _ none)) (heap_at_alloc wr _) (Nat.le_trans HG.out.size (by simp)) HLN.out ?_; go_must (intro v5 w5 ho5 hg5 hf5; rw [HTK.out] at ho5; have HO5 := Lib.hid ho5; have HG5 : Hid (w.grownBy w5 none) := Lib.hid (gb_trans (gb_same HG.out (gb_alloc wr _ none)) hg5 (fun j hj => .inr (HO.out.lt j hj).1)); clear ho5 hg5 hf5))
          go_roundw
          case rel => exact ⟨i + 1, by omega, by go_num, HO5, HG5⟩
          case measure => simp [intOf]; omega
        · obtain rfl : i = rs.length := by omega
          rw [List.take_length] at HO
          have hix := indices_any _ rs wr HO.out.rd (by have := HRL.out; omega) HOK.out
          cases hid : idxS rs with
          | error cc =>
            rw [hid] at hix
            have hcc : ¬ cc = 0 := by
              unfold idxS at hid
              split at hid
              · split at hid
                · cases hid; omega
                · cases hid
              · cases hid; omega
            have HIX := Lib.hid hix
            clear hix hid
            go_wp2_with (go_at_call 31; refine HIX.out.mono ?_; go_must (rintro e w6 ⟨rfl, hg6⟩; have HG6 := Lib.hid (gb_same HG.out hg6); clear hg6))
            go_ret
            exact ⟨rfl, HG6.out⟩
          | ok zs2 =>
            rw [hid] at hix
            obtain ⟨hru, hzl2⟩ := idx_then hid
            have HIX := Lib.hid hix
            have HRU := Lib.hid hru
            have HZL2 := Lib.hid hzl2
            clear hix hid hru hzl2
            go_wp2_with (first | (go_at_call 31; refine HIX.out.mono ?_; go_must (rintro e w6 ⟨v6, rfl, ho6, hg6⟩; have HG6 := Lib.hid (gb_same HG.out hg6); have hq := runs_any v6 zs2 w6 ho6.rd (by have := HZL2.out; omega); rw [HRU.out] at hq; have HQ := Lib.hid hq; obtain ⟨a6, c6, rfl⟩ := ho6.len; clear hg6 ho6 hq)) | (go_at_call 29; refine HQ.out.mono ?_; go_must (rintro e w7 ⟨v7, rfl, ho7, hg7⟩; have HG7 := Lib.hid (gb_same HG6.out hg7); have HFR := Lib.hid (from_any v7 rs w7 ho7.rd (by have := HRL.out; omega)); clear hg7 ho7)) | (go_at_call 34; refine HFR.out.mono ?_; go_must (rintro e w8 ⟨v8, rfl, ho8, hg8⟩; have HG8 := Lib.hid (gb_same HG7.out hg8); have HSR := Lib.hid (sameRuns_true v8 _ w8 rs ho8.rd (HR.out.grown HG8.out)); clear hg8 ho8)) | (go_at_call 33; refine HSR.out.mono ?_; go_must (rintro e w9 ⟨rfl, hg9⟩; have HG9 := Lib.hid (gb_same HG8.out hg9); clear hg9)))
            go_ret
            exact ⟨rfl, HG9.out⟩
    | ok rs0 =>
      rw [hrz] at hru
      obtain ⟨t1, t2, t3, t4⟩ := runs_then hrz
      have HRU0 := Lib.hid hru
      have HT1 := Lib.hid t1
      have HT2 : Hid (rs0.length ≤ 5000) := Lib.hid (by omega)
      have HT4 := Lib.hid t4
      clear hru hrz hbig hrs hzl t1 t2 t3 t4
      go_enter Try.func8, Try.ntmps8
      go_wp2_with fail
      refine HA.out.mono ?_
      rintro e w1 ⟨rfl, hg1⟩
      have HG1 := Lib.hid hg1
      clear hg1
      go_wp2_with (first | (go_at_call 29; refine (HRU0.out _ HG1.out).mono ?_; go_must (rintro e w2 ⟨v2, rfl, ho2, hg2⟩; have HG2 := Lib.hid (gb_same HG1.out hg2); have hx := indices_any v2 rs0 w2 ho2.rd HT2.out HT4.out; rw [HT1.out] at hx; have HX := Lib.hid hx; clear hg2 ho2 hx)) | (go_at_call 31; refine HX.out.mono ?_; go_must (rintro e w3 ⟨v3, rfl, ho3, hg3⟩; have HG3 := Lib.hid (gb_same HG2.out hg3); have HSI3 := Lib.hid (HSI.out w3 v3 ho3.rd (gb_same HG2.out hg3)); clear hg3 ho3)) | (go_at_call 26; refine HSI3.out.mono ?_; go_must (rintro e w4 ⟨rfl, hg4⟩; have HG4 := Lib.hid (gb_same HG3.out hg4); clear hg4)))
      go_loopw [9, 47] (fun ov u wr => ∃ i : Nat, i ≤ rs.length ∧ u = .int .i64 (i : Int) ∧ Hid (OwnR 49 wr w.heap.size ov (rs.take i)) ∧ Hid (w.grownBy wr none)) (fun _ u _ => rs.length - (intOf u).toNat)
      case atStart => exact ⟨0, Nat.zero_le _, rfl, Lib.hid (OwnR.nil _ _ _), HG4⟩
      case round =>
        obtain ⟨i, hi, rfl, HO, HG⟩ := hrel
        by_cases hlt : i < rs.length
        · obtain ⟨p, hp⟩ : ∃ p, rs[i]? = some p := ⟨rs[i], by simp [hlt]⟩
          obtain ⟨b, off, rfl, q0, q1⟩ := (HR.out.grown HG.out).at hp
          have hiI : (i : Int) < (rs.length : Int) := by omega
          have HTK : Hid (rs.take i ++ [p] = rs.take (i + 1)) := Lib.hid (by rw [List.take_add_one, hp]; rfl)
          have HLN : Hid ((rs.take i).length ≤ 1000000) := Lib.hid (by have := HRL.out; rw [List.length_take]; omega)
          obtain ⟨f, n⟩ := p
          simp only at q0 q1
          clear hp
          go_wp2_with (at_builtin; refine app_runR Try.underlying47 info_er rfl _ _ rfl w.heap.size _ (rs.take i) (f, n) wr.heap.size _ rfl rfl (HO.out.grown (gb_alloc _ _ none)) (heap_at_alloc wr _) (Nat.le_trans HG.out.size (by simp)) HLN.out ?_; go_must (intro v5 w5 ho5 hg5 hf5; rw [HTK.out] at ho5; have HO5 := Lib.hid ho5; have HG5 : Hid (w.grownBy w5 none) := Lib.hid (gb_trans (gb_same HG.out (gb_alloc wr _ none)) hg5 (fun j hj => .inr (HO.out.lt j hj).1)); clear ho5 hg5 hf5))
          go_roundw
          case rel => exact ⟨i + 1, by omega, by go_num, HO5, HG5⟩
          case measure => simp [intOf]; omega
        · obtain rfl : i = rs.length := by omega
          rw [List.take_length] at HO
          have hix := indices_any _ rs wr HO.out.rd (by have := HRL.out; omega) HOK.out
          cases hid : idxS rs with
          | error cc =>
            rw [hid] at hix
            have hcc : ¬ cc = 0 := by
              unfold idxS at hid
              split at hid
              · split at hid
                · cases hid; omega
                · cases hid
              · cases hid; omega
            have HIX := Lib.hid hix
            clear hix hid
            go_wp2_with (go_at_call 31; refine HIX.out.mono ?_; go_must (rintro e w6 ⟨rfl, hg6⟩; have HG6 := Lib.hid (gb_same HG.out hg6); clear hg6))
            go_ret
            exact ⟨rfl, HG6.out⟩
          | ok zs2 =>
            rw [hid] at hix
            obtain ⟨hru, hzl2⟩ := idx_then hid
            have HIX := Lib.hid hix
            have HRU := Lib.hid hru
            have HZL2 := Lib.hid hzl2
            clear hix hid hru hzl2
            go_wp2_with (first | (go_at_call 31; refine HIX.out.mono ?_; go_must (rintro e w6 ⟨v6, rfl, ho6, hg6⟩; have HG6 := Lib.hid (gb_same HG.out hg6); have hq := runs_any v6 zs2 w6 ho6.rd (by have := HZL2.out; omega); rw [HRU.out] at hq; have HQ := Lib.hid hq; obtain ⟨a6, c6, rfl⟩ := ho6.len; clear hg6 ho6 hq)) | (go_at_call 29; refine HQ.out.mono ?_; go_must (rintro e w7 ⟨v7, rfl, ho7, hg7⟩; have HG7 := Lib.hid (gb_same HG6.out hg7); have HFR := Lib.hid (from_any v7 rs w7 ho7.rd (by have := HRL.out; omega)); clear hg7 ho7)) | (go_at_call 34; refine HFR.out.mono ?_; go_must (rintro e w8 ⟨v8, rfl, ho8, hg8⟩; have HG8 := Lib.hid (gb_same HG7.out hg8); have HSR := Lib.hid (sameRuns_true v8 _ w8 rs ho8.rd (HR.out.grown HG8.out)); clear hg8 ho8)) | (go_at_call 33; refine HSR.out.mono ?_; go_must (rintro e w9 ⟨rfl, hg9⟩; have HG9 := Lib.hid (gb_same HG8.out hg9); clear hg9)))
            go_ret
            exact ⟨rfl, HG9.out⟩
end Go.Proofs.Ytpfeaeklenopdaa
