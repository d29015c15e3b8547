/-
  law.ExtentRuns: the walk.
-/
import Derived.Test.YtpfeaeklenopdaaEAwake
import Derived.Test.YtpfeaeklenopdaaEInvM
import Derived.Test.YtpfeaeklenopdaaESRun
import Derived.Test.YtpfeaeklenopdaaERR
import Derived.Test.YtpfeaeklenopdaaERI
namespace Go.Proofs.Ytpfeaeklenopdaa
open Go.RowKit

theorem runs_form (zs : List Int) : ∃ (c : Int) (L : List ST), L.length ≤ 5000 ∧ ∀ (te : TypeId) (w : World) (e : Ending) (w' : World), RunsP te w (runsS zs) e w' → ∃ v', e = .returned (.tuple #[v', .int .i64 c]) ∧ OwnR te w' w.heap.size v' L ∧ w.grownBy w' none := by
  cases h : runsS zs with
  | error c => exact ⟨c, [], by simp, fun te w e w' hp => ⟨_, hp.1, OwnR.nil _ _ _, hp.2⟩⟩
  | ok L =>
    obtain ⟨_, t2, t3, _⟩ := runs_then h
    exact ⟨0, L, by omega, fun te w e w' hp => hp⟩
theorem idx_form (rs : List ST) : ∃ (c : Int) (Z : List Int), Z.length ≤ 4096 ∧ ∀ (w : World) (e : Ending) (w' : World), IdxP w (idxS rs) e w' → ∃ v', e = .returned (.tuple #[v', .int .i64 c]) ∧ OwnI w' w.heap.size v' Z ∧ w.grownBy w' none := by
  cases h : idxS rs with
  | error c => exact ⟨c, [], by simp, fun w e w' hp => ⟨_, hp.1, OwnI.nil _ _, hp.2⟩⟩
  | ok Z => exact ⟨0, Z, (idx_then h).2, fun w e w' hp => hp⟩
set_option maxRecDepth 100000 in
set_option maxHeartbeats 8000000 in
theorem lrun_any (zv rv : Value) (zs : List Int) (rs : List ST) (w : World) (hz : RdL w zv (ivs zs)) (_hzb : ∀ z ∈ zs, -9223372036854775808 ≤ z ∧ z ≤ 9223372036854775807) (hzl : (zs.length : Int) ≤ 9223372036854775807) (hr : RdT w rv rs) (hok : ∀ p ∈ rs, OkT p) :
    Calls Try.prog 7 #[zv, rv] w (BoolQ true w) := by
  have HA := Lib.hid (awake_any w)
  have hrs := hr.small
  obtain ⟨az, cz, rfl⟩ := hz.len
  obtain ⟨ar, cr, rfl⟩ := hr.len
  rw [ivs_len] at hz ⊢
  have HZ := Lib.hid hz
  have HR := Lib.hid hr
  have HOK := Lib.hid hok
  clear hz hr hok
  by_cases hbig : 200 < zs.length ∨ 100 < rs.length
  · have hbi : (200 : Int) < (zs.length : Int) ∨ (¬ (200 : Int) < (zs.length : Int) ∧ (100 : Int) < (rs.length : Int)) := by omega
    clear hbig
    rcases hbi with hb | ⟨hb, hb2⟩
    · go_enter Try.func7, Try.ntmps7
      go_wp2_with fail
      refine HA.out.mono ?_
      rintro e w1 ⟨rfl, hg1⟩
      have HG1 := Lib.hid hg1
      clear hg1
      go_wp2
      go_ret
      exact ⟨rfl, HG1.out⟩
    · go_enter Try.func7, Try.ntmps7
      go_wp2_with fail
      refine HA.out.mono ?_
      rintro e w1 ⟨rfl, hg1⟩
      have HG1 := Lib.hid hg1
      clear hg1
      go_wp2
      go_ret
      exact ⟨rfl, HG1.out⟩
  · have hb1 : ¬ (200 : Int) < (zs.length : Int) := by omega
    have hb2 : ¬ (100 : Int) < (rs.length : Int) := by omega
    have HRL : Hid (rs.length ≤ 100) := Lib.hid (by omega)
    obtain ⟨cR, L, hL, hform⟩ := runs_form zs
    obtain ⟨cI, Z, hZ, hform2⟩ := idx_form rs
    have HL := Lib.hid hL
    have HZN := Lib.hid hZ
    have HRU := Lib.hid (fun W (hg : w.grownBy W none) => (runs_any _ zs W (HZ.out.grown hg) (by omega)).mono (fun e w' h => hform _ _ _ _ h))
    have HRR := Lib.hid (fun W (hg : w.grownBy W none) => (rruns_any _ zs W (HZ.out.grown hg) (by omega)).mono (fun e w' h => hform _ _ _ _ h))
    have HIR := Lib.hid (fun W (hg : w.grownBy W none) => (rindices_any _ rs W (HR.out.grown hg) (by omega)).mono (fun e w' h => hform2 _ _ _ h))
    have HIX := Lib.hid (fun v W (hv : RdT W v rs) => (indices_any v rs W hv (by omega) HOK.out).mono (fun e w' h => hform2 _ _ _ h))
    clear hL hZ hform hform2 hbig hrs hzl
    go_enter Try.func7, Try.ntmps7
    go_wp2_with fail
    refine HA.out.mono ?_
    rintro e w1 ⟨rfl, hg1⟩
    have HG1 := Lib.hid hg1
    clear hg1
    go_wp2
    go_loopw [5, 27] (fun ov u wr => ∃ i : Nat, i ≤ rs.length ∧ u = .int .i64 (i : Int) ∧ Hid (OwnR 49 wr w.heap.size ov (rs.take i)) ∧ Hid (w.grownBy wr none)) (fun _ u _ => rs.length - (intOf u).toNat)
    case atStart => exact ⟨0, Nat.zero_le _, rfl, Lib.hid (OwnR.nil _ _ _), HG1⟩
    case round =>
      obtain ⟨i, hi, rfl, HO, HG⟩ := hrel
      by_cases hlt : i < rs.length
      · obtain ⟨p, hp⟩ : ∃ p, rs[i]? = some p := ⟨rs[i], by simp [hlt]⟩
        obtain ⟨b, off, rfl, q0, q1⟩ := (HR.out.grown HG.out).at hp
        have hiI : (i : Int) < (rs.length : Int) := by omega
        have HTK : Hid (rs.take i ++ [p] = rs.take (i + 1)) := Lib.hid (by rw [List.take_add_one, hp]; rfl)
        have HLN : Hid ((rs.take i).length ≤ 1000000) := Lib.hid (by have := HRL.out; rw [List.length_take]; omega)
        obtain ⟨f, n⟩ := p
        simp only at q0 q1
        clear hp
        go_wp2_with (at_builtin; refine app_runR Try.underlying47 info_er rfl _ _ rfl w.heap.size _ (rs.take i) (f, n) wr.heap.size _ rfl rfl (HO.out.grown (gb_alloc _ _ none)) (heap_at_alloc wr _) (Nat.le_trans HG.out.size (by simp)) HLN.out ?_; go_must (intro v5 w5 ho5 hg5 hf5; rw [HTK.out] at ho5; have HO5 := Lib.hid ho5; have HG5 : Hid (w.grownBy w5 none) := Lib.hid (gb_trans (gb_same HG.out (gb_alloc wr _ none)) hg5 (fun j hj => .inr (HO.out.lt j hj).1)); clear ho5 hg5 hf5))
        go_roundw
        case rel => exact ⟨i + 1, by omega, by go_num, HO5, HG5⟩
        case measure => simp [intOf]; omega
      · obtain rfl : i = rs.length := by omega
        rw [List.take_length] at HO
        go_wp2_with (first
          | (go_at_call 29; refine (HRU.out _ HG.out).mono ?_; go_must (rintro e w3 ⟨v3, rfl, ho3, hg3⟩; have HO3 := Lib.hid ho3.rd; have HG3 := Lib.hid (gb_same HG.out hg3); have HW3 := Lib.hid hg3; clear hg3 ho3))
          | (go_at_call 30; refine (HRR.out _ HG3.out).mono ?_; go_must (rintro e w4 ⟨v4, rfl, ho4, hg4⟩; have HO4 := Lib.hid ho4.rd; have HG4 := Lib.hid (gb_same HG3.out hg4); have HX4 := Lib.hid (HIX.out _ w4 (HO.out.rd.grown (gb_same HW3.out hg4))); have HO34 := Lib.hid (HO3.out.grown hg4); clear hg4 ho4))
          | (go_at_call 31; refine HX4.out.mono ?_; go_must (rintro e w5 ⟨v5, rfl, ho5, hg5⟩; have HO5 := Lib.hid ho5.rd; have HG5 := Lib.hid (gb_same HG4.out hg5); have HO35 := Lib.hid (HO34.out.grown hg5); have HO45 := Lib.hid (HO4.out.grown hg5); clear hg5 ho5))
          | (go_at_call 32; refine (HIR.out _ HG5.out).mono ?_; go_must (rintro e w6 ⟨v6, rfl, ho6, hg6⟩; have HG6 := Lib.hid (gb_same HG5.out hg6); have HF6 := Lib.hid (from_any v3 L w6 (HO35.out.grown hg6) HL.out); have HO46 := Lib.hid (HO45.out.grown hg6); have HO56 := Lib.hid (HO5.out.grown hg6); have HO6 := Lib.hid ho6.rd; clear hg6 ho6))
          | (go_at_call 34; refine HF6.out.mono ?_; go_must (rintro e w7 ⟨v7, rfl, ho7, hg7⟩; have HG7 := Lib.hid (gb_same HG6.out hg7); have HS7 := Lib.hid (sameRuns_true v7 v4 w7 L ho7.rd (HO46.out.grown hg7)); have HO57 := Lib.hid (HO56.out.grown hg7); have HO67 := Lib.hid (HO6.out.grown hg7); clear hg7 ho7))
          | (go_at_call 33; refine HS7.out.mono ?_; go_must (rintro e w8 ⟨rfl, hg8⟩; have HG8 := Lib.hid (gb_same HG7.out hg8); have HS8 := Lib.hid (sameInts_true v5 v6 w8 Z (HO57.out.grown hg8) (HO67.out.grown hg8) (by have := HZN.out; omega)); clear hg8))
          | (go_at_call 26; refine HS8.out.mono ?_; go_must (rintro e w9 ⟨rfl, hg9⟩; have HG9 := Lib.hid (gb_same HG8.out hg9); clear hg9)))
        go_ret
        exact ⟨rfl, HG9.out⟩
end Go.Proofs.Ytpfeaeklenopdaa
