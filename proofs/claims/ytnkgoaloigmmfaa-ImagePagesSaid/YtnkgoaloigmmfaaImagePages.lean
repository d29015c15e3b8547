/-
  law.ImagePages: the walk.
-/
import Derived.Test.YtnkgoaloigmmfaaIAwake
import Derived.Test.YtnkgoaloigmmfaaIRef
import Derived.Deep.RegionWith
namespace Go.Proofs.Ytnkgoaloigmmfaa
open Go.RowKit

theorem take_pg (l : List UInt8) (k : Nat) : l.take (k * 128) ++ pg l k = l.take ((k + 1) * 128) := by
  unfold pg
  rw [if_neg (by omega), Int.toNat_natCast, show (k + 1) * 128 = k * 128 + 128 by omega, List.take_add]
theorem cnt_all (l : List UInt8) (N : Nat) (h : cntI l.length = N) : l.take (N * 128) = l := by
  apply List.take_of_length_le
  unfold cntI at h
  split at h <;> omega
theorem Own.ne {w : World} {B : Nat} {v : Value} {l : List UInt8} (h : Own w B v l) {v' : Value} {l' : List UInt8} {w' : World} (ho : Own w' w.heap.size v' l') : ∀ k, v.ownBlock = some k → v'.ownBlock ≠ some k := fun k hk e => by have := (h.lt k hk).2; have := (ho.lt k e).1; omega

set_option maxRecDepth 100000 in
set_option maxHeartbeats 4000000 in
theorem imagePages_any (v : Value) (l : List UInt8) (n k : Int) (w : World) (hv : Rd w v l) (hn1 : -9223372036854775808 ≤ n) (hn2 : n ≤ 9223372036854775807) (hk1 : -9223372036854775808 ≤ k) (hk2 : k ≤ 9223372036854775807) :
    Calls Try.prog 3 #[v, .int .i64 n, .int .i64 k] w (BoolQ true w) := by
  have hs := hv.small
  have HV := Lib.hid hv
  obtain ⟨a, c, rfl⟩ := hv.len
  clear hv
  go_enter Try.func3, Try.ntmps3
  go_wp2_with fail
  refine (awake_any _).mono ?_; rintro e w1 ⟨rfl, hg1⟩
  have HG1 := Lib.hid hg1
  clear hg1
  by_cases h2000 : 2000 < l.length
  · go_wp2
    go_ret
    exact ⟨rfl, HG1.out⟩
  obtain ⟨N, hN⟩ := Int.eq_ofNat_of_zero_le (cntI_nonneg (l.length : Int))
  have hNl : N ≤ l.length := by have := cntI_le (l.length : Int) (by omega); omega
  have HC := Lib.hid (fun W => count_any l.length W (by omega) hs)
  rw [hN] at HC
  have HN := Lib.hid hN
  clear hN
  go_wp2
  go_loopw [7, 8] (fun u i wr => ∃ j : Nat, j ≤ N ∧ i = .int .i64 j ∧ Hid (Own wr w.heap.size u (l.take (j * 128))) ∧ Hid (w.grownBy wr none)) (fun _ i _ => N - (intOf i).toNat)
  case atStart => exact ⟨0, Nat.zero_le _, rfl, Lib.hid (by simpa using Own.nil _ _), Lib.hid HG1.out⟩
  case round =>
    obtain ⟨j, hj, rfl, HO, HG⟩ := hrel
    by_cases hlt : j < N
    · have h9 : j ≤ l.length := by omega
      have HP := Lib.hid (page_any _ l j wr (HV.out.grown HG.out) (by omega) (by omega))
      have HPL : Hid ((l.take (j * 128)).length + (pg l j).length ≤ 140737488355328) := Lib.hid (by have := pg_len l j; have := szN_le l.length j; have := List.length_take_le (j * 128) l; omega)
      go_wp2_with (first | (go_at_call 12; refine (HC.out _).mono ?_; rintro e w' ⟨rfl, rfl⟩) | (go_at_call 13; refine HP.out.mono ?_; go_must (rintro e w4 ⟨v4, rfl, ho4, hg4⟩; have HO4 := Lib.hid ho4; have HG4 := Lib.hid hg4; clear ho4 hg4)) | (at_builtin; refine app_bytes rfl _ _ rfl w.heap.size _ _ (l.take (j * 128)) (pg l j) rfl rfl (HO.out.grown HG4.out) HO4.out.rd (by have := HG.out.size; have := HG4.out.size; omega) HPL.out ?_; go_must (intro v5 w5 ho5 hg5 hf5; have HO5 := Lib.hid ho5; have HG5 : Hid (w.grownBy w5 none) := Lib.hid (gb_trans (gb_same HG.out HG4.out) hg5 (fun j hj => .inr (HO.out.lt j hj).1)); clear ho5 hg5 hf5)))
      all_goals
        go_roundw
        case rel => exact ⟨j + 1, by omega, by go_num, Lib.hid (by rw [← take_pg]; exact HO5.out), HG5⟩
        case measure => simp [intOf]; omega
    · obtain rfl : j = N := by omega
      rw [cnt_all l j HN.out] at HO
      have HCn := Lib.hid (fun W => count_any n W hn1 hn2)
      have HRn := Lib.hid (fun W => rcount_any n W hn1 hn2)
      have HPk := Lib.hid (fun W (hg : w.grownBy W none) => page_any _ l k W (HV.out.grown hg) hk1 hk2)
      have HRk := Lib.hid (fun W (hg : w.grownBy W none) => rpage_any _ l k W (HV.out.grown hg) hk1 hk2)
      generalize cntI n = cn at *
      go_wp2_with (first | (go_at_call 12; refine (HC.out _).mono ?_; rintro e w' ⟨rfl, rfl⟩))
      have HSA := Lib.hid (fun W (hg : wr.grownBy W none) => run_toString W _ l (HO.out.grown hg).rd)
      have HSB := Lib.hid (fun W (hg : wr.grownBy W none) => run_toString W _ l (HV.out.grown (gb_same HG.out hg)))
      obtain ⟨a7, c7, rfl⟩ := HO.out.rd.len
      generalize pg l k = pk at *
      go_region_with (first | (go_at_call 12; refine (HCn.out _).mono ?_; rintro e w' ⟨rfl, rfl⟩) | (go_at_call 14; refine (HRn.out _).mono ?_; rintro e w' ⟨rfl, rfl⟩) | (go_at_call 13; refine (HPk.out _ (gb_same HG.out (gb_drew _ _))).mono ?_; go_must (rintro e w2 ⟨v1, rfl, ho1, hg1⟩; obtain ⟨a1, c1, rfl⟩ := ho1.rd.len; have e1 := run_toString w2 _ _ ho1.rd; have HO1 := Lib.hid ho1; have HG2 : Hid (wr.grownBy w2 none) := Lib.hid (gb_same (gb_drew _ _) hg1); clear ho1 hg1)) | (go_at_call 15; refine (HRk.out _ (gb_same HG.out HG2.out)).mono ?_; go_must (rintro e w3 ⟨v2, rfl, ho2, hg2⟩; obtain ⟨a2, c2, rfl⟩ := ho2.rd.len; have e2 := run_toString w3 _ _ ho2.rd; have e3 := run_toString w3 _ _ (HO1.out.grown hg2).rd; have HG3 : Hid (wr.grownBy w3 none) := Lib.hid (gb_same HG2.out hg2); have e4 := HSA.out _ HG3.out; have e5 := HSB.out _ HG3.out; clear ho2 hg2)))
      all_goals
        go_wp2
        go_ret
        exact ⟨rfl, gb_same HG.out HG3.out⟩
end Go.Proofs.Ytnkgoaloigmmfaa
