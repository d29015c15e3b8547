/-
  The reference's Apply: the walk.
-/
import Derived.Test.YtnkgoaloigmmfaaIRValid
import Derived.Test.YtnkgoaloigmmfaaIApply
namespace Go.Proofs.Ytnkgoaloigmmfaa
open Go.RowKit

theorem take_pgs (l : List UInt8) (k : Nat) : l.take (k * 128) ++ pg l (k : Int) = l.take ((k + 1) * 128) := by
  rw [pgN, show (k + 1) * 128 = k * 128 + 128 by omega, List.take_add]

set_option maxRecDepth 100000 in
set_option maxHeartbeats 4000000 in
theorem rapply_any (va cv : Value) (a : List UInt8) (L : Int) (ps : List ChP) (w : World) (ha : Rd w va a) (hc : RdCs w cv ps) (hpg : ∀ p ∈ ps, -9223372036854775808 ≤ p.1.1 ∧ p.1.1 ≤ 9223372036854775807) :
    Calls Try.prog 23 #[va, .agg #[.int .i64 L, cv]] w (ApplyP w (validB a.length L (ps.map (·.1))) (applyL a L.toNat (ps.map (·.1)))) := by
  obtain ⟨aa, ca, rfl⟩ := ha.len
  have hcl := hc.small
  obtain ⟨ac, cc, rfl⟩ := hc.len
  obtain ⟨w0, hw0⟩ : ∃ w0, w.alloc (Obj.cells #[.int .i64 L, .slice ac ps.length cc] 35) = w0 := ⟨_, rfl⟩
  have hb0 := heap_at_alloc w (Obj.cells #[.int .i64 L, .slice ac ps.length cc] 35)
  have hg0 := gb_alloc w (Obj.cells #[.int .i64 L, .slice ac ps.length cc] 35) none
  rw [hw0] at hb0 hg0
  have HV := Lib.hid (rvalid_any a.length L (.slice ac ps.length cc) ps w0 (hc.grown hg0) ha.small hpg)
  have HA := Lib.hid ha
  have HCS := Lib.hid hc
  have HW0 := Lib.hid hw0
  have HB0 := Lib.hid hb0
  have HG0 := Lib.hid hg0
  have hs := ha.small
  clear ha hc hw0 hb0 hg0
  cases hv : validB a.length L (ps.map (·.1))
  · rw [hv] at HV
    clear hv
    go_enter Try.func23, Try.ntmps23
    go_wp2_with (go_at_call 25; rw [HW0.out]; refine HV.out.mono ?_; rintro e w1 ⟨rfl, hg1⟩)
    refine bodyPost_ret (v := .tuple #[.slice none 0 0, .int .i64 1]) (by simp [results, Try.results23, go_sem]) rfl ?_
    exact ⟨_, _, rfl, gb_same HG0.out hg1, (fun h => by cases h), fun _ => ⟨rfl, rfl⟩⟩
  · rw [hv] at HV
    have hv2 : 0 ≤ L ∧ L ≤ 24000 ∧ validN a.length L.toNat (ps.map (·.1)) = true := by
      unfold validB at hv
      rw [Bool.and_eq_true, decide_eq_true_eq, Int.toNat_natCast] at hv
      exact ⟨hv.1.2.1, hv.1.2.2, hv.2⟩
    obtain ⟨hL0, hL1, hvn⟩ := hv2
    obtain ⟨m, rfl⟩ := Int.eq_ofNat_of_zero_le hL0
    rw [Int.toNat_natCast] at hvn ⊢
    have HAL := Lib.hid (apply_len hvn)
    have HPG := Lib.hid (fun k hk => pg_apply hvn k hk)
    obtain ⟨R, hR⟩ : ∃ R, applyL a m (ps.map (·.1)) = R := ⟨_, rfl⟩
    rw [hR] at HAL HPG ⊢
    obtain ⟨N, hN⟩ := Int.eq_ofNat_of_zero_le (cntI_nonneg (m : Int))
    have hN2 : N ≤ m := by have := cntI_le (m : Int) (by omega); omega
    have HC := Lib.hid (fun W => rcount_any m W (by omega) (by omega))
    rw [hN] at HC
    have HN := Lib.hid hN
    clear hv hvn hL0 hR hN
    go_enter Try.func23, Try.ntmps23
    go_wp2_with (go_at_call 25; rw [HW0.out]; refine HV.out.mono ?_; go_must (rintro e w1 ⟨rfl, hg1⟩; have HG1 := Lib.hid (gb_same HG0.out hg1); have HB1 := Lib.hid (blk_kept HB0.out hg1); clear hg1))
    go_loopw [6, 7] (fun u i wr => ∃ k : Nat, k ≤ N ∧ i = .int .i64 k ∧ Hid (Own wr w1.heap.size u (R.take (k * 128))) ∧ Hid (w1.grownBy wr none)) (fun _ i _ => N - (intOf i).toNat)
    case atStart => exact ⟨0, Nat.zero_le _, rfl, Lib.hid (by simpa using Own.nil _ _), Lib.hid (gb_refl _ _)⟩
    case round =>
      obtain ⟨k, hk, rfl, HO, HX⟩ := hrel
      have c0 : wr.cell? ⟨w.heap.size, 0, none⟩ = some (.int .i64 m) := cell_row (blk_kept HB1.out HX.out)
      have c1 : wr.cell? ⟨w.heap.size, 1, none⟩ = some (.slice ac ps.length cc) := cell_row (blk_kept HB1.out HX.out)
      have HGW := Lib.hid (gb_same HG1.out HX.out)
      by_cases hlt : k < N
      · have hkN : k < (cntI (m : Int)).toNat := by rw [HN.out]; simpa using hlt
        have HFI := Lib.hid (rfind_any (.slice ac ps.length cc) ps (k : Int) wr (HCS.out.grown HGW.out))
        have HTL : Hid ((R.take (k * 128)).length ≤ 24000) := Lib.hid (by rw [List.length_take]; have := HAL.out; omega)
        have hkb : (k : Int) ≤ 24000 := by omega
        have hpk := HPG.out k hkN
        rw [fnd_get] at hpk
        cases hf : fnd (k : Int) (ps.map (·.1)) with
        | none =>
          rw [hf] at hpk
          have hfi : findI (k : Int) (ps.map (·.1)) = -1 := by unfold findI; rw [hf]
          rw [hfi] at HFI
          have HPK : Hid (R.take (k * 128) ++ pg a (k : Int) = R.take ((k + 1) * 128)) := Lib.hid (by rw [← take_pgs, hpk]; rfl)
          have HP := Lib.hid (rpage_any _ a k wr (HA.out.grown HGW.out) (by omega) (by omega))
          have HPL : Hid ((pg a (k : Int)).length ≤ 128) := Lib.hid (by have := pg_len a k; have := szN_le a.length k; omega)
          clear hf hfi hpk hkN
          go_wp2_with (first | (go_at_call 14; refine (HC.out _).mono ?_; rintro e w' ⟨rfl, rfl⟩) | (go_at_call 34; refine HFI.out.mono ?_; rintro e w' ⟨rfl, rfl⟩) | (go_at_call 15; refine HP.out.mono ?_; go_must (rintro e w4 ⟨v4, rfl, ho4, hg4⟩; have HO4 := Lib.hid ho4; have HG4 := Lib.hid hg4; clear ho4 hg4)) | (at_builtin; refine app_bytes rfl _ _ rfl w1.heap.size _ _ (R.take (k * 128)) (pg a (k : Int)) rfl rfl (HO.out.grown HG4.out) HO4.out.rd (by have := HX.out.size; have := HG4.out.size; omega) (by have := HTL.out; have := HPL.out; omega) ?_; go_must (intro v5 w5 ho5 hg5 hf5; have HO5 := Lib.hid ho5; have HG5 : Hid (w1.grownBy w5 none) := Lib.hid (gb_trans (gb_same HX.out HG4.out) hg5 (fun j hj => .inr (HO.out.lt j hj).1)); clear ho5 hg5 hf5)))
          exact ⟨⟨k + 1, by omega, by go_num, Lib.hid (by rw [← HPK.out]; exact HO5.out), HG5⟩, by simp [intOf]; omega⟩
        | some i =>
          rw [hf] at hpk
          have hfi : findI (k : Int) (ps.map (·.1)) = (i : Int) := by unfold findI; rw [hf]
          rw [hfi] at HFI
          obtain ⟨c', hc', hcj⟩ := fnd_spec hf
          rw [List.getElem?_map] at hc'
          cases hp : ps[i]? with
          | none => rw [hp] at hc'; cases hc'
          | some p =>
            rw [hp] at hc'
            have hpd : pg R (k : Int) = p.1.2 := by
              rw [hpk]
              have e : (ps.map (·.1))[i]? = some p.1 := by rw [List.getElem?_map, hp]; rfl
              simp only [Option.bind_some, e, Option.map_some, Option.getD_some]
            have HPK : Hid (R.take (k * 128) ++ p.1.2 = R.take ((k + 1) * 128)) := Lib.hid (by rw [← take_pgs, hpd])
            have HPL : Hid (p.1.2.length ≤ 128) := Lib.hid (by rw [← hpd]; have := pg_len R k; have := szN_le R.length k; omega)
            obtain ⟨b, off, rfl, q0, q1⟩ := HCS.out.at hp
            have hil : i < ps.length := (List.getElem?_eq_some_iff.1 hp).1
            obtain ⟨ad, cd, e1⟩ := (HCS.out.2 p (List.mem_of_getElem? hp)).len
            have hrd := (HCS.out.2 p (List.mem_of_getElem? hp)).grown HGW.out
            rw [e1] at q1 hrd
            have r1 := HGW.out.cell q1 (by simp)
            have HRD := Lib.hid hrd
            have hdi : decide ((i : Int) < 0) = false := by simp
            clear hf hfi hpk hkN hc' hp hpd q0 q1 e1 hrd hcj
            go_wp2_with (first | (go_at_call 14; refine (HC.out _).mono ?_; rintro e w' ⟨rfl, rfl⟩) | (go_at_call 34; refine HFI.out.mono ?_; rintro e w' ⟨rfl, rfl⟩) | (at_builtin; refine app_bytesW rfl _ _ rfl w1.heap.size _ _ (R.take (k * 128)) p.1.2 rfl rfl HO.out HRD.out HX.out.size (by have := HTL.out; have := HPL.out; omega) ?_; go_must (intro v5 w5 ho5 hg5 hf5; have HO5 := Lib.hid ho5; have HG5 : Hid (w1.grownBy w5 none) := Lib.hid (gb_trans HX.out hg5 (fun j hj => .inr (HO.out.lt j hj).1)); clear ho5 hg5 hf5)))
            exact ⟨⟨k + 1, by omega, by go_num, Lib.hid (by rw [← HPK.out]; exact HO5.out), HG5⟩, by simp [intOf]; omega⟩
      · obtain rfl : k = N := by omega
        have ho := HO.out
        rw [List.take_of_length_le (by have h1 := HAL.out; have h2 := HN.out; unfold cntI at h2; split at h2 <;> omega)] at ho
        have HO2 := Lib.hid (ho.mono HG1.out.size)
        clear ho HO
        go_wp2_with (first | (go_at_call 14; refine (HC.out _).mono ?_; rintro e w' ⟨rfl, rfl⟩))
        obtain ⟨a6, c6, rfl⟩ := HO2.out.rd.len
        refine bodyPost_ret (v := .tuple #[.slice a6 R.length c6, .int .i64 0]) (by simp [results, Try.results23, go_sem]) rfl ?_
        exact ⟨_, _, rfl, HGW.out, fun _ => ⟨rfl, HO2.out⟩, fun h => by cases h⟩
end Go.Proofs.Ytnkgoaloigmmfaa
